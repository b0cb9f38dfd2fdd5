import PyProof.Rows.All
import Wide.All
import OpenK.AllK
import Wide.FinOn
import Lean
import PyProof.EqAt
import PyProof.EqKinds
import PyProof.TupleCall
import KE.KDictSum
import KE.KMinKey
import PyProof.Rows.CallKwBuiltin
import PyProof.SumWalkG
import PySem.Challenge.RW_evenpoints_k86_sheets_over_points
set_option Elab.async false
set_option linter.all false
set_option maxRecDepth 100000
set_option maxHeartbeats 4000000
namespace L2
open PySem
def inClass (s:Stmt) (j:Nat):Stmt:=match s with
  | .ClassDef _ _ _ body _ _ _ _ _ _ _=>body.getD j (.Pass ⟨0,0,0,0⟩)
  | _=>.Pass ⟨0,0,0,0⟩
def defArgs (s:Stmt):Arguments:=match s with
  | .FunctionDef _ a _ _ _ _ _ _ _ _=>a
  | _=>{ posonlyargs:=[],args:=[],vararg:=none,kwonlyargs:=[],kw_defaults:=[],kwarg:=none,defaults:=[] }
def defBody (s:Stmt):List Stmt:=match s with
  | .FunctionDef _ _ b _ _ _ _ _ _ _=>b
  | _=>[]
def defScope (s:Stmt):Scope:=match s with
  | .FunctionDef _ _ _ _ _ _ sc _ _ _=>sc
  | _=>{ kind:=.function,names:=[],isGenerator:=false,isCoroutine:=false }
end L2
namespace L2.TT
open PySem PySem.W
def goT (tb:String -> Option Builtin) (p:Program) (w:World) (m:Nat) (ann:Option Value):Nat -> SharedT -> Thread -> Option SharedT
  | 0,_,_=>none
  | n + 1,s,t=>match through t with
    | true=>some s
    | false=>match stepOk m ann t with
      | false=>none
      | true=>match stepT (denote tb) p w s t with
        | some r=>goT tb p w m ann n r.1 r.2
        | none=>none
theorem goT_of {tb:String -> Option Builtin} {p:Program} {w:World} {m:Nat} {ann:Option Value}:∀ {n:Nat} {s s':SharedT} {t:Thread},goT tb p w m ann n s t = some s' -> topRun tb p w m ann n s.abs t = some s'.abs
  | 0,_,_,_,h=>by cases h
  | n + 1,s,s',t,h=>by
    unfold goT at h
    unfold topRun
    cases he:through t with
    | true=>rw [he] at h; cases h; rfl
    | false =>
      rw [he] at h
      cases hk:stepOk m ann t with
      | false=>rw [hk] at h; cases h
      | true =>
        rw [hk] at h
        cases hs:stepT (denote tb) p w s t with
        | none=>rw [hs] at h; cases h
        | some r=>rw [hs] at h; rw [stepT_spec hs]; exact goT_of h
def bt (os:List Obj):Nat -> Nat -> Nat -> BT
  | 0,_,_=>.nil
  | f + 1,a,b=>match os[b]? with
    | some o=>.node o (bt os f (2 * a) (a + b)) (bt os f (2 * a) (2 * a + b))
    | none=>.nil
theorem boot_abs (P:Params):absHeap (bt (boot_heap P).objs.toList 12 1 0) (boot_heap P).objs.size (boot_heap P).life = boot_heap P:=by kernel_rfl
abbrev looks (p q:Program) (loose:List Str) (Xt:Shared -> Bool) {α:Type} (Yf:Shared -> α) (h₀:Heap) (s:Shared) :=
  (staticsOk (importedModules p.main.body) h₀ s.heap && namesBound p s.heap && gensDone s && laidKept h₀ s.heap,openSeen q loose (importedModules p.main.body) Xt true s,Yf s)
theorem left_of {p q:Program} {loose:List Str} {Xt:Shared -> Bool} {α:Type} {Yf:Shared -> α} {Ya:World -> α} {N m M:Nat} {ann:Option Value}
    (e:opening p = plainProg p.main.scope.names) (hN:Nat.ble 600 N = true) (f:∀ s,fenceModules? p s = some s) (le:Nat.ble M N = true)
    (size:∀ w:World,((boot_heap w.params).isNs mainGlobals,(boot_heap w.params).objs.size,(boot_heap w.params).nsMap mainGlobals "__annotations__") = (true,m,ann))
    (run:∀ (w:World) (os:OsState),(goT treeTable p w m ann M ⟨bt (boot_heap w.params).objs.toList 12 1 0,(boot_heap w.params).objs.size,(boot_heap w.params).life,Array.mk [],boot_drawn,boot_toks,os⟩ (topStub p)).map (fun s=>looks p q loose Xt Yf (boot_heap w.params) s.abs) = some (true,openGood q loose,Ya w)) :
    LeftO p q loose Xt Yf Ya N:=fun w=>by
  obtain ⟨⟨h,gs,d,k,os⟩,eo,e'⟩:=Option.map_eq_some_iff.mp (boot_open e hN f w)
  obtain ⟨rfl,rfl,rfl,rfl⟩:h = boot_heap w.params /\ gs = Array.mk [] /\ d = boot_drawn /\ k = boot_toks:=by simpa using e'
  obtain ⟨z1,z2,z3⟩:_ /\ _ /\ _:=by simpa only [Prod.mk.injEq] using size w
  obtain ⟨s',r,l⟩:=Option.map_eq_some_iff.mp (run w os)
  obtain ⟨l1,l2,l3⟩:_ /\ _ /\ _:=by simpa only [looks,Prod.mk.injEq] using l
  have r:=goT_of r
  have hb:SharedT.abs ⟨bt (boot_heap w.params).objs.toList 12 1 0,(boot_heap w.params).objs.size,(boot_heap w.params).life,Array.mk [],boot_drawn,boot_toks,os⟩ = ⟨boot_heap w.params,Array.mk [],boot_drawn,boot_toks,os⟩:=by
    show Shared.mk (absHeap _ _ _) _ _ _ _ = _
    rw [boot_abs]
  rw [hb] at r
  have r:=topRun_mono (N - M) _ _ _ _ r
  rw [show M + (N - M) = N by have:=Nat.le_of_ble_eq_true le; omega] at r
  have t:topFrom treeTable p w N ⟨boot_heap w.params,Array.mk [],boot_drawn,boot_toks,os⟩ = some s'.abs:=by
    unfold topFrom
    dsimp only
    rw [z1,z2,z3,r]
    show (match staticsOk (importedModules p.main.body) (boot_heap w.params) s'.abs.heap && namesBound p s'.abs.heap && gensDone s'.abs && laidKept (boot_heap w.params) s'.abs.heap with | true=>_ | false=>_) = _
    rw [l1]
  unfold openEnds
  rw [eo]
  show (topFrom treeTable p w N _).map _ = _
  rw [t]
  exact congrArg some (Prod.ext l2 l3)
end L2.TT
namespace K86
open PySem
def top (i:Nat):Stmt:=PySem.Challenge.pw_evenpoints_k86_sheets_over_points.main.body.getD i (.Pass ⟨0,0,0,0⟩)
end K86
def PySem.W.Fast.tw14808385652479692195:PySem.Program:=PySem.Challenge.pw_evenpoints_k86_sheets_over_points
theorem PySem.W.Fast.te14808385652479692195:PySem.Challenge.pw_evenpoints_k86_sheets_over_points = PySem.W.Fast.tw14808385652479692195:=rfl
namespace K86
open PySem PySem.W L2
def zs0:Stmt:=top 0
def zs1:Stmt:=top 1
def zs2:Stmt:=top 2
def zs3:Stmt:=top 3
def zs4:Stmt:=top 4
def zs5:Stmt:=top 5
def zs6:Stmt:=top 6
def zs7:Stmt:=top 7
def zs8:Stmt:=top 8
def zs9:Stmt:=top 9
def zs10:Stmt:=top 10
def zs11:Stmt:=top 11
def zs12:Stmt:=top 12
def zs13:Stmt:=top 13
def zs14:Stmt:=top 14
def zs15:Stmt:=top 15
def zs16:Stmt:=top 16
def zs17:Stmt:=top 17
def zs18:Stmt:=top 18
def zs19:Stmt:=top 19
def zs20:Stmt:=top 20
def zs21:Stmt:=top 21
def zs22:Stmt:=top 22
def zs23:Stmt:=top 23
def zs24:Stmt:=top 24
def zs25:Stmt:=top 25
def zs26:Stmt:=top 26
def zs27:Stmt:=top 27
def zs28:Stmt:=top 28
def zs29:Stmt:=top 29
def zs30:Stmt:=top 30
def zs31:Stmt:=top 31
def zs32:Stmt:=top 32
def zs33:Stmt:=top 33
def zs34:Stmt:=top 34
def zs35:Stmt:=top 35
def zs36:Stmt:=top 36
def zs37:Stmt:=top 37
def zs38:Stmt:=top 38
def zs39:Stmt:=top 39
def zs40:Stmt:=top 40
def zs41:Stmt:=top 41
def zs42:Stmt:=top 42
def zs43:Stmt:=top 43
def pwN:Program:={ PySem.Challenge.pw_evenpoints_k86_sheets_over_points with main:={ PySem.Challenge.pw_evenpoints_k86_sheets_over_points.main with body:=[zs0,zs1,zs2,zs3,zs4,zs5,zs6,zs7,zs8,zs9,zs10,zs11,zs12,zs13,zs14,zs15,zs16,zs17,zs18,zs19,zs20,zs21,zs22,zs23,zs24,zs25,zs26,zs27,zs28,zs29,zs30,zs31,zs32,zs33,zs34,zs35,zs36,zs37,zs38,zs39,zs40,zs41,zs42,zs43] } }
def rwN:OpenLaw:={ PySem.Challenge.rw_evenpoints_k86_sheets_over_points with prog:=pwN }
def zview:Program:={ PySem.Challenge.pw_evenpoints_k86_sheets_over_points with main:={ PySem.Challenge.pw_evenpoints_k86_sheets_over_points.main with body:=[zs1,zs2,zs4,zs5,zs6,zs7,zs8,zs9,zs10,zs11,zs12,zs13,zs15,zs17,zs18,zs19,zs21,zs22,zs23,zs24,zs25,zs26,zs28,zs29,zs30,zs31,zs32,zs33,zs34,zs35,zs36,zs37,zs38,zs39,zs40,zs41,zs42,zs43] } }
theorem rw_eq:PySem.Challenge.rw_evenpoints_k86_sheets_over_points = rwN:=rfl
def zen (P:Params) (x:Str) (t:Nat) (v:Value):DictEntry:=⟨PyData.keyHash P x,.str x t,v⟩
def zfo (n q:Str) (s:Stmt) (pm cd:Value):Obj:=⟨.type "function", none,.func (fnOf n q (defArgs s) (defBody s) (defScope s) .none .none .none pm none cd .none),#[]⟩
def zco (n q:Str) (a b c:Nat) (l x y:Int) (r:Nat) (z:Int) (r2:Nat) (v1 v2 v3:Value) (r3:Nat) (u:Int) (c2:Nat):Obj:=⟨.type "code", none,.fields #[.str n a,.str q b,.str "/claim/cut.py" c,.int l 0,.int x 0,.int 0 0,.int 0 0,.int y 0,.ref r,.bool true,.int z 0,.ref r2,v1,v2,v3,.ref r3,.int u 0,.int l 0,.str "/claim/cut.py" c2],#[]⟩
def zm0:Value:=.str "evenpoints.errors" 187
def zm1:Value:=.str "evenpoints.fractions" 232
def zm2:Value:=.str "evenpoints.choices" 304
def zm3:Value:=.str "evenpoints.patches" 312
def zm4:Value:=.str "evenpoints.sums" 332
def zm5:Value:=.str "law_evenpoints_k86_sheets_over_points" 379
abbrev zfp (n:Str):=zfo n n
abbrev zcp (n:Str):=zco n n
def heapK (P:Params):Frag :=
  (nat_lit 2,(.mk .none none (.dict #[] 0) #[])) ::
  (nat_lit 3,(.mk (.type "dict") none (.dict #[zen P "__name__" 165 (.str "law_evenpoints_k86_sheets_over_points" 379),zen P "__doc__" 166 .none,zen P "__package__" 167 .none,zen P "__loader__" 168 (.builtin "__main__.__loader__#opaque"),zen P "__spec__" 169 .none,zen P "__annotations__" 170 (.ref 6),zen P "__builtins__" 171 (.ref 4),zen P "__file__" 173 (.str "/claim/cut.py" 172),zen P "__cached__" 174 .none,zen P "EvenError" 206 (.ref 24),zen P "Nought" 231 (.ref 44),zen P "ZERO" 236 (.ref 47),zen P "ONE" 239 (.ref 48),zen P "common_divisor" 247 (.ref 55),zen P "fraction" 256 (.ref 62),zen P "less" 264 (.ref 69),zen P "times" 272 (.ref 76),zen P "sum_of" 278 (.ref 81),zen P "product_of" 287 (.ref 88),zen P "over" 295 (.ref 95),zen P "is_below" 303 (.ref 102),zen P "choices" 311 (.ref 107),zen P "stretch_of" 319 (.ref 112),zen P "patch_of" 325 (.ref 117),zen P "patches_of" 331 (.ref 122),zen P "value_in" 343 (.ref 129),zen P "value_at" 351 (.ref 136),zen P "mean_of" 357 (.ref 141),zen P "stretch_length" 366 (.ref 148),zen P "patch_size" 372 (.ref 153),zen P "whole_of" 378 (.ref 158),zen P "_law_feed" 387 (.ref 165),zen P "_law_draw" 400 (.ref 172),zen P "_law_frac" 410 (.ref 179),zen P "_law_below" 418 (.ref 186),zen P "_law_number" 426 (.ref 193),zen P "_law_points" 432 (.ref 198),zen P "_law_cuts" 446 (.ref 205),zen P "_law_value" 453 (.ref 212),zen P "_law_sheet" 459 (.ref 217),zen P "_law_plus" 467 (.ref 224),zen P "_law_times" 475 (.ref 231),zen P "_law_patches" 481 (.ref 236),zen P "_law_at" 490 (.ref 243),zen P "_law_on_cuts" 502 (.ref 250),zen P "_law_whole" 515 (.ref 257),zen P "law" 521 (.ref 262)] 47) #[])) ::
  (nat_lit 6,(.mk (.type "dict") none (.dict #[] 0) #[])) ::
  (nat_lit 15,(.mk (.type "tuple") none (.seq #[(.type "ValueError")] 0) #[])) ::
  (nat_lit 22,(.mk (.type "tuple") none (.seq #[] 0) #[])) ::
  (nat_lit 23,(.mk (.type "dict") none (.dict #[zen P "__module__" 196 (.str "evenpoints.errors" 187),zen P "__firstlineno__" 200 (.int 2 199),zen P "__static_attributes__" 201 (.ref 22),zen P "__weakref__" 203 (.ref 25),zen P "__doc__" 204 .none] 3) #[])) ::
  (nat_lit 24,(.mk (.type "type") none (.cls (.mk "EvenError" [(.type "ValueError")] [(.ref 24),(.type "ValueError"),(.type "Exception"),(.type "BaseException"),(.type "object")] 23 "EvenError" true [] [(.ref 44)] false none false)) #[(some (.ref 15)),none,(some (.str "EvenError" 189)),(some (.str "EvenError" 197)),(some (.builtin "ValueError.__new__")),(some (.bool true))])) ::
  (nat_lit 25,(.mk (.type "getset_descriptor") none (.fields #[(.str "__weakref__" 202),(.ref 24),(.builtin "ExceptionGroup.__weakref__"),.none]) #[])) ::
  (nat_lit 28,(.mk (.type "tuple") none (.seq #[(.ref 24)] 0) #[])) ::
  (nat_lit 40,zco "__init__" "Nought.__init__" 219 220 221 6 2 3 35 181 36 .none (.ref 37) (.ref 38) 39 224 225) ::
  (nat_lit 41,zfo "__init__" "Nought.__init__" (inClass (top 2) 0) zm0 (.ref 40)) ::
  (nat_lit 42,(.mk (.type "tuple") none (.seq #[(.str "word" 227)] 0) #[])) ::
  (nat_lit 43,(.mk (.type "dict") none (.dict #[zen P "__module__" 214 (.str "evenpoints.errors" 187),zen P "__firstlineno__" 218 (.int 4 217),zen P "__init__" 226 (.ref 41),zen P "__static_attributes__" 228 (.ref 42),zen P "__doc__" 229 .none] 2) #[])) ::
  (nat_lit 44,(.mk (.type "type") none (.cls (.mk "Nought" [(.ref 24)] [(.ref 44),(.ref 24),(.type "ValueError"),(.type "Exception"),(.type "BaseException"),(.type "object")] 43 "Nought" true [] [] false none false)) #[(some (.ref 28)),none,(some (.str "Nought" 207)),(some (.str "Nought" 215)),(some (.builtin "ValueError.__new__")),(some (.bool true))])) ::
  (nat_lit 47,(.mk (.type "tuple") none (.seq #[(.int 0 234),(.int 1 235)] 0) #[])) ::
  (nat_lit 48,(.mk (.type "tuple") none (.seq #[(.int 1 237),(.int 1 238)] 0) #[])) ::
  (nat_lit 54,zcp "common_divisor" 240 241 242 11 2 3 49 181 50 .none (.ref 51) (.ref 52) 53 245 246) ::
  (nat_lit 55,zfp "common_divisor" (top 6) zm1 (.ref 54)) ::
  (nat_lit 61,zcp "fraction" 248 249 250 15 2 3 56 181 57 .none (.ref 58) (.ref 59) 60 254 255) ::
  (nat_lit 62,zfp "fraction" (top 7) zm1 (.ref 61)) ::
  (nat_lit 68,zcp "less" 257 258 259 22 2 3 63 181 64 .none (.ref 65) (.ref 66) 67 262 263) ::
  (nat_lit 69,zfp "less" (top 8) zm1 (.ref 68)) ::
  (nat_lit 75,zcp "times" 265 266 267 24 2 3 70 181 71 .none (.ref 72) (.ref 73) 74 270 271) ::
  (nat_lit 76,zfp "times" (top 9) zm1 (.ref 75)) ::
  (nat_lit 80,zcp "sum_of" 273 274 275 26 1 3 77 181 78 .none .none .none 79 276 277) ::
  (nat_lit 81,zfp "sum_of" (top 10) zm1 (.ref 80)) ::
  (nat_lit 87,zcp "product_of" 279 280 281 31 1 3 82 181 83 .none (.ref 84) (.ref 85) 86 285 286) ::
  (nat_lit 88,zfp "product_of" (top 11) zm1 (.ref 87)) ::
  (nat_lit 94,zcp "over" 288 289 290 36 2 3 89 181 90 .none (.ref 91) (.ref 92) 93 293 294) ::
  (nat_lit 95,zfp "over" (top 12) zm1 (.ref 94)) ::
  (nat_lit 101,zcp "is_below" 296 297 298 40 2 3 96 181 97 .none (.ref 98) (.ref 99) 100 301 302) ::
  (nat_lit 102,zfp "is_below" (top 13) zm1 (.ref 101)) ::
  (nat_lit 106,zcp "choices" 306 307 308 43 1 3 103 181 104 .none .none .none 105 309 310) ::
  (nat_lit 107,zfp "choices" (top 15) zm2 (.ref 106)) ::
  (nat_lit 111,zcp "stretch_of" 314 315 316 49 2 3 108 181 109 .none .none .none 110 317 318) ::
  (nat_lit 112,zfp "stretch_of" (top 17) zm3 (.ref 111)) ::
  (nat_lit 116,zcp "patch_of" 320 321 322 51 2 3 113 181 114 .none .none .none 115 323 324) ::
  (nat_lit 117,zfp "patch_of" (top 18) zm3 (.ref 116)) ::
  (nat_lit 121,zcp "patches_of" 326 327 328 53 1 3 118 181 119 .none .none .none 120 329 330) ::
  (nat_lit 122,zfp "patches_of" (top 19) zm3 (.ref 121)) ::
  (nat_lit 128,zcp "value_in" 334 335 336 56 2 3 123 181 124 .none (.ref 125) (.ref 126) 127 341 342) ::
  (nat_lit 129,zfp "value_in" (top 21) zm4 (.ref 128)) ::
  (nat_lit 135,zcp "value_at" 344 345 346 61 2 3 130 181 131 .none (.ref 132) (.ref 133) 134 349 350) ::
  (nat_lit 136,zfp "value_at" (top 22) zm4 (.ref 135)) ::
  (nat_lit 140,zcp "mean_of" 352 353 354 63 2 3 137 181 138 .none .none .none 139 355 356) ::
  (nat_lit 141,zfp "mean_of" (top 23) zm4 (.ref 140)) ::
  (nat_lit 147,zcp "stretch_length" 358 359 360 65 2 3 142 181 143 .none (.ref 144) (.ref 145) 146 364 365) ::
  (nat_lit 148,zfp "stretch_length" (top 24) zm4 (.ref 147)) ::
  (nat_lit 152,zcp "patch_size" 367 368 369 68 2 3 149 181 150 .none .none .none 151 370 371) ::
  (nat_lit 153,zfp "patch_size" (top 25) zm4 (.ref 152)) ::
  (nat_lit 157,zcp "whole_of" 373 374 375 70 1 3 154 181 155 .none .none .none 156 376 377) ::
  (nat_lit 158,zfp "whole_of" (top 26) zm4 (.ref 157)) ::
  (nat_lit 164,zcp "_law_feed" 381 382 383 74 1 3 159 181 160 .none (.ref 161) (.ref 162) 163 385 386) ::
  (nat_lit 165,zfp "_law_feed" (top 28) zm5 (.ref 164)) ::
  (nat_lit 171,zcp "_law_draw" 388 389 390 76 2 3 166 181 167 .none (.ref 168) (.ref 169) 170 398 399) ::
  (nat_lit 172,zfp "_law_draw" (top 29) zm5 (.ref 171)) ::
  (nat_lit 178,zcp "_law_frac" 401 402 403 90 2 3 173 181 174 .none (.ref 175) (.ref 176) 177 408 409) ::
  (nat_lit 179,zfp "_law_frac" (top 30) zm5 (.ref 178)) ::
  (nat_lit 185,zcp "_law_below" 411 412 413 96 2 3 180 181 181 .none (.ref 182) (.ref 183) 184 416 417) ::
  (nat_lit 186,zfp "_law_below" (top 31) zm5 (.ref 185)) ::
  (nat_lit 192,zcp "_law_number" 419 420 421 98 1 3 187 181 188 .none (.ref 189) (.ref 190) 191 424 425) ::
  (nat_lit 193,zfp "_law_number" (top 32) zm5 (.ref 192)) ::
  (nat_lit 197,zcp "_law_points" 427 428 429 101 3 3 194 181 195 .none .none .none 196 430 431) ::
  (nat_lit 198,zfp "_law_points" (top 33) zm5 (.ref 197)) ::
  (nat_lit 204,zcp "_law_cuts" 433 434 435 109 2 3 199 181 200 .none (.ref 201) (.ref 202) 203 444 445) ::
  (nat_lit 205,zfp "_law_cuts" (top 34) zm5 (.ref 204)) ::
  (nat_lit 211,zcp "_law_value" 447 448 449 121 1 3 206 181 207 .none (.ref 208) (.ref 209) 210 451 452) ::
  (nat_lit 212,zfp "_law_value" (top 35) zm5 (.ref 211)) ::
  (nat_lit 216,zcp "_law_sheet" 454 455 456 123 2 3 213 181 214 .none .none .none 215 457 458) ::
  (nat_lit 217,zfp "_law_sheet" (top 36) zm5 (.ref 216)) ::
  (nat_lit 223,zcp "_law_plus" 460 461 462 131 2 3 218 181 219 .none (.ref 220) (.ref 221) 222 465 466) ::
  (nat_lit 224,zfp "_law_plus" (top 37) zm5 (.ref 223)) ::
  (nat_lit 230,zcp "_law_times" 468 469 470 133 2 3 225 181 226 .none (.ref 227) (.ref 228) 229 473 474) ::
  (nat_lit 231,zfp "_law_times" (top 38) zm5 (.ref 230)) ::
  (nat_lit 235,zcp "_law_patches" 476 477 478 135 1 3 232 181 233 .none .none .none 234 479 480) ::
  (nat_lit 236,zfp "_law_patches" (top 39) zm5 (.ref 235)) ::
  (nat_lit 242,zcp "_law_at" 482 483 484 142 2 3 237 181 238 .none (.ref 239) (.ref 240) 241 488 489) ::
  (nat_lit 243,zfp "_law_at" (top 40) zm5 (.ref 242)) ::
  (nat_lit 249,zcp "_law_on_cuts" 491 492 493 145 3 3 244 181 245 .none (.ref 246) (.ref 247) 248 500 501) ::
  (nat_lit 250,zfp "_law_on_cuts" (top 41) zm5 (.ref 249)) ::
  (nat_lit 256,zcp "_law_whole" 503 504 505 151 1 3 251 181 252 .none (.ref 253) (.ref 254) 255 513 514) ::
  (nat_lit 257,zfp "_law_whole" (top 42) zm5 (.ref 256)) ::
  (nat_lit 261,zcp "law" 516 517 518 161 1 3 258 181 259 .none .none .none 260 519 520) ::
  (nat_lit 262,zfp "law" (top 43) zm5 (.ref 261)) :: []
def heapA:List Addr:=nat_lit 2 :: nat_lit 3 :: nat_lit 6 :: nat_lit 15 :: nat_lit 22 :: nat_lit 23 :: nat_lit 24 :: nat_lit 25 :: nat_lit 28 :: nat_lit 40 :: nat_lit 41 :: nat_lit 42 :: nat_lit 43 :: nat_lit 44 :: nat_lit 47 :: nat_lit 48 :: nat_lit 54 :: nat_lit 55 :: nat_lit 61 :: nat_lit 62 :: nat_lit 68 :: nat_lit 69 :: nat_lit 75 :: nat_lit 76 :: nat_lit 80 :: nat_lit 81 :: nat_lit 87 :: nat_lit 88 :: nat_lit 94 :: nat_lit 95 :: nat_lit 101 :: nat_lit 102 :: nat_lit 106 :: nat_lit 107 :: nat_lit 111 :: nat_lit 112 :: nat_lit 116 :: nat_lit 117 :: nat_lit 121 :: nat_lit 122 :: nat_lit 128 :: nat_lit 129 :: nat_lit 135 :: nat_lit 136 :: nat_lit 140 :: nat_lit 141 :: nat_lit 147 :: nat_lit 148 :: nat_lit 152 :: nat_lit 153 :: nat_lit 157 :: nat_lit 158 :: nat_lit 164 :: nat_lit 165 :: nat_lit 171 :: nat_lit 172 :: nat_lit 178 :: nat_lit 179 :: nat_lit 185 :: nat_lit 186 :: nat_lit 192 :: nat_lit 193 :: nat_lit 197 :: nat_lit 198 :: nat_lit 204 :: nat_lit 205 :: nat_lit 211 :: nat_lit 212 :: nat_lit 216 :: nat_lit 217 :: nat_lit 223 :: nat_lit 224 :: nat_lit 230 :: nat_lit 231 :: nat_lit 235 :: nat_lit 236 :: nat_lit 242 :: nat_lit 243 :: nat_lit 249 :: nat_lit 250 :: nat_lit 256 :: nat_lit 257 :: nat_lit 261 :: nat_lit 262 :: []
theorem heapE:∀ P,heapA = (heapK P).map (·.1):=fun _=>rfl
theorem zsize:∀ w:World,((boot_heap w.params).isNs mainGlobals,(boot_heap w.params).objs.size,(boot_heap w.params).nsMap mainGlobals "__annotations__") = (true,11,some (.ref 6)):=fun w=>by kernel_rfl
set_option maxHeartbeats 0 in
theorem zleft:LeftO pwN zview [] (fun s=>xlAt zview [] s && recOk (RowW.records rwN.row.toRowW) s) (Hook.obs (kHook heapK heapA heapE)) (Hook.val (kHook heapK heapA heapE)) 3740 :=
  L2.TT.left_of (M:=3740) (by kernel_rfl) rfl (fun s=>by kernel_rfl) rfl zsize fun w os=>by kernel_rfl
end K86
namespace L2
open PySem PySem.Spec PyProof.Rows

abbrev Key:=Sum Int Str
def keyIs:Key -> Value -> Bool
  | .inl k,v=>Value.isInt k v
  | .inr x,v=>Value.isStrOf x v
def keyH (w:World):Key -> Int
  | .inl k=>hashInt k
  | .inr x=>hashStr w x
theorem keyIs_shape:∀ {k:Key} {v:Value},keyIs k v = true -> (∃ i t,k = Sum.inl i /\ v = Value.int i t) \/ (∃ x t,k = Sum.inr x /\ v = Value.str x t)
  | .inl i,v,h=>by
    obtain ⟨t,e⟩:=Value.isInt_shape (k:=i) (v:=v) h
    exact .inl ⟨i,t,rfl,e⟩
  | .inr x,v,h=>by
    obtain ⟨t,e⟩:=Value.isStrOf_shape (x:=x) (v:=v) h
    exact .inr ⟨x,t,rfl,e⟩
theorem keyIs_int (i:Int) (t:Tok):keyIs (.inl i) (.int i t) = true:=by simp [keyIs,Value.isInt]
theorem keyIs_str (x:Str) (t:Tok):keyIs (.inr x) (.str x t) = true:=by simp [keyIs,Value.isStrOf]
theorem key_ll (a b:Int):decide ((Sum.inl a:Key) = Sum.inl b) = (a == b):=by
  by_cases e:a = b
  · subst e; simp
  · have h:¬ (Sum.inl a:Key) = Sum.inl b:=fun q=>e (Sum.inl.inj q)
    rw [decide_eq_false h]
    exact (beq_eq_false_iff_ne.mpr e).symm
theorem key_rr (a b:Str):decide ((Sum.inr a:Key) = Sum.inr b) = decide (a = b):=by
  by_cases e:a = b
  · subst e; simp
  · have h:¬ (Sum.inr a:Key) = Sum.inr b:=fun q=>e (Sum.inr.inj q)
    rw [decide_eq_false h,decide_eq_false e]
theorem key_lr (a:Int) (b:Str):decide ((Sum.inl a:Key) = Sum.inr b) = false:=decide_eq_false (fun q=>nomatch q)
theorem key_rl (a:Str) (b:Int):decide ((Sum.inr a:Key) = Sum.inl b) = false:=decide_eq_false (fun q=>nomatch q)

def mixKind (prog:Program) (w:World):PySem.KeyKind prog w Key where
  is:=keyIs
  hash:=keyH w
  inj := fun v a b ha hb => by
    rcases keyIs_shape ha with ⟨i,t,rfl,rfl⟩ | ⟨x,t,rfl,rfl⟩
    · rcases keyIs_shape hb with ⟨j,u,rfl,e⟩ | ⟨y,u,rfl,e⟩
      · injection e with e1 _; rw [e1]
      · exact nomatch e
    · rcases keyIs_shape hb with ⟨j,u,rfl,e⟩ | ⟨y,u,rfl,e⟩
      · exact nomatch e
      · injection e with e1 _; rw [e1]
  byValue:=fun k v h=>by
    rcases keyIs_shape h with ⟨i,t,rfl,rfl⟩ | ⟨x,t,rfl,rfl⟩ <;> rfl
  pyHash:=fun hv h=>by
    rcases keyIs_shape hv with ⟨i,t,rfl,rfl⟩ | ⟨x,t,rfl,rfl⟩
    · exact wpAny_pyHash_int h
    · exact wpAny_pyHash_str h
  eqBool:=fun hu hv h=>by
    rcases keyIs_shape hu with ⟨i,t,rfl,rfl⟩ | ⟨x,t,rfl,rfl⟩
    · rcases keyIs_shape hv with ⟨j,u,rfl,rfl⟩ | ⟨y,u,rfl,rfl⟩
      · rw [key_ll] at h; exact wpAny_eqBool_int h
      · rw [key_lr] at h; exact SeqAt.EqAt.int_str i t y u _ _ _ _ h
    · rcases keyIs_shape hv with ⟨j,u,rfl,rfl⟩ | ⟨y,u,rfl,rfl⟩
      · rw [key_rl] at h; exact SeqAt.EqAt.str_int x t j u _ _ _ _ h
      · rw [key_rr] at h; exact wpAny_eqBool_str h
  «strs»:=fun k x t v h=>by
    rcases keyIs_shape h with ⟨i,u,rfl,e⟩ | ⟨y,u,rfl,e⟩
    · exact nomatch e
    · injection e with e1 _
      subst e1
      cases v <;> rfl

theorem mixKind_int (prog:Program) (w:World) (i:Int) (t:Tok):(mixKind prog w).is (.inl i) (.int i t) = true:=keyIs_int i t
theorem mixKind_str (prog:Program) (w:World) (x:Str) (t:Tok):(mixKind prog w).is (.inr x) (.str x t) = true:=keyIs_str x t
end L2

namespace L2
open PySem PySem.Spec PyProof.Rows

inductive V where
  | non | bl (b:Bool) | int (i:Int) | str (x:Str) | byt (b:Array UInt8) | flt (b:UInt64) | ref (a:Addr) | ty (n:String)
  deriving DecidableEq

def RelV:V -> Value -> Prop
  | .non,u=>u = Value.none
  | .bl b,u=>u = Value.bool b
  | .int i,u=>∃ t,u = Value.int i t
  | .str x,u=>∃ t,u = Value.str x t
  | .byt b,u=>∃ t,u = Value.bytes b t
  | .flt b,u=>∃ t,u = Value.float b t
  | .ref a,u=>u = Value.ref a
  | .ty n,u=>u = Value.type n

abbrev Vals:List V -> List Value -> Prop:=Paired RelV
theorem Vals.length {xs:List V} {us:List Value} (r:Vals xs us):xs.length = us.length:=Paired.length r
theorem Vals.get:∀ {xs:List V} {us:List Value} {i:Nat} {x:V},Vals xs us -> xs[i]? = some x -> ∃ u,us[i]? = some u /\ RelV x u
  | _,_,_,_,.nil,e=>by simp at e
  | _,_,0,_,.cons r _,e=>by simp at e; subst e; exact ⟨_,rfl,r⟩
  | _,_,i + 1,x,.cons _ t,e=>by
    obtain ⟨u,h1,h2⟩:=Vals.get (i:=i) (x:=x) t (by simpa using e)
    exact ⟨u,by simpa using h1,h2⟩
theorem Vals.set {x:V} {u:Value} (r:RelV x u):∀ {xs:List V} {us:List Value} (i:Nat),Vals xs us -> Vals (xs.set i x) (us.set i u)
  | _,_,_,.nil=>.nil
  | _,_,0,.cons _ t=>.cons r t
  | _,_,i + 1,.cons q t=>.cons q (Vals.set r i t)
theorem Vals.append:∀ {xs ys:List V} {us ws:List Value},Vals xs us -> Vals ys ws -> Vals (xs ++ ys) (us ++ ws)
  | _,_,_,_,.nil,s=>s
  | _,_,_,_,.cons r t,s=>.cons r (Vals.append t s)
theorem Vals.take:∀ {xs:List V} {us:List Value} (n:Nat),Vals xs us -> Vals (xs.take n) (us.take n)
  | _,_,0,_=>.nil
  | _,_,_ + 1,.nil=>.nil
  | _,_,n + 1,.cons r t=>.cons r (Vals.take n t)
theorem Vals.drop:∀ {xs:List V} {us:List Value} (n:Nat),Vals xs us -> Vals (xs.drop n) (us.drop n)
  | _,_,0,r=>r
  | _,_,_ + 1,.nil=>.nil
  | _,_,n + 1,.cons _ t=>Vals.drop n t
def RelO:Option V -> Option Value -> Prop
  | some v,some u=>RelV v u
  | none,none=>True
  | _,_=>False
def KV {κ:Type}:List (κ × V) -> List (κ × Value) -> Prop:=Paired fun (p : κ × V) (q : κ × Value)=>p.1 = q.1 /\ RelV p.2 q.2

def kV:Key -> V
  | .inl i=>.int i
  | .inr x=>.str x

inductive HO where
  
  | lst (xs:List V)
  
  | tup (xs:List V)
  
  | dK (kvs:List (Key × V)) | dT (kvs:List (List Key × V))
  
  | set (S:Int -> Bool) (n:Nat)
  
  | ins (C dx:Addr) (fs:List (Str × V))
  
  | own (x:Addr)
  
  | xd (fs:List (Str × V))
  
  | met (f x:Addr)
  
  | rng (lo hi:Int)
  
  | frz (o:Obj) (u:HO)
  
  | tbl (ps:Array Value)
  
  | ext (φ:Heap -> Prop)

abbrev Hp:=Addr -> Option HO
def upd (H:Hp) (a:Addr) (o:HO):Hp:=fun b=>if b = a then some o else H b
theorem upd_same {H:Hp} {a:Addr} {o:HO}:upd H a o a = some o:=by unfold upd; rw [if_pos rfl]
theorem upd_ne {H:Hp} {a b:Addr} {o:HO} (h:b ≠ a):upd H a o b = H b:=by unfold upd; rw [if_neg h]
theorem ne_of {H:Hp} {a b:Addr} {o u:HO} (h:H a = some o) (h':H b = some u) (d:o ≠ u):a ≠ b:=by
  intro e; subst e; rw [h] at h'; exact d (Option.some.inj h')
theorem ne_of_none {H:Hp} {a b:Addr} {o:HO} (h:H a = some o) (h':H b = none):a ≠ b:=by
  intro e; subst e; rw [h] at h'; cases h'

section
variable (P:Program) (w:World)
def IsTupD (h:Heap) (a:Addr) (items:Array Value):Prop:=∃ o,h.get? a = some o /\ o.cls = .type "tuple" /\ (∃ n,o.data = .seq items n) /\ o.dict = none
theorem IsTupD.tup {h:Heap} {a:Addr} {items:Array Value} (x:IsTupD h a items):IsTup h a items:=let ⟨o,e1,e2,e3,_⟩:=x; ⟨o,e1,e2,e3⟩
theorem IsTupD.new (h:Heap) (items:Array Value):IsTupD (h.push { cls:=.type "tuple", data:=.seq items }) h.objs.size items:=⟨_,Heap.get?_push_size _ rfl,rfl,⟨_,rfl⟩,rfl⟩
def ObjOk (H:Hp) (h:Heap) (a:Addr):HO -> Prop
  | .lst xs=>xs.length <= sizeLine /\ ∃ (its:List Value) (n:Nat),Vals xs its /\ h.get? a = some { cls:=.type "list", data:=.seq its.toArray n }
  | .tup xs=>xs.length <= sizeLine /\ ∃ its:List Value,Vals xs its /\ IsTupD h a its.toArray
  | .dK kvs=>kvs.length <= sizeLine /\ (a == sysModules) = false /\ ∃ vs,KV kvs vs /\ h.DictOf (mixKind P w) a vs
  | .dT kvs=>kvs.length <= sizeLine /\ (a == sysModules) = false /\ ∃ xs:List (List Key × Addr × Value),
      Paired (fun (p:List Key × V) (q:List Key × Addr × Value)=>p.1 = q.1 /\ H q.2.1 = some (.tup (p.1.map kV)) /\ RelV p.2 q.2.2) kvs xs /\
      ∃ o es ep,h.get? a = some o /\ o.ExactDict /\ o.data = .dict es ep /\ es.toList = xs.map (entryOfKey (tupleKind (mixKind P w))) /\ (xs.map (·.1)).Nodup
  | .set S n=>h.SetOf (intKind P w) a S n
  | .ins C dx fs=>H dx = some (.own a) /\ fs.length <= 1000 /\ dx ≠ a /\ h.get? a = some (W.instObj C dx) /\
      ∃ mA,h.Ns1 dx mA /\ (∀ f,RelO (fs.lookup f) (mA f)) /\ PySem.Within mA (fs.map (·.1))
  | .own _=>∃ o,h.get? a = some o
  | .xd fs=>∃ mA,h.Ns1 a mA /\ ∀ f,RelO (fs.lookup f) (mA f)
  | .rng lo hi=>∃ t u v,h.get? a = some { cls:=.type "range", data:=.fields #[.int lo t,.int hi u,.int 1 v] }
  | .frz o u=>h.get? a = some o /\ ObjOk H h a u
  | .tbl ps=>h.get? a = some { cls:=.none,data:=.fields ps }
  | .met f x=>h.get? a = some (W.methodObj (.ref f) (.ref x))
  | .ext φ=>φ h /\ (∃ o,h.get? a = some o) /\ ∀ h1 h2:Heap,φ h1 -> (∀ o,h1.get? a = some o -> h2.get? a = some o) -> φ h2
def HOk (H:Hp) (h:Heap):Prop:=∀ a o,H a = some o -> ObjOk P w H h a o
end

section
variable {P:Program} {w:World} {H H':Hp} {h h':Heap} {a:Addr} {o:HO}
theorem ObjOk.lt (x:ObjOk P w H h a o):a < h.objs.size:=by
  cases o with
  | lst xs=>obtain ⟨_,_,_,_,e⟩:=x; exact Heap.lt_size e
  | tup xs=>obtain ⟨_,_,_,p⟩:=x; exact p.tup.lt
  | dK kvs=>obtain ⟨_,_,_,_,o,_,_,e,_⟩:=x; exact Heap.lt_size e
  | dT kvs=>obtain ⟨_,_,_,_,o,_,_,e,_⟩:=x; exact Heap.lt_size e
  | set S n=>obtain ⟨o,_,_,_,e,_⟩:=x; exact Heap.lt_size e
  | ins C dx fs=>obtain ⟨_,_,_,e,_⟩:=x; exact Heap.lt_size e
  | own y=>obtain ⟨_,e⟩:=x; exact Heap.lt_size e
  | xd fs=>obtain ⟨_,⟨_,_,_,e,_⟩,_⟩:=x; exact Heap.lt_size e
  | rng lo hi=>obtain ⟨_,_,_,e⟩:=x; exact Heap.lt_size e
  | frz ob u=>obtain ⟨e,_⟩:=x; exact Heap.lt_size e
  | tbl ps=>exact Heap.lt_size (show h.get? a = some _ from x)
  | met f y=>exact Heap.lt_size (show h.get? a = some _ from x)
  | ext φ=>obtain ⟨_,⟨_,e⟩,_⟩:=x; exact Heap.lt_size e
theorem Paired.mapP {α β:Type} {F G : α -> β -> Prop}:∀ {l₁:List α} {l₂:List β},Paired F l₁ l₂ -> (∀ a b,F a b -> G a b) -> Paired G l₁ l₂
  | _,_,.nil,_=>.nil
  | _,_,.cons r t,f=>.cons (f _ _ r) (Paired.mapP t f)
theorem ObjOk.stay (x:ObjOk P w H h a o) (k:∀ b u,(b = a \/ H b = some (.own a)) -> h.get? b = some u -> h'.get? b = some u)
    (ho:∀ b,H b = some (.own a) -> H' b = some (.own a)) (ht:∀ b xs,H b = some (.tup xs) -> H' b = some (.tup xs)):ObjOk P w H' h' a o:=by
  induction o with
  | lst xs=>obtain ⟨z,its,n,r,e⟩:=x; exact ⟨z,its,n,r,k _ _ (.inl rfl) e⟩
  | tup xs=>obtain ⟨z,its,r,ob,e,c⟩:=x; exact ⟨z,its,r,ob,k _ _ (.inl rfl) e,c⟩
  | dK kvs=>obtain ⟨z,y,vs,r,ob,es,ep,e,c⟩:=x; exact ⟨z,y,vs,r,ob,es,ep,k _ _ (.inl rfl) e,c⟩
  | dT kvs =>
    obtain ⟨z,y,xs,r,ob,es,ep,e,c⟩:=x
    exact ⟨z,y,xs,Paired.mapP r fun p q z=>⟨z.1,ht _ _ z.2.1,z.2.2⟩,ob,es,ep,k _ _ (.inl rfl) e,c⟩
  | set S n=>obtain ⟨ob,es,ep,t,e,c⟩:=x; exact ⟨ob,es,ep,t,k _ _ (.inl rfl) e,c⟩
  | ins C dx fs =>
    obtain ⟨d,z,ne,e,mA,⟨od,es,ep,e2,c⟩,r⟩:=x
    exact ⟨ho _ d,z,ne,k _ _ (.inl rfl) e,mA,⟨od,es,ep,k _ _ (.inr d) e2,c⟩,r⟩
  | own y=>obtain ⟨ob,e⟩:=x; exact ⟨ob,k _ _ (.inl rfl) e⟩
  | xd fs=>obtain ⟨mA,⟨od,es,ep,e,c⟩,r⟩:=x; exact ⟨mA,⟨od,es,ep,k _ _ (.inl rfl) e,c⟩,r⟩
  | rng lo hi=>obtain ⟨t,u,v,e⟩:=x; exact ⟨t,u,v,k _ _ (.inl rfl) e⟩
  | frz ob u ih=>obtain ⟨e,q⟩:=x; exact ⟨k _ _ (.inl rfl) e,ih q⟩
  | tbl ps =>
    have e:h.get? a = some { cls:=.none,data:=.fields ps }:=x
    show h'.get? a = some { cls:=.none,data:=.fields ps }
    exact k a _ (.inl rfl) e
  | met f y =>
    have e:h.get? a = some (W.methodObj (.ref f) (.ref y)):=x
    show h'.get? a = some (W.methodObj (.ref f) (.ref y))
    exact k a _ (.inl rfl) e
  | ext φ=>obtain ⟨p,⟨o,e⟩,st⟩:=x; exact ⟨st _ _ p fun o q=>k _ _ (.inl rfl) q,⟨o,k _ _ (.inl rfl) e⟩,st⟩
theorem HOk.lt (x:HOk P w H h) (e:H a = some o):a < h.objs.size:=(x a o e).lt
theorem HOk.fresh (x:HOk P w H h) (e:h.objs.size <= a):H a = none:=by
  cases q:H a with
  | none=>rfl
  | some u=>exact absurd (Nat.lt_of_lt_of_le (x.lt q) e) (Nat.lt_irrefl _)
theorem HOk.kept (x:HOk P w H h) (k:∀ b u,h.get? b = some u -> h'.get? b = some u):HOk P w H h':=fun a o e =>
  (x a o e).stay (fun b u _ q=>k b u q) (fun _ q=>q) fun _ _ q=>q
theorem HOk.laid (x:HOk P w H h) (k:∀ b u,h.get? b = some u -> h'.get? b = some u) (hp:h.objs.size <= a) (new:ObjOk P w (upd H a o) h' a o):HOk P w (upd H a o) h':=fun b u e=>by
  have hn:=x.fresh hp
  by_cases hb:b = a
  · subst hb; rw [upd_same] at e; cases e; exact new
  · rw [upd_ne hb] at e
    exact (x b u e).stay (fun c v _ q=>k c v q) (fun c q=>by rw [upd_ne (ne_of_none q hn)]; exact q) fun c xs q=>by rw [upd_ne (ne_of_none q hn)]; exact q
end

def Rd (H:Hp) (a:Addr) (u:HO):Prop:=H a = some u \/ ∃ o,H a = some (.frz o u)
theorem Rd.of {H:Hp} {a:Addr} {u:HO} (h:H a = some u):Rd H a u:=.inl h
theorem Rd.ok {P:Program} {w:World} {H:Hp} {h:Heap} {a:Addr} {u:HO} (r:Rd H a u) (x:HOk P w H h):ObjOk P w H h a u:=by
  rcases r with r | ⟨o,r⟩
  · exact x a u r
  · obtain ⟨_,q⟩:=x a _ r
    exact q
def Mut:Option HO -> Prop
  | some (.lst _)=>True
  | some (.dK _)=>True
  | some (.dT _)=>True
  | some (.set _ _)=>True
  | some (.ins _ _ _)=>True
  | some (.ext _)=>True
  | _=>False
section
variable {P:Program} {w:World} {H:Hp} {h h':Heap} {x e:Addr} {o':HO}
theorem HOk.write (ok:HOk P w H h) (mu:Mut (H x)) (he:e = x \/ H e = some (.own x)) (k:∀ b u,b ≠ e -> h.get? b = some u -> h'.get? b = some u) (heo:∃ u,h'.get? e = some u)
    (new:ObjOk P w (upd H x o') h' x o'):HOk P w (upd H x o') h':=fun b u q=>by
  have nown:∀ c y,H c = some (.own y) -> c ≠ x:=fun c y r z=>by subst z; rw [r] at mu; exact mu
  have ntup:∀ c xs,H c = some (.tup xs) -> c ≠ x:=fun c xs r z=>by subst z; rw [r] at mu; exact mu
  by_cases hb:b = x
  · subst hb; rw [upd_same] at q; cases q; exact new
  · rw [upd_ne hb] at q
    by_cases hbe:b = e
    · have q':H b = some (.own x):=by
        rcases he with z | z
        · exact absurd (hbe.trans z) hb
        · rw [hbe]; exact z
      rw [q] at q'; cases q'
      obtain ⟨v,hv⟩:=heo
      exact ⟨v,by rw [hbe]; exact hv⟩
    · refine (ok b u q).stay (fun c v hc r=>k c v ?_ r) (fun c r=>by rw [upd_ne (nown c b r)]; exact r) fun c xs r=>by rw [upd_ne (ntup c xs r)]; exact r
      rcases hc with rfl | hc
      · exact hbe
      · rintro rfl
        rcases he with z | z
        · exact nown c b hc z
        · rw [hc] at z; cases z; exact hb rfl
end

structure Un (fs ex:List Addr) (H H':Hp) (h h':Heap):Prop where
  keep:∀ b o,h.get? b = some o -> H b = none -> b ∉ fs -> b ∉ ex -> h'.get? b = some o
  slot:∀ b o,h.get? b = some o -> H b = none -> b ∈ fs -> b ∉ ex -> ∃ sl,h'.get? b = some { o with slots:=sl }
  free:∀ b o,h.get? b = some o -> H b = none -> b ∉ ex -> H' b = none
  there:∀ b o,h.get? b = some o -> b ∉ ex -> ∃ o',h'.get? b = some o'
  tups:∀ b xs,H b = some (.tup xs) -> H' b = some (.tup xs)
  frzs:∀ b o u,H b = some (.frz o u) -> H' b = some (.frz o u)
  tbls:∀ b ps,H b = some (.tbl ps) -> ∃ more,H' b = some (.tbl (ps ++ more))
section
variable {fs fs' ex ex':List Addr} {H H1 H2:Hp} {h h1 h2 h':Heap} {a x e:Addr} {o:HO}
theorem Un.any (u:Un fs ex H H1 h h1) {b:Addr} {ob:Obj} (q:h.get? b = some ob) (n:H b = none) (hx:b ∉ ex):∃ sl,h1.get? b = some { ob with slots:=sl }:=by
  by_cases hb:b ∈ fs
  · exact u.slot b ob q n hb hx
  · exact ⟨ob.slots,u.keep b ob q n hb hx⟩
theorem Un.trans (a:Un fs ex H H1 h h1) (b:Un fs ex H1 H2 h1 h2):Un fs ex H H2 h h2 where
  keep:=fun c ob q n hc hx=>b.keep c ob (a.keep c ob q n hc hx) (a.free c ob q n hx) hc hx
  slot:=fun c ob q n hc hx=>by
    obtain ⟨sl,e1⟩:=a.slot c ob q n hc hx
    obtain ⟨sl',e2⟩:=b.slot c _ e1 (a.free c ob q n hx) hc hx
    exact ⟨sl',e2⟩
  free:=fun c ob q n hx=>by
    obtain ⟨o',e1⟩:=a.there c ob q hx
    exact b.free c o' e1 (a.free c ob q n hx) hx
  there:=fun c ob q hx=>by
    obtain ⟨o',e1⟩:=a.there c ob q hx
    exact b.there c o' e1 hx
  tups:=fun c xs q=>b.tups c xs (a.tups c xs q)
  frzs:=fun c ob xs q=>b.frzs c ob xs (a.frzs c ob xs q)
  tbls:=fun c ps q=>by
    obtain ⟨m1,e1⟩:=a.tbls c ps q
    obtain ⟨m2,e2⟩:=b.tbls c _ e1
    exact ⟨m1 ++ m2,by rw [e2,Array.append_assoc]⟩
theorem Un.kept (k:∀ b u,h.get? b = some u -> h'.get? b = some u):Un fs ex H H h h' :=
  ⟨fun b ob q _ _ _=>k b ob q,fun b ob q _ _ _=>⟨ob.slots,k b ob q⟩,fun _ _ _ n _=>n,fun b ob q _=>⟨ob,k b ob q⟩,fun _ _ q=>q,fun _ _ _ q=>q,fun _ ps q=>⟨#[],by rw [q]; simp⟩⟩
theorem Un.refl:Un fs ex H H h h:=Un.kept fun _ _ q=>q
theorem Un.laid (k:∀ b u,h.get? b = some u -> h'.get? b = some u) (hp:h.objs.size <= a) (hn:H a = none):Un fs ex H (upd H a o) h h' where
  keep:=fun b u q _ _ _=>k b u q
  slot:=fun b u q _ _ _=>⟨u.slots,k b u q⟩
  free:=fun b u q n _=>by rw [upd_ne (Nat.ne_of_lt (Nat.lt_of_lt_of_le (Heap.lt_size q) hp))]; exact n
  there:=fun b u q _=>⟨u,k b u q⟩
  tups:=fun b xs q=>by rw [upd_ne (ne_of_none q hn)]; exact q
  frzs:=fun b u xs q=>by rw [upd_ne (ne_of_none q hn)]; exact q
  tbls:=fun b ps q=>⟨#[],by rw [upd_ne (ne_of_none q hn),q]; simp⟩
theorem Un.write (mu:Mut (H x)) (he:e = x \/ H e = some (.own x)) (k:∀ b u,b ≠ e -> h.get? b = some u -> h'.get? b = some u) (heo:∃ u,h'.get? e = some u):Un fs ex H (upd H x o) h h':=by
  have hx:∀ b,H b = none -> b ≠ x:=fun b n z=>by subst z; rw [n] at mu; exact mu
  have hb:∀ b,H b = none -> b ≠ e:=fun b n z=>by
    subst z
    rcases he with r | r
    · exact hx b n r
    · rw [n] at r; cases r
  have hm:∀ b u,H b = some u -> ¬ Mut (some u) -> b ≠ x:=fun b u q nm z=>by subst z; rw [q] at mu; exact nm mu
  refine ⟨fun b u q n _ _=>k b u (hb b n) q,fun b u q n _ _=>⟨u.slots,k b u (hb b n) q⟩,fun b u q n _=>by rw [upd_ne (hx b n)]; exact n,fun b u q _=>?_,
    fun b xs q=>by rw [upd_ne (hm b _ q fun z=>z)]; exact q,fun b u xs q=>by rw [upd_ne (hm b _ q fun z=>z)]; exact q,fun b ps q=>⟨#[],by rw [upd_ne (hm b _ q fun z=>z),q]; simp⟩⟩
  by_cases hbe:b = e
  · subst hbe; exact heo
  · exact ⟨u,k b u hbe q⟩
theorem Un.mono (u:Un fs ex H H1 h h1) (hs:∀ b ∈ fs,b ∈ fs') (hx:∀ b ∈ ex,b ∈ ex'):Un fs' ex' H H1 h h1 :=
  ⟨fun b ob q n hb he=>u.keep b ob q n (fun z=>hb (hs b z)) fun z=>he (hx b z),fun _ _ q n _ he=>u.any q n fun z=>he (hx _ z),fun b ob q n he=>u.free b ob q n fun z=>he (hx b z),fun b ob q he=>u.there b ob q fun z=>he (hx b z),u.tups,u.frzs,u.tbls⟩
end

def trk (h:Heap) (H:Hp):List Addr:=(List.range h.objs.size).filter fun a=>(H a).isSome
def hidT (h:Heap) (H:Hp):Heap:=W.hideAll h (trk h H)
theorem hidT_size (h:Heap) (H:Hp):(hidT h H).objs.size = h.objs.size:=W.hideAll_size _ _
theorem hidT_get {h:Heap} {H:Hp} {b:Addr} {o:Obj} (e:h.get? b = some o) (n:H b = none):(hidT h H).get? b = some o :=
  W.hideAll_get _ e fun hm=>by
    have q:(H b).isSome = true:=(List.mem_filter.mp hm).2
    rw [n] at q; simp at q
theorem of_hidT {h:Heap} {H:Hp} {b:Addr} {o:Obj} (e:(hidT h H).get? b = some o):h.get? b = some o /\ H b = none:=by
  have e':h.get? b = some o:=W.of_hideAll (trk h H) e
  refine ⟨e',?_⟩
  cases q:H b with
  | none=>rfl
  | some x =>
    have hm:b ∈ trk h H:=List.mem_filter.mpr ⟨List.mem_range.mpr (Heap.lt_size e'),by simp [q]⟩
    have z:(hidT h H).get? b = none:=W.hideAll_none (trk h H) hm
    rw [z] at e; cases e

def allNews (g h:Heap) (L:Addr):List (Addr × Obj):=(List.range h.objs.size).filterMap fun a=>if a = L \/ (g.get? a).isSome = true then none else (h.get? a).map fun o=>(a,o)
def rest (g h:Heap) (L d:Addr):List (Addr × Obj):=(allNews g h L).filter fun p=>decide (p.1 ≠ d)
end L2

namespace L2
open PySem PySem.Spec PyProof.Rows

structure Mod (K:W.Frag) (mg:Str -> Option Value) (base:Heap):Prop where
  kin:K.In base
  glob:base.Ns mainGlobals mg
  blt:∃ mb,base.Ns builtinsNs mb /\ ∀ x:Str,x ≠ "__name__" -> mb x = bootBuiltins x
  nolimit:base.NoLimit

structure Cx where
  prog:Program
  w:World
  K:W.Frag
  mg:Str -> Option Value
  base:Heap
  A:Around
  N:List Str
  s₀:Shared
  H₀:Hp
  env:Env
  outer:List Env
  stack:List Env
  ex:List Addr
  fn:Str -> Bool
  calm:Bool
  pn:List (Addr × Obj)
  xe:Value -> Shared -> Prop
def frs (l:List Env):List Addr:=l.filterMap (·.frame)
abbrev Cx.fs (X:Cx):List Addr:=frs X.outer

def Vis (sc:Scope) (x:Str):Prop:=sc.names.lookup x = some .local \/ sc.names.lookup x = some .cell \/ sc.names.lookup x = some .free
def Loc (sc:Scope) (x:Str):Prop:=sc.names.lookup x = some .local \/ sc.names.lookup x = some .cell
def Look (env:Env) (h:Heap) (m:Str -> Option Value) (x:Str) (u:Value):Prop :=
  (env.kindOf x = some .local /\ m x = some u) \/ ((env.kindOf x = some .cell \/ env.kindOf x = some .free) /\ ∃ c,env.cells.lookup x = some c /\ h.IsCell c (some u))

structure Cx.Ok (X:Cx):Prop where
  mod:Mod X.K X.mg X.base
  kind:X.env.scope.kind = .function
  glob:X.env.globals = mainGlobals
  blt:X.env.builtins = builtinsNs
  above:X.s₀.heap.objs.size <= X.env.locals
  inj:∀ x y c,X.env.cells.lookup x = some c -> X.env.cells.lookup y = some c -> x = y
  has:∀ x,(X.env.kindOf x = some .cell \/ X.env.kindOf x = some .free) -> ∃ c,X.env.cells.lookup x = some c
  cab:∀ x c,X.fn x = true -> X.env.cells.lookup x = some c -> X.s₀.heap.objs.size <= c
  hd:X.calm = true -> X.A.handled = none
  frames:X.A.frames = some X.stack
  stk:X.stack = X.outer \/ (X.stack = X.env :: X.outer /\ X.env.frame = some X.env.locals)
  exf:∀ b ∈ X.ex,b ≠ X.env.locals /\ ∀ x c,X.env.cells.lookup x = some c -> c ≠ b
  bs:∀ b o,X.base.get? b = some o -> X.s₀.heap.get? b = some o /\ X.H₀ b = none
  bsz:X.base.objs.size <= X.s₀.heap.objs.size
  noex:∀ b o,X.base.get? b = some o -> b ∉ X.ex
  exfs:∀ b ∈ X.ex,b ∉ X.fs
  funs:X.s₀.heap.FunFrames X.base X.outer
  frf:∀ b ∈ X.fs,X.H₀ b = none

structure Inv (X:Cx) (pins:List (Addr × Obj)) (σ:List (Option V)) (H:Hp) (s:Shared):Prop where
  ok:X.Ok
  os:s.os = X.s₀.os
  bare:AllBare s.gens
  base:Un X.fs X.ex X.H₀ H X.s₀.heap s.heap
  loc:∃ m,s.heap.Ns X.env.locals m /\ ∀ (i:Nat) (x:Str) (v:V),X.N[i]? = some x -> σ[i]? = some (some v) -> Vis X.env.scope x -> ∃ u,RelV v u /\ Look X.env s.heap m x u
  cell:∀ x c,X.env.cells.lookup x = some c -> ∃ v,s.heap.IsCell c v
  free:H X.env.locals = none
  freeC:∀ x c,X.env.cells.lookup x = some c -> H c = none
  pin:∀ p ∈ X.pn ++ pins,s.heap.get? p.1 = some p.2 /\ H p.1 = none /\ p.1 ≠ X.env.locals /\ p.1 ∉ X.fs /\ ∀ v,p.2.data ≠ .cell v
  hok:HOk X.prog X.w H s.heap
  len : σ.length = X.N.length

section
variable {X:Cx} {pins:List (Addr × Obj)} {σ:List (Option V)} {H H':Hp} {s:Shared} {h':Heap}

theorem Cx.Ok.nofr (ok:X.Ok) {b:Addr} {o:Obj} (e:X.base.get? b = some o):b ∉ X.fs:=fun hb=>by
  have:=(ok.funs.mem hb).1
  rw [e] at this; cases this
theorem Inv.bs (I:Inv X pins σ H s):∀ b o,X.base.get? b = some o -> s.heap.get? b = some o /\ H b = none:=fun b o e =>
  ⟨I.base.keep b o (I.ok.bs b o e).1 (I.ok.bs b o e).2 (I.ok.nofr e) (I.ok.noex b o e),I.base.free b o (I.ok.bs b o e).1 (I.ok.bs b o e).2 (I.ok.noex b o e)⟩
theorem Inv.bk (I:Inv X pins σ H s):∀ b o,X.base.get? b = some o -> s.heap.get? b = some o:=fun b o e=>(I.bs b o e).1
theorem Inv.mod (I:Inv X pins σ H s):Mod X.K X.mg X.base:=I.ok.mod
theorem Inv.kIn (I:Inv X pins σ H s):X.K.In s.heap:=I.ok.mod.kin.keeps I.bk
theorem Inv.nolimit (I:Inv X pins σ H s):s.heap.NoLimit:=I.ok.mod.nolimit.keeps I.bk
theorem Inv.fr (I:Inv X pins σ H s):∃ m,Fr X.base X.env.locals s.heap m :=
  let ⟨m,hn,_⟩:=I.loc
  ⟨m,hn,I.bk,Nat.le_trans I.ok.bsz I.ok.above⟩
theorem Inv.lt (I:Inv X pins σ H s):X.env.locals < s.heap.objs.size:=let ⟨_,hn,_⟩:=I.loc; hn.lt
theorem Inv.sz (I:Inv X pins σ H s):X.s₀.heap.objs.size <= s.heap.objs.size:=Nat.le_trans I.ok.above (Nat.le_of_lt I.lt)
theorem Inv.nofs (I:Inv X pins σ H s) {a:Addr} (h:s.heap.objs.size <= a):a ∉ X.fs:=fun hb=>by
  obtain ⟨_,o,ho,_⟩:=I.ok.funs.mem hb
  exact absurd (Nat.lt_of_lt_of_le (Heap.lt_size ho) (Nat.le_trans I.sz h)) (Nat.lt_irrefl _)
theorem Inv.cne (I:Inv X pins σ H s):∀ x c,X.env.cells.lookup x = some c -> c ≠ X.env.locals:=fun x c e z=>by
  obtain ⟨v,o,ho,hd⟩:=I.cell x c e
  obtain ⟨m,⟨o',es,ep,ho',hd',_⟩,_⟩:=I.loc
  rw [z,ho'] at ho; cases ho; rw [hd'] at hd; cases hd
theorem Inv.funs (I:Inv X pins σ H s):s.heap.FunFrames X.base X.outer:=by
  have all:∀ (l:List Env),(∀ b ∈ frs l,b ∈ X.fs) -> X.s₀.heap.FunFrames X.base l -> s.heap.FunFrames X.base l:=by
    intro l
    induction l with
    | nil=>intro _ _; trivial
    | cons env r ih =>
      intro hs hl
      obtain ⟨hk,⟨L,o,hf,hn,ho,hd⟩,hr⟩:=hl
      have hL:L ∈ X.fs:=hs L (by unfold frs; rw [List.filterMap_cons,hf]; exact List.mem_cons_self)
      obtain ⟨sl,e⟩:=I.base.slot L o ho (I.ok.frf L hL) hL fun z=>I.ok.exfs L z hL
      exact ⟨hk,⟨L,_,hf,hn,e,hd⟩,ih (fun b hb=>hs b (by unfold frs; rw [List.filterMap_cons,hf]; exact List.mem_cons_of_mem _ hb)) hr⟩
  exact all X.outer (fun _ hb=>hb) I.ok.funs

theorem Inv.stack (I:Inv X pins σ H s):s.heap.FunFrames X.base X.stack:=by
  rcases I.ok.stk with e | ⟨e,hf⟩
  · rw [e]; exact I.funs
  · rw [e]
    obtain ⟨m,hn,_⟩:=I.loc
    refine .cons (by rw [I.ok.kind]; decide) hf hn ?_ I.funs
    exact Heap.get?_none_of_le (Nat.le_trans I.ok.bsz I.ok.above)
theorem Inv.stkSub (I:Inv X pins σ H s):∀ b ∈ frs X.stack,b ∈ X.env.locals :: X.fs:=fun b hb=>by
  rcases I.ok.stk with e | ⟨e,hf⟩
  · rw [e] at hb; exact List.mem_cons_of_mem _ hb
  · rw [e] at hb
    unfold frs at hb
    rw [List.filterMap_cons,hf] at hb
    exact hb
theorem Inv.stkFree (I:Inv X pins σ H s):∀ b ∈ frs X.stack,H b = none:=fun b hb=>by
  rcases List.mem_cons.mp (I.stkSub b hb) with e | hb
  · rw [e]; exact I.free
  · obtain ⟨_,o,ho,_⟩:=I.ok.funs.mem hb
    exact I.base.free b o ho (I.ok.frf b hb) fun z=>I.ok.exfs b z hb

theorem Inv.step {g':Array GenState} {t':Nat} {d':Drawn} {ch:List Addr} (I:Inv X pins σ H s)
    (hch:∀ b ∈ ch,(b ∈ X.ex \/ X.s₀.heap.objs.size <= b) /\ b ≠ X.env.locals /\ (∀ x c,X.env.cells.lookup x = some c -> c ≠ b) /\ ∀ p ∈ X.pn ++ pins,p.1 ≠ b)
    (keep:∀ b o,b ≠ X.env.locals -> b ∉ X.fs -> b ∉ ch -> s.heap.get? b = some o -> H b = none -> h'.get? b = some o)
    (slot:∀ b o,b ≠ X.env.locals -> b ∈ X.fs -> b ∉ ch -> s.heap.get? b = some o -> H b = none -> ∃ sl,h'.get? b = some { o with slots:=sl }) (free:∀ b o,b ∉ ch -> s.heap.get? b = some o -> H b = none -> H' b = none)
    (there:∀ b o,b ∉ ch -> s.heap.get? b = some o -> ∃ o',h'.get? b = some o')
    (tups:∀ b xs,H b = some (.tup xs) -> H' b = some (.tup xs)) (frzs:∀ b o u,H b = some (.frz o u) -> H' b = some (.frz o u)) (tbls:∀ b ps,H b = some (.tbl ps) -> ∃ more,H' b = some (.tbl (ps ++ more)))
    (ns:∀ m,s.heap.Ns X.env.locals m -> h'.Ns X.env.locals m) (hok:HOk X.prog X.w H' h') (hg:AllBare g') :
    Inv X pins σ H' { s with heap:=h',gens:=g',drawn:=d',toks:=t' }:=by
  have neL:∀ b o,X.s₀.heap.get? b = some o -> b ≠ X.env.locals:=fun b o e=>Nat.ne_of_lt (Nat.lt_of_lt_of_le (Heap.lt_size e) I.ok.above)
  have neC:∀ b o,X.s₀.heap.get? b = some o -> b ∉ X.ex -> b ∉ ch:=fun b o e hx hb=>by
    rcases (hch b hb).1 with z | z
    · exact hx z
    · exact absurd (Nat.lt_of_lt_of_le (Heap.lt_size e) z) (Nat.lt_irrefl _)
  have cellK:∀ x c,X.env.cells.lookup x = some c -> ∀ v,s.heap.IsCell c v -> h'.IsCell c v:=fun x c e v ⟨o,ho,hd⟩=>by
    have nch:c ∉ ch:=fun z=>(hch c z).2.2.1 x c e rfl
    by_cases hc:c ∈ X.fs
    · obtain ⟨sl,q⟩:=slot c o (I.cne x c e) hc nch ho (I.freeC x c e)
      exact ⟨_,q,hd⟩
    · exact ⟨o,keep c o (I.cne x c e) hc nch ho (I.freeC x c e),hd⟩
  refine ⟨I.ok,I.os,hg,⟨fun b o e n hb hx=>?_,fun b o e n hb hx=>?_,fun b o e n hx=>?_,fun b o e hx=>?_,fun b xs e=>tups b xs (I.base.tups b xs e),fun b o xs e=>frzs b o xs (I.base.frzs b o xs e),fun b ps e=>?_⟩,?_,fun x c e=>?_,?_,fun x c e=>?_,fun p hp=>?_,hok,I.len⟩
  · exact keep b o (neL b o e) hb (neC b o e hx) (I.base.keep b o e n hb hx) (I.base.free b o e n hx)
  · obtain ⟨sl,e1⟩:=I.base.slot b o e n hb hx
    obtain ⟨sl',e2⟩:=slot b _ (neL b o e) hb (neC b o e hx) e1 (I.base.free b o e n hx)
    exact ⟨sl',e2⟩
  · obtain ⟨o',e1⟩:=I.base.there b o e hx
    exact free b o' (neC b o e hx) e1 (I.base.free b o e n hx)
  · obtain ⟨o',e1⟩:=I.base.there b o e hx
    exact there b o' (neC b o e hx) e1
  · obtain ⟨m1,e1⟩:=I.base.tbls b ps e
    obtain ⟨m2,e2⟩:=tbls b _ e1
    exact ⟨m1 ++ m2,by rw [e2,Array.append_assoc]⟩
  · obtain ⟨m,hn,hl⟩:=I.loc
    refine ⟨m,ns m hn,fun i x v e1 e2 e3=>?_⟩
    obtain ⟨u,r,l⟩:=hl i x v e1 e2 e3
    refine ⟨u,r,?_⟩
    rcases l with l | ⟨k,c,e,z⟩
    · exact .inl l
    · exact .inr ⟨k,c,e,cellK x c e _ z⟩
  · obtain ⟨v,z⟩:=I.cell x c e
    exact ⟨v,cellK x c e v z⟩
  · obtain ⟨m,⟨o,_,_,ho,_⟩,_⟩:=I.loc
    exact free _ o (fun z=>(hch _ z).2.1 rfl) ho I.free
  · obtain ⟨v,o,ho,hd⟩:=I.cell x c e
    exact free c o (fun z=>(hch c z).2.2.1 x c e rfl) ho (I.freeC x c e)
  · obtain ⟨e,n,ne,nf,d⟩:=I.pin p hp
    have nch:p.1 ∉ ch:=fun z=>(hch p.1 z).2.2.2 p hp rfl
    exact ⟨keep p.1 p.2 ne nf nch e n,free p.1 p.2 nch e n,ne,nf,d⟩
theorem Inv.un {t':Nat} (I:Inv X pins σ H s) (u:Un X.fs [] H H' s.heap h') (hok:HOk X.prog X.w H' h'):Inv X pins σ H' { s with heap:=h',toks:=t' }:=by
  obtain ⟨m,⟨o,es,ep,ho,r⟩,_⟩:=id I.loc
  obtain ⟨sl,hL⟩:=u.any ho I.free (by simp)
  exact I.step (g':=s.gens) (d':=s.drawn) (ch:=[]) (fun _ z=>nomatch z) (fun b o _ hb _ e n=>u.keep b o e n hb (by simp)) (fun b o _ hb _ e n=>u.slot b o e n hb (by simp)) (fun b o _ e n=>u.free b o e n (by simp)) (fun b o _ e=>u.there b o e (by simp)) u.tups u.frzs u.tbls (fun m' hm=>by
    obtain ⟨o',es',ep',ho',r'⟩:=hm
    rw [ho] at ho'; cases ho'
    exact ⟨_,es',ep',hL,r'⟩) hok I.bare
theorem Inv.call {g':Array GenState} {t':Nat} {d':Drawn} {ch:List Addr} (I:Inv X pins σ H s) (u:Un (frs X.stack) ch H H' s.heap h') (hok:HOk X.prog X.w H' h') (hg:AllBare g')
    (hch:∀ b ∈ ch,(b ∈ X.ex \/ X.s₀.heap.objs.size <= b) /\ b ≠ X.env.locals /\ (∀ x c,X.env.cells.lookup x = some c -> c ≠ b) /\ ∀ p ∈ X.pn ++ pins,p.1 ≠ b) :
    Inv X pins σ H' { s with heap:=h',gens:=g',drawn:=d',toks:=t' }:=by
  obtain ⟨m,⟨o,es,ep,ho,r⟩,_⟩:=id I.loc
  obtain ⟨sl,hL⟩:=u.any ho I.free fun z=>(hch _ z).2.1 rfl
  exact I.step (ch:=ch) hch (fun b o hL hb hc e n=>u.keep b o e n (fun z=>(List.mem_cons.mp (I.stkSub b z)).elim hL hb) hc) (fun b o _ _ hc e n=>u.any e n hc) (fun b o hc e n=>u.free b o e n hc) (fun b o hc e=>u.there b o e hc) u.tups u.frzs u.tbls (fun m' hm=>by
    obtain ⟨o',es',ep',ho',r'⟩:=hm
    rw [ho] at ho'; cases ho'
    exact ⟨_,es',ep',hL,r'⟩) hok hg
theorem Inv.turned {t':Nat} {it:Addr} (I:Inv X pins σ H s) (k:∀ b o,b ≠ it -> s.heap.get? b = some o -> h'.get? b = some o) (hn:H it = none) (hL:it ≠ X.env.locals)
    (h1:it ∈ X.ex \/ X.s₀.heap.objs.size <= it) (h2:∀ x c,X.env.cells.lookup x = some c -> c ≠ it) (h3:∀ p ∈ X.pn ++ pins,p.1 ≠ it):Inv X pins σ H { s with heap:=h',toks:=t' }:=by
  have nit:∀ b u,H b = some u -> b ≠ it:=fun b u e z=>by rw [z,hn] at e; cases e
  refine I.step (g':=s.gens) (d':=s.drawn) (ch:=[it]) (fun b hb=>?_) (fun b o _ _ hc e _=>k b o (fun z=>hc (by simp [z])) e) (fun b o _ _ hc e _=>⟨o.slots,k b o (fun z=>hc (by simp [z])) e⟩) (fun _ _ _ _ n=>n)
    (fun b o hc e=>⟨o,k b o (fun z=>hc (by simp [z])) e⟩) (fun _ _ e=>e) (fun _ _ _ e=>e) (fun b ps e=>⟨#[],by rw [e]; simp⟩) (fun m hm=>?_) (fun b u e=>?_) I.bare
  · have e:b = it:=by simpa using hb
    subst e
    exact ⟨h1,hL,h2,h3⟩
  · obtain ⟨o,es,ep,ho,r⟩:=hm
    exact ⟨o,es,ep,k _ o (Ne.symm hL) ho,r⟩
  · refine (I.hok b u e).stay (fun c v hc q=>k c v ?_ q) (fun _ q=>q) fun _ _ q=>q
    rcases hc with z | z
    · rw [z]; exact nit b u e
    · exact nit c _ z
theorem Inv.tok (I:Inv X pins σ H s) (t:Nat):Inv X pins σ H { s with toks:=t }:=I.un (h':=s.heap) (t':=t) Un.refl I.hok
theorem Inv.kept {t':Nat} (I:Inv X pins σ H s) (k:∀ b u,s.heap.get? b = some u -> h'.get? b = some u):Inv X pins σ H { s with heap:=h',toks:=t' }:=I.un (Un.kept k) (I.hok.kept k)
theorem Inv.laid {a:Addr} {o:HO} {t':Nat} (I:Inv X pins σ H s) (k:∀ b u,s.heap.get? b = some u -> h'.get? b = some u) (hp:s.heap.objs.size <= a) (new:ObjOk X.prog X.w (upd H a o) h' a o) :
    Inv X pins σ (upd H a o) { s with heap:=h',toks:=t' }:=I.un (Un.laid k hp (I.hok.fresh hp)) (I.hok.laid k hp new)
theorem Inv.write {x e:Addr} {o:HO} {t':Nat} (I:Inv X pins σ H s) (mu:Mut (H x)) (he:e = x \/ H e = some (.own x)) (k:∀ b u,b ≠ e -> s.heap.get? b = some u -> h'.get? b = some u) (heo:∃ u,h'.get? e = some u)
    (new:ObjOk X.prog X.w (upd H x o) h' x o):Inv X pins σ (upd H x o) { s with heap:=h',toks:=t' }:=I.un (Un.write mu he k heo) (I.hok.write mu he k heo new)
theorem Inv.pins_of {pins':List (Addr × Obj)} (I:Inv X pins σ H s) (h:∀ p ∈ pins',s.heap.get? p.1 = some p.2 /\ H p.1 = none /\ p.1 ≠ X.env.locals /\ p.1 ∉ X.fs /\ ∀ v,p.2.data ≠ .cell v):Inv X pins' σ H s :=
  ⟨I.ok,I.os,I.bare,I.base,I.loc,I.cell,I.free,I.freeC,fun p hp=>(List.mem_append.mp hp).elim (fun z=>I.pin p (List.mem_append_left _ z)) (h p),I.hok,I.len⟩

theorem nodup_ix {N:List Str} (hN:N.Nodup) {i j:Nat} {x:Str} (a:N[i]? = some x) (b:N[j]? = some x):i = j:=by
  obtain ⟨h1,e1⟩:=List.getElem?_eq_some_iff.mp a
  obtain ⟨h2,e2⟩:=List.getElem?_eq_some_iff.mp b
  exact (List.getElem_inj hN).mp (e1.trans e2.symm)

theorem store_ok2 {M:Model} {A:Around} {E:Value -> Shared -> Prop} {i:Nat} {x:Str} {v:V} {u:Value} {Q:Unit -> Shared -> Prop} (I:Inv X pins σ H s) (hN:X.N.Nodup) (hi:X.N[i]? = some x) (hx:Loc X.env.scope x) (r:RelV v u)
    (h:∀ s',Inv X pins (σ.set i (some v)) H s' -> (∃ a,Heap.SameBut a s.heap s'.heap /\ (a = X.env.locals \/ X.env.cells.lookup x = some a)) -> Q () s') (hf:X.fn x = true \/ X.env.scope.names.lookup x = some .local:=by first | exact .inl rfl | exact .inr rfl | assumption):wpAny M A (storeName X.env x u) Q E s:=by
  obtain ⟨m,hn,hl⟩:=id I.loc
  have hcls:(X.env.scope.kind == .class || (X.env.scope.kind == .module && X.env.locals != X.env.globals)) = false:=by rw [I.ok.kind]; rfl
  have hiσ:i < σ.length:=by rw [I.len]; exact (List.getElem?_eq_some_iff.mp hi).1
  have cne:=I.cne
  have tracked:∀ {a:Addr} {h':Heap},(∃ o,s.heap.get? a = some o /\ H a = none) -> Heap.SameBut a s.heap h' -> HOk X.prog X.w H h':=fun {a h'} ha hs b ob e=>by
    obtain ⟨_,_,hfree⟩:=ha
    refine (I.hok b ob e).stay (fun c w' hc q=>(hs.2 c ?_).trans q) (fun _ q=>q) fun _ _ q=>q
    rintro rfl
    rcases hc with rfl | hc
    · rw [hfree] at e; cases e
    · rw [hfree] at hc; cases hc
  rcases hx with hk | hk
  · refine wpAny_storeName_local hk hn (fun h' hn' hs=>?_) hcls
    obtain ⟨oL,_,_,hoL,_⟩:=id hn
    refine h _ ⟨I.ok,I.os,I.bare,⟨fun b o e n hb hx=>?_,fun b o e n hb hx=>?_,I.base.free,fun b o e hx=>?_,I.base.tups,I.base.frzs,I.base.tbls⟩,⟨_,hn',fun j y v' e1 e2 e3=>?_⟩,fun y c e=>?_,I.free,I.freeC,fun p hp=>?_,tracked ⟨oL,hoL,I.free⟩ hs,by simpa using I.len⟩ ⟨_,hs,.inl rfl⟩
    · exact (hs.2 b (Nat.ne_of_lt (Nat.lt_of_lt_of_le (Heap.lt_size e) I.ok.above))).trans (I.base.keep b o e n hb hx)
    · obtain ⟨sl,e1⟩:=I.base.slot b o e n hb hx
      exact ⟨sl,(hs.2 b (Nat.ne_of_lt (Nat.lt_of_lt_of_le (Heap.lt_size e) I.ok.above))).trans e1⟩
    · obtain ⟨o',e1⟩:=I.base.there b o e hx
      exact ⟨o',(hs.2 b (Nat.ne_of_lt (Nat.lt_of_lt_of_le (Heap.lt_size e) I.ok.above))).trans e1⟩
    · by_cases hj:j = i
      · subst hj
        rw [hi] at e1; cases e1
        rw [List.getElem?_set_self hiσ] at e2
        cases e2
        exact ⟨u,r,.inl ⟨hk,by simp⟩⟩
      · rw [List.getElem?_set_ne (Ne.symm hj)] at e2
        obtain ⟨u',r',q⟩:=hl j y v' e1 e2 e3
        refine ⟨u',r',?_⟩
        rcases q with ⟨k,e⟩ | ⟨k,c,e,z⟩
        · refine .inl ⟨k,?_⟩
          have:y ≠ x:=fun e=>hj (nodup_ix hN e1 (e ▸ hi))
          simp [this,e]
        · exact .inr ⟨k,c,e,z.sameBut hs (cne y c e)⟩
    · obtain ⟨w',z⟩:=I.cell y c e
      exact ⟨w',z.sameBut hs (cne y c e)⟩
    · obtain ⟨e,n,ne,nf,d⟩:=I.pin p hp
      exact ⟨(hs.2 p.1 ne).trans e,n,ne,nf,d⟩
  · have hfn:X.fn x = true:=by
      rcases hf with z | z
      · exact z
      · rw [z] at hk; cases hk
    obtain ⟨c,hc⟩:=I.ok.has x (.inl hk)
    obtain ⟨w',z⟩:=I.cell x c hc
    refine wpAny_storeName_cell I.ok.kind hk hc z (fun h' hc' hs=>?_)
    obtain ⟨oc,hoc,hocd⟩:=id z
    refine h { s with heap:=h' } ⟨I.ok,I.os,I.bare,⟨fun b o e n hb hx=>?_,fun b o e n hb hx=>?_,I.base.free,fun b o e hx=>?_,I.base.tups,I.base.frzs,I.base.tbls⟩,⟨m,hn.sameBut hs (Ne.symm (cne x c hc)),fun j y v' e1 e2 e3=>?_⟩,fun y c' e=>?_,I.free,I.freeC,fun p hp=>?_,tracked ⟨oc,hoc,I.freeC x c hc⟩ hs,by simpa using I.len⟩ ⟨c,hs,.inr hc⟩
    · exact (hs.2 b (Nat.ne_of_lt (Nat.lt_of_lt_of_le (Heap.lt_size e) (I.ok.cab x c hfn hc)))).trans (I.base.keep b o e n hb hx)
    · obtain ⟨sl,e1⟩:=I.base.slot b o e n hb hx
      exact ⟨sl,(hs.2 b (Nat.ne_of_lt (Nat.lt_of_lt_of_le (Heap.lt_size e) (I.ok.cab x c hfn hc)))).trans e1⟩
    · obtain ⟨o',e1⟩:=I.base.there b o e hx
      exact ⟨o',(hs.2 b (Nat.ne_of_lt (Nat.lt_of_lt_of_le (Heap.lt_size e) (I.ok.cab x c hfn hc)))).trans e1⟩
    · by_cases hj:j = i
      · subst hj
        rw [hi] at e1; cases e1
        rw [List.getElem?_set_self hiσ] at e2
        cases e2
        exact ⟨u,r,.inr ⟨.inl hk,c,hc,hc'⟩⟩
      · rw [List.getElem?_set_ne (Ne.symm hj)] at e2
        obtain ⟨u',r',q⟩:=hl j y v' e1 e2 e3
        refine ⟨u',r',?_⟩
        rcases q with q | ⟨k,c',e,z'⟩
        · exact .inl q
        · refine .inr ⟨k,c',e,z'.sameBut hs ?_⟩
          rintro rfl
          exact hj (nodup_ix hN e1 (I.ok.inj _ _ _ e hc ▸ hi))
    · by_cases hcc:c' = c
      · subst hcc; exact ⟨_,hc'⟩
      · obtain ⟨w2,z2⟩:=I.cell y c' e
        exact ⟨w2,z2.sameBut hs hcc⟩
    · obtain ⟨e,n,ne,nf,d⟩:=I.pin p hp
      refine ⟨(hs.2 p.1 ?_).trans e,n,ne,nf,d⟩
      intro q
      rw [q,hoc] at e
      have q':oc = p.2:=Option.some.inj e
      exact d w' (by rw [<- q']; exact hocd)
theorem store_ok {M:Model} {A:Around} {E:Value -> Shared -> Prop} {i:Nat} {x:Str} {v:V} {u:Value} {Q:Unit -> Shared -> Prop} (I:Inv X pins σ H s) (hN:X.N.Nodup) (hi:X.N[i]? = some x) (hx:Loc X.env.scope x) (r:RelV v u)
    (h:∀ s',Inv X pins (σ.set i (some v)) H s' -> Q () s') (hf:X.fn x = true \/ X.env.scope.names.lookup x = some .local:=by first | exact .inl rfl | exact .inr rfl | assumption):wpAny M A (storeName X.env x u) Q E s :=
  store_ok2 I hN hi hx r (fun s' I' _=>h s' I') hf
end

abbrev XK:=Value -> Option Addr -> Hp -> Prop
abbrev St:=List (Option V)
abbrev VK:=V -> Hp -> Prop
abbrev TE:=St -> Hp -> VK -> Prop
abbrev TT:=St -> Hp -> (Bool -> Hp -> Prop) -> Prop
abbrev TA:=St -> Hp -> (List V -> Hp -> Prop) -> Prop
structure Ends where
  nx:St -> Hp -> Prop
  rt:VK
  bk:St -> Hp -> Prop:=fun _ _=>False
  ct:St -> Hp -> Prop:=fun _ _=>False
abbrev TS:=Ends -> St -> Hp -> Prop

def EP (X:Cx) (pins:List (Addr × Obj)) (σ:St) (Q:VK) (u:Value) (s':Shared):Prop:=∃ v H',Inv X pins σ H' s' /\ RelV v u /\ Q v H'
def TP (X:Cx) (pins:List (Addr × Obj)) (σ:St) (Q:Bool -> Hp -> Prop) (b:Bool) (s':Shared):Prop:=∃ H',Inv X pins σ H' s' /\ Q b H'
def AP (X:Cx) (pins:List (Addr × Obj)) (σ:St) (Q:List V -> Hp -> Prop) (us:List Value) (s':Shared):Prop:=∃ vs H',Inv X pins σ H' s' /\ Vals vs us /\ Q vs H'
def SP (X:Cx) (pins:List (Addr × Obj)) (D:Ends) (f:Flow) (s':Shared):Prop :=
  match f with
  | .next=>∃ σ' H',Inv X pins σ' H' s' /\ D.nx σ' H'
  | .brk=>∃ σ' H',Inv X pins σ' H' s' /\ D.bk σ' H'
  | .cont=>∃ σ' H',Inv X pins σ' H' s' /\ D.ct σ' H'
  | .ret u=>∃ v σ' H',Inv X pins σ' H' s' /\ RelV v u /\ D.rt v H'

def PE (X:Cx) (e:Expr) (t:TE):Prop :=
  ∀ (pins:List (Addr × Obj)) (s:Shared) (σ:St) (H:Hp) (Q:VK),Inv X pins σ H s -> t σ H Q -> wpAny (model X.prog X.w) X.A (eval e X.env) (EP X pins σ Q) X.xe s
def PT (X:Cx) (e:Expr) (t:TT):Prop :=
  ∀ (pins:List (Addr × Obj)) (s:Shared) (σ:St) (H:Hp) (Q:Bool -> Hp -> Prop),Inv X pins σ H s -> t σ H Q -> wpAny (model X.prog X.w) X.A (isTrue e X.env (eval e X.env)) (TP X pins σ Q) X.xe s
def PW (X:Cx) (e:Expr) (t:TT):Prop :=
  ∀ (whole:Sem Value) (pins:List (Addr × Obj)) (s:Shared) (σ:St) (H:Hp) (Q:Bool -> Hp -> Prop),Inv X pins σ H s -> t σ H Q -> wpAny (model X.prog X.w) X.A (isTrue e X.env whole) (TP X pins σ Q) X.xe s
theorem PW.pt {X:Cx} {e:Expr} {t:TT} (h:PW X e t):PT X e t:=h _
def PA (X:Cx) (es:List Expr) (t:TA):Prop :=
  ∀ (pos:Pos) (pins:List (Addr × Obj)) (s:Shared) (σ:St) (H:Hp) (Q:List V -> Hp -> Prop),Inv X pins σ H s -> t σ H Q -> wpAny (model X.prog X.w) X.A (spliced (backTo pos (starEach es X.env))) (AP X pins σ Q) X.xe s
def PS (X:Cx) (st:Stmt) (t:TS):Prop :=
  ∀ (pins:List (Addr × Obj)) (s:Shared) (σ:St) (H:Hp) (D:Ends),Inv X pins σ H s -> t D σ H -> wpAny (model X.prog X.w) X.A (exec st X.env) (SP X pins D) X.xe s
def PSs (X:Cx) (st:List Stmt) (t:TS):Prop :=
  ∀ (pins:List (Addr × Obj)) (s:Shared) (σ:St) (H:Hp) (D:Ends),Inv X pins σ H s -> t D σ H -> wpAny (model X.prog X.w) X.A (execs st X.env) (SP X pins D) X.xe s
theorem thn {α:Type} {t:Sem α} {Q Q' : α -> Shared -> Prop} {M:Model} {A:Around} {E:Value -> Shared -> Prop} {s:Shared} (h:wpAny M A t Q E s) (hQ:∀ a s,Q a s -> Q' a s):wpAny M A t Q' E s:=wpAny_mono h hQ fun _ _ x=>x
end L2

namespace L2
open PySem PySem.Spec PyProof.Rows
section
variable {X:Cx}

def tVar (i:Nat):TE:=fun σ H Q=>∃ v,σ[i]? = some (some v) /\ Q v H
def tC (v:V):TE:=fun _ H Q=>Q v H
theorem pe_var {i:Nat} {x:Str} {pos:Pos} (hN:X.N[i]? = some x) (hv:Vis X.env.scope x) (hd:(x == ("__debug__" : Str)) = false:=by decide) (hcd:(x == ("__classdict__" : Str)) = false:=by decide):PE X (.Name x pos) (tVar i):=by
  intro pins s σ H Q I h
  obtain ⟨v,e,h⟩:=h
  obtain ⟨m,hn,hl⟩:=I.loc
  obtain ⟨u,r,l⟩:=hl i x v hN e hv
  have fin:EP X pins σ Q u s:=⟨v,H,I,r,h⟩
  rcases l with ⟨hk,hm⟩ | ⟨hk,c,hc,hcell⟩
  · exact wpAny_Name (wpAny_loadName_local I.ok.kind hk hn hm fin) hd
  · rcases hk with hk | hk
    · exact wpAny_Name (wpAny_loadName_cell I.ok.kind hk hc hcell fin) hd
    · exact wpAny_Name (wpAny_loadName_free I.ok.kind hk hc hcell fin hcd) hd
theorem pe_int {i j pos}:PE X (.Constant (.int i) j pos) (tC (.int i)):=fun _ _ _ H _ I h=>wpAny_Constant_int ⟨.int i,H,I.tok _,⟨_,rfl⟩,h⟩
theorem pe_bl {b j pos}:PE X (.Constant (.bool b) j pos) (tC (.bl b)):=fun _ _ _ H _ I h=>Constant_bool ⟨.bl b,H,I,rfl,h⟩
theorem pe_str {x j pos}:PE X (.Constant (.str x) j pos) (tC (.str x)):=fun _ _ _ H _ I h=>Calls.Constant_str ⟨.str x,H,I.tok _,⟨_,rfl⟩,h⟩

def Gl (X:Cx) (x:Str):Prop:=X.env.kindOf x = some .globalImplicit
theorem ld_glob {E:Value -> Shared -> Prop} {pins:List (Addr × Obj)} {s:Shared} {σ:St} {H:Hp} {x:Str} {u:Value} {pos:Pos} {Q:Value -> Shared -> Prop} (I:Inv X pins σ H s) (hg:Gl X x) (hm:X.mg x = some u) (h:Q u s)
    (hd:(x == ("__debug__" : Str)) = false:=by decide):wpAny (model X.prog X.w) X.A (eval (.Name x pos) X.env) Q E s :=
  Calls.Name_function_global I.ok.kind hg (Calls.loadGlobal_global (by rw [I.ok.glob]; exact I.mod.glob.keeps I.bk) hm h) hd
theorem ld_blt {E:Value -> Shared -> Prop} {pins:List (Addr × Obj)} {s:Shared} {σ:St} {H:Hp} {x:Str} {u:Value} {pos:Pos} {Q:Value -> Shared -> Prop} (I:Inv X pins σ H s) (hg:Gl X x) (hm:X.mg x = none) (hv:bootBuiltins x = some u) (h:Q u s)
    (hn:x ≠ "__name__" := by decide) (hd:(x == ("__debug__" : Str)) = false:=by decide):wpAny (model X.prog X.w) X.A (eval (.Name x pos) X.env) Q E s:=by
  obtain ⟨mb,h1,h2⟩:=I.mod.blt
  exact Calls.Name_function_global I.ok.kind hg (Calls.loadGlobal_builtin (by rw [I.ok.glob]; exact I.mod.glob.keeps I.bk) hm (by rw [I.ok.blt]; exact h1.keeps I.bk) ((h2 x hn).trans hv) h) hd
theorem pe_glob {x:Str} {v:V} {u:Value} {pos:Pos} (hg:Gl X x) (hm:X.mg x = some u) (r:RelV v u) (hd:(x == ("__debug__" : Str)) = false:=by decide):PE X (.Name x pos) (tC v) :=
  fun _ _ _ H _ I h=>ld_glob I hg hm ⟨v,H,I,r,h⟩ hd
variable {a b:Expr} {ta tb:TE} {pos:Pos}
def tB (t:TE):TT:=fun σ H Q=>t σ H fun x H1=>∃ c,x = .bl c /\ Q c H1
theorem pt_val {e:Expr} {t:TE} (h:PE X e t) (he:∀ whole,isTrue e X.env whole = (do let v <- whole; standAt e.pos; holding [v] (truthy v)):=by intro _; rfl):PT X e (tB t):=by
  intro pins s σ H Q I hw
  refine isTrue_plain (thn (h pins s σ H _ I hw) fun v s1 ⟨x,H1,I1,r1,q1⟩=>?_) (he _)
  obtain ⟨d,rfl,q⟩:=q1
  cases r1
  exact wpAny_truthy_bool ⟨H1,I1,q⟩

variable {tA tB':TT} {rest:List Expr}
def tAnd (t u:TT):TT:=fun σ H Q=>t σ H fun c H1=>if c = true then u σ H1 Q else Q false H1
def tOr (t u:TT):TT:=fun σ H Q=>t σ H fun c H1=>if c = true then Q true H1 else u σ H1 Q
def tNot (t:TT):TT:=fun σ H Q=>t σ H fun c H1=>Q (!c) H1
theorem pw_and1 (ha:PT X a tA):PW X (.BoolOp .And [a] pos) tA:=by
  intro wh pins s σ H Q I h
  refine isTrue_and (thn (ha pins s σ H Q I h) fun c s1 e=>?_)
  cases c with
  | true=>exact isTrue_and_nil e
  | false=>exact e
theorem pw_or1 (ha:PT X a tA):PW X (.BoolOp .Or [a] pos) tA:=by
  intro wh pins s σ H Q I h
  refine isTrue_or (thn (ha pins s σ H Q I h) fun c s1 e=>?_)
  cases c with
  | false=>exact isTrue_or_nil e
  | true=>exact e
theorem pw_and (ha:PT X a tA) (hb:PW X (.BoolOp .And (b :: rest) pos) tB'):PW X (.BoolOp .And (a :: b :: rest) pos) (tAnd tA tB'):=by
  intro wh pins s σ H Q I h
  refine isTrue_and (thn (ha pins s σ H _ I h) fun c s1 ⟨H1,I1,q1⟩=>?_)
  cases c with
  | true=>exact hb wh pins s1 σ H1 Q I1 q1
  | false=>exact ⟨H1,I1,q1⟩
theorem pw_or (ha:PT X a tA) (hb:PW X (.BoolOp .Or (b :: rest) pos) tB'):PW X (.BoolOp .Or (a :: b :: rest) pos) (tOr tA tB'):=by
  intro wh pins s σ H Q I h
  refine isTrue_or (thn (ha pins s σ H _ I h) fun c s1 ⟨H1,I1,q1⟩=>?_)
  cases c with
  | true=>exact ⟨H1,I1,q1⟩
  | false=>exact hb wh pins s1 σ H1 Q I1 q1
theorem pt_not (ha:PT X a tA):PT X (.UnaryOp .Not a pos) (tNot tA):=by
  intro pins s σ H Q I h
  exact isTrue_not (ha pins s σ H (fun c H1=>Q (!c) H1) I h)
def tIf (t:TT) (ta tb:TE):TE:=fun σ H Q=>t σ H fun c H1=>if c = true then ta σ H1 Q else tb σ H1 Q
theorem pe_ifExp {c:Expr} (hc:PT X c tA) (ha:PE X a ta) (hb:PE X b tb):PE X (.IfExp c a b pos) (tIf tA ta tb):=by
  intro pins s σ H Q I h
  refine wpAny_IfExp (thn (hc pins s σ H _ I h) fun d s1 ⟨H1,I1,q1⟩=>?_)
  cases d with
  | true=>exact ha pins s1 σ H1 Q I1 q1
  | false=>exact hb pins s1 σ H1 Q I1 q1
end
end L2

namespace L2
open PySem PySem.Spec PyProof.Rows

def SqL (K:W.Frag) (H:Hp) (a:Addr) (xs:List V):Prop :=
  Rd H a (.lst xs) \/
    ∃ (o:Obj) (its:Array Value) (n:Nat),K.lookup a = some o /\ o.cls = .type "list" /\ o.dict = none /\ o.data = .seq its n /\ its.size <= sizeLine /\ Vals xs its.toList
def SqT (K:W.Frag) (H:Hp) (a:Addr) (xs:List V):Prop :=
  Rd H a (.tup xs) \/
    ∃ (o:Obj) (its:Array Value) (n:Nat),K.lookup a = some o /\ o.cls = .type "tuple" /\ o.data = .seq its n /\ its.size <= sizeLine /\ Vals xs its.toList /\ o.dict = none
def absV:Value -> Option V
  | .none=>some .non
  | .bool b=>some (.bl b)
  | .int i _=>some (.int i)
  | .str x _=>some (.str x)
  | .bytes b _=>some (.byt b)
  | .float b _=>some (.flt b)
  | .ref a=>some (.ref a)
  | .type n=>some (.ty n)
  | _=>none
theorem RelV.abs {x:V} {u:Value} (r:RelV x u):absV u = some x:=by
  cases x with
  | non=>cases r; rfl
  | bl _=>cases r; rfl
  | int _=>obtain ⟨t,rfl⟩:=r; rfl
  | str _=>obtain ⟨t,rfl⟩:=r; rfl
  | byt _=>obtain ⟨t,rfl⟩:=r; rfl
  | flt _=>obtain ⟨t,rfl⟩:=r; rfl
  | ref _=>cases r; rfl
  | ty _=>cases r; rfl
theorem RelV.inj {x y:V} {u:Value} (r:RelV x u) (q:RelV y u):x = y:=Option.some.inj (r.abs.symm.trans q.abs)
theorem Vals.inj:∀ {xs ys:List V} {us:List Value},Vals xs us -> Vals ys us -> xs = ys
  | _,_,_,.nil,.nil=>rfl
  | _,_,_,.cons r t,.cons r' t'=>by rw [r.inj r',Vals.inj t t']
section
variable {X:Cx} {pins:List (Addr × Obj)} {σ:St} {H:Hp} {s:Shared} {a:Addr} {xs ys:List V}
theorem SqL.of {K:W.Frag} (h:H a = some (.lst xs)):SqL K H a xs:=.inl (.inl h)
theorem SqT.of {K:W.Frag} (h:H a = some (.tup xs)):SqT K H a xs:=.inl (.inl h)
theorem Inv.list (I:Inv X pins σ H s) (h:SqL X.K H a xs):∃ its:List Value,Vals xs its /\ PlainL s.heap a its.toArray /\ xs.length <= sizeLine:=by
  rcases h with h | ⟨o,its,n,hk,hc,hd,hs,hz,r⟩
  · obtain ⟨z,its,n,r,e⟩:=h.ok I.hok
    exact ⟨its,r,⟨_,n,e,rfl,rfl,rfl⟩,z⟩
  · refine ⟨its.toList,r,⟨o,n,I.kIn a o hk,hc,hd,by simpa using hs⟩,?_⟩
    have e:=r.length
    simp only [Array.length_toList] at e
    omega
theorem Inv.tuple (I:Inv X pins σ H s) (h:SqT X.K H a xs):∃ its:List Value,Vals xs its /\ IsTup s.heap a its.toArray /\ xs.length <= sizeLine:=by
  rcases h with h | ⟨o,its,n,hk,hc,hs,hz,r,hd⟩
  · obtain ⟨z,its,r,p⟩:=h.ok I.hok
    exact ⟨its,r,p.tup,z⟩
  · refine ⟨its.toList,r,⟨o,I.kIn a o hk,hc,n,by simpa using hs⟩,?_⟩
    have e:=r.length
    simp only [Array.length_toList] at e
    omega
theorem Inv.list_inj (I:Inv X pins σ H s) (h:SqL X.K H a xs) (h':SqL X.K H a ys):xs = ys:=by
  obtain ⟨its,r,⟨o,n,e,_,_,d⟩,_⟩:=I.list h
  obtain ⟨its',r',⟨o',n',e',_,_,d'⟩,_⟩:=I.list h'
  rw [e] at e'; cases e'
  rw [d] at d'
  injection d' with d1 _
  have:its = its':=by simpa using congrArg Array.toList d1
  subst this
  exact r.inj r'
theorem Inv.tupleD (I:Inv X pins σ H s) (h:SqT X.K H a xs):∃ ob,s.heap.get? a = some ob /\ ob.cls = .type "tuple" /\ ob.dict = none:=by
  rcases h with h | ⟨o,its,n,hk,hc,hs,hz,r,hd⟩
  · obtain ⟨z,its,r,⟨o,e1,e2,_,e3⟩⟩:=h.ok I.hok
    exact ⟨o,e1,e2,e3⟩
  · exact ⟨o,I.kIn a o hk,hc,hd⟩
theorem Inv.tuple_inj (I:Inv X pins σ H s) (h:SqT X.K H a xs) (h':SqT X.K H a ys):xs = ys:=by
  obtain ⟨its,r,⟨o,e,_,n,d⟩,_⟩:=I.tuple h
  obtain ⟨its',r',⟨o',e',_,n',d'⟩,_⟩:=I.tuple h'
  rw [e] at e'; cases e'
  rw [d] at d'
  injection d' with d1 _
  have:its = its':=by simpa using congrArg Array.toList d1
  subst this
  exact r.inj r'
end

abbrev Cx.wish (X:Cx) (E:Value -> Shared -> Prop):Cx:={ X with xe:=E }
abbrev Cx.nox (X:Cx):Cx:=X.wish fun _ _=>False
theorem Cx.Ok.wish {X:Cx} (ok:X.Ok) (E:Value -> Shared -> Prop):(X.wish E).Ok :=
  ⟨ok.mod,ok.kind,ok.glob,ok.blt,ok.above,ok.inj,ok.has,ok.cab,ok.hd,ok.frames,ok.stk,ok.exf,ok.bs,ok.bsz,ok.noex,ok.exfs,ok.funs,ok.frf⟩
theorem Cx.Ok.unwish {X:Cx} {E:Value -> Shared -> Prop} (ok:(X.wish E).Ok):X.Ok :=
  ⟨ok.mod,ok.kind,ok.glob,ok.blt,ok.above,ok.inj,ok.has,ok.cab,ok.hd,ok.frames,ok.stk,ok.exf,ok.bs,ok.bsz,ok.noex,ok.exfs,ok.funs,ok.frf⟩
section
variable {X:Cx} {pins:List (Addr × Obj)} {σ:St} {H:Hp} {s:Shared} {E:Value -> Shared -> Prop}
theorem Inv.wish (I:Inv X pins σ H s) (E:Value -> Shared -> Prop):Inv (X.wish E) pins σ H s:=⟨I.ok.wish E,I.os,I.bare,I.base,I.loc,I.cell,I.free,I.freeC,I.pin,I.hok,I.len⟩
theorem Inv.unwish (I:Inv (X.wish E) pins σ H s):Inv X pins σ H s:=⟨I.ok.unwish,I.os,I.bare,I.base,I.loc,I.cell,I.free,I.freeC,I.pin,I.hok,I.len⟩
theorem SP.unwish {D:Ends} {f:Flow} {s':Shared} (h:SP (X.wish E) pins D f s'):SP X pins D f s':=by
  cases f with
  | next=>obtain ⟨σ',H',I,q⟩:=h; exact ⟨σ',H',I.unwish,q⟩
  | brk=>obtain ⟨σ',H',I,q⟩:=h; exact ⟨σ',H',I.unwish,q⟩
  | cont=>obtain ⟨σ',H',I,q⟩:=h; exact ⟨σ',H',I.unwish,q⟩
  | ret u=>obtain ⟨v,σ',H',I,r,q⟩:=h; exact ⟨v,σ',H',I.unwish,r,q⟩
theorem PE.nox {e:Expr} {t:TE} (h:PE X.nox e t):PE X e t:=fun pins s σ H Q I hw =>
  wpAny_mono (h pins s σ H Q (I.wish _) hw) (fun _ _ ⟨v,H',I',r,q⟩=>⟨v,H',I'.unwish,r,q⟩) fun _ _ z=>False.elim z
theorem PT.nox {e:Expr} {t:TT} (h:PT X.nox e t):PT X e t:=fun pins s σ H Q I hw =>
  wpAny_mono (h pins s σ H Q (I.wish _) hw) (fun _ _ ⟨H',I',q⟩=>⟨H',I'.unwish,q⟩) fun _ _ z=>False.elim z
theorem PSs.nox {st:List Stmt} {t:TS} (h:PSs X.nox st t):PSs X st t:=fun pins s σ H D I hw =>
  wpAny_mono (h pins s σ H D (I.wish _) hw) (fun _ _ q=>q.unwish) fun _ _ z=>False.elim z
end

section
variable {X:Cx} {st:Stmt} {rest:List Stmt} {t u:TS} {e:Expr} {te:TE} {pos:Pos}
def tNext:TS:=fun D σ H=>D.nx σ H
def tSeq (t u:TS):TS:=fun D σ H=>t { D with nx:=u D } σ H
theorem pss_nil:PSs X [] tNext:=fun _ _ σ H _ I h=>wpAny_execs_nil ⟨σ,H,I,h⟩
theorem pss_cons (h1:PS X st t) (h2:PSs X rest u):PSs X (st :: rest) (tSeq t u):=by
  intro pins s σ H D I h
  refine wpAny_execs_cons (thn (h1 pins s σ H { D with nx:=u D } I h) fun f s1 q=>?_)
  cases f with
  | next =>
    obtain ⟨σ',H',I',q⟩:=q
    exact h2 pins s1 σ' H' D I' q
  | ret v=>exact q
  | brk=>exact q
  | cont=>exact q
theorem pss_one (h1:PS X st t):PSs X [st] t:=by
  intro pins s σ H D I h
  refine wpAny_execs_cons (thn (h1 pins s σ H D I h) fun f s1 q=>?_)
  cases f with
  | next=>exact wpAny_execs_nil q
  | ret v=>exact q
  | brk=>exact q
  | cont=>exact q
theorem Inv.quiet {pins:List (Addr × Obj)} {σ:St} {H:Hp} {s:Shared} (I:Inv X pins σ H s):interactive X.env = false:=by simp [interactive,I.ok.kind]
def tDrop (te:TE):TS:=fun D σ H=>te σ H fun _ H1=>D.nx σ H1
theorem ps_expr (he:PE X e te) (hs:swapsWith e none pos.line X.env = pure false:=by rfl):PS X (.Expr e pos) (tDrop te):=by
  intro pins s σ H D I h
  exact wpAny_Expr_any (thn (he pins s σ H _ I h) fun v s1 ⟨x,H1,I1,r1,q1⟩=>⟨σ,H1,I1,q1⟩) I.quiet hs
def tRet (te:TE):TS:=fun D σ H=>te σ H D.rt
theorem ps_ret (he:PE X e te):PS X (.Return (some e) pos) (tRet te):=by
  intro pins s σ H D I h
  exact wpAny_Return_some (thn (he pins s σ H _ I h) fun v s1 ⟨x,H1,I1,r1,q1⟩=>⟨x,σ,H1,I1,r1,q1⟩)
def tIfS (c:TT) (t u:TS):TS:=fun D σ H=>c σ H fun b H1=>if b = true then t D σ H1 else u D σ H1
theorem ps_if {c:Expr} {a b:List Stmt} {tc:TT} (hc:PT X c tc) (ha:PSs X a t) (hb:PSs X b u):PS X (.If c a b pos) (tIfS tc t u):=by
  intro pins s σ H D I h
  refine wpAny_If (thn (hc pins s σ H _ I h) fun d s1 ⟨H1,I1,q1⟩=>?_)
  cases d with
  | true=>exact ha pins s1 σ H1 D I1 q1
  | false=>exact hb pins s1 σ H1 D I1 q1
def tNever:TS:=fun _ _ _=>False
theorem ps_never:PS X st tNever:=fun _ _ _ _ _ _ h=>h.elim
end

abbrev TG:=V -> St -> Hp -> (St -> Hp -> Prop) -> Prop
abbrev TGs:=List V -> St -> Hp -> (St -> Hp -> Prop) -> Prop
def PG (X:Cx) (target:Expr) (t:TG):Prop :=
  ∀ (pins:List (Addr × Obj)) (s:Shared) (σ:St) (H:Hp) (v:V) (u:Value) (Q:St -> Hp -> Prop),Inv X pins σ H s -> RelV v u -> t v σ H Q ->
    wpAny (model X.prog X.w) X.A (assign target X.env u) (fun _ s'=>∃ σ' H',Inv X pins σ' H' s' /\ Q σ' H') X.xe s
def PGs (X:Cx) (ts:List Expr) (t:TGs):Prop :=
  ∀ (pins:List (Addr × Obj)) (s:Shared) (σ:St) (H:Hp) (vs:List V) (us:List Value) (Q:St -> Hp -> Prop),Inv X pins σ H s -> Vals vs us -> t vs σ H Q ->
    wpAny (model X.prog X.w) X.A (assignInOrder ((assignEach ts X.env).map (·.2)) us) (fun _ s'=>∃ σ' H',Inv X pins σ' H' s' /\ Q σ' H') X.xe s
abbrev TIp:=V -> V -> Hp -> VK -> Prop
def PIp (X:Cx) (op:Operator) (t:TIp):Prop :=
  ∀ (pins:List (Addr × Obj)) (s:Shared) (σ:St) (H:Hp) (x y:V) (v u:Value) (Q:VK),Inv X pins σ H s -> RelV x v -> RelV y u -> t x y H Q ->
    wpAny (model X.prog X.w) X.A (inplaceOp op v u) (EP X pins σ Q) X.xe s
section
variable {X:Cx} {pos:Pos}
def gName (i:Nat):TG:=fun v σ H Q=>Q (σ.set i (some v)) H
theorem pg_name {i:Nat} {x:Str} (hN:X.N.Nodup) (hi:X.N[i]? = some x) (hx:Loc X.env.scope x) (hf:X.fn x = true \/ X.env.scope.names.lookup x = some .local:=by first | exact .inl rfl | exact .inr rfl | assumption):PG X (.Name x pos) (gName i):=by
  intro pins s σ H v u Q I r h
  exact wpAny_assign_Name (store_ok I hN hi hx r (fun s' I'=>⟨_,H,I',h⟩) hf)
def gNil:TGs:=fun vs σ H Q=>vs = [] /\ Q σ H
def gCons (t:TG) (u:TGs):TGs:=fun vs σ H Q=>∃ v r,vs = v :: r /\ t v σ H fun σ' H'=>u r σ' H' Q
theorem pgs_nil:PGs X [] gNil:=by
  intro pins s σ H vs us Q I r h
  obtain ⟨e,h⟩:=h
  subst e
  cases r
  exact assignInOrder_nil ⟨σ,H,I,h⟩
theorem pgs_cons {e:Expr} {es:List Expr} {t:TG} {u:TGs} (h1:PG X e t) (h2:PGs X es u)
    (hs:(assignEach (e :: es) X.env).map (·.2) = assign e X.env :: (assignEach es X.env).map (·.2):=by rfl):PGs X (e :: es) (gCons t u):=by
  intro pins s σ H vs us Q I r h
  obtain ⟨v,vr,e1,h⟩:=h
  subst e1
  cases r with
  | cons r rr =>
    rw [hs]
    refine assignInOrder_cons (thn (h1 pins s σ H _ _ _ I r h) fun _ s1 ⟨σ1,H1,I1,q1⟩=>?_)
    exact h2 pins s1 σ1 H1 _ _ Q I1 rr q1
def gTup (K:W.Frag) (n:Nat) (t:TGs):TG:=fun v σ H Q=>∃ a xs,v = .ref a /\ SqT K H a xs /\ xs.length = n /\ t xs σ H Q
theorem pg_tup {es:List Expr} {k:Nat} {t:TGs} {n:Nat} (hc:X.calm = true) (h:PGs X es t)
    (hn:(assignEach es X.env).length = n:=by rfl) (hst:(assignEach es X.env).findIdx? (·.1) = none:=by rfl):PG X (.Tuple es k pos) (gTup X.K n t):=by
  intro pins s σ H v u Q I r hw
  obtain ⟨a,xs,e1,hq,hl,hw⟩:=hw
  subst e1
  cases r
  obtain ⟨its,rv,ht,hz⟩:=I.tuple hq
  refine assign_Tuple_tuple (I.ok.hd hc) ht (by simp [hn,<- hl,rv.length]) hst fun h' hx=>?_
  have I1:Inv X pins σ H { s with heap:=h' }:=I.kept (t':=s.toks) fun b o e=>hx b o (Nat.ne_of_lt (Heap.lt_size e)) e
  exact h pins _ σ H xs _ Q I1 (by simpa using rv) hw
def tAsg (te:TE) (g:TG):TS:=fun D σ H=>te σ H fun x H1=>g x σ H1 D.nx
theorem ps_set {i:Nat} {x:Str} {e:Expr} {te:TE} {pos':Pos} (hN:X.N.Nodup) (hi:X.N[i]? = some x) (hx:Loc X.env.scope x) (he:PE X e te) (hs:swapsWith e (some (.Name x pos')) pos.line X.env = pure false:=by rfl) (hf:X.fn x = true \/ X.env.scope.names.lookup x = some .local:=by first | exact .inl rfl | exact .inr rfl | assumption) :
    PS X (.Assign [.Name x pos'] e pos) (tAsg te (gName i)):=by
  intro pins s σ H D I h
  refine wpAny_Assign_Name (thn (he pins s σ H _ I h) fun v s1 ⟨y,H1,I1,r1,q1⟩=>?_) hs
  exact store_ok I1 hN hi hx r1 (fun s2 I2=>⟨_,H1,I2,q1⟩) hf
def tPar (i j:Nat) (ta:TA):TS:=fun D σ H=>ta σ H fun vs H1=>∃ v w,vs = [v,w] /\ D.nx ((σ.set i (some v)).set j (some w)) H1
theorem ps_par {i j:Nat} {x y:Str} {a b:Expr} {ta:TA} {px py pt:Pos} {kt k2 pt2} (hc:X.calm = true) (hN:X.N.Nodup) (hi:X.N[i]? = some x) (hj:X.N[j]? = some y) (hij:i ≠ j)
    (hx:X.env.scope.names.lookup x = some .local) (hy:X.env.scope.names.lookup y = some .local) (ha:PA X [a,b] ta)
    (hw:swappedStores [.Tuple [.Name x px,.Name y py] kt pt] (.Tuple [a,b] k2 pt2) X.env = pure (some [x,y]))
    (hs:swapsWithSole [.Tuple [.Name x px,.Name y py] kt pt] (.Tuple [a,b] k2 pt2) pos.line X.env = pure false:=by rfl) :
    PS X (.Assign [.Tuple [.Name x px,.Name y py] kt pt] (.Tuple [a,b] k2 pt2) pos) (tPar i j ta):=by
  intro pins s σ H D I h
  rw [exec_Assign_arm]
  refine wpAny_bind (wpAny_standAt ?_)
  rw [hs]
  refine wpAny_bind (wpAny_pure ?_)
  rw [if_neg (by decide)]
  refine wpAny_bind (Tuple_ (thn (ha _ pins s σ H _ I h) fun us s1 ⟨vs,H1,I1,r1,q1⟩=>?_))
  obtain ⟨v,w,e1,q1⟩:=q1
  subst e1
  obtain ⟨u1,u2,rfl,rv,rw'⟩:∃ u1 u2,us = [u1,u2] /\ RelV v u1 /\ RelV w u2:=by
    cases r1 with
    | cons p q =>
      cases q with
      | cons p' q' =>
        cases q'
        exact ⟨_,_,rfl,p,p'⟩
  refine wpAny_newObj_type ?_ (by show 2 <= sizeLine; decide)
  have I2:Inv X pins σ H1 { s1 with heap:=s1.heap.push { cls:=.type "tuple", data:=.seq [u1,u2].toArray } }:=I1.kept (t':=s1.toks) fun b o e=>Heap.get?_push_of_some _ e
  rw [hw]
  refine wpAny_bind (wpAny_pure ?_)
  show wpAny (model X.prog X.w) X.A (do rule "assign.swapped-stores"; let items <- unpackItems (.ref s1.heap.objs.size) 2 none; assignInOrder [fun v=>bindName X.env y v,fun v=>bindName X.env x v] items.reverse; pure Flow.next) _ _ _
  refine wpAny_bind (wpAny_rule (wpAny_bind (unpackItems_tuple (items:=#[u1,u2]) (I.ok.hd hc) (IsTup.new s1.heap _) fun h' hx'=>?_)))
  have I3:=I2.kept (h':=h') (t':=s1.toks) fun b o e=>hx' b o (Nat.ne_of_lt (Heap.lt_size e)) e
  show wpAny _ _ (assignInOrder [fun v=>bindName X.env y v,fun v=>bindName X.env x v] [u2,u1] >>= fun _=>pure Flow.next) _ _ _
  refine wpAny_bind (assignInOrder_cons (wpAny_bindName (store_ok I3 hN hj (.inl hy) rw' (fun s2 I4=>?_) (.inr hy))))
  refine assignInOrder_cons (wpAny_bindName (store_ok I4 hN hi (.inl hx) rv (fun s3 I5=>assignInOrder_nil (wpAny_pure ?_)) (.inr hx)))
  rw [List.set_comm _ _ (Ne.symm hij)] at I5
  exact ⟨_,H1,I5,q1⟩
def tAug (i:Nat) (te:TE) (ti:TIp):TS:=fun D σ H=>∃ x,σ[i]? = some (some x) /\ te σ H fun y H1=>ti x y H1 fun z H2=>D.nx (σ.set i (some z)) H2
theorem ps_aug {i:Nat} {x:Str} {e:Expr} {te:TE} {op:Operator} {ti:TIp} {pos':Pos} (hN:X.N.Nodup) (hi:X.N[i]? = some x) (hx:Loc X.env.scope x) (he:PE X e te) (ho:PIp X op ti) (hf:X.fn x = true \/ X.env.scope.names.lookup x = some .local:=by first | exact .inl rfl | exact .inr rfl | assumption) :
    PS X (.AugAssign (.Name x pos') op e pos) (tAug i te ti):=by
  intro pins s σ H D I h
  obtain ⟨v,e1,h⟩:=h
  obtain ⟨m,hn,hl⟩:=I.loc
  have vis:Vis X.env.scope x:=by rcases hx with k | k; exact .inl k; exact .inr (.inl k)
  obtain ⟨u,r,l⟩:=hl i x v hi e1 vis
  refine wpAny_AugAssign_Name ?_
  have go:wpAny (model X.prog X.w) X.A (eval e X.env) (fun w s₂=>wpAny (model X.prog X.w) X.A (inplaceOp op u w) (fun r s₃=>wpAny (model X.prog X.w) X.A (storeName X.env x r) (fun _=>SP X pins D .next) X.xe s₃) X.xe s₂) X.xe s:=by
    refine thn (he pins s σ H _ I h) fun w s1 ⟨y,H1,I1,r1,q1⟩=>?_
    refine thn (ho pins s1 σ H1 v y u w _ I1 r r1 q1) fun z s2 ⟨zv,H2,I2,r2,q2⟩=>?_
    exact store_ok I2 hN hi hx r2 (fun s3 I3=>⟨_,H2,I3,q2⟩) hf
  rcases l with ⟨hk,hm⟩ | ⟨hk,c,hc,hcell⟩
  · exact wpAny_loadName_local I.ok.kind hk hn hm go
  · rcases hk with hk | hk
    · exact wpAny_loadName_cell I.ok.kind hk hc hcell go
    · rcases hx with k | k
      · have:X.env.scope.names.lookup x = some .free:=hk
        rw [k] at this; cases this
      · have:X.env.scope.names.lookup x = some .free:=hk
        rw [k] at this; cases this
end

section
variable {X:Cx} {pos:Pos}
def tWhile (c:TT) (tb:TS):TS:=fun D σ H=>∃ W:Nat -> St -> Hp -> Prop,(∃ m,W m σ H) /\ ∀ m σ H,W m σ H ->
  c σ H fun b H1=>if b = true then ∃ N:St -> Hp -> Prop,(∀ σ' H',N σ' H' -> ∃ m',m' < m /\ W m' σ' H') /\ tb { D with nx:=N,ct:=N,bk:=D.nx } σ H1 else D.nx σ H1
theorem ps_while {c:Expr} {body:List Stmt} {tc:TT} {tb:TS} (hp:PassesOwn (model X.prog X.w) X.A X.env X.xe) (hc:PT X c tc) (hb:PSs X body tb):PS X (.While c body [] pos) (tWhile tc tb):=by
  intro pins s σ H D I h
  obtain ⟨W,⟨m0,w0⟩,turn⟩:=h
  refine wpAny_While (codeAny_whileLoop (fun n s'=>∃ σ' H',Inv X pins σ' H' s' /\ W n σ' H') ?_ m0 ⟨σ,H,I,w0⟩)
  rintro n s1 ⟨σ1,H1,I1,w1⟩
  refine wpAny_passesOwn hp (thn (hc pins s1 σ1 H1 _ I1 (turn n σ1 H1 w1)) fun b s2 ⟨H2,I2,q2⟩=>?_)
  cases b with
  | true =>
    obtain ⟨N,hN,q2⟩:=q2
    rw [if_pos rfl]
    refine wpAny_passesOwn hp (thn (hb pins s2 σ1 H2 _ I2 q2) fun f s3 q3=>?_)
    cases f with
    | next =>
      obtain ⟨σ3,H3,I3,n3⟩:=q3
      obtain ⟨m',hm,w3⟩:=hN σ3 H3 n3
      exact ⟨m',hm,σ3,H3,I3,w3⟩
    | cont =>
      obtain ⟨σ3,H3,I3,n3⟩:=q3
      obtain ⟨m',hm,w3⟩:=hN σ3 H3 n3
      exact ⟨m',hm,σ3,H3,I3,w3⟩
    | brk=>exact q3
    | ret v=>exact q3
  | false =>
    rw [if_neg Bool.false_ne_true]
    exact wpAny_execs_nil ⟨σ1,H2,I2,q2⟩
end

structure It where
  go:Nat -> Hp -> Prop
  yld:Nat -> Hp -> V -> Hp -> Prop
  stop:Nat -> Hp -> Prop
def FpOk (X:Cx) (pins:List (Addr × Obj)) (H:Hp) (b:Addr):Prop :=
  H b = none /\ b ≠ X.env.locals /\ b ∉ X.fs /\ (b ∈ X.ex \/ X.s₀.heap.objs.size <= b) /\ (∀ x c,X.env.cells.lookup x = some c -> c ≠ b) /\ ∀ p ∈ X.pn ++ pins,p.1 ≠ b
theorem Inv.fpOk {X:Cx} {pins:List (Addr × Obj)} {σ:St} {H H':Hp} {s:Shared} {b:Addr} (I:Inv X pins σ H s) (hb:s.heap.objs.size <= b) (hn:H' b = none):FpOk X pins H' b:=by
  refine ⟨hn,Nat.ne_of_gt (Nat.lt_of_lt_of_le I.lt hb),I.nofs hb,.inr (Nat.le_trans I.sz hb),fun x c e z=>?_,fun p hp z=>?_⟩
  · obtain ⟨v,q⟩:=I.cell x c e
    exact absurd (Nat.lt_of_lt_of_le q.lt (by rw [z]; exact hb)) (Nat.lt_irrefl _)
  · exact absurd (Nat.lt_of_lt_of_le (Heap.lt_size (I.pin p hp).1) (by rw [z]; exact hb)) (Nat.lt_irrefl _)
structure Turn (P:Program) (w:World) (K:W.Frag) (tg:Expr) (J:It) (fp:List Addr) (it:Addr) (tn:Nat -> Heap -> Prop):Prop where
  mem:it ∈ fp
  obj:∀ i h,tn i h -> ∀ b ∈ fp,∃ o,h.get? b = some o /\ ∀ v,o.data ≠ .cell v
  keep:∀ i h h',tn i h -> (∀ b ∈ fp,∀ o,h.get? b = some o -> h'.get? b = some o) -> tn i h'
  item:∀ (X:Cx),X.prog = P -> X.w = w -> X.K = K -> X.calm = true -> ∀ (i:Nat) (pins:List (Addr × Obj)) (s:Shared) (σ:St) (H:Hp) (E:Value -> Shared -> Prop),Inv X pins σ H s -> (∀ b ∈ fp,FpOk X pins H b) -> tn i s.heap -> J.go i H ->
    wpAny (model P w) X.A (pyNext (.ref it)) (fun r s1=>∃ u,r = some u /\
      wpAny (model P w) X.A (letOwnedTupleGo tg (.ref it) u) (fun _ s2=>∃ x H',Inv X pins σ H' s2 /\ RelV x u /\ J.yld i H x H' /\ tn (i + 1) s2.heap /\ ∀ b ∈ fp,H' b = none) E s1) E s
  done:∀ (X:Cx),X.prog = P -> X.w = w -> X.K = K -> X.calm = true -> ∀ (i:Nat) (pins:List (Addr × Obj)) (s:Shared) (σ:St) (H:Hp) (E:Value -> Shared -> Prop),Inv X pins σ H s -> (∀ b ∈ fp,FpOk X pins H b) -> tn i s.heap -> J.stop i H ->
    wpAny (model P w) X.A (pyNext (.ref it)) (fun r s1=>r = none /\ Inv X pins σ H s1) E s
  self:∀ (A:Around) (i:Nat) (s:Shared) (Q:Value -> Shared -> Prop) (E:Value -> Shared -> Prop),tn i s.heap -> Q (.ref it) s -> wpAny (model P w) A (pyIter (.ref it)) Q E s
abbrev TI:=St -> Hp -> (It -> Hp -> Prop) -> Prop
def PIE (X:Cx) (pins:List (Addr × Obj)) (σ:St) (tg:Expr) (R:It -> Hp -> Prop) (itv:Value) (s2:Shared):Prop :=
  ∃ (it:Addr) (fp:List Addr) (tn:Nat -> Heap -> Prop) (J:It) (H':Hp),itv = .ref it /\ Inv X pins σ H' s2 /\ Turn X.prog X.w X.K tg J fp it tn /\ tn 0 s2.heap /\ (∀ b ∈ fp,FpOk X pins H' b) /\ R J H'
def PI (X:Cx) (tg iter:Expr) (wi:TI):Prop :=
  ∀ (pins:List (Addr × Obj)) (s:Shared) (σ:St) (H:Hp) (R:It -> Hp -> Prop),Inv X pins σ H s -> wi σ H R ->
    wpAny (model X.prog X.w) X.A (eval iter X.env) (fun v s1=>wpAny (model X.prog X.w) X.A (pyIter v) (PIE X pins σ tg R) X.xe s1) X.xe s

theorem go_of {M:Model} {A:Around} {E:Value -> Shared -> Prop} {s:Shared} {tg:Expr} {it:Addr} {u:Value} {o:Obj} {n:String} {vs:Array Value} {Q:Unit -> Shared -> Prop} (ho:s.heap.get? it = some o) (hc:o.cls = .type n) (hd:o.data = .fields vs)
    (hn:["enumerate", "zip", "dict_itemiterator", "dict_reverseitemiterator", "odict_iterator", "itertools.zip_longest", "itertools.pairwise"].contains n = false) (hQ:Q () s):wpAny M A (letOwnedTupleGo tg (.ref it) u) Q E s:=by
  unfold letOwnedTupleGo
  cases tg <;> first
    | exact wpAny_pure hQ
    | (cases u <;> first
        | exact wpAny_pure hQ
        | (refine wpAny_bind (wpAny_load ho ?_)
           rw [hc,hd]
           show wpAny M A (if (["enumerate", "zip", "dict_itemiterator", "dict_reverseitemiterator", "odict_iterator", "itertools.zip_longest", "itertools.pairwise"].contains n && vs[0]? == some (rawInt _)) = true then _ else _) Q E s
           rw [if_neg (by intro h; rw [hn,Bool.false_and] at h; cases h)]
           exact wpAny_pure hQ))

def Itl (K:W.Frag) (a:Addr):It :=
  ⟨fun i H=>∃ xs x,SqL K H a xs /\ xs[i]? = some x,fun i H x H'=>H' = H /\ ∀ xs,SqL K H a xs -> xs[i]? = some x,fun i H=>∃ xs,SqL K H a xs /\ xs.length <= i⟩
def Itt (K:W.Frag) (a:Addr):It :=
  ⟨fun i H=>∃ xs x,SqT K H a xs /\ xs[i]? = some x,fun i H x H'=>H' = H /\ ∀ xs,SqT K H a xs -> xs[i]? = some x,fun i H=>∃ xs,SqT K H a xs /\ xs.length <= i⟩
def Itr (lo:Int) (n:Nat):It:=⟨fun i _=>i < n,fun i H x H'=>H' = H /\ x = .int (lo + i),fun i _=>n <= i⟩
theorem turn_list {P:Program} {w:World} {K:W.Frag} {tg:Expr} (a it:Addr):Turn P w K tg (Itl K a) [it] it (fun i h=>h.IsListIter it a i) where
  mem:=by simp
  obj:=fun i h st b hb=>by
    have e:b = it:=by simpa using hb
    subst e
    obtain ⟨o,e,c,d⟩:=st
    exact ⟨o,e,fun v z=>by rw [d] at z; cases z⟩
  keep:=fun i h h' st k=>st.at fun o e=>k it (by simp) o e
  item:=by
    intro X hP hw hK hc i pins s σ H E I hf st hg
    subst hP hw hK
    obtain ⟨xs,x,hq,hx⟩:=hg
    obtain ⟨its,rv,p,hz⟩:=I.list hq
    obtain ⟨u,hu,ru⟩:=rv.get hx
    obtain ⟨f0,f1,f2,f3,f4,f5⟩:=hf it (by simp)
    refine wpAny_pyNext_list_item st p.isList (x:=u) (by simpa using hu) fun h' st' sb=>?_
    have I1:Inv X pins σ H { s with heap:=h' }:=I.turned (t':=s.toks) (fun b o hb e=>(sb.2 b hb).trans e) f0 f1 f3 f4 f5
    obtain ⟨o,e,c,d⟩:=id st'
    exact ⟨u,rfl,go_of (s:={ s with heap:=h' }) e c d (by decide) ⟨x,H,I1,ru,⟨rfl,fun ys hy=>by rw [I.list_inj hy hq]; exact hx⟩,st',fun b hb=>(hf b hb).1⟩⟩
  done:=by
    intro X hP hw hK hc i pins s σ H E I hf st hg
    subst hP hw hK
    obtain ⟨xs,hq,hx⟩:=hg
    obtain ⟨its,rv,p,hz⟩:=I.list hq
    obtain ⟨f0,f1,f2,f3,f4,f5⟩:=hf it (by simp)
    have hl:=rv.length
    exact wpAny_pyNext_list_end (I.ok.hd hc) st p.isList (by simp; omega) fun h' eb=>⟨rfl,I.turned (t':=s.toks) (fun b o hb e=>eb b o hb e) f0 f1 f3 f4 f5⟩
  self:=fun _ _ _ _ _ st h=>wpAny_pyIter_listiter st h
theorem turn_tuple {P:Program} {w:World} {K:W.Frag} {tg:Expr} (a it:Addr):Turn P w K tg (Itt K a) [it] it (fun i h=>h.IsTupleIter it a i) where
  mem:=by simp
  obj:=fun i h st b hb=>by
    have e:b = it:=by simpa using hb
    subst e
    obtain ⟨o,e,c,d⟩:=st
    exact ⟨o,e,fun v z=>by rw [d] at z; cases z⟩
  keep:=fun i h h' st k=>st.at fun o e=>k it (by simp) o e
  item:=by
    intro X hP hw hK hc i pins s σ H E I hf st hg
    subst hP hw hK
    obtain ⟨xs,x,hq,hx⟩:=hg
    obtain ⟨its,rv,p,hz⟩:=I.tuple hq
    obtain ⟨u,hu,ru⟩:=rv.get hx
    obtain ⟨f0,f1,f2,f3,f4,f5⟩:=hf it (by simp)
    refine wpAny_pyNext_tuple_item st (show s.heap.IsTuple a its.toArray from p) (x:=u) (by simpa using hu) fun h' st' sb=>?_
    have I1:Inv X pins σ H { s with heap:=h' }:=I.turned (t':=s.toks) (fun b o hb e=>(sb.2 b hb).trans e) f0 f1 f3 f4 f5
    obtain ⟨o,e,c,d⟩:=id st'
    exact ⟨u,rfl,go_of (s:={ s with heap:=h' }) e c d (by decide) ⟨x,H,I1,ru,⟨rfl,fun ys hy=>by rw [I.tuple_inj hy hq]; exact hx⟩,st',fun b hb=>(hf b hb).1⟩⟩
  done:=by
    intro X hP hw hK hc i pins s σ H E I hf st hg
    subst hP hw hK
    obtain ⟨xs,hq,hx⟩:=hg
    obtain ⟨its,rv,p,hz⟩:=I.tuple hq
    obtain ⟨f0,f1,f2,f3,f4,f5⟩:=hf it (by simp)
    have hl:=rv.length
    exact wpAny_pyNext_tuple_end (I.ok.hd hc) st (show s.heap.IsTuple a its.toArray from p) (by simp; omega) fun h' eb=>⟨rfl,I.turned (t':=s.toks) (fun b o hb e=>eb b o hb e) f0 f1 f3 f4 f5⟩
  self:=fun _ _ _ _ _ st h=>wpAny_pyIter_tupleiter st h
theorem turn_range {P:Program} {w:World} {K:W.Frag} {tg:Expr} (it:Addr) (lo:Int) (n:Nat):Turn P w K tg (Itr lo n) [it] it (fun i h=>IsRangeIter h it (lo + (i:Nat) * 1) ((n:Int) - (i:Nat)) 1) where
  mem:=by simp
  obj:=fun i h st b hb=>by
    have e:b = it:=by simpa using hb
    subst e
    exact ⟨_,st,fun v z=>by
      have z':Data.fields _ = Data.cell v:=z
      cases z'⟩
  keep:=fun i h h' st k=>k it (by simp) _ st
  item:=by
    intro X hP hw hK hc i pins s σ H E I hf st hg
    subst hP hw hK
    obtain ⟨f0,f1,f2,f3,f4,f5⟩:=hf it (by simp)
    have W:=Walks.range (prog:=X.prog) (w:=X.w) (I.ok.hd hc) it lo 1 n
    refine W.item i s _ _ hg st fun v h' tk hv st' kk=>?_
    obtain ⟨t,rfl⟩:=hv
    have I1:Inv X pins σ H { s with heap:=h',toks:=tk }:=I.turned (fun b o hb e=>kk b o (by simpa using hb) e) f0 f1 f3 f4 f5
    refine ⟨_,rfl,go_of (s:={ s with heap:=h',toks:=tk }) (n := "range_iterator") st' rfl rfl (by decide) ⟨.int (lo + i),H,I1,⟨t,?_⟩,⟨rfl,rfl⟩,st',fun b hb=>(hf b hb).1⟩⟩
    rw [Int.mul_one]
  done:=by
    intro X hP hw hK hc i pins s σ H E I hf st hg
    subst hP hw hK
    obtain ⟨f0,f1,f2,f3,f4,f5⟩:=hf it (by simp)
    exact wpAny_pyNext_range_end (I.ok.hd hc) st (by have:n <= i:=hg; omega) fun h' eb=>⟨rfl,I.turned (t':=s.toks) (fun b o hb e=>eb b o hb e) f0 f1 f3 f4 f5⟩
  self:=fun _ _ _ _ _ st h=>wpAny_pyIter_rangeiter st h
end L2

namespace L2
open PySem PySem.Spec PyProof.Rows
section
variable {X:Cx} {tg:Expr}
def iList (K:W.Frag) (tl:TE):TI:=fun σ H R=>tl σ H fun x H1=>∃ a,x = .ref a /\ (∃ xs,SqL K H1 a xs) /\ R (Itl K a) H1
def iTup (K:W.Frag) (tl:TE):TI:=fun σ H R=>tl σ H fun x H1=>∃ a,x = .ref a /\ (∃ xs,SqT K H1 a xs) /\ R (Itt K a) H1
theorem pi_list {l:Expr} {tl:TE} (hl:PE X l tl):PI X tg l (iList X.K tl):=by
  intro pins s σ H R I h
  refine thn (hl pins s σ H _ I h) fun v s1 ⟨x,H1,I1,r1,q1⟩=>?_
  obtain ⟨a,e,⟨xs,hq⟩,q⟩:=q1
  subst e
  cases r1
  obtain ⟨its,rv,p,hz⟩:=I1.list hq
  refine wpAny_pyIter_list p.isList ?_
  refine ⟨s1.heap.objs.size,[s1.heap.objs.size],_,_,H1,rfl,I1.kept (t':=s1.toks) fun b o e=>Heap.get?_push_of_some _ e,turn_list a _,⟨_,Heap.get?_push_size _ rfl,rfl,rfl⟩,fun b hb=>?_,q⟩
  have e:b = s1.heap.objs.size:=by simpa using hb
  subst e
  exact I1.fpOk (Nat.le_refl _) (I1.hok.fresh (Nat.le_refl _))
theorem pi_tup {l:Expr} {tl:TE} (hl:PE X l tl):PI X tg l (iTup X.K tl):=by
  intro pins s σ H R I h
  refine thn (hl pins s σ H _ I h) fun v s1 ⟨x,H1,I1,r1,q1⟩=>?_
  obtain ⟨a,e,⟨xs,hq⟩,q⟩:=q1
  subst e
  cases r1
  obtain ⟨its,rv,p,hz⟩:=I1.tuple hq
  refine wpAny_pyIter_tuple (show s1.heap.IsTuple a its.toArray from p) ?_
  refine ⟨s1.heap.objs.size,[s1.heap.objs.size],_,_,H1,rfl,I1.kept (t':=s1.toks) fun b o e=>Heap.get?_push_of_some _ e,turn_tuple a _,⟨_,Heap.get?_push_size _ rfl,rfl,rfl⟩,fun b hb=>?_,q⟩
  have e:b = s1.heap.objs.size:=by simpa using hb
  subst e
  exact I1.fpOk (Nat.le_refl _) (I1.hok.fresh (Nat.le_refl _))
theorem range_it {pins:List (Addr × Obj)} {σ:St} {H:Hp} {s:Shared} {R:It -> Hp -> Prop} {E:Value -> Shared -> Prop} {lo hi:Int} {t u v:Tok} {tk:Nat} (I:Inv X pins σ H s) (h1 : -(2 ^ 62) <= lo) (h2:lo < 2 ^ 62) (h3 : -(2 ^ 62) <= hi) (h4:hi < 2 ^ 62)
    (q:R (Itr lo (hi - lo).toNat) H):wpAny (model X.prog X.w) X.A (pyIter (.ref s.heap.objs.size)) (PIE X pins σ tg R) E { s with heap:=s.heap.push { cls:=.type "range", data:=.fields #[.int lo t,.int hi u,.int 1 v] },toks:=tk }:=by
  refine wpAny_pyIter_range (IsRange.new ..) (small_one h1 h2 h3 h4) ?_
  have I1:Inv X pins σ H { s with heap:=s.heap.push { cls:=.type "range", data:=.fields #[.int lo t,.int hi u,.int 1 v] },toks:=tk }:=I.kept fun b o e=>Heap.get?_push_of_some _ e
  refine ⟨(s.heap.push { cls:=.type "range", data:=.fields #[.int lo t,.int hi u,.int 1 v] }).objs.size,[(s.heap.push { cls:=.type "range", data:=.fields #[.int lo t,.int hi u,.int 1 v] }).objs.size],_,_,H,rfl,
    I1.kept (t':=tk) fun b o e=>Heap.get?_push_of_some _ e,turn_range _ lo (hi - lo).toNat,?_,fun b hb=>?_,q⟩
  · have e1:lo + ((0:Nat):Int) * 1 = lo:=by simp
    have e2:(((hi - lo).toNat:Nat):Int) - ((0:Nat):Int) = Builtin.Range.rangeSize lo hi 1:=by rw [rangeSize_one]; split <;> omega
    show IsRangeIter _ _ (lo + ((0:Nat):Int) * 1) ((((hi - lo).toNat:Nat):Int) - ((0:Nat):Int)) 1
    rw [e1,e2]
    exact Heap.get?_push_size _ rfl
  · have e:b = (s.heap.push { cls:=.type "range", data:=.fields #[.int lo t,.int hi u,.int 1 v] }).objs.size:=by simpa using hb
    subst e
    exact I1.fpOk (Nat.le_refl _) (I1.hok.fresh (Nat.le_refl _))
def iRng1 (ta:TA):TI:=fun σ H R=>ta σ H fun vs H1=>∃ j:Int,vs = [.int j] /\ -(2 ^ 62) <= j /\ j < 2 ^ 62 /\ R (Itr 0 j.toNat) H1
theorem pi_range1 {a:Expr} {ta:TA} {p pos:Pos} (hg:Gl X "range") (hm:X.mg "range" = none) (ha:PA X [a] ta) (hs:starEach [a] X.env = [(false,eval a X.env)]:=by rfl):PI X tg (.Call (.Name "range" p) [a] [] pos) (iRng1 ta):=by
  intro pins s σ H R I h
  refine Call_ (ld_blt I hg hm boot_range (PyProof.Rows.callWith_type1 (thn (ha pos pins s σ H _ I h) fun us s1 ⟨vs,H1,I1,r1,q1⟩=>?_) hs rfl))
  obtain ⟨j,e,q1,q2,q⟩:=q1
  subst e
  cases r1 with
  | cons r rr =>
    cases rr
    obtain ⟨t,rfl⟩:=r
    exact call_range_1 (range_it I1 (by omega) (by omega) q1 q2 (by simpa using q))
def tFor (wi:TI) (g:TG) (tb:TS):TS:=fun D σ H=>wi σ H fun J H1=>∃ W:Nat -> Nat -> St -> Hp -> Prop,(∃ m,W 0 m σ H1) /\ ∀ i m σ H,W i m σ H ->
  (J.stop i H /\ D.nx σ H) \/ (J.go i H /\ ∃ N:St -> Hp -> Prop,(∀ σ' H',N σ' H' -> ∃ m',m' < m /\ W (i + 1) m' σ' H') /\ ∀ x H',J.yld i H x H' -> g x σ H' fun σ2 H2=>tb { D with nx:=N,ct:=N,bk:=D.nx } σ2 H2)
def pinsAt (fp:List Addr) (h:Heap):List (Addr × Obj):=fp.filterMap fun b=>(h.get? b).map fun o=>(b,o)
theorem mem_pinsAt {fp:List Addr} {h:Heap} {b:Addr} {o:Obj} (hb:b ∈ fp) (e:h.get? b = some o):(b,o) ∈ pinsAt fp h:=List.mem_filterMap.mpr ⟨b,hb,by rw [e]; rfl⟩
theorem of_pinsAt {fp:List Addr} {h:Heap} {p:Addr × Obj} (hp:p ∈ pinsAt fp h):p.1 ∈ fp /\ h.get? p.1 = some p.2:=by
  obtain ⟨b,hb,e⟩:=List.mem_filterMap.mp hp
  cases q:h.get? b with
  | none=>rw [q] at e; cases e
  | some o =>
    rw [q] at e
    have e':(b,o) = p:=Option.some.inj e
    subst e'
    exact ⟨hb,q⟩
theorem Inv.pinned {pins:List (Addr × Obj)} {σ:St} {H:Hp} {s:Shared} {fp:List Addr} (I:Inv X pins σ H s) (hf:∀ b ∈ fp,FpOk X pins H b) (ho:∀ b ∈ fp,∃ o,s.heap.get? b = some o /\ ∀ v,o.data ≠ .cell v):Inv X (pins ++ pinsAt fp s.heap) σ H s :=
  I.pins_of fun p hp=>(List.mem_append.mp hp).elim (fun z=>I.pin p (List.mem_append_right _ z)) fun z=>by
    obtain ⟨hb,e⟩:=of_pinsAt z
    obtain ⟨f0,f1,f2,_⟩:=hf p.1 hb
    obtain ⟨o,e',d⟩:=ho p.1 hb
    rw [e] at e'; cases e'
    exact ⟨e,f0,f1,f2,d⟩
theorem Inv.unpinned {pins pl:List (Addr × Obj)} {σ:St} {H:Hp} {s:Shared} (I:Inv X (pins ++ pl) σ H s):Inv X pins σ H s:=I.pins_of fun p hp=>I.pin p (List.mem_append_right _ (List.mem_append_left _ hp))
theorem ps_for {iter:Expr} {body:List Stmt} {wi:TI} {g:TG} {tb:TS} {pos:Pos} (hp:PassesOwn (model X.prog X.w) X.A X.env X.xe) (hc:X.calm = true) (hi:PI X tg iter wi) (hg:PG X tg g) (hb:PSs X body tb)
    (hs:∀ x,foldedSetIterable iter X.env x = pure x:=by intro _; rfl):PS X (.For tg iter body [] pos) (tFor wi g tb):=by
  intro pins s σ H D I h
  refine wpAny_For (thn (hi pins s σ H _ I h) fun v s1 h1=>thn h1 fun itv s2 h2=>?_) hs
  obtain ⟨it,fp,tn,J,H2,e,I2,T,st2,f2,W,⟨m0,w0⟩,turn⟩:=h2
  subst e
  have stat:∀ {H':Hp},(∀ b ∈ fp,H' b = none) -> ∀ b ∈ fp,FpOk X pins H' b:=fun hn b hb=>⟨hn b hb,(f2 b hb).2⟩
  refine codeAny_forLoop_any (fun n s'=>∃ i σ' H',Inv X pins σ' H' s' /\ tn i s'.heap /\ (∀ b ∈ fp,H' b = none) /\ W i n σ' H') ?_ m0 ⟨0,σ,H2,I2,st2,fun b hb=>(f2 b hb).1,w0⟩
  rintro n s3 ⟨i,σ3,H3,I3,st3,fr3,w3⟩
  rcases turn i n σ3 H3 w3 with ⟨stop,qn⟩ | ⟨go,N,hN,step⟩
  · refine wpAny_passesOwn hp (thn (T.done X rfl rfl rfl hc i pins s3 σ3 H3 X.xe I3 (stat fr3) st3 stop) fun r s4 ⟨hr,I4⟩=>?_)
    subst hr
    exact wpAny_execs_nil ⟨σ3,H3,I4,qn⟩
  · refine wpAny_passesOwn hp (thn (T.item X rfl rfl rfl hc i pins s3 σ3 H3 X.xe I3 (stat fr3) st3 go) fun r s4 ⟨u,hr,h4⟩=>?_)
    subst hr
    refine wpAny_passesOwn hp (thn h4 fun _ s5 ⟨x,H5,I5,r5,y5,st5,fr5⟩=>?_)
    have I5':=I5.pinned (stat fr5) (T.obj _ _ st5)
    refine wpAny_passesOwn hp (thn (hg _ s5 σ3 H5 x u _ I5' r5 (step x H5 y5)) fun _ s6 ⟨σ6,H6,I6,q6⟩=>?_)
    refine wpAny_passesOwn hp (thn (hb _ s6 σ6 H6 _ I6 q6) fun f s7 q7=>?_)
    have again:∀ {σ7:St} {H7:Hp},Inv X (pins ++ pinsAt fp s5.heap) σ7 H7 s7 -> N σ7 H7 -> ∃ m,m < n /\ ∃ i σ' H',Inv X pins σ' H' s7 /\ tn i s7.heap /\ (∀ b ∈ fp,H' b = none) /\ W i m σ' H':=fun {σ7 H7} I7 n7=>by
      obtain ⟨m',hm,w7⟩:=hN σ7 H7 n7
      refine ⟨m',hm,i + 1,σ7,H7,I7.unpinned,T.keep _ _ _ st5 fun b hb o e=>(I7.pin (b,o) (List.mem_append_right _ (List.mem_append_right _ (mem_pinsAt hb e)))).1,fun b hb=>?_,w7⟩
      obtain ⟨o,e,d⟩:=T.obj _ _ st5 b hb
      exact (I7.pin (b,o) (List.mem_append_right _ (List.mem_append_right _ (mem_pinsAt hb e)))).2.1
    cases f with
    | next=>obtain ⟨σ7,H7,I7,n7⟩:=q7; exact again I7 n7
    | cont=>obtain ⟨σ7,H7,I7,n7⟩:=q7; exact again I7 n7
    | brk=>obtain ⟨σ7,H7,I7,q7⟩:=q7; exact ⟨σ7,H7,I7.unpinned,q7⟩
    | ret v=>obtain ⟨x7,σ7,H7,I7,r7,q7⟩:=q7; exact ⟨x7,σ7,H7,I7.unpinned,r7,q7⟩
end

end L2

namespace L2
open PySem PySem.Spec PyProof.Rows

abbrev R2:=V -> V -> Hp -> VK -> Prop
def OpR (X:Cx) (f:Value -> Value -> Sem Value) (r:R2):Prop :=
  ∀ (pins:List (Addr × Obj)) (s:Shared) (σ:St) (H:Hp) (x y:V) (v u:Value) (Q:VK),Inv X pins σ H s -> RelV x v -> RelV y u -> r x y H Q ->
    wpAny (model X.prog X.w) X.A (f v u) (EP X pins σ Q) X.xe s
def UnR (X:Cx) (f:Value -> Sem Value) (r:V -> Hp -> VK -> Prop):Prop :=
  ∀ (pins:List (Addr × Obj)) (s:Shared) (σ:St) (H:Hp) (x:V) (v:Value) (Q:VK),Inv X pins σ H s -> RelV x v -> r x H Q ->
    wpAny (model X.prog X.w) X.A (f v) (EP X pins σ Q) X.xe s
def CallR (X:Cx) (f:Value) (r:List V -> Hp -> VK -> Prop):Prop :=
  ∀ (pins:List (Addr × Obj)) (s:Shared) (σ:St) (H:Hp) (xs:List V) (us:List Value) (Q:VK),Inv X pins σ H s -> Vals xs us -> r xs H Q ->
    wpAny (model X.prog X.w) X.A (call f us) (EP X pins σ Q) X.xe s
def tOp (r:R2) (ta tb:TE):TE:=fun σ H Q=>ta σ H fun x H1=>tb σ H1 fun y H2=>r x y H2 Q
def tUn (r:V -> Hp -> VK -> Prop) (ta:TE):TE:=fun σ H Q=>ta σ H fun x H1=>r x H1 Q
def rI (C:Int -> Int -> Prop) (g:Int -> Int -> V):R2:=fun x y H Q=>∃ i j,x = .int i /\ y = .int j /\ C i j /\ Q (g i j) H
def rI0 (g:Int -> Int -> V):R2:=fun x y H Q=>∃ i j,x = .int i /\ y = .int j /\ Q (g i j) H
def rU (g:Int -> V):V -> Hp -> VK -> Prop:=fun x H Q=>∃ i,x = .int i /\ Q (g i) H

section
variable {X:Cx} {a b c:Expr} {ta tb tc:TE} {pos:Pos}

theorem binT (ha:PE X a ta) (hb:PE X b tb) {pins:List (Addr × Obj)} {s:Shared} {σ:St} {H:Hp} {R:V -> V -> Hp -> Prop} (I:Inv X pins σ H s)
    (h:ta σ H fun x H1=>tb σ H1 fun y H2=>R x y H2) {Q:Value -> Shared -> Prop} {f:Value -> Value -> Sem Value}
    (hf:∀ v u s2 x y H2,Inv X pins σ H2 s2 -> RelV x v -> RelV y u -> R x y H2 -> wpAny (model X.prog X.w) X.A (f v u) Q X.xe s2) :
    wpAny (model X.prog X.w) X.A (eval a X.env) (fun v s₁=>wpAny (model X.prog X.w) X.A (eval b X.env) (fun u s₂=>wpAny (model X.prog X.w) X.A (f v u) Q X.xe s₂) X.xe s₁) X.xe s:=by
  refine thn (ha pins s σ H _ I h) fun v s1 ⟨x,H1,I1,r1,q1⟩=>?_
  refine thn (hb pins s1 σ H1 _ I1 q1) fun u s2 ⟨y,H2,I2,r2,q2⟩=>?_
  exact hf v u s2 x y H2 I2 r1 r2 q2

theorem pe_op {op:Operator} {r:R2} (ho:OpR X (binaryOp op) r) (ha:PE X a ta) (hb:PE X b tb):PE X (.BinOp a op b pos) (tOp r ta tb):=by
  intro pins s σ H Q I h
  exact wpAny_BinOp (binT ha hb I h fun v u s2 x y H2 I2 rx ry q=>ho pins s2 σ H2 x y v u Q I2 rx ry q)
theorem pe_un {op:UnaryOp} {r:V -> Hp -> VK -> Prop} (ho:UnR X (unaryOp op) r) (ha:PE X a ta):PE X (.UnaryOp op a pos) (tUn r ta):=by
  intro pins s σ H Q I h
  exact UnaryOp_ (thn (ha pins s σ H _ I h) fun v s1 ⟨x,H1,I1,r1,q1⟩=>ho pins s1 σ H1 x v Q I1 r1 q1)
theorem opI {f:Value -> Value -> Sem Value} {C:Int -> Int -> Prop} {g:Int -> Int -> Int}
    (rule:∀ (i j:Int) (t u:Tok) (s:Shared) (Q:Value -> Shared -> Prop) (E:Value -> Shared -> Prop),C i j -> Q (.int (g i j) s.toks) { s with toks:=s.toks + 1 } -> wpAny (model X.prog X.w) X.A (f (.int i t) (.int j u)) Q E s) :
    OpR X f (rI C fun i j=>.int (g i j)):=by
  intro pins s σ H x y v u Q I rx ry h
  obtain ⟨i,j,rfl,rfl,hc,q⟩:=h
  obtain ⟨t,rfl⟩:=rx
  obtain ⟨t',rfl⟩:=ry
  exact rule i j t t' s _ _ hc ⟨.int (g i j),H,I.tok _,⟨_,rfl⟩,q⟩
theorem opI0 {f:Value -> Value -> Sem Value} {g:Int -> Int -> Int}
    (rule:∀ (i j:Int) (t u:Tok) (s:Shared) (Q:Value -> Shared -> Prop) (E:Value -> Shared -> Prop),Q (.int (g i j) s.toks) { s with toks:=s.toks + 1 } -> wpAny (model X.prog X.w) X.A (f (.int i t) (.int j u)) Q E s) :
    OpR X f (rI0 fun i j=>.int (g i j)):=by
  intro pins s σ H x y v u Q I rx ry h
  obtain ⟨i,j,rfl,rfl,q⟩:=h
  obtain ⟨t,rfl⟩:=rx
  obtain ⟨t',rfl⟩:=ry
  exact rule i j t t' s _ _ ⟨.int (g i j),H,I.tok _,⟨_,rfl⟩,q⟩
theorem opB0 {f:Value -> Value -> Sem Value} {g:Int -> Int -> Bool}
    (rule:∀ (i j:Int) (t u:Tok) (s:Shared) (Q:Value -> Shared -> Prop) (E:Value -> Shared -> Prop),Q (.bool (g i j)) s -> wpAny (model X.prog X.w) X.A (f (.int i t) (.int j u)) Q E s) :
    OpR X f (rI0 fun i j=>.bl (g i j)):=by
  intro pins s σ H x y v u Q I rx ry h
  obtain ⟨i,j,rfl,rfl,q⟩:=h
  obtain ⟨t,rfl⟩:=rx
  obtain ⟨t',rfl⟩:=ry
  exact rule i j t t' s _ _ ⟨.bl (g i j),H,I,rfl,q⟩

def CPow (i j:Int):Prop:=0 <= j /\ j <= 1000000 /\ i.natAbs < 2 ^ 64
def CMul (i j:Int):Prop:=(-(2 ^ 64) < i /\ i < 2 ^ 64) \/ (-(2 ^ 64) < j /\ j < 2 ^ 64)
theorem CMul.ok {i j:Int} (h:CMul i j):IntMulOk i j:=by
  rcases h with ⟨h1,h2⟩ | ⟨h1,h2⟩
  · exact .of_left (intBits_le_64 h1 h2)
  · exact .of_right (intBits_le_64 h1 h2)
theorem op_add:OpR X (binaryOp .Add) (rI0 fun i j=>.int (i + j)):=opI0 fun _ _ _ _ _ _ _ q=>add_int q
theorem op_sub:OpR X (binaryOp .Sub) (rI0 fun i j=>.int (i - j)):=opI0 fun _ _ _ _ _ _ _ q=>sub_int q
theorem op_modN:OpR X (binaryOp .Mod) (rI (fun _ j=>j ≠ 0) fun i j=>.int (i.fmod j)):=opI fun _ _ _ _ _ _ _ hc q=>mod_int' hc q
theorem op_pow:OpR X (binaryOp .Pow) (rI CPow fun i j=>.int (i ^ j.toNat)):=opI fun _ _ _ _ _ _ _ hc q=>pow_int_small hc.1 hc.2.1 hc.2.2 q
theorem unI {f:Value -> Sem Value} {g:Int -> Int}
    (rule:∀ (i:Int) (t:Tok) (s:Shared) (Q:Value -> Shared -> Prop) (E:Value -> Shared -> Prop),Q (.int (g i) s.toks) { s with toks:=s.toks + 1 } -> wpAny (model X.prog X.w) X.A (f (.int i t)) Q E s) :
    UnR X f (rU fun i=>.int (g i)):=by
  intro pins s σ H x v Q I rx h
  obtain ⟨i,rfl,q⟩:=h
  obtain ⟨t,rfl⟩:=rx
  exact rule i t s _ _ ⟨.int (g i),H,I.tok _,⟨_,rfl⟩,q⟩
theorem un_neg:UnR X (unaryOp .USub) (rU fun i=>.int (-i)):=unI fun _ _ _ _ _ q=>neg_int q
end

def scal:V -> V -> Bool
  | .non,.non=>true | .non,.int _=>true | .int _,.non=>true | .non,.bl _=>true | .bl _,.non=>true | .non,.str _=>true | .str _,.non=>true
  | .int _,.int _=>true | .bl _,.bl _=>true | .str _,.str _=>true | .byt _,.byt _=>true
  | .int _,.str _=>true | .str _,.int _=>true | .bl _,.str _=>true | .str _,.bl _=>true
  | _,_=>false
def rNe:R2:=fun x y H Q=>scal x y = true /\ Q (.bl (!decide (x = y))) H

theorem dec_int {i j:Int}:decide (V.int i = V.int j) = (i == j):=by
  rw [Bool.eq_iff_iff]
  simp
theorem dec_bl {i j:Bool}:decide (V.bl i = V.bl j) = (i == j):=by
  rw [Bool.eq_iff_iff]
  simp
theorem dec_str {i j:Str}:decide (V.str i = V.str j) = (i == j):=by
  rw [Bool.eq_iff_iff]
  simp
theorem dec_byt {i j:Array UInt8}:decide (V.byt i = V.byt j) = (i.toList == j.toList):=by
  rw [Bool.eq_iff_iff]
  cases i
  cases j
  simp

section
variable {X:Cx} {a b c:Expr} {ta tb tc:TE} {pos:Pos}
theorem fin_bl {pins:List (Addr × Obj)} {σ:St} {H:Hp} {s:Shared} {Q:VK} {k k':Bool} (I:Inv X pins σ H s) (q:Q (.bl k) H) (e:k = k'):EP X pins σ Q (.bool k') s:=by
  subst e
  exact ⟨.bl k,H,I,rfl,q⟩
theorem op_ne:OpR X (compareOp .NotEq) rNe:=by
  intro pins s σ H x y v u Q I rx ry h
  obtain ⟨hs,q⟩:=h
  cases x with
  | non =>
    cases rx
    cases y with
    | non=>cases ry; exact PySem.EqNone.ne_none_none (fin_bl I q (by simp))
    | bl j=>cases ry; exact PySem.EqNone.ne_none_bool (fin_bl I q (by simp))
    | int j=>obtain ⟨t',rfl⟩:=ry; exact PySem.EqNone.ne_none_int (fin_bl I q (by simp))
    | str j=>obtain ⟨t',rfl⟩:=ry; exact PySem.EqNone.ne_none_str (fin_bl I q (by simp))
    | _=>exact absurd (show false = true from hs) Bool.false_ne_true
  | bl i =>
    cases rx
    cases y with
    | non=>cases ry; exact PySem.EqNone.ne_bool_none (fin_bl I q (by simp))
    | bl j=>cases ry; exact ne_bool (fin_bl I q (congrArg not dec_bl))
    | str j=>obtain ⟨t',rfl⟩:=ry; exact PySem.EqMixed.ne_bool_str (fin_bl I q (by simp))
    | _=>exact absurd (show false = true from hs) Bool.false_ne_true
  | int i =>
    obtain ⟨t,rfl⟩:=rx
    cases y with
    | non=>cases ry; exact PySem.EqNone.ne_int_none (fin_bl I q (by simp))
    | int j=>obtain ⟨t',rfl⟩:=ry; exact ne_int (fin_bl I q (congrArg not dec_int))
    | str j=>obtain ⟨t',rfl⟩:=ry; exact PySem.EqMixed.ne_int_str (fin_bl I q (by simp))
    | _=>exact absurd (show false = true from hs) Bool.false_ne_true
  | str i =>
    obtain ⟨t,rfl⟩:=rx
    cases y with
    | non=>cases ry; exact PySem.EqNone.ne_str_none (fin_bl I q (by simp))
    | bl j=>cases ry; exact PySem.EqMixed.ne_str_bool (fin_bl I q (by simp))
    | int j=>obtain ⟨t',rfl⟩:=ry; exact PySem.EqMixed.ne_str_int (fin_bl I q (by simp))
    | str j=>obtain ⟨t',rfl⟩:=ry; exact ne_str (fin_bl I q (congrArg not dec_str))
    | _=>exact absurd (show false = true from hs) Bool.false_ne_true
  | byt i =>
    obtain ⟨t,rfl⟩:=rx
    cases y with
    | byt j=>obtain ⟨t',rfl⟩:=ry; exact W.ne_bytes (fin_bl I q (congrArg not dec_byt))
    | _=>exact absurd (show false = true from hs) Bool.false_ne_true
  | _=>cases y <;> exact absurd (show false = true from hs) Bool.false_ne_true

theorem op_lt:OpR X (compareOp .Lt) (rI0 fun i j=>.bl (decide (i < j))):=opB0 fun _ _ _ _ _ _ _ q=>lt_int q
theorem op_gt:OpR X (compareOp .Gt) (rI0 fun i j=>.bl (decide (j < i))):=opB0 fun _ _ _ _ _ _ _ q=>gt_int q
theorem op_ge:OpR X (compareOp .GtE) (rI0 fun i j=>.bl (decide (j <= i))):=opB0 fun _ _ _ _ _ _ _ q=>ge_int q
theorem OpR.or {f:Value -> Value -> Sem Value} {r r':R2} (h:OpR X f r) (h':OpR X f r'):OpR X f (fun x y H Q=>r x y H Q \/ r' x y H Q):=by
  intro pins s σ H x y v u Q I rx ry q
  rcases q with q | q
  · exact h pins s σ H x y v u Q I rx ry q
  · exact h' pins s σ H x y v u Q I rx ry q

theorem nomark (b:Expr) {op:CmpOp} (h:op ≠ .In:=by decide) (h2:op ≠ .NotIn:=by decide):behindInMarks op b = false:=by
  have e1:(op == CmpOp.In) = false:=by cases op <;> first | rfl | exact absurd rfl h
  have e2:(op == CmpOp.NotIn) = false:=by cases op <;> first | rfl | exact absurd rfl h2
  cases b <;> simp [behindInMarks,e1,e2]
theorem pe_cmpR {op:CmpOp} {r:R2} (ho:OpR X (compareOp op) r) (ha:PE X a ta) (hb:PE X b tb) (hm:behindInMarks op b = false):PE X (.Compare a [op] [b] pos) (tOp r ta tb):=by
  intro pins s σ H Q I h
  exact wpAny_Compare1 (binT ha hb I h fun v u s2 x y H2 I2 rx ry q=>ho pins s2 σ H2 x y v u Q I2 rx ry q) hm
def tTest (t:TE):TT:=fun σ H Q=>t σ H fun x H'=>∃ k,x = .bl k /\ Q k H'
theorem pt_cmpR {op:CmpOp} {r:R2} (ho:OpR X (compareOp op) r) (ha:PE X a ta) (hb:PE X b tb) (hm:behindInMarks op b = false):PT X (.Compare a [op] [b] pos) (tTest (tOp r ta tb)):=by
  intro pins s σ H Q I h
  refine wpAny_isTrue_Compare1 (thn (ha pins s σ H _ I h) fun v s1 ⟨x,H1,I1,r1,q1⟩=>thn (hb pins s1 σ H1 _ I1 q1) fun u s2 ⟨y,H2,I2,r2,q2⟩ =>
    thn (ho pins s2 σ H2 x y v u _ I2 r1 r2 q2) fun c s3 ⟨z,H3,I3,r3,k,e,q3⟩=>?_) hm
  subst e
  cases r3
  exact wpAny_truthy_bool ⟨H3,I3,q3⟩
theorem line63:(sizeLine:Nat) < 2 ^ 63:=by rw [sizeLine_eq]; decide
theorem vals1 {x:V} {us:List Value} (r:Vals [x] us):∃ u,us = [u] /\ RelV x u:=by
  cases r with
  | cons r1 r2=>cases r2; exact ⟨_,rfl,r1⟩
theorem vals2 {x y:V} {us:List Value} (r:Vals [x,y] us):∃ u w',us = [u,w'] /\ RelV x u /\ RelV y w':=by
  cases r with
  | cons r1 r2 =>
    cases r2 with
    | cons r3 r4=>cases r4; exact ⟨_,_,rfl,r1,r3⟩
theorem call_abs:CallR X (.builtin "abs") (fun xs H Q=>∃ i,xs = [.int i] /\ Q (.int (if i < 0 then -i else i)) H):=by
  intro pins s σ H xs us Q I r h
  obtain ⟨i,rfl,q⟩:=h
  obtain ⟨u,rfl,t,rfl⟩:=vals1 r
  exact call_abs_int fun u tk=>⟨.int (if i < 0 then -i else i),H,I.tok _,⟨_,rfl⟩,q⟩
theorem call_min2 (hc:X.calm = true):CallR X (.builtin "min") (fun xs H Q=>∃ i j,xs = [.int i,.int j] /\ Q (.int (if j < i then j else i)) H):=by
  intro pins s σ H xs us Q I r h
  obtain ⟨i,j,rfl,q⟩:=h
  obtain ⟨u,w',rfl,⟨t,rfl⟩,⟨t',rfl⟩⟩:=vals2 r
  refine min_two_ints (I.ok.hd hc) fun h' tk k=>⟨_,H,I.kept k,?_,q⟩
  by_cases hj:j < i
  · rw [if_pos hj,if_pos hj]; exact ⟨_,rfl⟩
  · rw [if_neg hj,if_neg hj]; exact ⟨_,rfl⟩
end
end L2

namespace L2
open PySem PySem.Spec PyProof.Rows

section
variable {prog:Program} {w:World} {A:Around} {E:Value -> Shared -> Prop} {s:Shared} {K:W.Frag} {x dx C f:Addr} {mA:Str -> Option Value} {name:Str} {v:Value}

end

theorem RelO.some_of {v:V} {o:Option Value} (r:RelO (some v) o):∃ u,o = some u /\ RelV v u:=by
  cases o with
  | none=>exact (show False from r).elim
  | some u=>exact ⟨u,rfl,r⟩
section
variable {P:Program} {w:World} {H H':Hp} {h h':Heap} {a C dx:Addr} {fs fs':List (Str × V)}
end

section
variable {X:Cx} {pins:List (Addr × Obj)} {σ:St} {H:Hp} {s:Shared} {a C dx:Addr} {fs:List (Str × V)} {f:Str} {v:V} {A:Around} {E:Value -> Shared -> Prop}

end

section
variable {X:Cx} {o e value:Expr} {f:Str} {pos pos' tpos:Pos} {ta tv:TE}
end

section
variable {X:Cx} {pins:List (Addr × Obj)} {σ:St} {H:Hp} {s:Shared} {A:Around} {E:Value -> Shared -> Prop} {Q:Value -> Shared -> Prop} {c:Value} {b:Bool}
end
end L2

namespace L2
open PySem PySem.Spec PyProof.Rows

structure Room (k:Nat) (A:Around):Prop where
  hd:A.handled = none
  dp:A.depth + 3 * k + 5 < recursionLimit
  un:A.units + 16 * k + 200 < cLine
  gd:A.guards = some []
theorem Room.mono {j k:Nat} {A:Around} (r:Room k A) (h:j <= k):Room j A:=⟨r.hd,by have:=r.dp; omega,by have:=r.un; omega,r.gd⟩
theorem Room.deeper {k:Nat} {A:Around} (r:Room (k + 1) A) (env:Env):Room k (A.deeper env) :=
  ⟨r.hd,by have:=r.dp; show A.depth + 1 + 3 * k + 5 < _; omega,by have:=r.un; show A.units + 3 + 16 * k + 200 < _; omega,r.gd⟩
theorem Room.depth {k:Nat} {A:Around} (r:Room k A):A.depth < recursionLimit:=by have:=r.dp; omega
theorem Room.units {k:Nat} {A:Around} (r:Room k A):A.units + 64 < cLine:=by have:=r.un; omega
def tNil:TA:=fun _ H Q=>Q [] H
def tCons (ta:TE) (tr:TA):TA:=fun σ H Q=>ta σ H fun x H1=>tr σ H1 fun xs H2=>Q (x :: xs) H2
section
variable {X:Cx} {e:Expr} {es:List Expr} {te:TE} {t:TA} {pos:Pos}
theorem pa_nil:PA X [] tNil:=fun _ _ _ _ H Q I h=>Calls.spliced_nil ⟨[],H,I,.nil,h⟩
theorem pa_cons (ha:PE X e te) (hr:PA X es t) (hs:starEach (e :: es) X.env = (false,eval e X.env) :: starEach es X.env:=by rfl):PA X (e :: es) (tCons te t):=by
  intro pos pins s σ H Q I h
  rw [hs]
  show wpAny _ _ (spliced ((false,eval e X.env) :: backTo pos (starEach es X.env))) _ _ s
  refine Calls.spliced_cons (thn (ha pins s σ H _ I h) fun u s1 ⟨x,H1,I1,r1,q1⟩=>?_)
  exact thn (hr pos pins s1 σ H1 _ I1 q1) fun us s2 ⟨xs,H2,I2,r2,q2⟩=>⟨x :: xs,H2,I2,.cons r1 r2,q2⟩

def tTup (t:TA):TE:=fun σ H Q=>t σ H fun xs H1=>xs.length <= sizeLine /\ ∀ p,H1 p = none -> Q (.ref p) (upd H1 p (.tup xs))
def tLst (t:TA):TE:=fun σ H Q=>t σ H fun xs H1=>xs.length <= sizeLine /\ ∀ p,H1 p = none -> Q (.ref p) (upd H1 p (.lst xs))
theorem pe_tup {x1} (h:PA X es t):PE X (.Tuple es x1 pos) (tTup t):=by
  intro pins s σ H Q I hq
  refine wpAny_Tuple_spliced (thn (h pos pins s σ H _ I hq) fun us s1 ⟨xs,H1,I1,r,z,q⟩=>⟨by rw [<- r.length]; exact z,?_⟩)
  have hf:H1 s1.heap.objs.size = none:=I1.hok.fresh (Nat.le_refl _)
  refine ⟨.ref s1.heap.objs.size,upd H1 s1.heap.objs.size (.tup xs),I1.laid (t':=s1.toks) (fun b u e=>Heap.get?_push_of_some _ e) (Nat.le_refl _) ?_,rfl,q _ hf⟩
  exact ⟨z,us,r,IsTupD.new _ _⟩
theorem pe_lst (h:PA X es t):PE X (.List es pos) (tLst t):=by
  intro pins s σ H Q I hq
  refine wpAny_List_spliced (thn (h pos pins s σ H _ I hq) fun us s1 ⟨xs,H1,I1,r,z,q⟩=>⟨by rw [<- r.length]; exact z,?_⟩)
  have hf:H1 s1.heap.objs.size = none:=I1.hok.fresh (Nat.le_refl _)
  refine ⟨.ref s1.heap.objs.size,upd H1 s1.heap.objs.size (.lst xs),I1.laid (t':=s1.toks) (fun b u e=>Heap.get?_push_of_some _ e) (Nat.le_refl _) ?_,rfl,q _ hf⟩
  exact ⟨z,us,0,r,Heap.get?_push_size _ rfl⟩
end

abbrev Sp:=List V -> Hp -> VK -> XK -> Prop
abbrev CXT:=List Env -> Hp -> Shared -> XK -> Value -> Shared -> Prop

structure Env0 (P:Program) (w:World) (K:W.Frag) (mg:Str -> Option Value) (base:Heap) (A:Around) (outer:List Env) (s:Shared) (H:Hp):Prop where
  frames:A.frames = some outer
  mod:Mod K mg base
  bs:∀ b o,base.get? b = some o -> s.heap.get? b = some o /\ H b = none
  bsz:base.objs.size <= s.heap.objs.size
  funs:s.heap.FunFrames base outer
  frf:∀ b ∈ frs outer,H b = none
  hok:HOk P w H s.heap
  bare:AllBare s.gens
def CE (outer:List Env) (P:Program) (w:World) (H:Hp) (s:Shared) (Q:VK) (u:Value) (s':Shared):Prop :=
  ∃ v H',s'.os = s.os /\ AllBare s'.gens /\ Un (frs outer) [] H H' s.heap s'.heap /\ HOk P w H' s'.heap /\ RelV v u /\ Q v H'
def CR (CX:CXT) (outer:List Env) (P:Program) (w:World) (H:Hp) (s:Shared) (Q:VK) (E:XK) (r:Result) (s':Shared):Prop :=
  match r with
  | .ok (.ret u)=>CE outer P w H s Q u s'
  | .ok _=>False
  | .error e=>CX outer H s E e s'
structure FnOk (P:Program) (w:World) (K:W.Frag) (mg:Str -> Option Value) (base:Heap) (CX:CXT) (k:Nat) (f:Addr) (fd:FuncData) (ps:List Str) (sp:Sp):Prop where
  len:∀ vs H Q E,sp vs H Q E -> vs.length = ps.length
  run:∀ (A:Around) (outer:List Env) (s:Shared) (H:Hp) (args:Args) (us:List Value) (vs:List V) (Q:VK) (E:XK),Room k A -> Env0 P w K mg base A outer s H -> BindsTo s fd args (ps.zip us) -> Vals vs us -> sp vs H Q E ->
    codeAny (model P w) A (.call (.ref f) args) (CR CX outer P w H s Q E) s
theorem FnOk.mono {P:Program} {w:World} {K:W.Frag} {mg:Str -> Option Value} {base:Heap} {CX:CXT} {j k:Nat} {f:Addr} {fd:FuncData} {ps:List Str} {sp:Sp} (F:FnOk P w K mg base CX j f fd ps sp) (h:j <= k) :
    FnOk P w K mg base CX k f fd ps sp:=⟨F.len,fun A outer s H args us vs Q E hr=>F.run A outer s H args us vs Q E (hr.mono h)⟩
theorem FnOk.imp {P:Program} {w:World} {K:W.Frag} {mg:Str -> Option Value} {base:Heap} {CX:CXT} {k:Nat} {f:Addr} {fd:FuncData} {ps:List Str} {sp sp':Sp} (F:FnOk P w K mg base CX k f fd ps sp)
    (h:∀ vs H Q E,sp' vs H Q E -> sp vs H Q E):FnOk P w K mg base CX k f fd ps sp' :=
  ⟨fun vs H Q E q=>F.len vs H Q E (h _ _ _ _ q),fun A outer s H args us vs Q E hr he hb hv hs=>F.run A outer s H args us vs Q E hr he hb hv (h _ _ _ _ hs)⟩

section
variable {X:Cx} {pins:List (Addr × Obj)} {σ:St} {H:Hp} {s s':Shared}
theorem Inv.env0 (I:Inv X pins σ H s):Env0 X.prog X.w X.K X.mg X.base X.A X.stack s H :=
  ⟨I.ok.frames,I.ok.mod,I.bs,Nat.le_trans I.ok.bsz I.sz,I.stack,I.stkFree,I.hok,I.bare⟩
theorem Inv.after {Q:VK} {u:Value} (I:Inv X pins σ H s) (h:CE X.stack X.prog X.w H s Q u s'):EP X pins σ Q u s':=by
  obtain ⟨v,H',os,bare,un,hok,r,q⟩:=h
  obtain ⟨hh,g,d,t,os'⟩:=s'
  obtain rfl:os' = s.os:=os
  exact ⟨v,H',I.call (h':=hh) (g':=g) (d':=d) (t':=t) (ch:=[]) un hok bare (fun b z=>absurd z (by simp)),r,q⟩
end

def tCall (sp:Sp) (dvs:List V) (E:XK) (t:TA):TE:=fun σ H Q=>t σ H fun vs H1=>sp (vs ++ dvs) H1 Q E
def Binds (K:W.Frag) (fd:FuncData) (ps:List Str) (ds:List Value):Prop :=
  ∀ (s:Shared) (us:List Value),K.In s.heap -> (us ++ ds).length = ps.length -> BindsTo s fd ⟨us,[]⟩ (ps.zip (us ++ ds))
theorem Binds.all {K:W.Frag} {fd:FuncData} {ps:List Str} (h:∀ us:List Value,us.length = ps.length -> bindArgs fd ⟨us,[]⟩ = pure (ps.zip us)):Binds K fd ps []:=fun s us _ hl=>by
  rw [List.append_nil] at hl ⊢
  exact .of_eq (h us hl)

def Passes (CX:CXT) (X:Cx) (E:XK):Prop:=∀ (pins:List (Addr × Obj)) (σ:St) (H:Hp) (s:Shared) (e:Value) (s':Shared),Inv X pins σ H s -> CX X.stack H s E e s' -> X.xe e s'

section
variable {X:Cx} {CX:CXT} {k:Nat} {f C:Addr} {fd:FuncData} {ps:List Str} {sp:Sp} {dvs:List V} {ds:List Value} {E:XK} {x m:Str} {p pos apos:Pos} {e o:Expr} {es:List Expr} {ta:TE} {t:TA}

theorem run_fn {pins:List (Addr × Obj)} {σ:St} {H:Hp} {s:Shared} {Q:VK} {us:List Value} {vs:List V} (F:FnOk X.prog X.w X.K X.mg X.base CX k f fd ps sp) (hr:Room k X.A) (hb:Binds X.K fd ps ds) (hd:Vals dvs ds) (hx:Passes CX X E)
    (I:Inv X pins σ H s) (r:Vals vs us) (h:sp (vs ++ dvs) H Q E):wpAny (model X.prog X.w) X.A (call (.ref f) us) (EP X pins σ Q) X.xe s:=by
  have r2:Vals (vs ++ dvs) (us ++ ds):=r.append hd
  have hl:(us ++ ds).length = ps.length:=by rw [<- r2.length]; exact F.len _ _ _ _ h
  refine wpAny_call (codeAny_mono (F.run X.A X.stack s H ⟨us,[]⟩ (us ++ ds) (vs ++ dvs) Q E hr I.env0 (hb s us I.kIn hl) r2 h) fun r s' hq=>?_)
  cases r with
  | error e=>exact hx pins σ H s e s' I hq
  | ok fl =>
    cases fl with
    | ret u=>exact I.after hq
    | next=>exact False.elim hq
    | brk=>exact False.elim hq
    | cont=>exact False.elim hq

theorem pe_call (F:FnOk X.prog X.w X.K X.mg X.base CX k f fd ps sp) (hr:Room k X.A) (hg:Gl X x) (hm:X.mg x = some (.ref f)) (hk:W.keepIn X.K (.ref f) = true) (hb:Binds X.K fd ps ds) (hd:Vals dvs ds) (hx:Passes CX X E)
    (ha:PA X (e :: es) t) (hdb:(x == ("__debug__" : Str)) = false:=by decide) (he:starEach (e :: es) X.env = (false,eval e X.env) :: starEach es X.env:=by rfl) (hpl:(backTo pos (starEach es X.env)).any (·.1) = false:=by rfl) :
    PE X (.Call (.Name x p) (e :: es) [] pos) (tCall sp dvs E t):=by
  intro pins s σ H Q I h
  refine wpAny_Call_Name_kw (ld_glob I hg hm ?_ hdb)
  refine W.callWith_K (h₀:=X.base) I.ok.mod.kin hk (thn (ha pos pins s σ H _ I h) fun us s1 ⟨vs,H1,I1,r,q⟩=>⟨I1.kIn,?_⟩) he hpl
  exact run_fn F hr hb hd hx I1 r q
end

section
variable {X:Cx} {CX:CXT} {k:Nat} {f C:Addr} {fd:FuncData} {ps ks:List Str} {sp:Sp} {E:XK} {x m:Str} {p pos apos kpos:Pos} {e o:Expr} {es:List Expr} {kws:List Keyword} {te ta:TE} {t tk:TA} {nm:Option Str}
variable {g:List Value -> List Value -> List Value} {gV:List V -> List V -> List V}
end

structure FnScope (N P:List Str) (sc:Scope):Prop where
  kind:sc.kind = .function
  co:sc.isCoroutine = false
  gen:sc.isGenerator = false
  nd:N.Nodup
  pre:N.take P.length = P
  par:∀ x ∈ P,sc.names.lookup x = some .local \/ sc.names.lookup x = some .cell
  nofree:∀ y ∈ sc.names,y.2 ≠ .free

theorem bindL_out {kindOf:Str -> Option NameKind} {x:Str}:∀ {binds:List (Str × Value)} {m:Str -> Option Value},(∀ v,(x,v) ∉ binds) -> bindL kindOf binds m x = m x
  | [],_,_=>rfl
  | (n,v) :: r,m,h=>by
    unfold bindL
    rw [bindL_out fun w hw=>h w (List.mem_cons_of_mem _ hw)]
    split
    · have:x ≠ n:=by rintro rfl; exact h v List.mem_cons_self
      simp [this]
    · rfl
theorem bindC_out {kindOf:Str -> Option NameKind} {x:Str}:∀ {binds:List (Str × Value)} {m:Str -> Option Value},(∀ v,(x,v) ∉ binds) -> bindC kindOf binds m x = m x
  | [],_,_=>rfl
  | (n,v) :: r,m,h=>by
    unfold bindC
    rw [bindC_out fun w hw=>h w (List.mem_cons_of_mem _ hw)]
    split
    · rfl
    · have:x ≠ n:=by rintro rfl; exact h v List.mem_cons_self
      simp [this]
theorem bindL_get {kindOf:Str -> Option NameKind} {x:Str} {v:Value}:∀ {P:List Str} {vs:List Value} {i:Nat} {m:Str -> Option Value},P.Nodup -> P[i]? = some x -> vs[i]? = some v -> kindOf x = some .local ->
    bindL kindOf (P.zip vs) m x = some v
  | [],_,_,_,_,h,_,_=>by simp at h
  | _ :: _,[],_,_,_,_,h,_=>by simp at h
  | p :: P,w :: vs,0,m,nd,h1,h2,hk=>by
    simp at h1 h2; subst h1; subst h2
    show bindL kindOf ((p,w) :: P.zip vs) m p = _
    unfold bindL
    rw [bindL_out fun v hv=>(List.nodup_cons.mp nd).1 (List.of_mem_zip hv).1,if_pos hk]
    simp
  | p :: P,w :: vs,i + 1,m,nd,h1,h2,hk=>by
    show bindL kindOf ((p,w) :: P.zip vs) m x = _
    unfold bindL
    exact bindL_get (i:=i) (List.nodup_cons.mp nd).2 (by simpa using h1) (by simpa using h2) hk
theorem bindC_get {kindOf:Str -> Option NameKind} {x:Str} {v:Value}:∀ {P:List Str} {vs:List Value} {i:Nat} {m:Str -> Option Value},P.Nodup -> P[i]? = some x -> vs[i]? = some v -> kindOf x ≠ some .local ->
    bindC kindOf (P.zip vs) m x = some v
  | [],_,_,_,_,h,_,_=>by simp at h
  | _ :: _,[],_,_,_,_,h,_=>by simp at h
  | p :: P,w :: vs,0,m,nd,h1,h2,hk=>by
    simp at h1 h2; subst h1; subst h2
    show bindC kindOf ((p,w) :: P.zip vs) m p = _
    unfold bindC
    rw [bindC_out fun v hv=>(List.nodup_cons.mp nd).1 (List.of_mem_zip hv).1,if_neg hk]
    simp
  | p :: P,w :: vs,i + 1,m,nd,h1,h2,hk=>by
    show bindC kindOf ((p,w) :: P.zip vs) m x = _
    unfold bindC
    exact bindC_get (i:=i) (List.nodup_cons.mp nd).2 (by simpa using h1) (by simpa using h2) hk

def start (N:List Str) (vs:List V):St:=vs.map some ++ List.replicate (N.length - vs.length) none

def cxOf (CX:CXT) (P:Program) (w:World) (K:W.Frag) (mg:Str -> Option Value) (base:Heap) (N:List Str) (qual:Str) (scope:Scope) (f:Addr) (cd:Value) (A:Around) (outer:List Env) (s:Shared) (H:Hp) (E:XK):Cx where
  prog:=P
  w:=w
  K:=K
  mg:=mg
  base:=base
  A:=A.deeper (envOfC qual scope s.heap.objs.size f cd)
  N:=N
  s₀:=s
  H₀:=H
  env:=envOfC qual scope s.heap.objs.size f cd
  outer:=outer
  stack:=envOfC qual scope s.heap.objs.size f cd :: outer
  ex:=[]
  calm:=true
  fn:=fun _=>true
  pn:=[]
  xe:=fun e s'=>wpAny (model P w) (A.deeper (envOfC qual scope s.heap.objs.size f cd)) (leaving (envOfC qual scope s.heap.objs.size f cd) e) (fun _ s''=>CX outer H s E e s'') (fun e' s''=>CX outer H s E e' s'') s'

theorem cell_has {sc:Scope} {n:Nat} {x:Str} (h:sc.names.lookup x = some .cell):∃ c,(cellsFrom n sc.names []).lookup x = some c:=by
  have q:=W.cellsFrom_some sc.names n [] (.inl h)
  exact Option.isSome_iff_exists.mp q

theorem inv_start {CX:CXT} {P:Program} {w:World} {K:W.Frag} {mg:Str -> Option Value} {base:Heap} {N ps:List Str} {qual:Str} {scope:Scope} {f:Addr} {cd:Value} {A:Around} {outer:List Env} {s s1:Shared} {H:Hp} {E:XK} {us:List Value} {vs:List V}
    (S:FnScope N ps scope) (hd:A.handled = none) (e0:Env0 P w K mg base A outer s H) (hl:vs.length = ps.length) (r:Vals vs us)
    (x:InCallC s s.heap.objs.size (bindL (envOfC qual scope s.heap.objs.size f cd).kindOf (ps.zip us) fun _=>none) (cellsFrom (s.heap.objs.size + 1) scope.names []) (bindC (envOfC qual scope s.heap.objs.size f cd).kindOf (ps.zip us) fun _=>none) s1) :
    Inv (cxOf CX P w K mg base N qual scope f cd A outer s H E) [] (start N vs) H s1:=by
  have hpl:ps.length <= N.length:=by have:=congrArg List.length S.pre; rw [List.length_take] at this; omega
  obtain ⟨h1,tk,rfl,hk⟩:=x.done
  have noA:∀ b:Addr,b ∉ (cxOf CX P w K mg base N qual scope f cd A outer s H E).ex:=fun b z=>absurd (show b ∈ ([]:List Addr) from z) (by simp)
  refine ⟨⟨e0.mod,S.kind,rfl,rfl,Nat.le_refl _,fun y z c h1 h2=>?_,fun y hy=>?_,fun y c _ h=>?_,fun _=>hd,Around.frames_deeper e0.frames,.inr ⟨rfl,rfl⟩,fun b z=>absurd z (noA b),e0.bs,e0.bsz,fun b _ _=>noA b,fun b z=>absurd z (noA b),e0.funs,e0.frf⟩,
    rfl,e0.bare,Un.kept hk,⟨_,x.toInCall.ns,fun i y v h1 h2 h3=>?_⟩,fun y c h=>⟨_,x.cell y c h⟩,e0.hok.fresh (Nat.le_refl _),fun y c h=>?_,fun p hp=>absurd (show p ∈ ([]:List (Addr × Obj)) from hp) (by simp),e0.hok.kept hk,?_⟩
  · exact name_of_addr x.apart (PySem.mem_of_lookup h1) (PySem.mem_of_lookup h2)
  · have hy:scope.names.lookup y = some .cell \/ scope.names.lookup y = some .free:=hy
    rcases hy with hy | hy
    · exact cell_has hy
    · exact absurd rfl (S.nofree _ (PySem.mem_of_lookup hy))
  · exact Nat.le_of_lt (x.above y c (PySem.mem_of_lookup h))
  · have hi:i < vs.length:=by
      unfold start at h2
      by_cases hi:i < vs.length
      · exact hi
      · rw [List.getElem?_append_right (by simpa using hi)] at h2
        rw [List.getElem?_replicate] at h2
        split at h2 <;> cases h2
    have ha:vs[i]? = some v:=by
      unfold start at h2
      rw [List.getElem?_append_left (by simpa using hi),List.getElem?_map] at h2
      cases e:vs[i]? with
      | none=>rw [e] at h2; cases h2
      | some a=>rw [e] at h2; cases h2; rfl
    obtain ⟨u,hu,rv⟩:=r.get ha
    have hp:ps[i]? = some y:=by
      rw [<- S.pre,List.getElem?_take_of_lt (by omega)]; exact h1
    have ndP:ps.Nodup:=by rw [<- S.pre]; exact S.nd.sublist (List.take_sublist _ _)
    refine ⟨u,rv,?_⟩
    rcases S.par y (List.mem_of_getElem? hp) with k | k
    · exact .inl ⟨k,bindL_get ndP hp hu k⟩
    · obtain ⟨c,e⟩:=cell_has (n:=s.heap.objs.size + 1) k
      refine .inr ⟨.inl k,c,e,?_⟩
      have q:=x.cell y c e
      rw [bindC_get ndP hp hu (by show scope.names.lookup y ≠ _; rw [k]; decide)] at q
      exact q
  · exact e0.hok.fresh (Nat.le_of_lt (x.above y c (PySem.mem_of_lookup h)))
  · unfold start
    show _ = N.length
    rw [List.length_append,List.length_map,List.length_replicate]
    omega

theorem fn_of {CX:CXT} {P:Program} {w:World} {K:W.Frag} {mg:Str -> Option Value} {base:Heap} {k:Nat} {f:Addr} {name qual:Str} {params:Arguments} {body:List Stmt} {scope:Scope} {dV kV doc pm cdv ct oc:Value} {an od:Option Addr}
    {osl:Array (Option Value)} {N ps:List Str} {sp:Sp} (lk:K.lookup f = some ⟨oc,od,.func (W.fnOf name qual params body scope dV kV doc pm an cdv ct),osl⟩) (hcd:W.codeIn K cdv qual = true) (S:FnScope N ps scope)
    (len:∀ vs H Q E,sp vs H Q E -> vs.length = ps.length)
    (hbody:∀ (A:Around) (outer:List Env) (s:Shared) (H:Hp) (vs:List V) (Q:VK) (E:XK),Room k (A.deeper (envOfC qual scope s.heap.objs.size f cdv)) -> sp vs H Q E ->
      ∃ t,PSs (cxOf CX P w K mg base N qual scope f cdv A outer s H E) body t /\ t { nx:=fun _ H'=>Q .non H',rt:=Q } (start N vs) H) :
    FnOk P w K mg base CX (k + 1) f (W.fnOf name qual params body scope dV kV doc pm an cdv ct) ps sp:=by
  refine ⟨len,fun A outer s H args us vs Q E hr e0 hb r hsp=>?_⟩
  have hl:=len _ _ _ _ hsp
  have KX:K.In s.heap:=e0.mod.kin.keeps fun b o e=>(e0.bs b o e).1
  have lim:s.heap.NoLimit:=e0.mod.nolimit.keeps fun b o e=>(e0.bs b o e).1
  have hkind:∀ y ∈ ps.zip us,scope.names.lookup y.1 = some .local \/ (scope.names.lookup y.1 = some .cell /\ ((cellsFrom (s.heap.objs.size + 1) scope.names []).lookup y.1).isSome = true):=fun ⟨n,v⟩ hy=>by
    rcases S.par n (List.of_mem_zip hy).1 with q | q
    · exact .inl q
    · exact .inr ⟨q,W.cellsFrom_some _ _ _ (.inl q)⟩
  refine codeAny_call_function hr.depth (KX _ _ lk) rfl S.co S.gen rfl (W.codeRec_of KX hcd) (hb _ _ _ _ ?_)
  refine wpAny_newFunctionEnv_cells S.kind hkind fun env he s1 x=>?_
  subst he
  refine ⟨lim.keeps x.toInCall.keep,codeAny_func ?_⟩
  obtain ⟨t,ht,hq⟩:=hbody A outer s H vs Q E (hr.deeper _) hsp
  have I:Inv (cxOf CX P w K mg base N qual scope f cdv A outer s H E) [] (start N vs) H s1:=inv_start S hr.hd e0 hl r x
  refine wpAny_mono (ht [] s1 (start N vs) H _ I hq) (fun fl s' hs=>?_) fun e s' hs=>hs
  have fin:∀ {σ':St} {H':Hp} {v:V} {u:Value},Inv (cxOf CX P w K mg base N qual scope f cdv A outer s H E) [] σ' H' s' -> RelV v u -> Q v H' -> CE outer P w H s Q u s' :=
    fun {σ' H' v u} J rv q=>⟨v,H',J.os,J.bare,J.base,J.hok,rv,q⟩
  cases fl with
  | ret u =>
    obtain ⟨v,σ',H',J,rv,q⟩:=hs
    exact fin J rv q
  | next =>
    obtain ⟨σ',H',J,q⟩:=hs
    exact fin (v:=V.non) (u:=Value.none) J rfl q
  | brk =>
    obtain ⟨_,_,_,q⟩:=hs
    exact False.elim q
  | cont =>
    obtain ⟨_,_,_,q⟩:=hs
    exact False.elim q
end L2

namespace L2
open PySem PySem.Spec PyProof.Rows
section
variable {X:Cx} {x:Str} {p pos:Pos} {e:Expr} {es:List Expr} {t:TA} {id T:String} {r:List V -> Hp -> VK -> Prop}

def tCB (r:List V -> Hp -> VK -> Prop) (t:TA):TE:=fun σ H Q=>t σ H fun vs H1=>r vs H1 Q
theorem pe_callB (hc:CallR X (.builtin id) r) (hg:Gl X x) (hm:X.mg x = none) (hv:bootBuiltins x = some (.builtin id)) (ha:PA X (e :: es) t) (hn:x ≠ "__name__" := by decide) (hdb:(x == ("__debug__" : Str)) = false:=by decide)
    (he:starEach (e :: es) X.env = (false,eval e X.env) :: starEach es X.env:=by rfl) (hpl:(backTo pos (starEach es X.env)).any (·.1) = false:=by rfl):PE X (.Call (.Name x p) (e :: es) [] pos) (tCB r t):=by
  intro pins s σ H Q I h
  refine wpAny_Call_Name_kw (ld_blt I hg hm hv ?_ hn hdb)
  exact PyProof.Rows.callWith_builtin1 (thn (ha pos pins s σ H _ I h) fun us s1 ⟨vs,H1,I1,r1,q1⟩=>hc pins s1 σ H1 vs us Q I1 r1 q1) he hpl
theorem pe_callTy (hc:CallR X (.type T) r) (hg:Gl X x) (hm:X.mg x = none) (hv:bootBuiltins x = some (.type T)) (ha:PA X (e :: es) t) (hn:x ≠ "__name__" := by decide) (hdb:(x == ("__debug__" : Str)) = false:=by decide)
    (he:starEach (e :: es) X.env = (false,eval e X.env) :: starEach es X.env:=by rfl) (hpl:(backTo pos (starEach es X.env)).any (·.1) = false:=by rfl):PE X (.Call (.Name x p) (e :: es) [] pos) (tCB r t):=by
  intro pins s σ H Q I h
  refine wpAny_Call_Name_kw (ld_blt I hg hm hv ?_ hn hdb)
  exact PyProof.Rows.callWith_type1 (thn (ha pos pins s σ H _ I h) fun us s1 ⟨vs,H1,I1,r1,q1⟩=>hc pins s1 σ H1 vs us Q I1 r1 q1) he hpl
end
end L2

namespace HT
open PySem PyProof.Rows

section
open PySem.SeqAt
open PySem.AutoSeq1 (wpAny_loadPart')
open PySem.MeetsSeq PySem.MeetsSeq2 PySem.MeetsSeq3

end

section
variable {prog:Program} {w:World} {A:Around} {E:Value -> Shared -> Prop} {s:Shared}

theorem cat_tup {t b:Addr} {vs ws:List Value} {Q:Value -> Shared -> Prop} (ht:IsTup s.heap t vs.toArray) (hb:IsTup s.heap b ws.toArray) (hv:vs ≠ [])
    (h1:ws = [] -> Q (.ref t) s) (h2:ws ≠ [] -> Q (.ref s.heap.objs.size) { s with heap:=s.heap.push { cls:=.type "tuple", data:=.seq (vs ++ ws).toArray } })
    (hsz:vs.length + ws.length <= sizeLine):wpAny (model prog w) A (binaryOp .Add (.ref t) (.ref b)) Q E s:=by
  obtain ⟨⟨cls,dd,data,sl⟩,ho,hc,n,hd⟩:=id ht
  obtain ⟨⟨cls2,dd2,data2,sl2⟩,ho2,hc2,n2,hd2⟩:=id hb
  simp only at hc hd hc2 hd2
  subst hc hd hc2 hd2
  have e:vs.toArray ++ ws.toArray = (vs ++ ws).toArray:=by simp
  by_cases hw:ws = []
  · exact concat_meets ⟨_,ho,rfl⟩ ⟨_,ho2,rfl⟩ noFill_tuple_add seq_tuple_add PySem.F.slot_tuple_add PySem.F.entry_tuple_add (PySem.F.args_tuple_add_2 _ _)
      (tuple_addW1 t b vs.toArray ws.toArray n n2 dd dd2 sl sl2 (by simpa using hv) (by simp [hw])) ⟨ho,ho2,h1 hw⟩
  · refine concat_meets ⟨_,ho,rfl⟩ ⟨_,ho2,rfl⟩ noFill_tuple_add seq_tuple_add PySem.F.slot_tuple_add PySem.F.entry_tuple_add (PySem.F.args_tuple_add_2 _ _)
      (tuple_addW2 t b vs.toArray ws.toArray n n2 dd dd2 sl sl2 (by simpa using hv) (by simpa using hw) (by rw [List.size_toArray,List.size_toArray]; exact hsz)) ⟨ho,ho2,?_⟩
    rw [e]
    exact h2 hw

def sIx (n d:Nat):Option Int -> Nat
  | none=>d
  | some v=>if v < 0 then (v + (n:Int)).toNat else min v.toNat n
theorem sIx_none (n d:Nat):sIx n d none = d:=rfl
theorem sIx_nat (n d k:Nat):sIx n d (some (k:Int)) = min k n:=by
  show (if (k:Int) < 0 then ((k:Int) + (n:Int)).toNat else min (k:Int).toNat n) = min k n
  rw [if_neg (by omega),Int.toNat_natCast]
end
end HT

namespace L2
open PySem PySem.Spec PyProof.Rows

abbrev TO:=St -> Hp -> (Option Int -> Hp -> Prop) -> Prop
def PO (X:Cx) (e:Option Expr) (t:TO):Prop :=
  ∀ (pins:List (Addr × Obj)) (s:Shared) (σ:St) (H:Hp) (Q:Option Int -> Hp -> Prop),Inv X pins σ H s -> t σ H Q ->
    wpAny (model X.prog X.w) X.A (evalPart e X.env) (fun u s'=>∃ o H',Inv X pins σ H' s' /\ IsPart u o /\ Q o H') X.xe s
def tNoPart:TO:=fun _ H Q=>Q none H
def tPart (t:TE):TO:=fun σ H Q=>t σ H fun x H1=>∃ i,x = .int i /\ Q (some i) H1

section
variable {X:Cx} {e:Expr} {te:TE} {lo hi:Option Expr} {tl th:TO} {pos p2:Pos}

theorem po_none:PO X none tNoPart:=by
  intro pins s σ H Q I h
  rw [evalPart_none]
  exact wpAny_pure ⟨none,H,I,.none,h⟩
theorem po_some (h:PE X e te):PO X (some e) (tPart te):=by
  intro pins s σ H Q I hw
  rw [evalPart_some]
  refine thn (h pins s σ H _ I hw) fun u s1 ⟨x,H1,I1,r1,q1⟩=>?_
  obtain ⟨i,rfl,q⟩:=q1
  obtain ⟨t,rfl⟩:=r1
  exact ⟨some i,H1,I1,.int i t,q⟩

def SlR (X:Cx) (r:V -> Option Int -> Option Int -> Hp -> VK -> Prop):Prop :=
  ∀ (pins:List (Addr × Obj)) (s:Shared) (σ:St) (H:Hp) (x:V) (v vl vu:Value) (lo hi:Option Int) (sl:Addr) (Q:VK),Inv X pins σ H s -> RelV x v -> s.heap.IsSliceOf sl vl vu .none -> IsPart vl lo -> IsPart vu hi -> r x lo hi H Q ->
    ∃ T id,typeLookup (.type T) "__getitem__" = pure (some (.builtin id)) /\ s.TypeIs v T /\ wpAny (model X.prog X.w) X.A (getItem v (.ref sl)) (EP X pins σ Q) X.xe s
theorem SlR.or {r r':V -> Option Int -> Option Int -> Hp -> VK -> Prop} (h:SlR X r) (h':SlR X r'):SlR X (fun x lo hi H Q=>r x lo hi H Q \/ r' x lo hi H Q):=by
  intro pins s σ H x v vl vu lo hi sl Q I rx hs pl pu q
  rcases q with q | q
  · exact h pins s σ H x v vl vu lo hi sl Q I rx hs pl pu q
  · exact h' pins s σ H x v vl vu lo hi sl Q I rx hs pl pu q
def tSl (r:V -> Option Int -> Option Int -> Hp -> VK -> Prop) (te:TE) (tl th:TO):TE:=fun σ H Q=>te σ H fun x H1=>tl σ H1 fun l H2=>th σ H2 fun u H3=>r x l u H3 Q
theorem pe_slice {r:V -> Option Int -> Option Int -> Hp -> VK -> Prop} (hr:SlR X r) (he:PE X e te) (hl:PO X lo tl) (hu:PO X hi th):PE X (.Subscript e (.Slice lo hi none p2) pos) (tSl r te tl th):=by
  intro pins s σ H Q I h
  refine Subscript_ (thn (he pins s σ H _ I h) fun v s1 ⟨x,H1,I1,r1,q1⟩=>?_)
  refine wpAny_Slice (thn (hl pins s1 σ H1 _ I1 q1) fun vl s2 ⟨l,H2,I2,pl,q2⟩=>thn (hu pins s2 σ H2 _ I2 q2) fun vu s3 ⟨u,H3,I3,pu,q3⟩=>?_)
  rw [evalPart_none]
  refine wpAny_pure ?_
  have I4:Inv X pins σ H3 { s3 with heap:=s3.heap.push { cls:=.type "slice", data:=.fields #[vl,vu,.none] } }:=I3.kept (t':=s3.toks) fun b ob q=>Heap.get?_push_of_some _ q
  obtain ⟨T,id,hT,ht,hg⟩:=hr pins { s3 with heap:=s3.heap.push { cls:=.type "slice", data:=.fields #[vl,vu,.none] } } σ H3 x v vl vu l u s3.heap.objs.size Q I4 r1 (Heap.IsSliceOf.new ..) pl pu q3
  show wpAny (model X.prog X.w) X.A (subscriptTail e (.Slice lo hi none p2) v (.ref s3.heap.objs.size)) (EP X pins σ Q) X.xe { s3 with heap:=s3.heap.push { cls:=.type "slice", data:=.fields #[vl,vu,.none] } }
  exact tail_any (ops:=[.ref s3.heap.objs.size,v]) ht hT hg (by with_unfolding_all rfl)

def cutV (xs:List V) (lo hi:Option Int):List V:=(xs.drop (HT.sIx xs.length 0 lo)).take (HT.sIx xs.length xs.length hi - HT.sIx xs.length 0 lo)
theorem cutV_length (xs:List V) (lo hi:Option Int):(cutV xs lo hi).length <= xs.length:=by
  unfold cutV
  rw [List.length_take,List.length_drop]
  omega
def rCatT (K:W.Frag):R2:=fun x y H Q=>∃ a b xs ys,x = .ref a /\ y = .ref b /\ SqT K H a xs /\ SqT K H b ys /\ xs ≠ [] /\ xs.length + ys.length <= sizeLine /\
  (ys = [] -> Q (.ref a) H) /\ (ys ≠ [] -> ∀ p,H p = none -> Q (.ref p) (upd H p (.tup (xs ++ ys))))
theorem Vals.nil_iff {xs:List V} {us:List Value} (r:Vals xs us):us = [] ↔ xs = []:=by
  cases r with
  | nil=>simp
  | cons _ _=>simp
theorem op_catT:OpR X (binaryOp .Add) (rCatT X.K):=by
  intro pins s σ H x y v u Q I rx ry h
  obtain ⟨a,b,xs,ys,rfl,rfl,ha,hb,hx,hz,q1,q2⟩:=h
  cases rx
  cases ry
  obtain ⟨its,r1,p1,_⟩:=I.tuple ha
  obtain ⟨its2,r2,p2,_⟩:=I.tuple hb
  refine HT.cat_tup p1 p2 (fun z=>hx (r1.nil_iff.mp z)) (fun z=>⟨.ref a,H,I,rfl,q1 (r2.nil_iff.mp z)⟩) (fun z=>?_) (by rw [<- r1.length,<- r2.length]; exact hz)
  refine ⟨.ref s.heap.objs.size,_,I.laid (t':=s.toks) (o:=.tup (xs ++ ys)) (fun b ob q=>Heap.get?_push_of_some _ q) (Nat.le_refl _) ?_,rfl,q2 (fun w=>z (r2.nil_iff.mpr w)) _ (I.hok.fresh (Nat.le_refl _))⟩
  exact ⟨by rw [List.length_append]; exact hz,_,r1.append r2,IsTupD.new _ _⟩
end
end L2

namespace L2
open PySem PySem.Spec PyProof.Rows

def ixN (n:Nat) (i:Int):Option Nat:=if 0 <= i then (if i < n then some i.toNat else none) else if -(n:Int) <= i then some (i + n).toNat else none
def atI {α:Type} (xs:List α) (i:Int):Option α:=(ixN xs.length i).bind fun j=>xs[j]?
theorem ixN_seq {n:Nat} {i:Int} {j:Nat} (h:ixN n i = some j):seqIndex? i n = some j /\ j < n /\ -(n:Int) <= i /\ i < n:=by
  unfold ixN at h
  by_cases h0 : 0 <= i
  · rw [if_pos h0] at h
    by_cases h1:i < n
    · rw [if_pos h1] at h
      have e:i.toNat = j:=Option.some.inj h
      exact ⟨by rw [seqIndex_of h0 h1,e],by omega,by omega,h1⟩
    · rw [if_neg h1] at h; cases h
  · rw [if_neg h0] at h
    by_cases h1 : -(n:Int) <= i
    · rw [if_pos h1] at h
      have e:(i + n).toNat = j:=Option.some.inj h
      exact ⟨by rw [seqIndex_neg (by omega) h1,e],by omega,h1,by omega⟩
    · rw [if_neg h1] at h; cases h
theorem atI_get {α:Type} {xs:List α} {i:Int} {v : α} (h:atI xs i = some v):∃ j,seqIndex? i xs.length = some j /\ xs[j]? = some v /\ j < xs.length /\ -(xs.length:Int) <= i /\ i < xs.length:=by
  unfold atI at h
  cases e:ixN xs.length i with
  | none=>rw [e] at h; cases h
  | some j =>
    rw [e] at h
    obtain ⟨h1,h2,h3,h4⟩:=ixN_seq e
    exact ⟨j,h1,h,h2,h3,h4⟩
theorem atI_nat {α:Type} {xs:List α} {j:Nat} {v : α} (h:xs[j]? = some v):atI xs (j:Int) = some v:=by
  have hj:j < xs.length:=(List.getElem?_eq_some_iff.mp h).1
  have e:ixN xs.length (j:Int) = some j:=by
    unfold ixN
    rw [if_pos (by omega),if_pos (by omega)]; simp
  unfold atI; rw [e]; exact h
def PlainIx (b:Expr):Prop:=∀ o i,subscripted b false o i = operate [o,i] (getItem o i)
def IxR (X:Cx) (r:R2):Prop :=
  ∀ (value slice:Expr) (pins:List (Addr × Obj)) (s:Shared) (σ:St) (H:Hp) (x y:V) (v u:Value) (Q:VK),Inv X pins σ H s -> RelV x v -> RelV y u -> r x y H Q ->
    subscripted slice false v u = operate [v,u] (getItem v u) -> wpAny (model X.prog X.w) X.A (subscriptTail value slice v u) (EP X pins σ Q) X.xe s
def MtR (X:Cx) (id:String) (r:V -> List V -> Hp -> VK -> Prop):Prop :=
  ∀ (pins:List (Addr × Obj)) (s:Shared) (σ:St) (H:Hp) (x:V) (xs:List V) (v:Value) (us:List Value) (Q:VK),Inv X pins σ H s -> RelV x v -> Vals xs us -> r x xs H Q ->
    wpAny (model X.prog X.w) X.A (call (.builtin id) (v :: us)) (EP X pins σ Q) X.xe s
section
variable {X:Cx} {a b:Expr} {ta tb:TE} {pos:Pos}
theorem IxR.or {r r':R2} (h:IxR X r) (h':IxR X r'):IxR X (fun x y H Q=>r x y H Q \/ r' x y H Q):=by
  intro value slice pins s σ H x y v u Q I rx ry q hs
  rcases q with q | q
  · exact h value slice pins s σ H x y v u Q I rx ry q hs
  · exact h' value slice pins s σ H x y v u Q I rx ry q hs
theorem MtR.or {id:String} {r r':V -> List V -> Hp -> VK -> Prop} (h:MtR X id r) (h':MtR X id r'):MtR X id (fun x xs H Q=>r x xs H Q \/ r' x xs H Q):=by
  intro pins s σ H x xs v us Q I rx rs q
  rcases q with q | q
  · exact h pins s σ H x xs v us Q I rx rs q
  · exact h' pins s σ H x xs v us Q I rx rs q
theorem pe_ix {r:R2} (hr:IxR X r) (ha:PE X a ta) (hb:PE X b tb) (hs:PlainIx b):PE X (.Subscript a b pos) (tOp r ta tb):=by
  intro pins s σ H Q I h
  exact Subscript_ (binT ha hb I h fun v u s2 x y H2 I2 rx ry q=>hr a b pins s2 σ H2 x y v u Q I2 rx ry q (hs _ _))

def rIxL (K:W.Frag):R2:=fun x y H Q=>∃ p xs i v,x = .ref p /\ y = .int i /\ SqL K H p xs /\ atI xs i = some v /\ Q v H
def rIxT (K:W.Frag):R2:=fun x y H Q=>∃ p xs i v,x = .ref p /\ y = .int i /\ SqT K H p xs /\ atI xs i = some v /\ Q v H
def rIxS:R2:=fun x y H Q=>∃ z i c,x = .str z /\ y = .int i /\ z.length <= sizeLine /\ atI z.cps.toList i = some c /\ Q (.str ⟨#[c]⟩) H
theorem ix_list:IxR X (rIxL X.K):=by
  intro value slice pins s σ H x y v u Q I rx ry h hs
  obtain ⟨p,xs,i,z,rfl,rfl,hq,he,q⟩:=h
  cases rx
  obtain ⟨t,rfl⟩:=ry
  obtain ⟨its,r,pl,hz⟩:=I.list hq
  obtain ⟨j,h1,h2,h3,h4,h5⟩:=atI_get he
  obtain ⟨w,ew,rw'⟩:=r.get h2
  have hl:=r.length
  have hn:=line63
  have fin:EP X pins σ Q w s:=⟨z,H,I,rw',q⟩
  by_cases h0 : 0 <= i
  · have hj:i.toNat = j:=by
      rw [seqIndex_of h0 h5] at h1
      exact Option.some.inj h1
    exact item_listR pl.isList h0 (by omega) (by rw [hj]; simpa using ew) fin hs
  · have hj:(i + (its.toArray.size:Int)).toNat = j:=by
      rw [seqIndex_neg (by omega) h4] at h1
      rw [List.size_toArray,<- hl]
      exact Option.some.inj h1
    exact subscriptTail_builtinR (x:=w) pl.isList.typeIs slot_list_getitem.lookup
      (wpAny_getItem_list_neg (Q:=fun r s'=>r = w /\ EP X pins σ Q r s') pl.isList (by omega) (by rw [List.size_toArray] <;> omega) (by omega) (by rw [hj]; simpa using ew) ⟨rfl,fin⟩) hs
theorem ix_tup:IxR X (rIxT X.K):=by
  intro value slice pins s σ H x y v u Q I rx ry h hs
  obtain ⟨p,xs,i,z,rfl,rfl,hq,he,q⟩:=h
  cases rx
  obtain ⟨t,rfl⟩:=ry
  obtain ⟨its,r,pl,hz⟩:=I.tuple hq
  obtain ⟨j,h1,h2,h3,h4,h5⟩:=atI_get he
  obtain ⟨w,ew,rw'⟩:=r.get h2
  have hl:=r.length
  have hn:=line63
  have fin:EP X pins σ Q w s:=⟨z,H,I,rw',q⟩
  exact subscriptTail_builtinR (x:=w) pl.typeIs slot_tuple_getitem.lookup
    (getItem_tuple (j:=j) (Q:=fun r s'=>r = w /\ EP X pins σ Q r s') pl (by omega) (by omega) (by rw [List.size_toArray,<- hl]; exact h1) (by simpa using ew) ⟨rfl,fin⟩) hs
theorem ix_str:IxR X rIxS:=by
  intro value slice pins s σ H x y v u Q I rx ry h hs
  obtain ⟨z,i,c,rfl,rfl,hz,he,q⟩:=h
  obtain ⟨t,rfl⟩:=rx
  obtain ⟨t',rfl⟩:=ry
  obtain ⟨j,h1,h2,h3,h4,h5⟩:=atI_get he
  have hl:z.cps.toList.length = z.length:=by simp [Str.length]
  rw [hl] at h1 h4 h5
  have hn:=line63
  exact tail_any (typeIs_str s z t) slot_str_getitem.lookup (getItem_str (c:=c) (by
    have e1:decide (i < -(2 ^ 63:Int)) = false:=decide_eq_false (by omega)
    have e2:decide (i ≥ 2 ^ 63) = false:=decide_eq_false (by omega)
    rw [e1,e2,Bool.or_false]) (by rw [h1]; simpa using h2) ⟨.str ⟨#[c]⟩,H,I.tok _,⟨_,rfl⟩,q⟩) hs
def rIx (K:W.Frag):R2:=fun x y H Q=>rIxL K x y H Q \/ rIxT K x y H Q \/ rIxS x y H Q
theorem ix_seq:IxR X (rIx X.K):=ix_list.or (ix_tup.or ix_str)

theorem Inv.lst {pins:List (Addr × Obj)} {σ:St} {H:Hp} {s:Shared} {p:Addr} {xs:List V} (I:Inv X pins σ H s) (h:H p = some (.lst xs)) :
    ∃ (its:List Value) (n:Nat),Vals xs its /\ s.heap.get? p = some { cls:=.type "list", data:=.seq its.toArray n } /\ xs.length <= sizeLine:=by
  obtain ⟨z,its,n,r,e⟩:=I.hok p _ h
  exact ⟨its,n,r,e,z⟩
theorem slice_bounds (lo hi:Option Int) (n:Nat):(sliceBounds lo hi none n).1 = ((HT.sIx n 0 lo:Nat):Int) /\ (sliceBounds lo hi none n).2.1 = ((HT.sIx n n hi:Nat):Int) /\ (sliceBounds lo hi none n).2.2 = 1:=by
  refine ⟨?_,?_,rfl⟩
  · cases lo with
    | none=>simp [sliceBounds,HT.sIx]
    | some i =>
      simp only [sliceBounds,HT.sIx,Option.getD_none,show (1:Int) > 0 by decide,if_true]
      by_cases h:i < 0
      · simp only [h,if_true] <;> omega
      · simp only [h,if_false] <;> omega
  · cases hi with
    | none=>simp [sliceBounds,HT.sIx]
    | some i =>
      simp only [sliceBounds,HT.sIx,Option.getD_none,show (1:Int) > 0 by decide,if_true]
      by_cases h:i < 0
      · simp only [h,if_true] <;> omega
      · simp only [h,if_false] <;> omega
theorem slicePick_cut (its:List Value) (lo hi:Option Int):slicePick its.toArray lo hi none = ((its.drop (HT.sIx its.length 0 lo)).take (HT.sIx its.length its.length hi - HT.sIx its.length 0 lo)).toArray:=by
  obtain ⟨h1,h2,h3⟩:=slice_bounds lo hi its.toArray.size
  unfold slicePick
  rw [h1,h2,h3]
  simp only [sliceRange_one,pick_run,List.size_toArray] <;> rfl
def rSlL (K:W.Frag):V -> Option Int -> Option Int -> Hp -> VK -> Prop:=fun x lo hi H Q=>∃ a xs,x = .ref a /\ SqL K H a xs /\ ∀ p,H p = none -> Q (.ref p) (upd H p (.lst (cutV xs lo hi)))
theorem sl_list:SlR X (rSlL X.K):=by
  intro pins s σ H x v vl vu lo hi sl Q I rx hs pl pu h
  obtain ⟨a,xs,rfl,hx,q⟩:=h
  cases rx
  obtain ⟨its,r,ht,hz⟩:=I.list hx
  have hlen:=r.length
  refine ⟨"list", _,slot_list_getitem.lookup,ht.isList.typeIs,?_⟩
  refine wpAny_getItem_list_slice ht.isList hs pl pu .none (by simp) ?_ (by rw [List.size_toArray] <;> omega)
  rw [slicePick_cut,<- hlen]
  refine ⟨.ref s.heap.objs.size,_,I.laid (t':=s.toks) (o:=.lst (cutV xs lo hi)) (fun b ob q=>Heap.get?_push_of_some _ q) (Nat.le_refl _) ?_,rfl,q _ (I.hok.fresh (Nat.le_refl _))⟩
  exact ⟨Nat.le_trans (cutV_length xs lo hi) hz,_,0,(r.drop (HT.sIx xs.length 0 lo)).take (HT.sIx xs.length xs.length hi - HT.sIx xs.length 0 lo),Heap.get?_push_size _ rfl⟩

theorem call_len_seq:CallR X (.builtin "len") (fun xs H Q=>∃ p ys,xs = [.ref p] /\ (SqL X.K H p ys \/ SqT X.K H p ys) /\ Q (.int ys.length) H):=by
  intro pins s σ H xs us Q I r h
  obtain ⟨p,ys,rfl,hq,q⟩:=h
  obtain ⟨u,rfl,rx⟩:=vals1 r
  cases rx
  have hn:=line63
  rcases hq with hq | hq
  · obtain ⟨its,r',pl,hz⟩:=I.list hq
    have hlen:=r'.length
    exact Calls.call_len_list pl.isList (by simp only [List.size_toArray] <;> omega) ⟨.int ys.length,H,I.tok _,⟨s.toks + 1,by rw [List.size_toArray,hlen]⟩,q⟩
  · obtain ⟨its,r',pl,hz⟩:=I.tuple hq
    have hlen:=r'.length
    exact len_tuple pl (by simp only [List.size_toArray] <;> omega) ⟨.int ys.length,H,I.tok _,⟨s.toks + 1,by rw [List.size_toArray,hlen]⟩,q⟩
theorem CallR.or {f:Value} {r r':List V -> Hp -> VK -> Prop} (h:CallR X f r) (h':CallR X f r'):CallR X f (fun xs H Q=>r xs H Q \/ r' xs H Q):=by
  intro pins s σ H xs us Q I rs q
  rcases q with q | q
  · exact h pins s σ H xs us Q I rs q
  · exact h' pins s σ H xs us Q I rs q
theorem call_list_of:CallR X (.type "list") (fun xs H Q=>∃ p ys,xs = [.ref p] /\ (SqL X.K H p ys \/ SqT X.K H p ys) /\ ∀ l,H l = none -> Q (.ref l) (upd H l (.lst ys))):=by
  intro pins s σ H xs us Q I r h
  obtain ⟨p,ys,rfl,hq,q⟩:=h
  obtain ⟨u,rfl,rx⟩:=vals1 r
  cases rx
  have fin:∀ (its:List Value),Vals ys its -> ys.length <= sizeLine -> ∀ (h':Heap) (c':Nat),(∀ b o',s.heap.get? b = some o' -> h'.get? b = some o') ->
      h'.get? s.heap.objs.size = some { cls:=.type "list", dict:=none,data:=.seq its.toArray c',slots:=#[] } -> EP X pins σ Q (.ref s.heap.objs.size) { s with heap:=h' }:=fun its r' hz h' c' kp e =>
    ⟨.ref s.heap.objs.size,_,I.laid (t':=s.toks) kp (Nat.le_refl _) (show ObjOk X.prog X.w _ h' _ (.lst ys) from ⟨hz,its,c',r',e⟩),rfl,q _ (I.hok.fresh (Nat.le_refl _))⟩
  rcases hq with hq | hq
  · obtain ⟨its,r',pl,hz⟩:=I.list hq
    have hlen:=r'.length
    obtain ⟨o,ho,hc,n,hd⟩:=pl.isList
    exact call_list_seq p (.inl rfl) ho hc hd (fun h' c' kp e=>fin its r' hz h' c' kp e) (by simp only [List.size_toArray] <;> omega)
  · obtain ⟨its,r',pl,hz⟩:=I.tuple hq
    have hlen:=r'.length
    obtain ⟨o,ho,hc,n,hd⟩:=pl
    exact call_list_seq p (.inr rfl) ho hc hd (fun h' c' kp e=>fin its r' hz h' c' kp e) (by simp only [List.size_toArray] <;> omega)
theorem call_tuple_of:CallR X (.type "tuple") (fun xs H Q=>∃ p ys,xs = [.ref p] /\ ((SqL X.K H p ys /\ ∀ l,H l = none -> Q (.ref l) (upd H l (.tup ys))) \/ (SqT X.K H p ys /\ Q (.ref p) H))):=by
  intro pins s σ H xs us Q I r h
  obtain ⟨p,ys,rfl,h⟩:=h
  obtain ⟨u,rfl,rx⟩:=vals1 r
  cases rx
  rcases h with ⟨hq,q⟩ | ⟨hq,q⟩
  · obtain ⟨its,r',pl,hz⟩:=I.list hq
    have hlen:=r'.length
    refine call_tuple_list pl.isList (fun h' kp=>?_) (by simp only [List.size_toArray] <;> omega)
    have I1:Inv X pins σ H { s with heap:=h' }:=I.kept (t':=s.toks) kp
    have I2:Inv X pins σ (upd H h'.objs.size (.tup ys)) { s with heap:=h'.push { cls:=.type "tuple", data:=.seq its.toArray } } :=
      I1.laid (t':=s.toks) (fun b o e=>Heap.get?_push_of_some _ e) (Nat.le_refl _) (show ObjOk X.prog X.w _ _ _ (.tup ys) from ⟨hz,its,r',IsTupD.new _ _⟩)
    exact ⟨.ref h'.objs.size,_,I2,rfl,q _ (I1.hok.fresh (Nat.le_refl _))⟩
  · obtain ⟨its,r',pl,hz⟩:=I.tuple hq
    exact call_tuple_same pl ⟨.ref p,H,I,rfl,q⟩

def tyV (K:W.Frag) (T:String) (x:V) (H:Hp):Prop:=match x with
  | .str _=>T = "str"
  | .int _=>T = "int"
  | .ref p=>(T = "list" /\ ∃ xs,SqL K H p xs) \/ (T = "tuple" /\ ∃ xs,SqT K H p xs) \/
      (T = "dict" /\ ((∃ kvs,H p = some (.dK kvs)) \/ ∃ kvs,H p = some (.dT kvs))) \/ (T = "set" /\ ∃ S n,H p = some (.set S n))
  | _=>False
theorem tyV_is {pins:List (Addr × Obj)} {σ:St} {H:Hp} {s:Shared} {T:String} {x:V} {v:Value} (I:Inv X pins σ H s) (r:RelV x v) (ty:tyV X.K T x H) :
    s.TypeIs v T /\ ∀ a,v = .ref a -> ∃ ob,s.heap.get? a = some ob /\ ob.dict = none:=by
  cases x with
  | str z =>
    obtain ⟨t,rfl⟩:=r
    cases (show T = "str" from ty)
    exact ⟨typeIs_str s z t,fun _ e=>nomatch e⟩
  | int i =>
    obtain ⟨t,rfl⟩:=r
    cases (show T = "int" from ty)
    exact ⟨typeIs_int s i t,fun _ e=>nomatch e⟩
  | ref p =>
    cases r
    rcases ty with ⟨rfl,xs,hq⟩ | ⟨rfl,xs,hq⟩ | ⟨rfl,hk⟩ | ⟨rfl,S,n,hk⟩
    · obtain ⟨its,_,pl,_⟩:=I.list hq
      refine ⟨pl.isList.typeIs,fun a e=>?_⟩
      cases e
      obtain ⟨o,n,e,c,hd,_⟩:=pl
      exact ⟨o,e,hd⟩
    · obtain ⟨o,e1,e2,e3⟩:=I.tupleD hq
      refine ⟨⟨o,e1,e2⟩,fun a e=>?_⟩
      cases e
      exact ⟨o,e1,e3⟩
    · have z:∃ o,s.heap.get? p = some o /\ o.ExactDict:=by
        rcases hk with ⟨kvs,hk⟩ | ⟨kvs,hk⟩
        · obtain ⟨_,_,_,_,o,_,_,e,ex,_⟩:=I.hok p _ hk
          exact ⟨o,e,ex⟩
        · obtain ⟨_,_,_,_,o,_,_,e,ex,_⟩:=I.hok p _ hk
          exact ⟨o,e,ex⟩
      obtain ⟨o,e,ex⟩:=z
      refine ⟨⟨o,e,ex.1⟩,fun a e2=>?_⟩
      cases e2
      exact ⟨o,e,ex.2.1⟩
    · obtain ⟨o,_,_,_,e,ex,_⟩:=I.hok p _ hk
      refine ⟨⟨o,e,ex.1⟩,fun a e2=>?_⟩
      cases e2
      exact ⟨o,e,ex.2.1⟩
  | _=>exact False.elim ty
def tBM (K:W.Frag) (T:String) (r:V -> List V -> Hp -> VK -> Prop) (to:TE) (t:TA):TE:=fun σ H Q=>to σ H fun x H1=>tyV K T x H1 /\ t σ H1 fun xs H2=>r x xs H2 Q
variable {o e:Expr} {es:List Expr} {to:TE} {t:TA} {name:Str} {apos cpos:Pos} {T id:String} {r:V -> List V -> Hp -> VK -> Prop}
theorem pe_bm (pa:PlainAttrs T) (slot:Slot T name id) (hty:typeOf (.builtin id) = pure (.type "method_descriptor")) (hm:MtR X id r) (ho:PE X o to) (ha:PA X (e :: es) t)
    (hbase:attributeBase o name X.env (eval o X.env) = eval o X.env:=by rfl)
    (hfew:((backTo cpos (starEach (e :: es) X.env)).all (fun x=>!x.1) && (backToKw cpos (keywordEach [] X.env)).all (fun x=>x.1.isSome)
      && decide ((e :: es).length + ([]:List Keyword).length + (if ([]:List Keyword).isEmpty then 0 else 1) < 30)) = true:=by rfl)
    (hline:(apos.endLine == cpos.line) = true:=by rfl) (hs:starEach (e :: es) X.env = (false,eval e X.env) :: starEach es X.env:=by rfl) (hplain:(backTo cpos (starEach es X.env)).any (·.1) = false:=by rfl) :
    PE X (.Call (.Attribute o name apos) (e :: es) [] cpos) (tBM X.K T r to t):=by
  intro pins s σ H Q I h
  refine wpAny_Call_method_late hbase hfew hline rfl (thn (ho pins s σ H _ I h) fun v s1 ⟨x,H1,I1,r1,ty,q1⟩=>?_)
  obtain ⟨h1,h2⟩:=tyV_is I1 r1 ty
  refine ⟨T,id,pa,slot,hty,h1,h2,?_⟩
  have hA:=ha cpos pins s1 σ H1 _ I1 q1
  rw [hs] at hA ⊢
  refine Calls.callWith_builtin (by show (false || (backTo cpos (starEach es X.env)).any (·.1)) = false; rw [hplain] <;> rfl) (Calls.evalArgs_plain ?_)
  exact thn hA fun us s2 ⟨vs,H2,I2,r2,q2⟩=>hm pins s2 σ H2 x vs v us Q I2 r1 r2 q2

end
end L2

namespace L2
open PySem PySem.Spec PyProof.Rows

def MtM (X:Cx) (id:String) (r:V -> List V -> Hp -> VK -> Prop):Prop :=
  ∀ (pins:List (Addr × Obj)) (s:Shared) (σ:St) (H:Hp) (x:V) (xs:List V) (v:Value) (us:List Value) (Q:VK),Inv X pins σ H s -> RelV x v -> Vals xs us -> r x xs H Q ->
    wpAny (model X.prog X.w) X.A (call (.builtin id) (v :: us)) (EP X pins σ Q) X.xe s

theorem Vals.one:∀ {x:V} {us:List Value},Vals [x] us -> ∃ u,us = [u] /\ RelV x u
  | _,_,.cons r .nil=>⟨_,rfl,r⟩
theorem Vals.two:∀ {x y:V} {us:List Value},Vals [x,y] us -> ∃ u v,us = [u,v] /\ RelV x u /\ RelV y v
  | _,_,_,.cons r (.cons q .nil)=>⟨_,_,rfl,r,q⟩
theorem Vals.zero:∀ {us:List Value},Vals [] us -> us = []
  | _,.nil=>rfl
theorem Vals.eraseIdx:∀ {xs:List V} {us:List Value} (i:Nat),Vals xs us -> Vals (xs.eraseIdx i) (us.eraseIdx i)
  | _,_,_,.nil=>.nil
  | _,_,0,.cons _ t=>t
  | _,_,i + 1,.cons r t=>.cons r (Vals.eraseIdx i t)
theorem Vals.reverse {xs:List V} {us:List Value} (h:Vals xs us):Vals xs.reverse us.reverse:=by
  induction h with
  | nil=>exact .nil
  | cons r t ih=>rw [List.reverse_cons,List.reverse_cons]; exact Vals.append ih (.cons r .nil)
section
variable {X:Cx} {pins:List (Addr × Obj)} {σ:St} {H:Hp} {s:Shared} {l b:Addr} {xs ys zs:List V}

theorem Inv.lset {its its':List Value} {n:Nat} {f:Array Value -> Array Value} {t':Nat} (I:Inv X pins σ H s) (hH:H l = some (.lst xs))
    (e:s.heap.get? l = some { cls:=.type "list", data:=.seq its.toArray n }) (hf:f its.toArray = its'.toArray) (hv:Vals ys its') (hz:ys.length <= sizeLine) :
    Inv X pins σ (upd H l (.lst ys)) { s with heap:=s.heap.update l (Obj.mapSeq f),toks:=t' }:=by
  have q:=PySem.IsL.update e f
  rw [hf] at q
  refine I.write (x:=l) (e:=l) (by rw [hH]; exact trivial) (.inl rfl) (fun b' u hb hu=>(Heap.get?_update_other s.heap (Obj.mapSeq f) (Ne.symm hb)).trans hu) ⟨_,q⟩ ?_
  exact ⟨hz,its',_,hv,q⟩
theorem Inv.lnew {its:List Value} {t':Nat} (I:Inv X pins σ H s) (hv:Vals ys its) (hz:ys.length <= sizeLine) :
    Inv X pins σ (upd H s.heap.objs.size (.lst ys)) { s with heap:=s.heap.push { cls:=.type "list", data:=.seq its.toArray },toks:=t' } :=
  I.laid (fun _ _ q=>Heap.get?_push_of_some _ q) (Nat.le_refl _) ⟨hz,its,0,hv,Heap.get?_push_size _ rfl⟩
theorem Inv.fresh (I:Inv X pins σ H s):H s.heap.objs.size = none:=I.hok.fresh (Nat.le_refl _)
theorem Inv.lstM (I:Inv X pins σ H s) (hH:H l = some (.lst xs)):xs.length <= sizeLine /\ ∃ (its:List Value) (n:Nat),Vals xs its /\ xs.length = its.length /\ s.heap.get? l = some { cls:=.type "list", data:=.seq its.toArray n }:=by
  obtain ⟨z,its,n,r,e⟩:=I.hok l _ hH
  exact ⟨z,its,n,r,r.length,e⟩

end

section
variable {X:Cx}

def rAppend:V -> List V -> Hp -> VK -> Prop:=fun x vs H Q=>∃ l xs y,x = .ref l /\ vs = [y] /\ H l = some (.lst xs) /\ xs.length < sizeLine /\ Q .non (upd H l (.lst (xs ++ [y])))
theorem mt_append:MtM X "list.append" rAppend:=by
  intro pins s σ H x vs v us Q I rx rv h
  obtain ⟨l,xs,y,rfl,rfl,hH,hz,q⟩:=h
  cases rx
  obtain ⟨u,rfl,ru⟩:=rv.one
  obtain ⟨z,its,n,r,hl,e⟩:=I.lstM hH
  refine call_meets F.slot_list_append ⟨_,e,rfl⟩ F.entry_list_append (F.args_list_append_2 _ _) (PySem.list_append l its.toArray n u (by rw [List.size_toArray]; omega)) ⟨e,?_⟩
  refine ⟨.non,_,I.lset (its':=its ++ [u]) hH e (by simp) (r.append (.cons ru .nil)) ?_,rfl,q⟩
  rw [List.length_append,List.length_singleton]
  omega

def rCat:R2:=fun x y H Q=>∃ l b xs zs,x = .ref l /\ y = .ref b /\ H l = some (.lst xs) /\ H b = some (.lst zs) /\ xs.length + zs.length <= sizeLine /\ ∀ p,H p = none -> Q (.ref p) (upd H p (.lst (xs ++ zs)))
theorem op_cat:OpR X (binaryOp .Add) rCat:=by
  intro pins s σ H x y v u Q I rx ry h
  obtain ⟨l,b,xs,zs,rfl,rfl,hH,hB,hz,q⟩:=h
  cases rx
  cases ry
  obtain ⟨z,its,n,r,hl,e⟩:=I.lstM hH
  obtain ⟨z2,its2,n2,r2,hl2,e2⟩:=I.lstM hB
  refine PySem.P.add_list e e2 ?_ (by rw [List.size_toArray,List.size_toArray]; omega)
  have ea:its.toArray ++ its2.toArray = (its ++ its2).toArray:=by simp
  rw [ea]
  exact ⟨.ref _,_,I.lnew (t':=s.toks) (r.append r2) (by rw [List.length_append]; omega),rfl,q _ I.fresh⟩
end

section
variable {prog:Program} {w:World} {A:Around} {E:Value -> Shared -> Prop} {s:Shared}
end

section
variable {X:Cx}
end
end L2

namespace L2
open PySem PySem.Spec PyProof.Rows

section
variable {κ:Type} [DecidableEq κ]
def valV (kvs:List (κ × V)) (k : κ):Option V:=(kvs.find? fun kv=>decide (kv.1 = k)).map (·.2)
def putK (kvs:List (κ × V)) (k : κ) (v:V):List (κ × V) :=
  if (kvs.any fun kv=>decide (kv.1 = k)) = true then kvs.map (fun kv=>if kv.1 = k then (kv.1,v) else kv) else kvs ++ [(k,v)]
theorem valV_pos {p : κ × V} {r:List (κ × V)} {k : κ} (e:p.1 = k):valV (p :: r) k = some p.2:=by simp [valV,List.find?_cons,e]
theorem valV_neg {p : κ × V} {r:List (κ × V)} {k : κ} (e:¬ p.1 = k):valV (p :: r) k = valV r k:=by simp [valV,List.find?_cons,e]
theorem valV_any (k : κ):∀ kvs:List (κ × V),(kvs.any fun kv=>decide (kv.1 = k)) = (valV kvs k).isSome
  | []=>rfl
  | p :: r=>by
    rw [List.any_cons]
    by_cases e:p.1 = k
    · simp only [valV_pos e,decide_eq_true e,Bool.true_or,Option.isSome_some]
    · rw [valV_neg e,decide_eq_false e,Bool.false_or]; exact valV_any k r
theorem length_putK (kvs:List (κ × V)) (k : κ) (v:V):(putK kvs k v).length <= kvs.length + 1:=by
  unfold putK
  split
  · rw [List.length_map]; omega
  · rw [List.length_append,List.length_cons,List.length_nil]; omega
theorem RelO.isSome_eq {o:Option V} {u:Option Value} (r:RelO o u):o.isSome = u.isSome:=by
  cases o with
  | none=>cases u with
    | none=>rfl
    | some _=>exact (show False from r).elim
  | some _=>cases u with
    | none=>exact (show False from r).elim
    | some _=>rfl
theorem RelO.getD {o:Option V} {u:Option Value} {d:V} {d':Value} (r:RelO o u) (rd:RelV d d'):RelV (o.getD d) (u.getD d'):=by
  cases o with
  | none=>cases u with
    | none=>exact rd
    | some _=>exact (show False from r).elim
  | some _=>cases u with
    | none=>exact (show False from r).elim
    | some _=>exact r

theorem KV.val {kvs:List (κ × V)} {vs:List (κ × Value)} (r:KV kvs vs) (k : κ):RelO (valV kvs k) (valueAt vs k):=by
  unfold KV at r
  induction r with
  | nil=>exact True.intro
  | @cons p q ps qs h t ih =>
    obtain ⟨h1,h2⟩:=h
    by_cases e:p.1 = k
    · have e':q.1 = k:=h1.symm.trans e
      have b:valueAt (q :: qs) k = some q.2:=by simp [valueAt,List.find?_cons,e']
      rw [valV_pos e,b]; exact h2
    · have e':¬ q.1 = k:=fun z=>e (h1.trans z)
      have b:valueAt (q :: qs) k = valueAt qs k:=by simp [valueAt,List.find?_cons,e']
      rw [valV_neg e,b]; exact ih
theorem KV.any {kvs:List (κ × V)} {vs:List (κ × Value)} (r:KV kvs vs) (k : κ):(kvs.any fun kv=>decide (kv.1 = k)) = vs.any fun kv=>decide (kv.1 = k):=by
  unfold KV at r
  induction r with
  | nil=>rfl
  | cons h t ih=>rw [List.any_cons,List.any_cons,ih,h.1]
theorem KV.repl {kvs:List (κ × V)} {vs:List (κ × Value)} (r:KV kvs vs) (k : κ) {y:V} {u:Value} (ry:RelV y u) :
    KV (kvs.map fun kv=>if kv.1 = k then (kv.1,y) else kv) (vs.map fun kv=>if kv.1 = k then (kv.1,u) else kv):=by
  unfold KV at r ⊢
  induction r with
  | nil=>exact .nil
  | @cons p q ps qs h t ih =>
    rw [List.map_cons,List.map_cons]
    refine .cons ?_ ih
    obtain ⟨h1,h2⟩:=h
    by_cases e:p.1 = k
    · rw [if_pos e,if_pos (h1.symm.trans e)]; exact ⟨h1,ry⟩
    · rw [if_neg e,if_neg (fun z=>e (h1.trans z))]; exact ⟨h1,h2⟩
theorem KV.put {kvs:List (κ × V)} {vs:List (κ × Value)} (r:KV kvs vs) (k : κ) {y:V} {u:Value} (ry:RelV y u):KV (putK kvs k y) (stored vs k u):=by
  unfold putK stored
  rw [r.any k]
  by_cases e:(vs.any fun kv=>decide (kv.1 = k)) = true
  · rw [if_pos e,if_pos e]; exact r.repl k ry
  · rw [if_neg e,if_neg e]; exact Paired.snoc r ⟨rfl,ry⟩
theorem KV.keys {kvs:List (κ × V)} {vs:List (κ × Value)} (r:KV kvs vs):kvs.map (·.1) = vs.map (·.1):=by
  unfold KV at r
  induction r with
  | nil=>rfl
  | cons h t ih=>rw [List.map_cons,List.map_cons,ih,h.1]
theorem KV.length {kvs:List (κ × V)} {vs:List (κ × Value)} (r:KV kvs vs):kvs.length = vs.length:=Paired.length r
end

theorem kV_is {P:Program} {w:World} {k:Key} {u:Value} (r:RelV (kV k) u):(mixKind P w).is k u = true:=by
  cases k with
  | inl i=>obtain ⟨t,e⟩:=(show ∃ t,u = Value.int i t from r); subst e; exact mixKind_int P w i t
  | inr x=>obtain ⟨t,e⟩:=(show ∃ t,u = Value.str x t from r); subst e; exact mixKind_str P w x t
theorem items_are {P:Program} {w:World}:∀ {ks:List Key} {us:List Value},Vals (ks.map kV) us -> ItemsAre (mixKind P w) ks us
  | [],_,r=>by rw [List.map_nil] at r; cases r; exact .nil
  | k :: ks,_,r=>by
    rw [List.map_cons] at r
    cases r with
    | cons h t=>exact .cons (kV_is h) (items_are t)

abbrev KT (H:Hp):List (List Key × V) -> List (List Key × Addr × Value) -> Prop:=Paired fun p q=>p.1 = q.1 /\ H q.2.1 = some (.tup (p.1.map kV)) /\ RelV p.2 q.2.2
theorem KT.val {H:Hp} {kvs:List (List Key × V)} {xs:List (List Key × Addr × Value)} (r:KT H kvs xs) (k:List Key):RelO (valV kvs k) ((atKey xs k).map (·.2)):=by
  induction r with
  | nil=>exact True.intro
  | @cons p q ps qs h t ih =>
    obtain ⟨h1,_,h2⟩:=h
    by_cases e:p.1 = k
    · have e':q.1 = k:=h1.symm.trans e
      have b:atKey (q :: qs) k = some q.2:=by simp [atKey,List.find?_cons,e']
      rw [valV_pos e,b]; exact h2
    · have e':¬ q.1 = k:=fun z=>e (h1.trans z)
      have b:atKey (q :: qs) k = atKey qs k:=by simp [atKey,List.find?_cons,e']
      rw [valV_neg e,b]; exact ih
theorem KT.repl {H:Hp} {kvs:List (List Key × V)} {xs:List (List Key × Addr × Value)} (r:KT H kvs xs) (k:List Key) {y:V} {u:Value} (ry:RelV y u) :
    KT H (kvs.map fun kv=>if kv.1 = k then (kv.1,y) else kv) (xs.map (putAt k u)):=by
  induction r with
  | nil=>exact .nil
  | @cons p q ps qs h t ih =>
    rw [List.map_cons,List.map_cons]
    refine .cons ?_ ih
    obtain ⟨h1,h2,h3⟩:=h
    unfold putAt
    by_cases e:p.1 = k
    · rw [if_pos e,if_pos (h1.symm.trans e)]; exact ⟨h1,h2,ry⟩
    · rw [if_neg e,if_neg (fun z=>e (h1.trans z))]; exact ⟨h1,h2,h3⟩
theorem KT.put {H:Hp} {kvs:List (List Key × V)} {xs:List (List Key × Addr × Value)} (r:KT H kvs xs) (k:List Key) {b:Addr} {y:V} {u:Value} (hb:H b = some (.tup (k.map kV))) (ry:RelV y u) :
    KT H (putK kvs k y) (storedH xs k b u):=by
  have e:(kvs.any fun kv=>decide (kv.1 = k)) = (atKey xs k).isSome:=by
    rw [valV_any,(r.val k).isSome_eq,Option.isSome_map]
  unfold putK storedH
  rw [e]
  by_cases q:(atKey xs k).isSome = true
  · rw [if_pos q,if_pos q]; exact r.repl k ry
  · rw [if_neg q,if_neg q]; exact Paired.snoc r ⟨rfl,hb,ry⟩
theorem KT.keeps {H H':Hp} {kvs:List (List Key × V)} {xs:List (List Key × Addr × Value)} (r:KT H kvs xs) (ht:∀ b ys,H b = some (.tup ys) -> H' b = some (.tup ys)):KT H' kvs xs :=
  Paired.mapP r fun _ _ z=>⟨z.1,ht _ _ z.2.1,z.2.2⟩

section
variable {P:Program} {w:World} {H:Hp} {h:Heap} {a:Addr}
theorem rd_of {u:HO} (ok:HOk P w H h) (e:Rd H a u):ObjOk P w H h a u:=e.ok ok
theorem dk_rd {kvs:List (Key × V)} (ok:HOk P w H h) (e:Rd H a (.dK kvs)):kvs.length <= sizeLine /\ (a == sysModules) = false /\ ∃ vs,KV kvs vs /\ h.DictOf (mixKind P w) a vs :=
  show ObjOk P w H h a (.dK kvs) from rd_of ok e
theorem dk_of {kvs:List (Key × V)} (ok:HOk P w H h) (e:H a = some (.dK kvs)):kvs.length <= sizeLine /\ (a == sysModules) = false /\ ∃ vs,KV kvs vs /\ h.DictOf (mixKind P w) a vs:=dk_rd ok (.inl e)
theorem key_of {ks:List Key} (ok:HOk P w H h) (e:H a = some (.tup (ks.map kV))):(tupleKind (mixKind P w)).is h ks a:=by
  obtain ⟨_,its,r,o,h1,h2,⟨n,h3⟩,_⟩:=(show ObjOk P w H h a (.tup (ks.map kV)) from ok a _ e)
  exact ⟨o,its.toArray,n,h1,h2,h3,by simpa using items_are r⟩
theorem dt_rd {kvs:List (List Key × V)} (ok:HOk P w H h) (e:Rd H a (.dT kvs)):kvs.length <= sizeLine /\ (a == sysModules) = false /\
    ∃ xs,KT H kvs xs /\ h.DictOfH (tupleKind (mixKind P w)) a xs:=by
  obtain ⟨z,y,xs,r,o,es,ep,h1,h2,h3,h4,h5⟩:=(show ObjOk P w H h a (.dT kvs) from rd_of ok e)
  refine ⟨z,y,xs,r,o,es,ep,h1,h2,h3,h4,fun x hx=>?_,h5⟩
  have all:∀ {l:List (List Key × V)} {m:List (List Key × Addr × Value)},KT H l m -> ∀ x ∈ m,(tupleKind (mixKind P w)).is h x.1 x.2.1:=by
    intro l m q
    induction q with
    | nil=>intro x hx; exact nomatch hx
    | @cons p q ps qs hq t ih =>
      intro x hx
      rcases List.mem_cons.mp hx with e | hx
      · subst e
        exact key_of ok (by rw [<- hq.1]; exact hq.2.1)
      · exact ih x hx
  exact all r x hx
theorem dt_of {kvs:List (List Key × V)} (ok:HOk P w H h) (e:H a = some (.dT kvs)):kvs.length <= sizeLine /\ (a == sysModules) = false /\
    ∃ xs,KT H kvs xs /\ h.DictOfH (tupleKind (mixKind P w)) a xs:=dt_rd ok (.inl e)
end

def DGet (H:Hp) (a:Addr) (y:V) (r:Option V):Prop :=
  (∃ kvs k,Rd H a (.dK kvs) /\ y = kV k /\ r = valV kvs k) \/ ∃ kvs k b,Rd H a (.dT kvs) /\ y = .ref b /\ H b = some (.tup (k.map kV)) /\ r = valV kvs k
def DPut (H:Hp) (a:Addr) (y v:V) (H':Hp):Prop :=
  (∃ kvs k,H a = some (.dK kvs) /\ y = kV k /\ kvs.length < sizeLine /\ H' = upd H a (.dK (putK kvs k v))) \/
  ∃ kvs k b,H a = some (.dT kvs) /\ y = .ref b /\ H b = some (.tup (k.map kV)) /\ kvs.length < sizeLine /\ H' = upd H a (.dT (putK kvs k v))
theorem DGet.k {H:Hp} {a:Addr} {kvs:List (Key × V)} {k:Key} (e:H a = some (.dK kvs)):DGet H a (kV k) (valV kvs k):=.inl ⟨kvs,k,.inl e,rfl,rfl⟩
theorem DGet.t {H:Hp} {a b:Addr} {kvs:List (List Key × V)} {k:List Key} (e:H a = some (.dT kvs)) (eb:H b = some (.tup (k.map kV))):DGet H a (.ref b) (valV kvs k):=.inr ⟨kvs,k,b,.inl e,rfl,eb,rfl⟩
theorem DPut.k {H:Hp} {a:Addr} {kvs:List (Key × V)} {k:Key} {v:V} (e:H a = some (.dK kvs)) (hl:kvs.length < sizeLine):DPut H a (kV k) v (upd H a (.dK (putK kvs k v))):=.inl ⟨kvs,k,e,rfl,hl,rfl⟩
theorem DPut.t {H:Hp} {a b:Addr} {kvs:List (List Key × V)} {k:List Key} {v:V} (e:H a = some (.dT kvs)) (eb:H b = some (.tup (k.map kV))) (hl:kvs.length < sizeLine) :
    DPut H a (.ref b) v (upd H a (.dT (putK kvs k v))):=.inr ⟨kvs,k,b,e,rfl,eb,hl,rfl⟩

section
variable {X:Cx} {pins:List (Addr × Obj)} {σ:St} {H:Hp} {s:Shared} {a:Addr} {y v:V} {u r:Value} {o:Option V} {A:Around} {E:Value -> Shared -> Prop}

theorem Inv.big (I:Inv X pins σ H s):sysModules < s.heap.objs.size:=by
  have h:mainGlobals < s.heap.objs.size:=(I.mod.glob.keeps I.bk).lt
  exact Nat.lt_trans (by decide) h

theorem d_getItem {Q:Value -> Shared -> Prop} (hu:A.units + 1 < cLine) (I:Inv X pins σ H s) (g:DGet H a y (some v)) (ry:RelV y u) (h:∀ w' s',Inv X pins σ H s' -> RelV v w' -> Q w' s') :
    wpAny (model X.prog X.w) A (getItem (.ref a) u) Q E s:=by
  rcases g with ⟨kvs,k,e,ey,l⟩ | ⟨kvs,k,b,e,ey,eb,l⟩
  · subst ey
    obtain ⟨z,hd,vs,rel,dd⟩:=dk_rd I.hok e
    obtain ⟨w',hw,rw'⟩:=RelO.some_of (v:=v) (o:=valueAt vs k) (by rw [l]; exact rel.val k)
    exact wpAny_getItem_of (kV_is ry) dd.mapOf hw (h w' _ (I.tok _) rw')
  · subst ey
    cases (show u = Value.ref b from ry)
    obtain ⟨z,hd,xs,rel,dd⟩:=dt_rd I.hok e
    obtain ⟨w',hw,rw'⟩:=RelO.some_of (v:=v) (o:=(atKey xs k).map (·.2)) (by rw [l]; exact rel.val k)
    obtain ⟨p,hp,hp2⟩:=Option.map_eq_some_iff.mp hw
    refine wpAny_getItem_heap (tupleKind_room_in1 hu) (key_of I.hok eb) dd hp ?_
    rw [hp2]
    exact h w' _ (I.tok _) rw'
theorem d_write {h':Heap} {t':Nat} {ob:HO} (I:Inv X pins σ H s) (mu:Mut (H a)) (hs:Heap.SameBut a s.heap h') (he:∃ q,h'.get? a = some q) (new:ObjOk X.prog X.w (upd H a ob) h' a ob) :
    Inv X pins σ (upd H a ob) { s with heap:=h',toks:=t' } :=
  I.write (x:=a) (e:=a) mu (.inl rfl) (fun b q hb z=>(hs.2 b hb).trans z) he new
theorem dk_new {P:Program} {w:World} {H':Hp} {h':Heap} {kvs:List (Key × V)} {vs:List (Key × Value)} (z:kvs.length <= sizeLine) (hd:(a == sysModules) = false) (rel:KV kvs vs) (dd:h'.DictOf (mixKind P w) a vs) :
    ObjOk P w H' h' a (.dK kvs):=⟨z,hd,vs,rel,dd⟩
theorem d_setItem {H':Hp} {Q:Unit -> Shared -> Prop} (hu:A.units + 1 < cLine) (I:Inv X pins σ H s) (g:DPut H a y v H') (ry:RelV y u) (rv:RelV v r) (h:∀ s',Inv X pins σ H' s' -> Q () s') :
    wpAny (model X.prog X.w) A (setItem (.ref a) u r) Q E s:=by
  rcases g with ⟨kvs,k,e,ey,l,eH⟩ | ⟨kvs,k,b,e,ey,eb,l,eH⟩
  · subst ey eH
    obtain ⟨z,hd,vs,rel,dd⟩:=dk_of I.hok e
    have hz:vs.length <= sizeLine:=by rw [<- rel.length]; exact z
    have hl:(putK kvs k v).length <= sizeLine:=by have:=length_putK kvs k v; omega
    refine wpAny_setItem_pairs (hsz:=hz) (kV_is ry) dd fun h' dd' hs=>h _ ?_
    have he:∃ q,h'.get? a = some q:=let ⟨q,_,_,hq,_⟩:=dd'; ⟨q,hq⟩
    exact d_write I (by rw [e]; exact True.intro) hs he (dk_new hl hd (rel.put k rv) dd')
  · subst ey eH
    cases (show u = Value.ref b from ry)
    obtain ⟨z,hd,xs,rel,dd⟩:=dt_of I.hok e
    have hz:xs.length <= sizeLine:=by rw [<- Paired.length rel]; exact z
    have hl:(putK kvs k v).length <= sizeLine:=by have:=length_putK kvs k v; omega
    refine wpAny_setItem_heap (hsz:=hz) (tupleKind_room_in1 hu) (key_of I.hok eb) dd fun h' dd' hs=>h _ ?_
    obtain ⟨q,es,ep,hq,h2,h3,h4,_,h5⟩:=dd'
    refine d_write I (by rw [e]; exact True.intro) hs ⟨q,hq⟩ ⟨hl,hd,_,(rel.put k eb rv).keeps fun c ys ec=>?_,q,es,ep,hq,h2,h3,h4,h5⟩
    rw [upd_ne (ne_of ec e (fun z=>nomatch z))]
    exact ec
end

section
variable {X:Cx} {pins:List (Addr × Obj)} {σ:St} {H:Hp} {s:Shared} {a:Addr} {kvs:List (Key × V)} {k:Key} {u:Value} {A:Around} {E:Value -> Shared -> Prop}
end

def NoSl (i:Expr):Prop:=∀ ov iv,subscripted i false ov iv = operate [ov,iv] (getItem ov iv)
theorem subD_of {prog:Program} {w:World} {A:Around} {E:Value -> Shared -> Prop} {s:Shared} {env:Env} {value slice:Expr} {pos:Pos} {T id:String} {Q:Value -> Shared -> Prop}
    (hl:typeLookup (.type T) "__getitem__" = pure (some (.builtin id))) (hs:NoSl slice)
    (h:wpAny (model prog w) A (eval value env) (fun o s₁=>wpAny (model prog w) A (eval slice env) (fun i s₂=>s₂.TypeIs o T /\ wpAny (model prog w) A (getItem o i) Q E s₂) E s₁) E s) :
    wpAny (model prog w) A (eval (.Subscript value slice pos) env) Q E s:=by
  refine Subscript_ (wpAny_mono h (fun o s₁ h₁=>wpAny_mono h₁ (fun i s₂ h₂=>?_) fun _ _ x=>x) fun _ _ x=>x)
  obtain ⟨hT,h₂⟩:=h₂
  unfold subscriptTail
  refine wpAny_bind ?_
  rw [getitemInPython_of_ne hT.not_modules]
  refine wpAny_bind (wpAny_specialOf hT hl ?_)
  have fin:wpAny (model prog w) A (subscripted slice false o i) (fun r s₃=>wpAny (model prog w) A (letTemporaryGo value o r >>= fun _=>pure r) Q E s₃) E s₂:=by
    rw [hs o i]
    exact wpAny_operating (wpAny_mono h₂ (fun r s₃ h₃=>wpAny_bind (wpAny_letTemporaryGo (wpAny_pure h₃))) fun _ _ x=>x)
  first
    | exact wpAny_pure (wpAny_bind fin)
    | exact wpAny_bind (wpAny_pure (wpAny_bind fin))
    | exact wpAny_bind fin

theorem dict_typeIs {X:Cx} {pins:List (Addr × Obj)} {σ:St} {H:Hp} {s:Shared} {a:Addr} {y:V} {o:Option V} (I:Inv X pins σ H s) (g:DGet H a y o):s.TypeIs (.ref a) "dict" := by
  rcases g with ⟨kvs,k,e,_,_⟩ | ⟨kvs,k,b,e,_,_,_⟩
  · obtain ⟨_,_,vs,_,dd⟩:=dk_rd I.hok e
    exact dd.typeIs
  · obtain ⟨_,_,xs,_,dd⟩:=dt_rd I.hok e
    exact dd.typeIs
def tDGet (td ty:TE):TE:=fun σ H Q=>td σ H fun x H1=>ty σ H1 fun y H2=>∃ a v,x = .ref a /\ DGet H2 a y (some v) /\ Q v H2
def sDPut (td ty tv:TE):TS:=fun D σ H=>tv σ H fun v H1=>td σ H1 fun x H2=>ty σ H2 fun y H3=>∃ a H4,x = .ref a /\ DPut H3 a y v H4 /\ D.nx σ H4
section
variable {X:Cx} {o i e value:Expr} {pos pos' tpos:Pos} {td ty tv:TE}
theorem pe_dget (hu:X.A.units + 1 < cLine) (ho:PE X o td) (hi:PE X i ty) (hs:NoSl i):PE X (.Subscript o i pos) (tDGet td ty):=by
  intro pins s σ H Q I h
  refine subD_of PySem.F.slot_dict_getitem.lookup hs (thn (ho pins s σ H _ I h) fun u s1 ⟨x,H1,I1,rx,q1⟩=>thn (hi pins s1 σ H1 _ I1 q1) fun iv s2 ⟨y,H2,I2,ry,a,v,ex,g,q2⟩=>?_)
  subst ex
  obtain rfl:u = Value.ref a:=rx
  exact ⟨dict_typeIs I2 g,d_getItem hu I2 g ry fun w' s3 I3 rw'=>⟨v,H2,I3,rw',q2⟩⟩
theorem ps_dput (hu:X.A.units + 1 < cLine) (ho:PE X o td) (hi:PE X i ty) (hv:PE X value tv) (hs:swapsWith value (some (.Subscript o i pos')) pos.line X.env = pure false) :
    PS X (.Assign [.Subscript o i pos'] value pos) (sDPut td ty tv):=by
  intro pins s σ H D I h
  refine wpAny_Assign_Subscript (thn (hv pins s σ H _ I h) fun r s1 ⟨v,H1,I1,rv,q1⟩=>thn (ho pins s1 σ H1 _ I1 q1) fun u s2 ⟨x,H2,I2,rx,q2⟩=>thn (hi pins s2 σ H2 _ I2 q2) fun iv s3 ⟨y,H3,I3,ry,a,H4,ex,g,q3⟩=>?_) hs
  subst ex
  obtain rfl:u = Value.ref a:=rx
  exact d_setItem hu I3 g ry rv fun s4 I4=>⟨σ,H4,I4,q3⟩
end

theorem dk_empty {P:Program} {w:World} {H:Hp} (h:Heap) (hb:sysModules < h.objs.size):ObjOk P w H (h.push { cls:=.type "dict", data:=.dict #[] }) h.objs.size (.dK []) :=
  ⟨Nat.zero_le _,beq_eq_false_iff_ne.mpr (Ne.symm (Nat.ne_of_lt hb)),[],.nil,Heap.DictOf.new h⟩
section
variable {X:Cx} {pos:Pos}
end

def tPairs:List (TE × TE) -> St -> Hp -> (List (V × V) -> Hp -> Prop) -> Prop
  | [],_,H,Q=>Q [] H
  | (tk,tv) :: r,σ,H,Q=>tk σ H fun x H1=>tv σ H1 fun y H2=>tPairs r σ H2 fun ps H3=>Q ((x,y) :: ps) H3
abbrev VV:List (V × V) -> List (Value × Value) -> Prop:=Paired fun p q=>RelV p.1 q.1 /\ RelV p.2 q.2
def PPs (X:Cx) (pos:Pos) (keys:List (Option Expr)) (values:List Expr) (trs:List (TE × TE)):Prop :=
  ∀ (pins:List (Addr × Obj)) (s:Shared) (σ:St) (H:Hp) (Q:List (V × V) -> Hp -> Prop),Inv X pins σ H s -> tPairs trs σ H Q ->
    wpAny (model X.prog X.w) X.A (evalPairs (pairTrees keys values X.env pos)) (fun vs s'=>∃ ps H',Inv X pins σ H' s' /\ VV ps vs /\ Q ps H') X.xe s
theorem pps_nil {X:Cx} {pos:Pos}:PPs X pos [] [] []:=fun pins s σ H Q I h=>pairTrees_nil_walk ⟨[],H,I,.nil,h⟩
theorem pps_cons {X:Cx} {pos:Pos} {k v:Expr} {ks:List (Option Expr)} {vs:List Expr} {tk tv:TE} {trs:List (TE × TE)} (hk:PE X k tk) (hv:PE X v tv) (hr:PPs X pos ks vs trs) :
    PPs X pos (some k :: ks) (v :: vs) ((tk,tv) :: trs):=fun pins s σ H Q I h =>
  pairTrees_cons_walk (thn (hk pins s σ H _ I h) fun u s1 ⟨x,H1,I1,rx,q1⟩=>thn (hv pins s1 σ H1 _ I1 q1) fun w2 s2 ⟨y,H2,I2,ry,q2⟩ =>
    thn (hr pins s2 σ H2 _ I2 q2) fun ws s3 ⟨ps,H3,I3,rel,q3⟩=>⟨(x,y) :: ps,H3,I3,.cons ⟨rx,ry⟩ rel,q3⟩)

def mergeK (kvs more:List (Key × V)):List (Key × V):=more.foldl (fun acc kv=>putK acc kv.1 kv.2) kvs
theorem KV.merge:∀ {more:List (Key × V)} {rs:List (Key × Value)} {kvs:List (Key × V)} {vs:List (Key × Value)},KV more rs -> KV kvs vs -> KV (mergeK kvs more) (merged vs rs):=by
  intro more rs kvs vs r
  unfold KV at r
  induction r generalizing kvs vs with
  | nil=>intro q; exact q
  | @cons p q ps qs h t ih =>
    intro r0
    have e:KV (putK kvs p.1 p.2) (stored vs q.1 q.2):=by
      have:=r0.put p.1 h.2
      rw [<- h.1]; exact this
    exact ih e
theorem length_mergeK:∀ (more kvs:List (Key × V)),(mergeK kvs more).length <= kvs.length + more.length
  | [],kvs=>by show kvs.length <= kvs.length + 0; omega
  | p :: r,kvs=>by
    have h1:=length_mergeK r (putK kvs p.1 p.2)
    have h2:=length_putK kvs p.1 p.2
    show (mergeK (putK kvs p.1 p.2) r).length <= _
    rw [List.length_cons]; omega
theorem carries_of {P:Program} {w:World}:∀ {kvs:List (Key × V)} {ws:List (Value × Value)},VV (kvs.map fun kv=>(kV kv.1,kv.2)) ws -> ∃ rs,Carries (mixKind P w) ws rs /\ KV kvs rs
  | [],_,r=>by rw [List.map_nil] at r; cases r; exact ⟨[],True.intro,.nil⟩
  | p :: kvs,_,r=>by
    rw [List.map_cons] at r
    cases r with
    | @cons a b as bs h t =>
      obtain ⟨rs,c,q⟩:=carries_of (P:=P) (w:=w) t
      obtain ⟨b1,b2⟩:=b
      exact ⟨(p.1,b2) :: rs,⟨kV_is h.1,rfl,c⟩,.cons ⟨rfl,h.2⟩ q⟩
def tDisp (trs:List (TE × TE)):TE:=fun σ H Q=>∀ p,H p = none -> tPairs trs σ (upd H p (.dK [])) fun ps H2=>H2 p = some (.dK []) /\ ∃ kvs:List (Key × V),ps = kvs.map (fun kv=>(kV kv.1,kv.2)) /\ kvs.length <= 15 /\ Q (.ref p) (upd H2 p (.dK (mergeK [] kvs)))
theorem pe_disp {X:Cx} {pos:Pos} {keys:List (Option Expr)} {values:List Expr} {trs:List (TE × TE)} (h:PPs X pos keys values trs) (hall:keys.all (·.isSome) = true) (hl:keys.length = values.length) (h0:keys ≠ [])
    (h15:keys.length <= 15):PE X (.Dict keys values pos) (tDisp trs):=by
  intro pins s σ H Q I q
  have hn:=I.hok.fresh (Nat.le_refl s.heap.objs.size)
  have I1:=I.laid (a:=s.heap.objs.size) (o:=.dK []) (h':=s.heap.push { cls:=.type "dict", data:=.dict #[] }) (t':=s.toks) (fun _ _ q=>Heap.get?_push_of_some _ q) (Nat.le_refl _) (dk_empty s.heap I.big)
  refine wpAny_Dict_walk (knd:=mixKind X.prog X.w) hall hl h0 h15 (thn (h pins _ σ _ _ I1 (q _ hn)) fun ws s2 ⟨ps,H2,I2,rel,e,kvs,ep,lk,q2⟩=>?_)
  subst ep
  obtain ⟨rs,c,rk⟩:=carries_of (P:=X.prog) (w:=X.w) rel
  obtain ⟨z,hd,vs0,r0,dd⟩:=dk_of I2.hok e
  cases r0
  refine ⟨rs,c,dd,fun h' dd' hs=>⟨.ref s.heap.objs.size,_,?_,rfl,q2⟩⟩
  have hz:(mergeK [] kvs).length <= sizeLine:=by
    have h1:=length_mergeK kvs []
    rw [List.length_nil] at h1
    rw [sizeLine_eq]; omega
  have he:∃ q,h'.get? s.heap.objs.size = some q:=let ⟨q,_,_,hq,_⟩:=dd'; ⟨q,hq⟩
  exact d_write I2 (by rw [e]; exact True.intro) hs he (dk_new hz hd (rk.merge .nil) dd')

structure M1 (X:Cx) (o:Expr) (m:Str) (apos:Pos) (e:Expr) (cpos:Pos):Prop where
  base:attributeBase o m X.env (eval o X.env) = eval o X.env
  few:((backTo cpos (starEach [e] X.env)).all (fun x=>!x.1) && (backToKw cpos (keywordEach [] X.env)).all (fun x=>x.1.isSome)
    && decide (([e]:List Expr).length + ([]:List Keyword).length + (if ([]:List Keyword).isEmpty then 0 else 1) < 30)) = true
  line:(apos.endLine == cpos.line) = true
  trees:backTo cpos (starEach [e] X.env) = [(false,eval e X.env)]
section
variable {X:Cx} {pins:List (Addr × Obj)} {σ:St} {H:Hp} {s:Shared} {a:Addr} {y d:V} {u r:Value} {o:Option V} {A:Around} {E:Value -> Shared -> Prop}
end

section
variable {X:Cx} {o e f:Expr} {apos cpos:Pos} {td ty tx:TE}
end

section
variable {X:Cx} {pins:List (Addr × Obj)} {σ:St} {H:Hp} {s:Shared} {a:Addr} {kvs:List (Key × V)} {A:Around} {E:Value -> Shared -> Prop}
end

section
variable {X:Cx} {pins:List (Addr × Obj)} {σ:St} {H:Hp} {s:Shared} {a:Addr} {y:V} {u:Value} {A:Around} {E:Value -> Shared -> Prop}
end
end L2

namespace Att
open PySem PySem.W PySem.Calls PyProof.Rows

theorem ints_of_wellAll {P:Params} {h:Heap}:∀ (ns:List Int) (vs:List Value),WellAll P h vs (ns.map WData.int) -> IntsAre vs ns:=by
  intro ns
  induction ns with
  | nil =>
    intro vs w
    rw [List.map_nil] at w
    cases w
    exact .nil
  | cons n ns ih =>
    intro vs w
    rw [List.map_cons] at w
    cases w with
    | cons a b =>
      cases a
      exact .cons _ _ (ih _ b)

theorem script_of {l:OpenLaw} {n:Nat} (hn:l.most = some n) {P:Params} {h:Heap} {args:List WData} {vals:List Value}
    (hpre:l.row.toRowW.claim.pre args = true) (hwl:WellAll P h vals args) :
    ∃ a vs ns,vals = [Value.ref a] /\ args = [WData.list (ns.map WData.int)] /\ h.get? a = some { cls:=.type "list", data:=.seq vs.toArray } /\ IntsAre vs ns /\ ns.length <= n:=by
  have hsh:WShape.hasAll [] args [.list .int] = true:=(pre_splitW hpre).1
  have hc:l.pre.holds [] { args:=args } = true:=(pre_splitW hpre).2
  obtain ⟨d,r,rfl,h1,h2⟩:=hasAllW_cons hsh
  obtain rfl:=hasAllW_nil h2
  obtain ⟨xs,rfl,h3⟩:=hasW_list h1
  obtain ⟨ns,rfl⟩:=items_int h3
  have hlen:ns.length <= n:=by
    unfold OpenLaw.pre at hc
    have h4:(WTm.not (.lt (.lit (.int (n:Int))) (.len (.arg 0)))).holds [] { args:=[.list (ns.map .int)] } = true:=by
      have h4:=(holds_andW hc).1
      rw [hn] at h4
      exact h4
    have h5:=condW_of h4 (w_not (w_lt w_lit (w_len_list (w_arg rfl))))
    rw [List.length_map] at h5
    refine Nat.le_of_not_lt fun q=>?_
    have q':(n:Int) < ((ns.length:Nat):Int):=by omega
    first
      | (rw [decide_eq_true q'] at h5; exact absurd h5 (by decide))
      | (simp at h5; omega)
  cases hwl with
  | cons w1 w2 =>
    cases w2
    cases w1 with
    | list ho hall=>exact ⟨_,_,ns,rfl,rfl,ho,ints_of_wellAll ns _ hall,hlen⟩

theorem post_true (l:OpenLaw) (args:List WData):l.row.toRowW.claim.post args (.bool true) args = true :=
  postW_of (r:=l.row.toRowW) (X:=(true == true))
    (show WShape.has [] (.bool true) .bool = true by first | rfl | decide | simp [WShape.has,WShape.arms,WShape.armsAll])
    (show (WTm.eq .res (.lit (.bool true))).value [] { args:=args,res:=some (.bool true),after:=args } = some (.bool (true == true)) from w_eq_bool (w_res rfl) w_lit) rfl

theorem attach_call {l:OpenLaw} {n:Nat} {q:Program} {loose:List Str} {XP:(Str -> Option Value) -> Heap -> Prop} {YP:World -> Heap -> Prop} {d:DefRec}
    (hn:l.most = some n) (hdf:d.params.defaults = [])
    (call:∀ (w:World) (s₀ s₁:Shared) (mg mb:Str -> Option Value) (fa:Addr) (o:Obj) (pm cd doc:Value) (a:Addr) (vs:List Value) (ns:List Int),
      Ground q loose [] XP w s₀ mg mb s₁.heap -> YP w s₁.heap ->
      s₁.heap.get? fa = some o -> o.data = .func (docDef d.name d.params d.body d.scope pm cd doc) -> s₁.heap.CodeRec cd d.name -> mg d.name = some (.ref fa) ->
      s₁.heap.get? a = some { cls:=.type "list", data:=.seq vs.toArray } -> IntsAre vs ns -> ns.length <= n -> s₁.gens = #[] ->
      codeAny (model l.prog w) callerA (.call (.ref fa) ⟨[.ref a],[]⟩) (fun r s'=>r = .ok (.ret (.bool true)) /\ OldK s₁.heap s'.heap /\ s'.os = s₁.os /\ AllBare s'.gens) s₁) :
    WalkO q loose XP YP l.row.toRowW d [] (fun f vs=>PySem.call f vs):=by
  intro w s₀ s₁ mg mb G Y fa o pm cd doc dV kV ho hd hcd hD hmg hg args vals as hpre hlay hrd hwl hlo
  obtain rfl:dV = .none:=Dflts.none hD hdf
  obtain rfl:kV = .none:=Dflts.noKw hD
  obtain ⟨a,vs,ns,rfl,rfl,hobj,hints,hlen⟩:=script_of hn hpre hwl
  refine enter_call (codeAny_mono (call w s₀ s₁ mg mb fa o pm cd doc a vs ns G Y ho (fd_plain hd) hcd hmg hobj hints hlen hg) fun r s' hq=>?_)
  obtain ⟨rfl,h2,h3,h4⟩:=hq
  exact ⟨.inl ⟨.bool true,.bool true,[],rfl,fun _=>rfl,.bool true,post_true l _,fun _=>⟨List.Pairwise.nil,fun _ hm=>(nomatch hm)⟩⟩,h2,h3,h4⟩

section
variable {prog:Program} {w:World} {A:Around} {E:Value -> Shared -> Prop} {s:Shared} {K:Frag}

end
end Att

namespace L2
open PySem PySem.Spec PyProof.Rows

theorem vals_ints:∀ {vs:List Value} {ns:List Int},IntsAre vs ns -> Vals (ns.map V.int) vs
  | _,_,.nil=>.nil
  | _,_,.cons n t h=>.cons ⟨t,rfl⟩ (vals_ints h)

def Only (H:Hp):Prop:=∀ b,H b = none \/ ∃ o xs,H b = some (.frz o (.lst xs))

theorem law_call {P:Program} {w:World} {K:W.Frag} {mg mb:Str -> Option Value} {CX:CXT} {k:Nat} {fa a:Addr} {fd:FuncData} {x:Str} {sp:Sp} {s₁:Shared} {vs:List Value} {ns:List Int}
    (KX:K.In s₁.heap) (hns:s₁.heap.Ns mainGlobals mg) (hb:s₁.heap.Ns builtinsNs mb) (hbb:∀ x:Str,x ≠ "__name__" -> mb x = bootBuiltins x) (hlim:s₁.heap.NoLimit) (hg:s₁.gens = #[])
    (ha:s₁.heap.get? a = some { cls:=.type "list", data:=.seq vs.toArray }) (hi:IntsAre vs ns) (hl:ns.length <= sizeLine) (hr:Room k callerA)
    (F:∀ base:Heap,K.In base -> base.Ns mainGlobals mg -> FnOk P w K mg base CX k fa fd [x] sp) (hbind:∀ (s:Shared) (u:Value),BindsTo s fd ⟨[u],[]⟩ [(x,u)])
    (hsp:∀ H:Hp,Only H -> SqL K H a (ns.map V.int) -> sp [.ref a] H (fun v _=>v = .bl true) fun _ _ _=>False)
    (hCX:∀ H e s',CX [] H s₁ (fun _ _ _=>False) e s' -> False) :
    codeAny (model P w) callerA (.call (.ref fa) ⟨[.ref a],[]⟩) (fun r s'=>r = .ok (.ret (.bool true)) /\ OldK s₁.heap s'.heap /\ s'.os = s₁.os /\ AllBare s'.gens) s₁:=by
  have rv:=vals_ints hi
  have lenV:=hi.length
  have core:∀ H:Hp,Only H -> SqL K H a (ns.map V.int) -> HOk P w H s₁.heap -> (∀ b,H b ≠ none -> b = a) -> (H a ≠ none -> K.lookup a = none) ->
      codeAny (model P w) callerA (.call (.ref fa) ⟨[.ref a],[]⟩) (fun r s'=>r = .ok (.ret (.bool true)) /\ OldK s₁.heap s'.heap /\ s'.os = s₁.os /\ AllBare s'.gens) s₁:=by
    intro H hO hS hok hA hK
    have base_of:∀ {b:Addr} {o:Obj},s₁.heap.get? b = some o -> H b = none -> (hidT s₁.heap H).get? b = some o:=fun e n=>hidT_get e n
    have noA:∀ {b:Addr} {o:Obj} {es:Array DictEntry} {ep:Nat},s₁.heap.get? b = some o -> o.data = .dict es ep -> H b = none:=fun {b o es ep} e d=>by
      cases q:H b with
      | none=>rfl
      | some u =>
        have e':b = a:=hA b (by rw [q]; simp)
        subst e'
        rw [ha] at e; cases e
        have d':Data.seq vs.toArray _ = Data.dict es ep:=d
        cases d'
    have nsK:∀ {b:Addr} {m:Str -> Option Value},s₁.heap.Ns b m -> (hidT s₁.heap H).Ns b m:=fun {b m} ⟨o,es,ep,e,d,r⟩=>⟨o,es,ep,base_of e (noA e d),d,r⟩
    have hKb:K.In (hidT s₁.heap H):=fun b o e=>base_of (KX b o e) (by
      cases q:H b with
      | none=>rfl
      | some u =>
        have e':b = a:=hA b (by rw [q]; simp)
        subst e'
        rw [hK (by rw [q]; simp)] at e; cases e)
    have hM:Mod K mg (hidT s₁.heap H):=⟨hKb,nsK hns,⟨mb,nsK hb,hbb⟩,let ⟨mc,h1,h2⟩:=hlim; ⟨mc,nsK h1,h2⟩⟩
    have e0:Env0 P w K mg (hidT s₁.heap H) callerA [] s₁ H:=⟨rfl,hM,fun b o e=>of_hidT e,Nat.le_of_eq (hidT_size _ _),trivial,fun b hb=>absurd (show b ∈ ([]:List Addr) from hb) (by simp),hok,.of_eq hg⟩
    refine codeAny_mono ((F _ hKb (nsK hns)).run callerA [] s₁ H ⟨[.ref a],[]⟩ [.ref a] [.ref a] _ _ hr e0 (hbind s₁ (.ref a)) (.cons rfl .nil) (hsp H hO hS)) fun r s' h=>?_
    cases r with
    | error e=>exact (hCX H e s' h).elim
    | ok fl =>
      cases fl with
      | next=>exact False.elim h
      | brk=>exact False.elim h
      | cont=>exact False.elim h
      | ret u =>
        obtain ⟨v,H',os,bare,un,hok',r',q⟩:=h
        have q':v = .bl true:=q
        subst q'
        obtain rfl:u = Value.bool true:=r'
        refine ⟨rfl,OldK.of_keep fun b o e=>?_,os,bare⟩
        cases q:H b with
        | none=>exact un.keep b o e q (by intro z; exact absurd (show b ∈ ([]:List Addr) from z) (by simp)) (by simp)
        | some u =>
          rcases hO b with z | ⟨ob,xs,z⟩
          · rw [q] at z; cases z
          · have z2:=un.frzs b ob _ z
            obtain ⟨e1,_⟩:=hok b _ z
            obtain ⟨e2,_⟩:=hok' b _ z2
            rw [e] at e1; cases e1
            exact e2
  cases hk:K.lookup a with
  | some o =>
    have e:=KX a o hk
    rw [ha] at e
    cases e
    refine core (fun _=>none) (fun _=>.inl rfl) (.inr ⟨_,vs.toArray,_,hk,rfl,rfl,rfl,by rw [List.size_toArray,lenV]; exact hl,by simpa using rv⟩) (fun b u z=>by have z':(none:Option HO) = some u:=z; cases z') (fun b z=>absurd rfl z) fun z=>absurd rfl z
  | none =>
    refine core (fun b=>if b = a then some (.frz { cls:=.type "list", data:=.seq vs.toArray } (.lst (ns.map V.int))) else none) (fun b=>?_) (.inl (.inr ⟨{ cls:=.type "list", data:=.seq vs.toArray },if_pos rfl⟩)) (fun b u z=>?_) (fun b z=>?_) fun _=>hk
    · by_cases hb:b = a
      · exact .inr ⟨_,_,if_pos hb⟩
      · exact .inl (if_neg hb)
    · by_cases hb:b = a
      · have z':=(if_pos hb).symm.trans z
        cases z'
        subst hb
        exact ⟨ha,by rw [List.length_map]; exact hl,vs,_,rv,ha⟩
      · have z':=(if_neg hb).symm.trans z
        cases z'
    · by_cases hb:b = a
      · exact hb
      · exact absurd (if_neg hb) z
end L2

namespace L2
open PySem PySem.Spec PyProof.Rows

theorem walk_of {l:W.OpenLaw} {n k:Nat} {q:Program} {loose:List Str} {XP:(Str -> Option Value) -> Heap -> Prop} {YP:World -> Heap -> Prop} {d:DefRec} {K:Params -> W.Frag} {CX:World -> CXT} {sp:World -> Sp} {x:Str}
    (hn:l.most = some n) (hn2:n <= sizeLine) (hdf:d.params.defaults = []) (hr:Room k callerA)
    (hY:∀ (w:World) (h:Heap),YP w h -> (K w.params).In h)
    (F:∀ (w:World) (mg:Str -> Option Value) (fa:Addr) (h:Heap),(K w.params).In h -> h.Ns mainGlobals mg -> mg d.name = some (.ref fa) ->
      ∃ fd:FuncData,(∀ (s:Shared) (u:Value),BindsTo s fd ⟨[u],[]⟩ [(x,u)]) /\
        ∀ base:Heap,(K w.params).In base -> base.Ns mainGlobals mg -> FnOk l.prog w (K w.params) mg base (CX w) k fa fd [x] (sp w))
    (hsp:∀ (w:World) (H:Hp) (a:Addr) (ns:List Int),ns.length <= n -> Only H -> SqL (K w.params) H a (ns.map V.int) -> sp w [.ref a] H (fun v _=>v = .bl true) fun _ _ _=>False)
    (hCX:∀ (w:World) (H:Hp) (s:Shared) (e:Value) (s':Shared),CX w [] H s (fun _ _ _=>False) e s' -> False) :
    W.WalkO q loose XP YP l.row.toRowW d [] (fun f vs=>PySem.call f vs):=by
  refine Att.attach_call hn hdf fun w s₀ s₁ mg mb fa o pm cd doc a vs ns G Y ho hd hcd hmg hobj hints hlen hg=>?_
  have KX:=hY w _ Y
  obtain ⟨fd,hb,hF⟩:=F w mg fa _ KX G.T.g hmg
  exact law_call KX G.T.g G.T.b G.T.builtins G.T.nolimit hg hobj hints (Nat.le_trans hlen hn2) hr hF hb (fun H hO hS=>hsp w H a ns hlen hO hS) fun H e s'=>hCX w H s₁ e s'
end L2

namespace L2
open PySem PySem.Spec PyProof.Rows


abbrev CX0:CXT:=fun _ _ _ _ _ _=>False
abbrev E0:XK:=fun _ _ _=>False
theorem pass0 {X:Cx}:Passes CX0 X E0:=fun _ _ _ _ _ _ _ h=>h.elim

structure Fun (K:W.Frag) (x qual:Str) (st:Stmt) (f:Addr) (fd:FuncData):Prop where
  ex:∃ (oc:Value) (od:Option Addr) (kV doc pm:Value) (an:Option Addr) (cdv ct:Value) (osl:Array (Option Value)),
    fd = W.fnOf x qual (defArgs st) (defBody st) (defScope st) .none kV doc pm an cdv ct /\ K.lookup f = some ⟨oc,od,.func fd,osl⟩ /\ W.codeIn K cdv qual = true
  kp:W.keepIn K (.ref f) = true
section
variable {P:Program} {w:World} {K:W.Frag} {mg:Str -> Option Value} {base:Heap}
theorem Fun.ok {x qual:Str} {st:Stmt} {f:Addr} {fd:FuncData} {N ps:List Str} {k:Nat} {sp:Sp} (F:Fun K x qual st f fd) (S:FnScope N ps (defScope st)) (len:∀ vs H Q E,sp vs H Q E -> vs.length = ps.length)
    (hbody:∀ (cdv:Value) (A:Around) (outer:List Env) (s:Shared) (H:Hp) (vs:List V) (Q:VK) (E:XK),Room k (A.deeper (envOfC qual (defScope st) s.heap.objs.size f cdv)) -> sp vs H Q E ->
      ∃ t,PSs (cxOf CX0 P w K mg base N qual (defScope st) f cdv A outer s H E).nox (defBody st) t /\ t { nx:=fun _ H'=>Q .non H',rt:=Q } (start N vs) H):FnOk P w K mg base CX0 (k + 1) f fd ps sp:=by
  obtain ⟨oc,od,kV,doc,pm,an,cdv,ct,osl,rfl,lk,hcd⟩:=F.ex
  refine fn_of lk hcd S len fun A outer s H vs Q E hr hsp=>?_
  obtain ⟨t,h,q⟩:=hbody cdv A outer s H vs Q E hr hsp
  exact ⟨t,h.nox,q⟩
theorem Fun.binds {x qual:Str} {st:Stmt} {f:Addr} {fd:FuncData} {ps:List Str} (F:Fun K x qual st f fd)
    (h:∀ (kV doc pm:Value) (an:Option Addr) (cdv ct:Value) (us:List Value),us.length = ps.length -> bindArgs (W.fnOf x qual (defArgs st) (defBody st) (defScope st) .none kV doc pm an cdv ct) ⟨us,[]⟩ = pure (ps.zip us)):Binds K fd ps []:=by
  obtain ⟨oc,od,kV,doc,pm,an,cdv,ct,osl,rfl,lk,hcd⟩:=F.ex
  exact .all (h kV doc pm an cdv ct)
theorem fun_mk {x qual:Str} {st:Stmt} {f:Addr} {oc:Value} {od an:Option Addr} {osl:Array (Option Value)} {kV doc pm cdv ct:Value} (l:K.lookup f = some ⟨oc,od,.func (W.fnOf x qual (defArgs st) (defBody st) (defScope st) .none kV doc pm an cdv ct),osl⟩)
    (c:W.codeIn K cdv qual = true) (k:W.keepIn K (.ref f) = true):Fun K x qual st f (W.fnOf x qual (defArgs st) (defBody st) (defScope st) .none kV doc pm an cdv ct):=⟨⟨oc,od,kV,doc,pm,an,cdv,ct,osl,rfl,l,c⟩,k⟩
end
theorem hu_of {A:Around} {k:Nat} (hr:Room k A):A.units + 1 < cLine:=Nat.lt_of_le_of_lt (Nat.add_le_add_left (by decide : 1 <= 64) _) hr.units
theorem small1000 {n:Nat} (h:n <= 1000):n < sizeLine:=Nat.lt_of_le_of_lt h (by decide)

section
variable {X:Cx}
end

def Same (H H':Hp):Prop:=∀ b o,H b = some o -> H' b = some o
theorem Same.refl (H:Hp):Same H H:=fun _ _ h=>h
theorem Same.trans {H H1 H2:Hp} (a:Same H H1) (b:Same H1 H2):Same H H2:=fun c o h=>b c o (a c o h)
theorem Same.free {H H':Hp} (e:Same H H') {l:Addr} (h:H' l = Option.none):H l = Option.none:=by
  cases q:H l with
  | none=>rfl
  | some o =>
    rw [e l o q] at h
    cases h
theorem Same.seq {K:W.Frag} {H H':Hp} {a:Addr} {xs:List V} (e:Same H H') (h:SqL K H a xs):SqL K H' a xs:=by
  rcases h with (h | ⟨o,h⟩) | h
  · exact .inl (.inl (e _ _ h))
  · exact .inl (.inr ⟨o,e _ _ h⟩)
  · exact .inr h

end L2

namespace L2
open PySem PySem.Spec PyProof.Rows
section
variable {X:Cx}
end
section
variable {κ:Type} [DecidableEq κ]
end
end L2


namespace L2.VL
open PySem PySem.Spec PyProof.Rows
structure RlT where
  a:Option Addr
  b:Nat
abbrev RlT.no:RlT:=⟨none,0⟩
abbrev RlT.at' (r:Addr) (b:Nat):RlT:=⟨some r,b⟩
def BM:Nat:=2 ^ 50000
def RO (b:Nat) (F:Hp) (o:HO):Prop:=∃ (c:Addr) (ns:List Int) (a l:Int),o = .dK [(Sum.inr "cells", .ref c),(Sum.inr "at", .int a),(Sum.inr "left", .int l)] /\ F c = some (.lst (ns.map V.int)) /\ ns.length <= 63 /\ 0 <= a /\ 0 <= l /\ a + b < 2 ^ 59990
theorem RO.mono {b:Nat} {F F':Hp} {o:HO} (s:Same F F') (h:RO b F o):RO b F' o:=by
  obtain ⟨c,ns,a,l,e,q,r⟩:=h
  exact ⟨c,ns,a,l,e,s _ _ q,r⟩
theorem RO.pay {b b':Nat} {F:Hp} {o:HO} (s:b' <= b) (h:RO b F o):RO b' F o:=by
  obtain ⟨c,ns,a,l,e,q,h0,h1,h2,h3⟩:=h
  exact ⟨c,ns,a,l,e,q,h0,h1,h2,by omega⟩
end L2.VL

namespace L2.VL
open PySem PySem.Spec PyProof.Rows

mutual
inductive Rep (K:W.Frag) (F:Hp):V -> PyData -> Prop
  | non:Rep K F .non .none
  | bl (b:Bool):Rep K F (.bl b) (.bool b)
  | int (i:Int):Rep K F (.int i) (.int i)
  | str (x:Str):Rep K F (.str x) (.str x)
  | tup {a:Addr} {vs:List V} {ds:List PyData}:SqT K F a vs -> Reps K F vs ds -> Rep K F (.ref a) (.tuple ds)
  | lst {a:Addr} {vs:List V} {ds:List PyData}:F a = some (.lst vs) -> Reps K F vs ds -> Rep K F (.ref a) (.list ds)
inductive Reps (K:W.Frag) (F:Hp):List V -> List PyData -> Prop
  | nil:Reps K F [] []
  | cons {v:V} {d:PyData} {vs:List V} {ds:List PyData}:Rep K F v d -> Reps K F vs ds -> Reps K F (v :: vs) (d :: ds)
end

theorem sameT {K:W.Frag} {H H':Hp} {a:Addr} {xs:List V} (e:Same H H') (h:SqT K H a xs):SqT K H' a xs:=by
  rcases h with (h | ⟨o,h⟩) | h
  · exact .inl (.inl (e _ _ h))
  · exact .inl (.inr ⟨o,e _ _ h⟩)
  · exact .inr h
theorem sameL {K:W.Frag} {H H':Hp} {a:Addr} {xs:List V} (e:Same H H') (h:SqL K H a xs):SqL K H' a xs:=by
  rcases h with (h | ⟨o,h⟩) | h
  · exact .inl (.inl (e _ _ h))
  · exact .inl (.inr ⟨o,e _ _ h⟩)
  · exact .inr h
mutual
theorem Rep.mono {K:W.Frag} {F F':Hp} (s:Same F F'):∀ {v:V} {d:PyData},Rep K F v d -> Rep K F' v d
  | _,_,.non=>.non
  | _,_,.bl b=>.bl b
  | _,_,.int i=>.int i
  | _,_,.str x=>.str x
  | _,_,.tup h r=>.tup (sameT s h) (Reps.mono s r)
  | _,_,.lst h r=>.lst (s _ _ h) (Reps.mono s r)
theorem Reps.mono {K:W.Frag} {F F':Hp} (s:Same F F'):∀ {vs:List V} {ds:List PyData},Reps K F vs ds -> Reps K F' vs ds
  | _,_,.nil=>.nil
  | _,_,.cons h r=>.cons (Rep.mono s h) (Reps.mono s r)
end
theorem Reps.length {K:W.Frag} {F:Hp}:∀ {vs:List V} {ds:List PyData},Reps K F vs ds -> vs.length = ds.length
  | _,_,.nil=>rfl
  | _,_,.cons _ r=>by simp [Reps.length r]
theorem Reps.get {K:W.Frag} {F:Hp}:∀ {vs:List V} {ds:List PyData} {i:Nat} {d:PyData},Reps K F vs ds -> ds[i]? = some d -> ∃ v,vs[i]? = some v /\ Rep K F v d
  | _,_,_,_,.nil,e=>by simp at e
  | _,_,0,_,.cons h _,e=>by simp at e; subst e; exact ⟨_,rfl,h⟩
  | _,_,i + 1,d,.cons _ r,e=>by
    obtain ⟨v,h1,h2⟩:=Reps.get (i:=i) (d:=d) r (by simpa using e)
    exact ⟨v,by simpa using h1,h2⟩
theorem Reps.append {K:W.Frag} {F:Hp}:∀ {vs us:List V} {ds es:List PyData},Reps K F vs ds -> Reps K F us es -> Reps K F (vs ++ us) (ds ++ es)
  | _,_,_,_,.nil,s=>s
  | _,_,_,_,.cons h r,s=>.cons h (Reps.append r s)
theorem Reps.snoc {K:W.Frag} {F:Hp} {vs:List V} {ds:List PyData} {v:V} {d:PyData} (r:Reps K F vs ds) (h:Rep K F v d):Reps K F (vs ++ [v]) (ds ++ [d]):=r.append (.cons h .nil)
theorem Reps.take {K:W.Frag} {F:Hp}:∀ {vs:List V} {ds:List PyData} (n:Nat),Reps K F vs ds -> Reps K F (vs.take n) (ds.take n)
  | _,_,0,_=>.nil
  | _,_,_ + 1,.nil=>.nil
  | _,_,n + 1,.cons h r=>.cons h (Reps.take n r)
theorem Reps.drop {K:W.Frag} {F:Hp}:∀ {vs:List V} {ds:List PyData} (n:Nat),Reps K F vs ds -> Reps K F (vs.drop n) (ds.drop n)
  | _,_,0,r=>r
  | _,_,_ + 1,.nil=>.nil
  | _,_,n + 1,.cons _ r=>Reps.drop n r
theorem Reps.nil_iff {K:W.Frag} {F:Hp} {vs:List V} (h:Reps K F vs []):vs = []:=by cases h; rfl

mutual
theorem Rep.reads {X:Cx} {pins:List (Addr × Obj)} {σ:St} {H F:Hp} {s:Shared} (I:Inv X pins σ H s) (sub:Same F H):∀ {v:V} {d:PyData},Rep X.K F v d -> ∀ u,RelV v u -> ∃ as,Reads s.heap u d as
  | _,_,.non,u,r=>by cases (show u = Value.none from r); exact ⟨_,.none⟩
  | _,_,.bl b,u,r=>by cases (show u = Value.bool b from r); exact ⟨_,.bool b⟩
  | _,_,.int i,u,r=>by obtain ⟨t,q⟩:=(show ∃ t,u = Value.int i t from r); cases q; exact ⟨_,.int i t⟩
  | _,_,.str x,u,r=>by obtain ⟨t,q⟩:=(show ∃ t,u = Value.str x t from r); cases q; exact ⟨_,.str x t⟩
  | _,_,.tup (a:=a) h q,u,r=>by
    cases (show u = Value.ref a from r)
    obtain ⟨its,rv,⟨o,h1,h2,n,h3⟩,hz⟩:=I.tuple (sameT sub h)
    obtain ⟨as,ra⟩:=Reps.reads I sub q its rv
    exact ⟨_,.tuple h1 h2 h3 (by simpa using ra)⟩
  | _,_,.lst (a:=a) h q,u,r=>by
    cases (show u = Value.ref a from r)
    obtain ⟨its,rv,p,hz⟩:=I.list (.inl (.inl (sub _ _ h)))
    obtain ⟨o,h1,h2,n,h3⟩:=p.isList
    obtain ⟨as,ra⟩:=Reps.reads I sub q its rv
    exact ⟨_,.list h1 h2 h3 (by simpa using ra)⟩
theorem Reps.reads {X:Cx} {pins:List (Addr × Obj)} {σ:St} {H F:Hp} {s:Shared} (I:Inv X pins σ H s) (sub:Same F H):∀ {vs:List V} {ds:List PyData},Reps X.K F vs ds -> ∀ us,Vals vs us -> ∃ as,ReadsAll s.heap us ds as
  | _,_,.nil,us,r=>by cases r; exact ⟨_,.nil⟩
  | _,_,.cons h q,us,r=>by
    cases r with
    | cons r1 r2 =>
      obtain ⟨as,a1⟩:=Rep.reads I sub h _ r1
      obtain ⟨bs,a2⟩:=Reps.reads I sub q _ r2
      exact ⟨_,.cons a1 a2⟩
end

structure ReelOk (b:Nat) (F H:Hp) (r:Addr):Prop where
  ex:∃ o,H r = some o /\ RO b F o
def RAt (rl:RlT) (F H:Hp):Prop:=∀ r,rl.a = some r -> F r = none /\ ReelOk rl.b F H r
theorem RAt.live {rl:RlT} {F H:Hp} (h:RAt rl F H) {r:Addr} (e:rl.a = some r):∃ o,H r = some o:=by
  obtain ⟨_,⟨o,q,_⟩⟩:=h r e
  exact ⟨_,q⟩

structure Grow (rl:RlT) (F H F' H':Hp):Prop where
  same:∀ b o,H b = some o -> rl.a ≠ some b -> H' b = some o
  fs:Same F F'
  sub:Same F' H'
  old:∀ b o,H b = some o -> F' b = F b
  reel:RAt rl F' H'
theorem Grow.refl {rl:RlT} {F H:Hp} (s:Same F H) (r:RAt rl F H):Grow rl F H F H:=⟨fun _ _ e _=>e,.refl F,s,fun _ _ _=>rfl,r⟩
theorem Grow.live {rl:RlT} {F H F' H':Hp} (g:Grow rl F H F' H') {b:Addr} {o:HO} (e:H b = some o):∃ o',H' b = some o':=by
  by_cases h:rl.a = some b
  · exact g.reel.live h
  · exact ⟨o,g.same b o e h⟩
theorem Grow.trans {rl:RlT} {F H F1 H1 F2 H2:Hp} (a:Grow rl F H F1 H1) (b:Grow rl F1 H1 F2 H2):Grow rl F H F2 H2 :=
  ⟨fun c o e n=>b.same c o (a.same c o e n) n,a.fs.trans b.fs,b.sub,fun c o e=>by obtain ⟨o',e'⟩:=a.live e; rw [b.old c o' e',a.old c o e],b.reel⟩
theorem Grow.freeB {rl:RlT} {F H F' H':Hp} (g:Grow rl F H F' H') {b:Addr} (e:H' b = none):H b = none:=by
  cases q:H b with
  | none=>rfl
  | some o=>obtain ⟨o',e'⟩:=g.live q; rw [e] at e'; cases e'
theorem Grow.laid {rl:RlT} {F H:Hp} {a:Addr} {o:HO} (s:Same F H) (r:RAt rl F H) (n:H a = none):Grow rl F H F (upd H a o):=by
  have ne:∀ b u,H b = some u -> b ≠ a:=fun b u e=>ne_of_none e n
  refine ⟨fun b u e _=>by rw [upd_ne (ne b u e)]; exact e,.refl F,fun b u e=>by rw [upd_ne (ne b u (s b u e))]; exact s b u e,fun _ _ _=>rfl,fun q e=>?_⟩
  obtain ⟨z,⟨u,h1,h2⟩⟩:=r q e
  exact ⟨z,⟨u,by rw [upd_ne (ne _ _ h1)]; exact h1,h2⟩⟩
theorem Grow.data {rl:RlT} {F H:Hp} {a:Addr} {o:HO} (s:Same F H) (r:RAt rl F H) (n:H a = none):Grow rl F H (upd F a o) (upd H a o):=by
  have ne:∀ b u,H b = some u -> b ≠ a:=fun b u e=>ne_of_none e n
  have neF:∀ b u,F b = some u -> b ≠ a:=fun b u e=>ne b u (s b u e)
  refine ⟨fun b u e _=>by rw [upd_ne (ne b u e)]; exact e,fun b u e=>by rw [upd_ne (neF b u e)]; exact e,fun b u e=>?_,fun b u e=>by rw [upd_ne (ne b u e)],fun q e=>?_⟩
  · by_cases hb:b = a
    · subst hb; rw [upd_same] at e ⊢; exact e
    · rw [upd_ne hb] at e ⊢; exact s b u e
  · obtain ⟨z,⟨u,h1,h2⟩⟩:=r q e
    exact ⟨by rw [upd_ne (ne _ _ h1)]; exact z,⟨u,by rw [upd_ne (ne _ _ h1)]; exact h1,RO.mono (fun b u e=>by rw [upd_ne (neF b u e)]; exact e) h2⟩⟩
theorem Grow.freeze {rl:RlT} {F H F1 H1:Hp} {a:Addr} {o:HO} (g:Grow rl F H F1 H1) (n:H a = none) (e:H1 a = some o) (f:F1 a = none) (hr:rl.a ≠ some a):Grow rl F H (upd F1 a o) H1:=by
  have neF:∀ b u,F1 b = some u -> b ≠ a:=fun b u q z=>by subst z; rw [f] at q; cases q
  refine ⟨g.same,fun b u q=>by rw [upd_ne (neF b u (g.fs b u q))]; exact g.fs b u q,fun b u q=>?_,fun b u q=>by rw [upd_ne (ne_of_none q n)]; exact g.old b u q,fun q z=>?_⟩
  · by_cases hb:b = a
    · subst hb; rw [upd_same] at q; rw [e]; exact q
    · rw [upd_ne hb] at q; exact g.sub b u q
  · obtain ⟨z1,⟨u,h1,h2⟩⟩:=g.reel q z
    exact ⟨by rw [upd_ne (fun y=>hr (by rw [<- y]; exact z))]; exact z1,⟨u,h1,RO.mono (fun b u e=>by rw [upd_ne (neF b u e)]; exact e) h2⟩⟩

inductive W where
  | d (x:PyData)
  
  | ml (xs:List PyData)
  
  | pk (xs:List PyData)
  | reel
  
  | vv (v:V)
  
  | md (kvs:List (List Key × PyData))
  
  | mk (kvs:List (Key × PyData))
  
  | nt (ds:List PyData)
  
  | lk
  
  | sc (ns:List Int)
  
  | fd (kvs:List (Key × PyData))
  
  | fw (kvs:List (Key × PyData))
  
  | ft (kvs:List (List Key × PyData))
  
  | xc (x:Str) (fs:List (Str × PyData))
  
  | dp (kvs:List (Key × PyData)) (x:PyData)
def W.dat:W -> Option PyData
  | .d x=>some x
  | .ml xs=>some (.list xs)
  | .pk xs=>some (.list xs)
  | .nt ds=>some (.tuple ds)
  | _=>none
def W.peek:W -> W
  | .ml xs=>.pk xs
  | .md _=>.lk
  | .mk _=>.lk
  | w=>w
def W.own:W -> Bool
  | .ml _=>true
  | .md _=>true
  | .mk _=>true
  | _=>false
abbrev KD (K:W.Frag) (F:Hp):List (List Key × V) -> List (List Key × PyData) -> Prop:=Paired fun p q=>p.1 = q.1 /\ Rep K F p.2 q.2
abbrev KDk (K:W.Frag) (F:Hp):List (Key × V) -> List (Key × PyData) -> Prop:=Paired fun p q=>p.1 = q.1 /\ Rep K F p.2 q.2
abbrev KDs (K:W.Frag) (F:Hp):List (Str × V) -> List (Str × PyData) -> Prop:=Paired fun p q=>p.1 = q.1 /\ Rep K F p.2 q.2
def ExcAt (e C dx:Addr):Heap -> Prop:=fun h=>∃ oe vs,h.get? e = some oe /\ oe.cls = .ref C /\ oe.dict = some dx /\ oe.data = .fields vs
def OwnD (K:W.Frag) (rl:RlT) (F H:Hp) (v:V) (kvs:List (List Key × PyData)):Prop:=∃ a us,v = .ref a /\ F a = none /\ rl.a ≠ some a /\ H a = some (.dT us) /\ KD K F us kvs
def OwnK (K:W.Frag) (rl:RlT) (F H:Hp) (v:V) (kvs:List (Key × PyData)):Prop:=∃ a us,v = .ref a /\ F a = none /\ rl.a ≠ some a /\ H a = some (.dK us) /\ KDk K F us kvs
def OwnL (K:W.Frag) (rl:RlT) (F H:Hp) (v:V) (xs:List PyData):Prop:=∃ a vs,v = .ref a /\ F a = none /\ rl.a ≠ some a /\ H a = some (.lst vs) /\ Reps K F vs xs
def RelW (K:W.Frag) (rl:RlT) (F H:Hp) (v:V):W -> Prop
  | .d x=>Rep K F v x
  | .ml xs=>OwnL K rl F H v xs
  | .pk xs=>OwnL K rl F H v xs
  | .reel=>∃ r,rl.a = some r /\ v = .ref r
  | .vv u=>v = u
  | .md kvs=>OwnD K rl F H v kvs
  | .mk kvs=>OwnK K rl F H v kvs
  | .nt ds=>∃ a vs,v = .ref a /\ F a = some (.tup vs) /\ Reps K F vs ds
  | .lk=>True
  | .sc ns=>∃ a,v = .ref a /\ SqL K F a (ns.map V.int)
  | .fd kvs=>∃ a us,v = .ref a /\ F a = some (.dK us) /\ KDk K F us kvs
  | .fw kvs=>∃ a us o,v = .ref a /\ F a = some (.frz o (.dK us)) /\ KDk K F us kvs
  | .ft kvs=>∃ a us o,v = .ref a /\ F a = some (.frz o (.dT us)) /\ KD K F us kvs
  | .xc x fs=>∃ e dx us C,v = .ref e /\ W.nsIn K mainGlobals x = some (some (.ref C)) /\ F e = some (.ext (ExcAt e C dx)) /\ F dx = some (.xd us) /\ KDs K F us fs
  | .dp kvs x=>∃ a b us u o,v = .ref a /\ F a = some (.tup [.ref b,u]) /\ F b = some (.frz o (.dK us)) /\ KDk K F us kvs /\ Rep K F u x
theorem OwnD.grow {K:W.Frag} {rl:RlT} {F H F' H':Hp} {v:V} {kvs:List (List Key × PyData)} (g:Grow rl F H F' H') (r:OwnD K rl F H v kvs):OwnD K rl F' H' v kvs:=by
  obtain ⟨a,us,rfl,h1,h2,h3,h4⟩:=r
  exact ⟨a,us,rfl,by rw [g.old a _ h3]; exact h1,h2,g.same a _ h3 h2,Paired.mapP h4 fun _ _ z=>⟨z.1,z.2.mono g.fs⟩⟩
theorem OwnK.grow {K:W.Frag} {rl:RlT} {F H F' H':Hp} {v:V} {kvs:List (Key × PyData)} (g:Grow rl F H F' H') (r:OwnK K rl F H v kvs):OwnK K rl F' H' v kvs:=by
  obtain ⟨a,us,rfl,h1,h2,h3,h4⟩:=r
  exact ⟨a,us,rfl,by rw [g.old a _ h3]; exact h1,h2,g.same a _ h3 h2,Paired.mapP h4 fun _ _ z=>⟨z.1,z.2.mono g.fs⟩⟩
theorem OwnL.grow {K:W.Frag} {rl:RlT} {F H F' H':Hp} {v:V} {xs:List PyData} (g:Grow rl F H F' H') (r:OwnL K rl F H v xs):OwnL K rl F' H' v xs:=by
  obtain ⟨a,vs,rfl,h1,h2,h3,h4⟩:=r
  exact ⟨a,vs,rfl,by rw [g.old a _ h3]; exact h1,h2,g.same a _ h3 h2,h4.mono g.fs⟩
theorem RelW.grow {K:W.Frag} {rl:RlT} {F H F' H':Hp} {v:V} {w:W} (g:Grow rl F H F' H') (r:RelW K rl F H v w):RelW K rl F' H' v w:=by
  cases w with
  | d x=>exact Rep.mono g.fs r
  | ml xs=>exact OwnL.grow g r
  | pk xs=>exact OwnL.grow g r
  | reel=>exact r
  | vv u=>exact r
  | md kvs=>exact OwnD.grow g r
  | mk kvs=>exact OwnK.grow g r
  | nt ds=>obtain ⟨a,vs,e,h,q⟩:=r; exact ⟨a,vs,e,g.fs _ _ h,q.mono g.fs⟩
  | lk=>trivial
  | sc ns=>obtain ⟨a,e,h⟩:=r; exact ⟨a,e,sameL g.fs h⟩
  | fd kvs=>obtain ⟨a,us,e,h,q⟩:=r; exact ⟨a,us,e,g.fs _ _ h,Paired.mapP q fun _ _ z=>⟨z.1,z.2.mono g.fs⟩⟩
  | fw kvs=>obtain ⟨a,us,o,e,h,q⟩:=r; exact ⟨a,us,o,e,g.fs _ _ h,Paired.mapP q fun _ _ z=>⟨z.1,z.2.mono g.fs⟩⟩
  | ft kvs=>obtain ⟨a,us,o,e,h,q⟩:=r; exact ⟨a,us,o,e,g.fs _ _ h,Paired.mapP q fun _ _ z=>⟨z.1,z.2.mono g.fs⟩⟩
  | xc _ _=>obtain ⟨a,dx,us,C,e,n,h1,h2,q⟩:=r; exact ⟨a,dx,us,C,e,n,g.fs _ _ h1,g.fs _ _ h2,Paired.mapP q fun _ _ z=>⟨z.1,z.2.mono g.fs⟩⟩
  | dp _ _=>obtain ⟨a,b,us,u,o,e,h1,h2,q,z⟩:=r; exact ⟨a,b,us,u,o,e,g.fs _ _ h1,g.fs _ _ h2,Paired.mapP q fun _ _ z=>⟨z.1,z.2.mono g.fs⟩,z.mono g.fs⟩
theorem RelW.peek {K:W.Frag} {rl:RlT} {F H:Hp} {v:V} {w:W} (r:RelW K rl F H v w):RelW K rl F H v w.peek:=by cases w <;> first | exact r | trivial
theorem OwnL.rep {K:W.Frag} {rl:RlT} {F H:Hp} {v:V} {xs:List PyData} (s:Same F H) (r:OwnL K rl F H v xs):Rep K H v (.list xs):=by
  obtain ⟨a,vs,rfl,h1,h2,h3,h4⟩:=r
  exact .lst h3 (h4.mono s)
theorem RelW.dat {K:W.Frag} {rl:RlT} {F H:Hp} {v:V} {w:W} {x:PyData} (s:Same F H) (r:RelW K rl F H v w) (e:w.dat = some x):Rep K H v x:=by
  cases w with
  | d y=>cases e; exact Rep.mono s r
  | ml xs=>cases e; exact OwnL.rep s r
  | pk xs=>cases e; exact OwnL.rep s r
  | reel=>cases e
  | vv u=>cases e
  | md kvs=>cases e
  | mk kvs=>cases e
  | nt ds=>cases e; obtain ⟨a,vs,rfl,h,q⟩:=r; exact .tup (.inl (.inl (s _ _ h))) (q.mono s)
  | lk=>cases e
  | sc _=>cases e
  | fd _=>cases e
  | fw _=>cases e
  | ft _=>cases e
  | xc _ _=>cases e
  | dp _ _=>cases e
theorem RelW.items {K:W.Frag} {rl:RlT} {F H:Hp} {v:V} {w:W} {xs:List PyData} (s:Same F H) (r:RelW K rl F H v w) (e:w.dat = some (.list xs)):∃ a vs,v = .ref a /\ SqL K H a vs /\ Reps K F vs xs:=by
  have own:OwnL K rl F H v xs -> ∃ a vs,v = .ref a /\ SqL K H a vs /\ Reps K F vs xs:=fun ⟨a,vs,e1,_,_,e2,e3⟩=>⟨a,vs,e1,.inl (.inl e2),e3⟩
  cases w with
  | d y =>
    cases e
    cases (show Rep K F v (.list xs) from r) with
    | lst h q=>exact ⟨_,_,rfl,.inl (.inl (s _ _ h)),q⟩
  | ml ys=>cases e; exact own r
  | pk ys=>cases e; exact own r
  | reel=>cases e
  | vv u=>cases e
  | md kvs=>cases e
  | mk kvs=>cases e
  | nt ds=>cases e
  | lk=>cases e
  | sc _=>cases e
  | fd _=>cases e
  | fw _=>cases e
  | ft _=>cases e
  | xc _ _=>cases e
  | dp _ _=>cases e
theorem RelW.itemsT {K:W.Frag} {rl:RlT} {F H:Hp} {v:V} {w:W} {xs:List PyData} (s:Same F H) (r:RelW K rl F H v w) (e:w.dat = some (.tuple xs)):∃ a vs,v = .ref a /\ SqT K H a vs /\ Reps K F vs xs:=by
  cases w with
  | d y =>
    cases e
    cases (show Rep K F v (.tuple xs) from r) with
    | tup h q=>exact ⟨_,_,rfl,sameT s h,q⟩
  | ml ys=>cases e
  | pk ys=>cases e
  | reel=>cases e
  | vv u=>cases e
  | md kvs=>cases e
  | mk kvs=>cases e
  | nt ds=>cases e; obtain ⟨a,vs,rfl,h,q⟩:=r; exact ⟨a,vs,rfl,.inl (.inl (s _ _ h)),q⟩
  | lk=>cases e
  | sc _=>cases e
  | fd _=>cases e
  | fw _=>cases e
  | ft _=>cases e
  | xc _ _=>cases e
  | dp _ _=>cases e
def NewIn (H:Hp) (v:V):W -> Prop
  | .ml _=>∀ a,v = .ref a -> H a = none
  | .md _=>∀ a,v = .ref a -> H a = none
  | .mk _=>∀ a,v = .ref a -> H a = none
  | _=>True
theorem RelW.live {K:W.Frag} {rl:RlT} {F H:Hp} {v:V} {w:W} (r:RelW K rl F H v w) (h:w.own = true):∃ a o,v = .ref a /\ H a = some o:=by
  cases w with
  | ml xs=>obtain ⟨a,vs,e,_,_,hh,_⟩:=r; exact ⟨a,_,e,hh⟩
  | md xs=>obtain ⟨a,vs,e,_,_,hh,_⟩:=r; exact ⟨a,_,e,hh⟩
  | mk xs=>obtain ⟨a,vs,e,_,_,hh,_⟩:=r; exact ⟨a,_,e,hh⟩
  | _=>cases h
theorem NewIn.none {H:Hp} {v:V} {w:W} (n:NewIn H v w) (h:w.own = true) {a:Addr} (e:v = .ref a):H a = none:=by
  cases w with
  | ml xs=>exact n a e
  | md xs=>exact n a e
  | mk xs=>exact n a e
  | _=>cases h

abbrev En:=List (Option W)
structure VR (K:W.Frag) (rl:RlT) (F₀ H₀ F H:Hp) (σ:St) (ρ:En):Prop where
  g:Grow rl F₀ H₀ F H
  sl:∀ (i:Nat) w,ρ[i]? = some (some w) -> ∃ v,σ[i]? = some (some v) /\ RelW K rl F H v w /\ NewIn H₀ v w
  ap:∀ (i j:Nat) (x y:W) v,i ≠ j -> ρ[i]? = some (some x) -> ρ[j]? = some (some y) -> x.own = true -> y.own = true -> σ[i]? = some (some v) -> σ[j]? = some (some v) -> False
  np:∀ (i:Nat) xs,ρ[i]? ≠ some (some (W.pk xs))
  len : ρ.length = σ.length
section
variable {K:W.Frag} {rl:RlT} {F₀ H₀ F H F' H':Hp} {σ:St} {ρ:En}
theorem VR.sub (r:VR K rl F₀ H₀ F H σ ρ):Same F H:=r.g.sub
theorem VR.reel (r:VR K rl F₀ H₀ F H σ ρ):RAt rl F H:=r.g.reel
theorem VR.grow (r:VR K rl F₀ H₀ F H σ ρ) (g:Grow rl F H F' H'):VR K rl F₀ H₀ F' H' σ ρ :=
  ⟨r.g.trans g,fun i w e=>let ⟨v,e1,e2,e3⟩:=r.sl i w e; ⟨v,e1,e2.grow g,e3⟩,r.ap,r.np,r.len⟩
theorem VR.set (r:VR K rl F₀ H₀ F H σ ρ) {H1 F1:Hp} (g:Grow rl F H F1 H1) {v:V} {w:W} (rw':RelW K rl F1 H1 v w) (hn:NewIn H v w) (hp:∀ xs,w ≠ .pk xs) (i:Nat):VR K rl F₀ H₀ F1 H1 (σ.set i (some v)) (ρ.set i (some w)):=by
  have r1:=r.grow g
  refine ⟨r1.g,fun j w' e=>?_,fun j k xs ys u hjk e1 e2 w1 w2 s1 s2=>?_,fun j xs z=>?_,by simp [r.len]⟩
  · by_cases hj:i = j
    · subst hj
      have hi:i < ρ.length:=by
        rw [List.getElem?_set] at e
        by_cases hi:i < ρ.length
        · exact hi
        · simp [hi] at e
      rw [List.getElem?_set_self hi] at e
      cases e
      refine ⟨v,by rw [List.getElem?_set_self (by rw [<- r.len]; exact hi)],rw',?_⟩
      cases w with
      | ml xs=>exact fun a ea=>r.g.freeB (hn a ea)
      | d x=>trivial
      | pk xs=>trivial
      | reel=>trivial
      | vv u=>trivial
      | md xs=>exact fun a ea=>r.g.freeB (hn a ea)
      | mk xs=>exact fun a ea=>r.g.freeB (hn a ea)
      | nt ds=>trivial
      | lk=>trivial
      | sc _=>trivial
      | fd _=>trivial
      | fw _=>trivial
      | ft _=>trivial
      | xc _ _=>trivial
      | dp _ _=>trivial
    · rw [List.getElem?_set_ne hj] at e
      obtain ⟨u,h1,h2,h3⟩:=r1.sl j w' e
      exact ⟨u,by rw [List.getElem?_set_ne hj]; exact h1,h2,h3⟩
  · have key:∀ (k:Nat) (x y:W),ρ[k]? = some (some y) -> some (some w) = some (some x) -> x.own = true -> y.own = true -> σ[k]? = some (some v) -> False:=fun k x y d2 e1 o1 o2 s2=>by
      cases e1
      obtain ⟨u',h1,h2,h3⟩:=r.sl k _ d2
      rw [s2] at h1
      cases h1
      obtain ⟨a,o,ea,hh⟩:=h2.live o2
      rw [hn.none o1 ea] at hh
      cases hh
    by_cases hj:i = j
    · subst hj
      have hk:i ≠ k:=hjk
      have hi:i < ρ.length:=by
        rw [List.getElem?_set] at e1
        by_cases hi:i < ρ.length
        · exact hi
        · simp [hi] at e1
      rw [List.getElem?_set_self hi] at e1
      rw [List.getElem?_set_ne hk] at e2 s2
      rw [List.getElem?_set_self (by rw [<- r.len]; exact hi)] at s1
      cases s1
      exact key k xs ys e2 e1 w1 w2 s2
    · by_cases hk:i = k
      · subst hk
        have hi:i < ρ.length:=by
          rw [List.getElem?_set] at e2
          by_cases hi:i < ρ.length
          · exact hi
          · simp [hi] at e2
        rw [List.getElem?_set_self hi] at e2
        rw [List.getElem?_set_ne hj] at e1 s1
        rw [List.getElem?_set_self (by rw [<- r.len]; exact hi)] at s2
        cases s2
        exact key j ys xs e1 e2 w2 w1 s1
      · rw [List.getElem?_set_ne hj] at e1 s1
        rw [List.getElem?_set_ne hk] at e2 s2
        exact r.ap j k xs ys u hjk e1 e2 w1 w2 s1 s2
  · rw [List.getElem?_set] at z
    split at z
    · split at z
      · exact hp xs (Option.some.inj (Option.some.inj z))
      · cases z
    · exact r.np j xs z
end
end L2.VL

namespace L2.VL
open PySem PySem.Spec PyProof.Rows

abbrev TV:=En -> (W -> Prop) -> Prop
abbrev TB:=En -> (Bool -> Prop) -> Prop
abbrev TVs:=En -> (List W -> Prop) -> Prop
abbrev RelWs (K:W.Frag) (rl:RlT) (F H:Hp):List V -> List W -> Prop:=Paired (RelW K rl F H)

def PV (X:Cx) (rl:RlT) (e:Expr) (f:TV):Prop:=∃ t,PE X e t /\ ∀ {F₀ H₀ F H:Hp} {σ:St} {ρ:En},VR X.K rl F₀ H₀ F H σ ρ -> ∀ (Qd:W -> Prop) (Q:VK),f ρ Qd ->
  (∀ v w F' H',Grow rl F H F' H' -> RelW X.K rl F' H' v w -> NewIn H v w -> Qd w -> Q v H') -> t σ H Q
def PB (X:Cx) (rl:RlT) (e:Expr) (f:TB):Prop:=∃ t,PT X e t /\ ∀ {F₀ H₀ F H:Hp} {σ:St} {ρ:En},VR X.K rl F₀ H₀ F H σ ρ -> ∀ (Qd:Bool -> Prop) (Q:Bool -> Hp -> Prop),f ρ Qd ->
  (∀ b F' H',Grow rl F H F' H' -> Qd b -> Q b H') -> t σ H Q
def PVs (X:Cx) (rl:RlT) (es:List Expr) (f:TVs):Prop:=∃ t,PA X es t /\ ∀ {F₀ H₀ F H:Hp} {σ:St} {ρ:En},VR X.K rl F₀ H₀ F H σ ρ -> ∀ (Qd:List W -> Prop) (Q:List V -> Hp -> Prop),f ρ Qd ->
  (∀ vs ws F' H',Grow rl F H F' H' -> RelWs X.K rl F' H' vs ws -> Qd ws -> Q vs H') -> t σ H Q

def W.fz:W -> W
  | .ml xs=>.d (.list xs)
  | .nt ds=>.d (.tuple ds)
  | w=>w
theorem RelW.fz {K:W.Frag} {rl:RlT} {F H F1 H1:Hp} {v:V} {w:W} (g:Grow rl F H F1 H1) (r:RelW K rl F1 H1 v w) (n:NewIn H v w):∃ F2,Grow rl F H F2 H1 /\ Same F1 F2 /\ RelW K rl F2 H1 v w.fz:=by
  cases w with
  | d x=>exact ⟨F1,g,.refl _,r⟩
  | pk xs=>exact ⟨F1,g,.refl _,r⟩
  | reel=>exact ⟨F1,g,.refl _,r⟩
  | vv u=>exact ⟨F1,g,.refl _,r⟩
  | md u=>exact ⟨F1,g,.refl _,r⟩
  | mk u=>exact ⟨F1,g,.refl _,r⟩
  | lk=>exact ⟨F1,g,.refl _,r⟩
  | sc _=>exact ⟨F1,g,.refl _,r⟩
  | fd _=>exact ⟨F1,g,.refl _,r⟩
  | fw _=>exact ⟨F1,g,.refl _,r⟩
  | ft _=>exact ⟨F1,g,.refl _,r⟩
  | xc _ _=>exact ⟨F1,g,.refl _,r⟩
  | dp _ _=>exact ⟨F1,g,.refl _,r⟩
  | nt ds=>obtain ⟨a,vs,rfl,h,q⟩:=r; exact ⟨F1,g,.refl _,.tup (.inl (.inl h)) q⟩
  | ml xs =>
    obtain ⟨a,vs,rfl,f,hr,hh,q⟩:=(show OwnL K rl F1 H1 v xs from r)
    have neF:∀ b u,F1 b = some u -> b ≠ a:=fun b u q z=>by subst z; rw [f] at q; cases q
    have fsm:Same F1 (upd F1 a (.lst vs)):=fun b u z=>by rw [upd_ne (neF b u z)]; exact z
    exact ⟨upd F1 a (.lst vs),g.freeze (n a rfl) hh f hr,fsm,.lst upd_same (q.mono fsm)⟩

section
variable {X:Cx} {rl:RlT} {a b e:Expr} {es:List Expr} {fa fb fc:TV} {fs:TVs} {pos p:Pos}

def vC (x:PyData):TV:=fun _ Q=>Q (.d x)
theorem pv_const {v:V} {x:PyData} (h:PE X e (tC v)) (r:∀ F,Rep X.K F v x):PV X rl e (vC x) :=
  ⟨_,h,fun R Qd Q q k=>k v (.d x) _ _ (Grow.refl R.sub R.reel) (r _) trivial q⟩
theorem pv_int {i:Int} {j pos}:PV X rl (.Constant (.int i) j pos) (vC (.int i)):=pv_const pe_int fun _=>.int i
theorem pv_bl {i:Bool} {j pos}:PV X rl (.Constant (.bool i) j pos) (vC (.bool i)):=pv_const pe_bl fun _=>.bl i
theorem pv_glob {x:Str} {v:V} {u:Value} {d:PyData} {pos:Pos} (hm:X.mg x = some u) (r:RelV v u) (h:∀ F,Rep X.K F v d) (hg:Gl X x:=by rfl) (hd:(x == ("__debug__" : Str)) = false:=by decide):PV X rl (.Name x pos) (vC d) :=
  pv_const (pe_glob hg hm r hd) h
def vVar (i:Nat):TV:=fun ρ Q=>∃ w,ρ[i]? = some (some w) /\ Q w.peek
theorem vn (i:Nat) {x:Str} {pos:Pos} (hN:X.N[i]? = some x:=by rfl) (hv:Vis X.env.scope x:=by first | exact Or.inl rfl | exact Or.inr (Or.inl rfl) | exact Or.inr (Or.inr rfl)) (hd:(x == ("__debug__" : Str)) = false:=by decide)
    (hcd:(x == ("__classdict__" : Str)) = false:=by decide):PV X rl (.Name x pos) (vVar i) :=
  ⟨_,pe_var hN hv hd hcd,fun R Qd Q ⟨w,e,q⟩ k=>by
    obtain ⟨v,e1,r,_⟩:=R.sl i w e
    refine ⟨v,e1,k v w.peek _ _ (Grow.refl R.sub R.reel) r.peek ?_ q⟩
    cases w <;> trivial⟩

def vNil:TVs:=fun _ Q=>Q []
def vCons (f:TV) (fs:TVs):TVs:=fun ρ Q=>f ρ fun w=>fs ρ fun ws=>Q (w.fz :: ws)
theorem pvs_nil:PVs X rl [] vNil:=⟨_,pa_nil,fun R Qd Q q k=>k [] [] _ _ (Grow.refl R.sub R.reel) .nil q⟩
theorem pvs_cons (h1:PV X rl e fa) (h2:PVs X rl es fs) (hs:starEach (e :: es) X.env = (false,eval e X.env) :: starEach es X.env:=by rfl):PVs X rl (e :: es) (vCons fa fs):=by
  obtain ⟨t,p1,k1⟩:=h1
  obtain ⟨ts,p2,k2⟩:=h2
  refine ⟨_,pa_cons p1 p2 hs,fun R Qd Q q k=>?_⟩
  refine k1 R _ _ q fun v w F1 H1 g1 r1 n1 q1=>?_
  obtain ⟨F2,g2,s2,r2⟩:=RelW.fz g1 r1 n1
  refine k2 (R.grow g2) _ _ q1 fun vs ws F3 H3 g3 r3 q3=>?_
  exact k (v :: vs) (w.fz :: ws) F3 H3 (g2.trans g3) (.cons (r2.grow g3) r3) q3

def VOp (X:Cx) (rl:RlT) (r:R2) (g:W -> W -> (W -> Prop) -> Prop):Prop:=∀ {F H:Hp} {x y:V} {wx wy:W} (Qd:W -> Prop) (Q:VK),Same F H -> RAt rl F H -> RelW X.K rl F H x wx -> RelW X.K rl F H y wy -> g wx wy Qd ->
  (∀ v w F' H',Grow rl F H F' H' -> RelW X.K rl F' H' v w -> NewIn H v w -> Qd w -> Q v H') -> r x y H Q
def vOp (g:W -> W -> (W -> Prop) -> Prop) (fa fb:TV):TV:=fun ρ Q=>fa ρ fun x=>fb ρ fun y=>g x y Q
theorem vop_of {r:R2} {g:W -> W -> (W -> Prop) -> Prop} (vo:VOp X rl r g) (ha:PV X rl a fa) (hb:PV X rl b fb) {e:Expr} (hp:∀ ta tb,PE X a ta -> PE X b tb -> PE X e (tOp r ta tb)):PV X rl e (vOp g fa fb):=by
  obtain ⟨ta,p1,k1⟩:=ha
  obtain ⟨tb,p2,k2⟩:=hb
  refine ⟨_,hp ta tb p1 p2,fun R Qd Q q k=>?_⟩
  refine k1 R _ _ q fun v w F1 H1 g1 r1 n1 q1=>?_
  refine k2 (R.grow g1) _ _ q1 fun v2 w2 F2 H2 g2 r2 n2 q2=>?_
  exact vo Qd Q g2.sub g2.reel (r1.grow g2) r2 q2 fun v3 w3 F3 H3 g3 r3 n3 q3=>k v3 w3 F3 H3 ((g1.trans g2).trans g3) r3 (by
    cases w3 with
    | ml xs=>exact fun a ea=>g1.freeB (g2.freeB (n3 a ea))
    | md xs=>exact fun a ea=>g1.freeB (g2.freeB (n3 a ea))
    | mk xs=>exact fun a ea=>g1.freeB (g2.freeB (n3 a ea))
    | nt _=>trivial
    | lk=>trivial
    | sc _=>trivial
    | fd _=>trivial
    | fw _=>trivial
    | ft _=>trivial
    | xc _ _=>trivial
    | dp _ _=>trivial
    | d _=>trivial
    | pk _=>trivial
    | reel=>trivial
    | vv _=>trivial) q3
theorem pv_op {op:Operator} {r:R2} {g:W -> W -> (W -> Prop) -> Prop} (ho:OpR X (binaryOp op) r) (vo:VOp X rl r g) (ha:PV X rl a fa) (hb:PV X rl b fb):PV X rl (.BinOp a op b pos) (vOp g fa fb) :=
  vop_of vo ha hb fun _ _ p1 p2=>pe_op ho p1 p2
def gI (C:Int -> Int -> Prop) (g:Int -> Int -> PyData):W -> W -> (W -> Prop) -> Prop:=fun x y Q=>∃ i j,x = .d (.int i) /\ y = .d (.int j) /\ C i j /\ Q (.d (g i j))
theorem rep_int {K:W.Frag} {F:Hp} {v:V} {i:Int} (h:Rep K F v (.int i)):v = .int i:=by cases h; rfl
theorem vop_int {C:Int -> Int -> Prop} {g:Int -> Int -> V} {gd:Int -> Int -> PyData} (h:∀ K F i j,Rep K F (g i j) (gd i j)):VOp X rl (rI C g) (gI C gd):=fun {F H x y wx wy} Qd Q s ra r1 r2 q k=>by
  obtain ⟨i,j,rfl,rfl,c,q⟩:=q
  exact ⟨i,j,rep_int r1,rep_int r2,c,k _ (.d _) _ _ (Grow.refl s ra) (h _ _ i j) trivial q⟩
def gI0 (g:Int -> Int -> PyData):W -> W -> (W -> Prop) -> Prop:=fun x y Q=>∃ i j,x = .d (.int i) /\ y = .d (.int j) /\ Q (.d (g i j))
theorem vop_int0 {g:Int -> Int -> V} {gd:Int -> Int -> PyData} (h:∀ K F i j,Rep K F (g i j) (gd i j)):VOp X rl (rI0 g) (gI0 gd):=fun {F H x y wx wy} Qd Q s ra r1 r2 q k=>by
  obtain ⟨i,j,rfl,rfl,q⟩:=q
  exact ⟨i,j,rep_int r1,rep_int r2,k _ (.d _) _ _ (Grow.refl s ra) (h _ _ i j) trivial q⟩
theorem v_add (ha:PV X rl a fa) (hb:PV X rl b fb):PV X rl (.BinOp a .Add b pos) (vOp (gI0 fun i j=>.int (i + j)) fa fb):=pv_op op_add (vop_int0 fun _ _ _ _=>.int _) ha hb
theorem v_sub (ha:PV X rl a fa) (hb:PV X rl b fb):PV X rl (.BinOp a .Sub b pos) (vOp (gI0 fun i j=>.int (i - j)) fa fb):=pv_op op_sub (vop_int0 fun _ _ _ _=>.int _) ha hb
def Big (i:Int):Prop:=i.natAbs < 2 ^ 60000
theorem Big.bits {i:Int} (h:Big i):Builtin.Int.intBits i <= 60000:=intBits_le_iff.mpr h
def CMulB (i j:Int):Prop:=i.natAbs < 2 ^ 64 \/ j.natAbs < 2 ^ 64 \/ (Big i /\ Big j)
theorem CMulB.lt {i j:Int} (h:i.natAbs < 2 ^ 64):CMulB i j:=.inl h
theorem CMulB.rt {i j:Int} (h:j.natAbs < 2 ^ 64):CMulB i j:=.inr (.inl h)
theorem CMulB.bb {i j:Int} (h:Big i) (h':Big j):CMulB i j:=.inr (.inr ⟨h,h'⟩)
theorem CMulB.ok {i j:Int} (h:CMulB i j):IntMulOk i j:=by
  rcases h with h | h | h
  · exact .of_left (intBits_le_iff.mpr h)
  · exact .of_right (intBits_le_iff.mpr h)
  · exact IntMulOk.of_le h.1.bits h.2.bits (by decide)
theorem op_mulB:OpR X (binaryOp .Mult) (rI CMulB fun i j=>.int (i * j)):=opI fun _ _ _ _ _ _ _ hc q=>mul_int q hc.ok
theorem v_mul (ha:PV X rl a fa) (hb:PV X rl b fb):PV X rl (.BinOp a .Mult b pos) (vOp (gI CMulB fun i j=>.int (i * j)) fa fb):=pv_op op_mulB (vop_int fun _ _ _ _=>.int _) ha hb
def CDivB (_ j:Int):Prop:=j ≠ 0 /\ j.natAbs < 2 ^ 9000
theorem op_fdivB:OpR X (binaryOp .FloorDiv) (rI CDivB fun i j=>.int (i.fdiv j)):=opI fun _ j _ _ _ _ _ hc q=>floordiv_int hc.1 q (.inl (PyProof.noPylong_of_log2 ((Nat.log2_lt (by have:=hc.1; omega)).mpr hc.2)))
theorem v_div (ha:PV X rl a fa) (hb:PV X rl b fb):PV X rl (.BinOp a .FloorDiv b pos) (vOp (gI CDivB fun i j=>.int (i.fdiv j)) fa fb):=pv_op op_fdivB (vop_int fun _ _ _ _=>.int _) ha hb
theorem v_mod (ha:PV X rl a fa) (hb:PV X rl b fb):PV X rl (.BinOp a .Mod b pos) (vOp (gI (fun _ j=>j ≠ 0) fun i j=>.int (i.fmod j)) fa fb):=pv_op op_modN (vop_int fun _ _ _ _=>.int _) ha hb
theorem v_pow (ha:PV X rl a fa) (hb:PV X rl b fb):PV X rl (.BinOp a .Pow b pos) (vOp (gI CPow fun i j=>.int (i ^ j.toNat)) fa fb):=pv_op op_pow (vop_int fun _ _ _ _=>.int _) ha hb
def vNeg (fa:TV):TV:=fun ρ Q=>fa ρ fun x=>∃ i,x = .d (.int i) /\ Q (.d (.int (-i)))
theorem v_neg (ha:PV X rl a fa):PV X rl (.UnaryOp .USub a pos) (vNeg fa):=by
  obtain ⟨ta,p1,k1⟩:=ha
  refine ⟨_,pe_un un_neg p1,fun R Qd Q q k=>k1 R _ _ q fun v w F1 H1 g1 r1 n1 ⟨i,ew,q1⟩=>?_⟩
  subst ew
  exact ⟨i,rep_int r1,k _ (.d _) F1 H1 g1 (.int _) trivial q1⟩

theorem v_cmp {op:CmpOp} {r:R2} {g:W -> W -> (W -> Prop) -> Prop} (ho:OpR X (compareOp op) r) (vo:VOp X rl r g) (hm:behindInMarks op b = false) (ha:PV X rl a fa) (hb:PV X rl b fb):PV X rl (.Compare a [op] [b] pos) (vOp g fa fb) :=
  vop_of vo ha hb fun _ _ p1 p2=>pe_cmpR ho p1 p2 hm
def vTest (f:TV):TB:=fun ρ Q=>f ρ fun w=>∃ k,w = .d (.bool k) /\ Q k
theorem rep_bl {K:W.Frag} {F:Hp} {v:V} {i:Bool} (h:Rep K F v (.bool i)):v = .bl i:=by cases h; rfl
theorem vb_cmp {op:CmpOp} {r:R2} {g:W -> W -> (W -> Prop) -> Prop} (ho:OpR X (compareOp op) r) (vo:VOp X rl r g) (hm:behindInMarks op b = false) (ha:PV X rl a fa) (hb:PV X rl b fb):PB X rl (.Compare a [op] [b] pos) (vTest (vOp g fa fb)):=by
  obtain ⟨ta,p1,k1⟩:=ha
  obtain ⟨tb,p2,k2⟩:=hb
  refine ⟨_,pt_cmpR ho p1 p2 hm,fun R Qd Q q k=>?_⟩
  refine k1 R _ _ q fun v w F1 H1 g1 r1 n1 q1=>?_
  refine k2 (R.grow g1) _ _ q1 fun v2 w2 F2 H2 g2 r2 n2 q2=>?_
  refine vo _ _ g2.sub g2.reel (r1.grow g2) r2 q2 fun v3 w3 F3 H3 g3 r3 n3 ⟨kb,ew,q3⟩=>?_
  subst ew
  exact ⟨kb,rep_bl r3,k kb F3 H3 ((g1.trans g2).trans g3) q3⟩
theorem vb_val (ha:PV X rl e fa) (he:∀ whole,isTrue e X.env whole = (do let v <- whole; standAt e.pos; holding [v] (truthy v)):=by intro _; rfl):PB X rl e (vTest fa):=by
  obtain ⟨ta,p1,k1⟩:=ha
  refine ⟨_,pt_val p1 he,fun R Qd Q q k=>k1 R _ _ q fun v w F1 H1 g1 r1 n1 ⟨kb,ew,q1⟩=>?_⟩
  subst ew
  exact ⟨kb,rep_bl r1,k kb F1 H1 g1 q1⟩
abbrev gCmp (p:Int -> Int -> Bool):=gI0 fun i j=>.bool (p i j)
theorem vo_lt:VOp X rl (rI0 fun i j=>.bl (decide (i < j))) (gCmp fun i j=>decide (i < j)):=vop_int0 fun _ _ _ _=>.bl _
theorem vo_gt:VOp X rl (rI0 fun i j=>.bl (decide (j < i))) (gCmp fun i j=>decide (j < i)):=vop_int0 fun _ _ _ _=>.bl _
theorem vo_ge:VOp X rl (rI0 fun i j=>.bl (decide (j <= i))) (gCmp fun i j=>decide (j <= i)):=vop_int0 fun _ _ _ _=>.bl _
def rEqD (K:W.Frag) (neg:Bool):R2:=fun x y H Q=>∃ dx dy,Rep K H x dx /\ Rep K H y dy /\ SeqAt.shaped dx = true /\ SeqAt.shaped dy = true /\ Q (.bl (if neg then !PyData.eqv dx dy else PyData.eqv dx dy)) H
theorem op_eqD (hu:X.A.units + 64 < cLine):OpR X (compareOp .Eq) (rEqD X.K false):=by
  intro pins s σ H x y v u Q I rx ry ⟨dx,dy,h1,h2,s1,s2,q⟩
  obtain ⟨as,a1⟩:=Rep.reads I (.refl H) h1 v rx
  obtain ⟨bs,a2⟩:=Rep.reads I (.refl H) h2 u ry
  exact SeqAt.compareEq_shaped a1 a2 s1 s2 hu ⟨.bl _,H,I,rfl,q⟩
theorem op_neD (hu:X.A.units + 64 < cLine):OpR X (compareOp .NotEq) (rEqD X.K true):=by
  intro pins s σ H x y v u Q I rx ry ⟨dx,dy,h1,h2,s1,s2,q⟩
  obtain ⟨as,a1⟩:=Rep.reads I (.refl H) h1 v rx
  obtain ⟨bs,a2⟩:=Rep.reads I (.refl H) h2 u ry
  exact SeqAt.compareNe_shaped a1 a2 s1 s2 hu ⟨.bl _,H,I,rfl,q⟩
def gEqD (neg:Bool):W -> W -> (W -> Prop) -> Prop:=fun x y Q=>∃ dx dy,x.dat = some dx /\ y.dat = some dy /\ SeqAt.shaped dx = true /\ SeqAt.shaped dy = true /\ Q (.d (.bool (if neg then !PyData.eqv dx dy else PyData.eqv dx dy)))
theorem vo_eqD {neg:Bool}:VOp X rl (rEqD X.K neg) (gEqD neg):=fun {F H x y wx wy} Qd Q s ra r1 r2 q k=>by
  obtain ⟨dx,dy,e1,e2,s1,s2,q⟩:=q
  exact ⟨dx,dy,r1.dat s e1,r2.dat s e2,s1,s2,k _ (.d _) _ _ (Grow.refl s ra) (.bl _) trivial q⟩
def vAnd (f g:TB):TB:=fun ρ Q=>f ρ fun b=>if b = true then g ρ Q else Q false
def vOr (f g:TB):TB:=fun ρ Q=>f ρ fun b=>if b = true then Q true else g ρ Q
def vNot (f:TB):TB:=fun ρ Q=>f ρ fun b=>Q (!b)
def PBW (X:Cx) (rl:RlT) (e:Expr) (f:TB):Prop:=∃ t,PW X e t /\ ∀ {F₀ H₀ F H:Hp} {σ:St} {ρ:En},VR X.K rl F₀ H₀ F H σ ρ -> ∀ (Qd:Bool -> Prop) (Q:Bool -> Hp -> Prop),f ρ Qd ->
  (∀ b F' H',Grow rl F H F' H' -> Qd b -> Q b H') -> t σ H Q
variable {f g:TB} {rest:List Expr}
theorem PBW.pb (h:PBW X rl e f):PB X rl e f:=let ⟨t,p,k⟩:=h; ⟨t,p.pt,k⟩
theorem vb_and1 (ha:PB X rl a f):PBW X rl (.BoolOp .And [a] pos) f:=let ⟨t,p,k⟩:=ha; ⟨t,pw_and1 p,k⟩
theorem vb_or1 (ha:PB X rl a f):PBW X rl (.BoolOp .Or [a] pos) f:=let ⟨t,p,k⟩:=ha; ⟨t,pw_or1 p,k⟩
theorem vb_and (ha:PB X rl a f) (hb:PBW X rl (.BoolOp .And (b :: rest) pos) g):PBW X rl (.BoolOp .And (a :: b :: rest) pos) (vAnd f g):=by
  obtain ⟨t,p,k⟩:=ha
  obtain ⟨t2,p2,k2⟩:=hb
  refine ⟨_,pw_and p p2,fun R Qd Q q h=>k R _ _ q fun c F1 H1 g1 q1=>?_⟩
  cases c with
  | true=>exact k2 (R.grow g1) _ _ q1 fun c F2 H2 g2 q2=>h c F2 H2 (g1.trans g2) q2
  | false=>exact h false F1 H1 g1 q1
theorem vb_or (ha:PB X rl a f) (hb:PBW X rl (.BoolOp .Or (b :: rest) pos) g):PBW X rl (.BoolOp .Or (a :: b :: rest) pos) (vOr f g):=by
  obtain ⟨t,p,k⟩:=ha
  obtain ⟨t2,p2,k2⟩:=hb
  refine ⟨_,pw_or p p2,fun R Qd Q q h=>k R _ _ q fun c F1 H1 g1 q1=>?_⟩
  cases c with
  | true=>exact h true F1 H1 g1 q1
  | false=>exact k2 (R.grow g1) _ _ q1 fun c F2 H2 g2 q2=>h c F2 H2 (g1.trans g2) q2
theorem vb_not (ha:PB X rl a f):PB X rl (.UnaryOp .Not a pos) (vNot f):=by
  obtain ⟨t,p,k⟩:=ha
  exact ⟨_,pt_not p,fun R Qd Q q h=>k R _ _ q fun c F1 H1 g1 q1=>h (!c) F1 H1 g1 q1⟩
theorem NewIn.back {rl:RlT} {F H F' H':Hp} {v:V} {w:W} (g:Grow rl F H F' H') (n:NewIn H' v w):NewIn H v w:=by
  cases w with
  | ml xs=>exact fun a ea=>g.freeB (n a ea)
  | md xs=>exact fun a ea=>g.freeB (n a ea)
  | mk xs=>exact fun a ea=>g.freeB (n a ea)
  | nt _=>trivial
  | lk=>trivial
  | sc _=>trivial
  | fd _=>trivial
  | fw _=>trivial
  | ft _=>trivial
  | xc _ _=>trivial
  | dp _ _=>trivial
  | d _=>trivial
  | pk _=>trivial
  | reel=>trivial
  | vv _=>trivial
def vIf (t:TB) (fa fb:TV):TV:=fun ρ Q=>t ρ fun c=>if c = true then fa ρ Q else fb ρ Q
theorem v_ifExp {c:Expr} (hc:PB X rl c f) (ha:PV X rl a fa) (hb:PV X rl b fb):PV X rl (.IfExp c a b pos) (vIf f fa fb):=by
  obtain ⟨t,p,k⟩:=hc
  obtain ⟨t1,p1,k1⟩:=ha
  obtain ⟨t2,p2,k2⟩:=hb
  refine ⟨_,pe_ifExp p p1 p2,fun R Qd Q q h=>k R _ _ q fun c F1 H1 g1 q1=>?_⟩
  cases c with
  | true=>exact k1 (R.grow g1) _ _ q1 fun v w F2 H2 g2 r2 n2 q2=>h v w F2 H2 (g1.trans g2) r2 (n2.back g1) q2
  | false=>exact k2 (R.grow g1) _ _ q1 fun v w F2 H2 g2 r2 n2 q2=>h v w F2 H2 (g1.trans g2) r2 (n2.back g1) q2

def dats:List W -> Option (List PyData)
  | []=>some []
  | .d x :: r=>(dats r).map (x :: ·)
  | _ :: _=>none
theorem dats_rel {K:W.Frag} {F H:Hp}:∀ {vs:List V} {ws:List W} {ds:List PyData},RelWs K rl F H vs ws -> dats ws = some ds -> Reps K F vs ds
  | _,_,_,.nil,e=>by cases e; exact .nil
  | _,.d x :: ws,ds,.cons r rs,e=>by
    have e:(dats ws).map (x :: ·) = some ds:=e
    cases q:dats ws with
    | none=>rw [q] at e; cases e
    | some es=>rw [q] at e; cases e; exact .cons r (dats_rel rs q)
  | _,.ml x :: ws,ds,.cons r rs,e=>by cases (show none = some ds from e)
  | _,.pk x :: ws,ds,.cons r rs,e=>by cases (show none = some ds from e)
  | _,.reel :: ws,ds,.cons r rs,e=>by cases (show none = some ds from e)
  | _,.vv u :: ws,ds,.cons r rs,e=>by cases (show none = some ds from e)
  | _,.md u :: ws,ds,.cons r rs,e=>by cases (show none = some ds from e)
  | _,.nt u :: ws,ds,.cons r rs,e=>by cases (show none = some ds from e)
  | _,.lk :: ws,ds,.cons r rs,e=>by cases (show none = some ds from e)
  | _,.sc _ :: ws,ds,.cons r rs,e=>by cases (show none = some ds from e)
  | _,.fd _ :: ws,ds,.cons r rs,e=>by cases (show none = some ds from e)
  | _,.xc _ _ :: ws,ds,.cons r rs,e=>by cases (show none = some ds from e)
  | _,.mk _ :: ws,ds,.cons r rs,e=>by cases (show none = some ds from e)
  | _,.fw _ :: ws,ds,.cons r rs,e=>by cases (show none = some ds from e)
  | _,.ft _ :: ws,ds,.cons r rs,e=>by cases (show none = some ds from e)
  | _,.dp _ _ :: ws,ds,.cons r rs,e=>by cases (show none = some ds from e)
def vTup (fs:TVs):TV:=fun ρ Q=>fs ρ fun ws=>∃ ds,dats ws = some ds /\ ds.length <= sizeLine /\ Q (.d (.tuple ds))
def vLst (fs:TVs):TV:=fun ρ Q=>fs ρ fun ws=>∃ ds,dats ws = some ds /\ ds.length <= sizeLine /\ Q (.ml ds)
theorem v_tup {x1} (h:PVs X rl es fs):PV X rl (.Tuple es x1 pos) (vTup fs):=by
  obtain ⟨t,p,k⟩:=h
  refine ⟨_,pe_tup p,fun R Qd Q q h=>k R _ _ q fun vs ws F1 H1 g1 r1 ⟨ds,e1,z,q1⟩=>?_⟩
  have rs:=dats_rel r1 e1
  refine ⟨by rw [rs.length]; exact z,fun p hp=>?_⟩
  have g2:=g1.trans (Grow.data (a:=p) (o:=.tup vs) g1.sub g1.reel hp)
  exact h _ (.d (.tuple ds)) _ _ g2 (.tup (.inl (.inl upd_same)) (rs.mono (Grow.data (o:=.tup vs) g1.sub g1.reel hp).fs)) trivial q1
theorem own_laid {K:W.Frag} {F H:Hp} {p:Addr} {vs:List V} {ds:List PyData} (s:Same F H) (ra:RAt rl F H) (hp:H p = none) (rs:Reps K F vs ds):OwnL K rl F (upd H p (.lst vs)) (.ref p) ds:=by
  refine ⟨p,vs,rfl,s.free hp,fun e=>?_,upd_same,rs⟩
  obtain ⟨o,q⟩:=ra.live e
  rw [hp] at q
  cases q
theorem v_lst (h:PVs X rl es fs):PV X rl (.List es pos) (vLst fs):=by
  obtain ⟨t,p,k⟩:=h
  refine ⟨_,pe_lst p,fun R Qd Q q h=>k R _ _ q fun vs ws F1 H1 g1 r1 ⟨ds,e1,z,q1⟩=>?_⟩
  have rs:=dats_rel r1 e1
  refine ⟨by rw [rs.length]; exact z,fun p hp=>?_⟩
  exact h _ (.ml ds) _ _ (g1.trans (Grow.laid (a:=p) (o:=.lst vs) g1.sub g1.reel hp)) (own_laid g1.sub g1.reel hp rs) (fun a ea=>by cases ea; exact g1.freeB hp) q1

def itemAt:PyData -> Int -> Option PyData
  | .list xs,i=>atI xs i
  | .tuple xs,i=>atI xs i
  | _,_=>none
theorem Reps.atI {K:W.Frag} {F:Hp} {vs:List V} {ds:List PyData} {i:Int} {d:PyData} (r:Reps K F vs ds) (e:L2.atI ds i = some d):∃ v,L2.atI vs i = some v /\ Rep K F v d:=by
  unfold L2.atI at e ⊢
  rw [r.length]
  cases q:ixN ds.length i with
  | none=>rw [q] at e; cases e
  | some j =>
    rw [q] at e
    exact r.get e
def gIx:W -> W -> (W -> Prop) -> Prop:=fun x y Q=>∃ dx i z,x.dat = some dx /\ y = .d (.int i) /\ itemAt dx i = some z /\ Q (.d z)
theorem vo_ix:VOp X rl (rIx X.K) gIx:=fun {F H x y wx wy} Qd Q s ra r1 r2 q k=>by
  obtain ⟨dx,i,z,e1,rfl,e3,q⟩:=q
  have ey:=rep_int r2
  subst ey
  cases dx with
  | list xs =>
    obtain ⟨a,vs,rfl,sq,rs⟩:=r1.items s e1
    obtain ⟨v,e4,rz⟩:=Reps.atI rs e3
    exact .inl ⟨a,vs,i,v,rfl,rfl,sq,e4,k _ (.d _) _ _ (Grow.refl s ra) rz trivial q⟩
  | tuple xs =>
    obtain ⟨a,vs,rfl,sq,rs⟩:=r1.itemsT s e1
    obtain ⟨v,e4,rz⟩:=Reps.atI rs e3
    exact .inr (.inl ⟨a,vs,i,v,rfl,rfl,sq,e4,k _ (.d _) _ _ (Grow.refl s ra) rz trivial q⟩)
  | none=>cases e3
  | bool b=>cases e3
  | int b=>cases e3
  | str b=>cases e3
  | dict b=>cases e3
theorem v_ix (ha:PV X rl a fa) (hb:PV X rl b fb) (hs:PlainIx b:=by exact fun _ _=>rfl):PV X rl (.Subscript a b pos) (vOp gIx fa fb):=vop_of vo_ix ha hb fun _ _ p1 p2=>pe_ix ix_seq p1 p2 hs

def VCall (X:Cx) (rl:RlT) (r:List V -> Hp -> VK -> Prop) (g:List W -> (W -> Prop) -> Prop):Prop:=∀ {F H:Hp} {vs:List V} {ws:List W} (Qd:W -> Prop) (Q:VK),Same F H -> RAt rl F H -> RelWs X.K rl F H vs ws -> g ws Qd ->
  (∀ v w F' H',Grow rl F H F' H' -> RelW X.K rl F' H' v w -> NewIn H v w -> Qd w -> Q v H') -> r vs H Q
def vCall (g:List W -> (W -> Prop) -> Prop) (fs:TVs):TV:=fun ρ Q=>fs ρ fun ws=>g ws Q
theorem vcall_of {r:List V -> Hp -> VK -> Prop} {g:List W -> (W -> Prop) -> Prop} {t:TA -> TE} (vc:VCall X rl r g) (ha:PVs X rl es fs) {e:Expr} (hp:∀ ta,PA X es ta -> PE X e (tCB r ta)):PV X rl e (vCall g fs):=by
  obtain ⟨ta,p1,k1⟩:=ha
  refine ⟨_,hp ta p1,fun R Qd Q q k=>k1 R _ _ q fun vs ws F1 H1 g1 r1 q1=>?_⟩
  exact vc Qd Q g1.sub g1.reel r1 q1 fun v w F2 H2 g2 r2 n2 q2=>k v w F2 H2 (g1.trans g2) r2 (n2.back g1) q2
theorem v_callB {id:String} {x:Str} {r:List V -> Hp -> VK -> Prop} {g:List W -> (W -> Prop) -> Prop} (hc:CallR X (.builtin id) r) (vc:VCall X rl r g) (hm:X.mg x = none) (hv:bootBuiltins x = some (.builtin id)) (ha:PVs X rl (e :: es) fs) (hg:Gl X x:=by rfl) (hn:x ≠ "__name__" := by decide) (hdb:(x == ("__debug__" : Str)) = false:=by decide)
    (he:starEach (e :: es) X.env = (false,eval e X.env) :: starEach es X.env:=by rfl) (hpl:(backTo pos (starEach es X.env)).any (·.1) = false:=by rfl):PV X rl (.Call (.Name x p) (e :: es) [] pos) (vCall g fs) :=
  vcall_of (t:=fun _=>tC .non) vc ha fun _ p1=>pe_callB hc hg hm hv p1 hn hdb he hpl
theorem v_callTy {T:String} {x:Str} {r:List V -> Hp -> VK -> Prop} {g:List W -> (W -> Prop) -> Prop} (hc:CallR X (.type T) r) (vc:VCall X rl r g) (hm:X.mg x = none) (hv:bootBuiltins x = some (.type T)) (ha:PVs X rl (e :: es) fs) (hg:Gl X x:=by rfl) (hn:x ≠ "__name__" := by decide) (hdb:(x == ("__debug__" : Str)) = false:=by decide)
    (he:starEach (e :: es) X.env = (false,eval e X.env) :: starEach es X.env:=by rfl) (hpl:(backTo pos (starEach es X.env)).any (·.1) = false:=by rfl):PV X rl (.Call (.Name x p) (e :: es) [] pos) (vCall g fs) :=
  vcall_of (t:=fun _=>tC .non) vc ha fun _ p1=>pe_callTy hc hg hm hv p1 hn hdb he hpl
theorem rel1 {K:W.Frag} {F H:Hp} {vs:List V} {w:W} (r:RelWs K rl F H vs [w]):∃ v,vs = [v] /\ RelW K rl F H v w:=by
  cases r with
  | cons r1 r2=>cases r2; exact ⟨_,rfl,r1⟩
theorem rel2 {K:W.Frag} {F H:Hp} {vs:List V} {w w':W} (r:RelWs K rl F H vs [w,w']):∃ v u,vs = [v,u] /\ RelW K rl F H v w /\ RelW K rl F H u w':=by
  cases r with
  | cons r1 r2 =>
    cases r2 with
    | cons r3 r4=>cases r4; exact ⟨_,_,rfl,r1,r3⟩
def gAbs:List W -> (W -> Prop) -> Prop:=fun ws Q=>∃ i,ws = [.d (.int i)] /\ Q (.d (.int (if i < 0 then -i else i)))
theorem vc_abs:VCall X rl (fun xs H Q=>∃ i,xs = [.int i] /\ Q (.int (if i < 0 then -i else i)) H) gAbs:=fun {F H vs ws} Qd Q s ra r ⟨i,ew,q⟩ k=>by
  subst ew
  obtain ⟨v,rfl,r1⟩:=rel1 r
  have e:=rep_int r1
  subst e
  exact ⟨i,rfl,k _ (.d _) _ _ (Grow.refl s ra) (.int _) trivial q⟩
def lenD:PyData -> Option Nat
  | .list xs=>some xs.length
  | .tuple xs=>some xs.length
  | _=>none
def gLen:List W -> (W -> Prop) -> Prop:=fun ws Q=>∃ w d n,ws = [w] /\ w.dat = some d /\ lenD d = some n /\ Q (.d (.int n))
theorem vc_len:VCall X rl (fun xs H Q=>∃ p ys,xs = [.ref p] /\ (SqL X.K H p ys \/ SqT X.K H p ys) /\ Q (.int ys.length) H) gLen:=fun {F H vs ws} Qd Q s ra r ⟨w,d,n,ew,e1,e2,q⟩ k=>by
  subst ew
  obtain ⟨v,rfl,r1⟩:=rel1 r
  cases d with
  | list xs =>
    obtain ⟨a,vs,rfl,sq,rs⟩:=r1.items s e1
    cases e2
    exact ⟨a,vs,rfl,.inl sq,k _ (.d _) _ _ (Grow.refl s ra) (by rw [rs.length]; exact .int _) trivial q⟩
  | tuple xs =>
    obtain ⟨a,vs,rfl,sq,rs⟩:=r1.itemsT s e1
    cases e2
    exact ⟨a,vs,rfl,.inr sq,k _ (.d _) _ _ (Grow.refl s ra) (by rw [rs.length]; exact .int _) trivial q⟩
  | none=>cases e2
  | bool b=>cases e2
  | int b=>cases e2
  | str b=>cases e2
  | dict b=>cases e2
end
end L2.VL

namespace L2.VL
open PySem PySem.Spec PyProof.Rows

structure VEnds where
  nx:En -> Prop
  rt:W -> Prop
  bk:En -> Prop:=fun _=>False
  ct:En -> Prop:=fun _=>False
structure EndsOk (K:W.Frag) (rl:RlT) (F₀ H₀ Fs:Hp) (Dv:VEnds) (D:Ends):Prop where
  nx:∀ F H σ ρ,Same Fs F -> VR K rl F₀ H₀ F H σ ρ -> Dv.nx ρ -> D.nx σ H
  rt:∀ v w F H,Grow rl F₀ H₀ F H -> RelW K rl F H v w -> NewIn H₀ v w -> Dv.rt w -> D.rt v H
  bk:∀ F H σ ρ,Same Fs F -> VR K rl F₀ H₀ F H σ ρ -> Dv.bk ρ -> D.bk σ H
  ct:∀ F H σ ρ,Same Fs F -> VR K rl F₀ H₀ F H σ ρ -> Dv.ct ρ -> D.ct σ H
theorem EndsOk.on {K:W.Frag} {rl:RlT} {F₀ H₀ Fs F:Hp} {Dv:VEnds} {D:Ends} (ok:EndsOk K rl F₀ H₀ Fs Dv D) (s:Same Fs F):EndsOk K rl F₀ H₀ F Dv D :=
  ⟨fun F1 H σ ρ s1=>ok.nx F1 H σ ρ (s.trans s1),ok.rt,fun F1 H σ ρ s1=>ok.bk F1 H σ ρ (s.trans s1),fun F1 H σ ρ s1=>ok.ct F1 H σ ρ (s.trans s1)⟩
abbrev TSv:=VEnds -> En -> Prop
def PSV (X:Cx) (rl:RlT) (st:Stmt) (t:TSv):Prop:=∃ T,PS X st T /\ ∀ {F₀ H₀ F H:Hp} {σ:St} {ρ:En},VR X.K rl F₀ H₀ F H σ ρ -> ∀ Dv D,EndsOk X.K rl F₀ H₀ F Dv D -> t Dv ρ -> T D σ H
def PSsV (X:Cx) (rl:RlT) (st:List Stmt) (t:TSv):Prop:=∃ T,PSs X st T /\ ∀ {F₀ H₀ F H:Hp} {σ:St} {ρ:En},VR X.K rl F₀ H₀ F H σ ρ -> ∀ Dv D,EndsOk X.K rl F₀ H₀ F Dv D -> t Dv ρ -> T D σ H

section
variable {X:Cx} {rl:RlT} {st:Stmt} {rest body:List Stmt} {t u:TSv} {a b c e:Expr} {es:List Expr} {fa fb:TV} {fs:TVs} {f:TB} {pos p:Pos}
def vNext:TSv:=fun D ρ=>D.nx ρ
def vSeq (t u:TSv):TSv:=fun D ρ=>t { D with nx:=u D } ρ
theorem vs_nil:PSsV X rl [] vNext:=⟨_,pss_nil,fun R Dv D ok q=>ok.nx _ _ _ _ (.refl _) R q⟩
theorem vs_one (h:PSV X rl st t):PSsV X rl [st] t:=let ⟨T,p,k⟩:=h; ⟨T,pss_one p,k⟩
theorem vs_cons (h:PSV X rl st t) (h2:PSsV X rl rest u):PSsV X rl (st :: rest) (vSeq t u):=by
  obtain ⟨T,p,k⟩:=h
  obtain ⟨T2,p2,k2⟩:=h2
  exact ⟨_,pss_cons p p2,fun R Dv D ok q=>k R { Dv with nx:=u Dv } { D with nx:=T2 D } ⟨fun F H σ ρ s' R' q'=>k2 R' Dv D (ok.on s') q',ok.rt,ok.bk,ok.ct⟩ q⟩
def vRet (fa:TV):TSv:=fun D ρ=>fa ρ D.rt
theorem vs_ret (h:PV X rl e fa):PSV X rl (.Return (some e) pos) (vRet fa):=by
  obtain ⟨t,p,k⟩:=h
  exact ⟨_,ps_ret p,fun R Dv D ok q=>k R _ _ q fun v w F1 H1 g1 r1 n1 q1=>ok.rt v w F1 H1 (R.g.trans g1) r1 (n1.back R.g) q1⟩
def vIfS (f:TB) (t u:TSv):TSv:=fun D ρ=>f ρ fun b=>if b = true then t D ρ else u D ρ
theorem vs_if {A B:List Stmt} (hc:PB X rl c f) (ha:PSsV X rl A t) (hb:PSsV X rl B u):PSV X rl (.If c A B pos) (vIfS f t u):=by
  obtain ⟨t0,p0,k0⟩:=hc
  obtain ⟨t1,p1,k1⟩:=ha
  obtain ⟨t2,p2,k2⟩:=hb
  refine ⟨_,ps_if p0 p1 p2,fun R Dv D ok q=>k0 R _ _ q fun b F1 H1 g1 q1=>?_⟩
  cases b with
  | true=>exact k1 (R.grow g1) Dv D (ok.on g1.fs) q1
  | false=>exact k2 (R.grow g1) Dv D (ok.on g1.fs) q1
theorem vs_never:PSV X rl st (fun _ _=>False):=⟨_,ps_never,fun _ _ _ _ q=>q.elim⟩
def W.isPk:W -> Bool
  | .pk _=>true
  | _=>false
def vSet (i:Nat) (fa:TV):TSv:=fun D ρ=>fa ρ fun w=>w.isPk = false /\ D.nx (ρ.set i (some w))
theorem vs_set (i:Nat) {x:Str} {pos':Pos} (hN:X.N.Nodup) (he:PV X rl e fa) (hi:X.N[i]? = some x:=by rfl) (hx:Loc X.env.scope x:=by first | exact Or.inl rfl | exact Or.inr rfl)
    (hs:swapsWith e (some (.Name x pos')) pos.line X.env = pure false:=by rfl) (hf:X.fn x = true \/ X.env.scope.names.lookup x = some .local:=by first | exact .inl rfl | exact .inr rfl) :
    PSV X rl (.Assign [.Name x pos'] e pos) (vSet i fa):=by
  obtain ⟨t,p,k⟩:=he
  refine ⟨_,ps_set hN hi hx p hs hf,fun R Dv D ok q=>k R _ _ q fun v w F1 H1 g1 r1 n1 ⟨hp,q1⟩=>?_⟩
  exact ok.nx _ _ _ _ g1.fs (R.set g1 r1 n1 (fun xs z=>by subst z; cases hp) i) q1

def NoMl (ρ:En):Prop:=∀ (i:Nat) (w:W),ρ[i]? = some (some w) -> w.own = false
theorem NoMl.set {ρ:En} (h:NoMl ρ) (i:Nat) (x:PyData):NoMl (ρ.set i (some (.d x))):=fun j w z=>by
  rw [List.getElem?_set] at z
  split at z
  · split at z
    · cases z; rfl
    · cases z
  · exact h j w z
abbrev TGv:=PyData -> En -> (En -> Prop) -> Prop
abbrev TGvs:=List PyData -> En -> (En -> Prop) -> Prop
def PGV (X:Cx) (rl:RlT) (tg:Expr) (g:TGv):Prop:=∃ G,PG X tg G /\ ∀ {F₀ H₀ F H:Hp} {σ:St} {ρ:En},VR X.K rl F₀ H₀ F H σ ρ -> ∀ (v:V) (x:PyData) (Qd:En -> Prop) (Q:St -> Hp -> Prop),Rep X.K F v x -> g x ρ Qd ->
  (∀ F' H' σ' ρ',Grow rl F H F' H' -> (NoMl ρ -> NoMl ρ') -> VR X.K rl F₀ H₀ F' H' σ' ρ' -> Qd ρ' -> Q σ' H') -> G v σ H Q
def PGVs (X:Cx) (rl:RlT) (tgs:List Expr) (g:TGvs):Prop:=∃ G,PGs X tgs G /\ ∀ {F₀ H₀ F H:Hp} {σ:St} {ρ:En},VR X.K rl F₀ H₀ F H σ ρ -> ∀ (vs:List V) (xs:List PyData) (Qd:En -> Prop) (Q:St -> Hp -> Prop),Reps X.K F vs xs -> g xs ρ Qd ->
  (∀ F' H' σ' ρ',Grow rl F H F' H' -> (NoMl ρ -> NoMl ρ') -> VR X.K rl F₀ H₀ F' H' σ' ρ' -> Qd ρ' -> Q σ' H') -> G vs σ H Q
def hName (i:Nat):TGv:=fun x ρ Q=>Q (ρ.set i (some (.d x)))
theorem vg_name (i:Nat) {x:Str} (hN:X.N.Nodup) (hi:X.N[i]? = some x:=by rfl) (hx:Loc X.env.scope x:=by first | exact Or.inl rfl | exact Or.inr rfl) (hf:X.fn x = true \/ X.env.scope.names.lookup x = some .local:=by first | exact .inl rfl | exact .inr rfl):PGV X rl (.Name x pos) (hName i) :=
  ⟨_,pg_name hN hi hx hf,fun R v x Qd Q r q k=>k _ _ _ _ (Grow.refl R.sub R.reel) (fun n=>n.set i x) (R.set (w:=.d x) (Grow.refl R.sub R.reel) r trivial (fun _ z=>by cases z) i) q⟩
def hNil:TGvs:=fun xs ρ Q=>xs = [] /\ Q ρ
def hCons (g:TGv) (gs:TGvs):TGvs:=fun xs ρ Q=>∃ y r,xs = y :: r /\ g y ρ fun ρ'=>gs r ρ' Q
theorem vgs_nil:PGVs X rl [] hNil:=⟨_,pgs_nil,fun R vs xs Qd Q r ⟨e,q⟩ k=>by subst e; exact ⟨r.nil_iff,k _ _ _ _ (Grow.refl R.sub R.reel) (fun n=>n) R q⟩⟩
theorem vgs_cons {g:TGv} {gs:TGvs} (h1:PGV X rl e g) (h2:PGVs X rl es gs) (hs:(assignEach (e :: es) X.env).map (·.2) = assign e X.env :: (assignEach es X.env).map (·.2):=by rfl):PGVs X rl (e :: es) (hCons g gs):=by
  obtain ⟨G,p,k⟩:=h1
  obtain ⟨G2,p2,k2⟩:=h2
  refine ⟨_,pgs_cons p p2 hs,fun R vs xs Qd Q r ⟨y,ys,ex,q⟩ h=>?_⟩
  subst ex
  cases r with
  | cons r1 r2 =>
    refine ⟨_,_,rfl,k R _ y _ _ r1 q fun F1 H1 σ1 ρ1 s1 n1 R1 q1=>?_⟩
    exact k2 R1 _ ys _ _ (r2.mono s1.fs) q1 fun F2 H2 σ2 ρ2 s2 n2 R2 q2=>h F2 H2 σ2 ρ2 (s1.trans s2) (fun n=>n2 (n1 n)) R2 q2
def hTup (n:Nat) (gs:TGvs):TGv:=fun x ρ Q=>∃ xs,x = .tuple xs /\ xs.length = n /\ gs xs ρ Q
theorem vg_tup {kk:Nat} {gs:TGvs} {n:Nat} (hc:X.calm = true) (h:PGVs X rl es gs) (hn:(assignEach es X.env).length = n:=by rfl) (hst:(assignEach es X.env).findIdx? (·.1) = none:=by rfl):PGV X rl (.Tuple es kk pos) (hTup n gs):=by
  obtain ⟨G,p,k⟩:=h
  refine ⟨_,pg_tup hc p hn hst,fun R v x Qd Q r ⟨xs,ex,hl,q⟩ h=>?_⟩
  subst ex
  cases r with
  | tup sq rs=>exact ⟨_,_,rfl,sameT R.sub sq,by rw [rs.length]; exact hl,k R _ xs _ _ rs q h⟩
def vPar (i j:Nat) (fs:TVs):TSv:=fun D ρ=>fs ρ fun ws=>∃ x y,dats ws = some [x,y] /\ D.nx ((ρ.set i (some (.d x))).set j (some (.d y)))
theorem vs_par (i j:Nat) {x y:Str} {px py pt:Pos} {kt k2 pt2} (hc:X.calm = true) (hN:X.N.Nodup) (ha:PVs X rl [a,b] fs)
    (hw:swappedStores [.Tuple [.Name x px,.Name y py] kt pt] (.Tuple [a,b] k2 pt2) X.env = pure (some [x,y]):=by rfl) (hi:X.N[i]? = some x:=by rfl) (hj:X.N[j]? = some y:=by rfl) (hij:i ≠ j:=by decide)
    (hx:X.env.scope.names.lookup x = some .local:=by rfl) (hy:X.env.scope.names.lookup y = some .local:=by rfl)
    (hs:swapsWithSole [.Tuple [.Name x px,.Name y py] kt pt] (.Tuple [a,b] k2 pt2) pos.line X.env = pure false:=by rfl) :
    PSV X rl (.Assign [.Tuple [.Name x px,.Name y py] kt pt] (.Tuple [a,b] k2 pt2) pos) (vPar i j fs):=by
  obtain ⟨t,p,k⟩:=ha
  refine ⟨_,ps_par hc hN hi hj hij hx hy p hw hs,fun R Dv D ok q=>k R _ _ q fun vs ws F1 H1 g1 r1 ⟨x,y,e1,q1⟩=>?_⟩
  have rs:=dats_rel r1 e1
  cases rs with
  | cons rx rs =>
    cases rs with
    | cons ry rs =>
      cases rs
      have R1:=(R.grow g1).set (w:=.d x) (Grow.refl g1.sub g1.reel) rx trivial (fun _ z=>by cases z) i
      exact ⟨_,_,rfl,ok.nx _ _ _ _ g1.fs (R1.set (w:=.d y) (Grow.refl g1.sub g1.reel) ry trivial (fun _ z=>by cases z) j) q1⟩

structure VIt (K:W.Frag) (rl:RlT) (F:Hp) (J:It) (xs:List PyData):Prop where
  go:∀ i H x,xs[i]? = some x -> Same F H -> J.go i H
  stop:∀ i H,xs.length <= i -> Same F H -> J.stop i H
  yld:∀ {r:RlT} i H v H' x F2,xs[i]? = some x -> Same F F2 -> Same F2 H -> RAt r F2 H -> J.yld i H v H' -> ∃ F3,Grow r F2 H F3 H' /\ Rep K F3 v x
theorem VIt.of {K:W.Frag} {rl:RlT} {F:Hp} {J:It} {xs:List PyData} (go:∀ i H x,xs[i]? = some x -> Same F H -> J.go i H) (stop:∀ i H,xs.length <= i -> Same F H -> J.stop i H)
    (yld:∀ i H v H' x,xs[i]? = some x -> Same F H -> J.yld i H v H' -> H' = H /\ Rep K F v x):VIt K rl F J xs :=
  ⟨go,stop,fun i H v H' x F2 e s s2 ra y=>by
    obtain ⟨e1,r⟩:=yld i H v H' x e (s.trans s2) y
    subst e1
    exact ⟨F2,Grow.refl s2 ra,r.mono s⟩⟩
def PIV (X:Cx) (rl:RlT) (tg iter:Expr) (fi:En -> (List PyData -> Prop) -> Prop):Prop:=∃ wi,PI X tg iter wi /\ ∀ {F₀ H₀ F H:Hp} {σ:St} {ρ:En},VR X.K rl F₀ H₀ F H σ ρ -> ∀ (Qd:List PyData -> Prop) (R:It -> Hp -> Prop),fi ρ Qd ->
  (∀ J xs F' H',Grow rl F H F' H' -> VIt X.K rl F' J xs -> Qd xs -> R J H') -> wi σ H R
end
end L2.VL

namespace L2.VL
open PySem PySem.Spec PyProof.Rows

section
variable {X:Cx} {rl:RlT} {st:Stmt} {rest body:List Stmt} {t u:TSv} {a b c e:Expr} {es:List Expr} {fa fb:TV} {fs:TVs} {f:TB} {pos p:Pos} {tg:Expr}
def vFrz (i:Nat) (t:TSv):TSv:=fun D ρ=>∃ xs,ρ[i]? = some (some (.ml xs)) /\ t D (ρ.set i (some (.d (.list xs))))
def iL (fa:TV):En -> (List PyData -> Prop) -> Prop:=fun ρ Q=>fa ρ fun w=>∃ xs,w.fz = .d (.list xs) /\ Q xs
def iT (fa:TV):En -> (List PyData -> Prop) -> Prop:=fun ρ Q=>fa ρ fun w=>∃ xs,w.fz = .d (.tuple xs) /\ Q xs
theorem vi_list {l:Expr} (hl:PV X rl l fa):PIV X rl tg l (iL fa):=by
  obtain ⟨t,p,k⟩:=hl
  refine ⟨_,pi_list p,fun R Qd Q q h=>k R _ _ q fun v w F1 H1 g1 r1 n1 ⟨xs,ew,q1⟩=>?_⟩
  obtain ⟨F2,g2,s2,r2⟩:=RelW.fz g1 r1 n1
  rw [ew] at r2
  cases (show Rep X.K F2 v (.list xs) from r2) with
  | @lst a vs _ sq rs =>
    have sqH:∀ H,Same F2 H -> SqL X.K H a vs:=fun H s=>.inl (.inl (s _ _ sq))
    refine ⟨a,rfl,⟨vs,sqH H1 g2.sub⟩,h _ xs F2 H1 g2 (.of (fun i H x e s=>?_) (fun i H hl s=>⟨vs,sqH H s,by rw [rs.length]; exact hl⟩) (fun i H v H' x e s y=>?_)) q1⟩
    · obtain ⟨v,ev,_⟩:=rs.get e
      exact ⟨vs,v,sqH H s,ev⟩
    · obtain ⟨e',hy⟩:=y
      obtain ⟨v',ev,rv⟩:=rs.get e
      have:=hy vs (sqH H s)
      rw [ev] at this
      cases this
      exact ⟨e',rv⟩
theorem vi_tup {l:Expr} (hl:PV X rl l fa):PIV X rl tg l (iT fa):=by
  obtain ⟨t,p,k⟩:=hl
  refine ⟨_,pi_tup p,fun R Qd Q q h=>k R _ _ q fun v w F1 H1 g1 r1 n1 ⟨xs,ew,q1⟩=>?_⟩
  obtain ⟨F2,g2,s2,r2⟩:=RelW.fz g1 r1 n1
  rw [ew] at r2
  cases (show Rep X.K F2 v (.tuple xs) from r2) with
  | @tup a vs _ sq rs =>
    have sqH:∀ H,Same F2 H -> SqT X.K H a vs:=fun H s=>sameT s sq
    refine ⟨a,rfl,⟨vs,sqH H1 g2.sub⟩,h _ xs F2 H1 g2 (.of (fun i H x e s=>?_) (fun i H hl s=>⟨vs,sqH H s,by rw [rs.length]; exact hl⟩) (fun i H v H' x e s y=>?_)) q1⟩
    · obtain ⟨v,ev,_⟩:=rs.get e
      exact ⟨vs,v,sqH H s,ev⟩
    · obtain ⟨e',hy⟩:=y
      obtain ⟨v',ev,rv⟩:=rs.get e
      have:=hy vs (sqH H s)
      rw [ev] at this
      cases this
      exact ⟨e',rv⟩
def rangeD (lo:Int) (n:Nat):List PyData:=(List.range n).map fun (i:Nat)=>.int (lo + i)
theorem rangeD_get {lo:Int} {n i:Nat} {x:PyData} (h:(rangeD lo n)[i]? = some x):i < n /\ x = .int (lo + i):=by
  unfold rangeD at h
  rw [List.getElem?_map] at h
  by_cases hi:i < n
  · rw [List.getElem?_eq_getElem (by simpa using hi)] at h
    simp at h
    exact ⟨hi,h.symm⟩
  · rw [List.getElem?_eq_none (by simpa using hi)] at h
    cases h
theorem rangeD_length {lo:Int} {n:Nat}:(rangeD lo n).length = n:=by simp [rangeD]
theorem vit_range {K:W.Frag} {F:Hp} (lo:Int) (n:Nat):VIt K rl F (Itr lo n) (rangeD lo n) :=
  .of (fun i H x e s=>(rangeD_get e).1) (fun i H hl s=>by rw [rangeD_length] at hl; exact hl) (fun i H v H' x e s y=>by
    obtain ⟨e1,e2⟩:=y
    subst e2
    rw [(rangeD_get e).2]
    exact ⟨e1,.int _⟩)
def iR1 (fs:TVs):En -> (List PyData -> Prop) -> Prop:=fun ρ Q=>fs ρ fun ws=>∃ j:Int,ws = [.d (.int j)] /\ (-(2 ^ 62) <= j /\ j < 2 ^ 62) /\ Q (rangeD 0 j.toNat)
theorem vi_range1 (hm:X.mg "range" = none) (ha:PVs X rl [a] fs) (hg:Gl X "range" := by rfl) (hs:starEach [a] X.env = [(false,eval a X.env)]:=by rfl):PIV X rl tg (.Call (.Name "range" p) [a] [] pos) (iR1 fs):=by
  obtain ⟨t,p1,k⟩:=ha
  refine ⟨_,pi_range1 hg hm p1 hs,fun R Qd Q q h=>k R _ _ q fun vs ws F1 H1 g1 r1 ⟨j,ew,b,q1⟩=>?_⟩
  subst ew
  obtain ⟨v,rfl,rv⟩:=rel1 r1
  have e:=rep_int rv
  subst e
  exact ⟨j,rfl,b.1,b.2,h _ _ F1 H1 g1 (vit_range 0 _) q1⟩
theorem VR.own {K:W.Frag} {F₀ H₀ F H:Hp} {σ:St} {ρ:En} (r:VR K rl F₀ H₀ F H σ ρ) {i:Nat} {xs ys:List PyData} {a:Addr} {us:List V} (e : ρ[i]? = some (some (.ml xs))) (es : σ[i]? = some (some (.ref a))) (rs:Reps K F us ys) :
    VR K rl F₀ H₀ F (upd H a (.lst us)) σ (ρ.set i (some (.ml ys))):=by
  obtain ⟨v,h1,h2,h3⟩:=r.sl i _ e
  rw [es] at h1
  cases h1
  obtain ⟨a',vs,ev,f,hr,hh,q⟩:=(show OwnL K rl F H (.ref a) xs from h2)
  cases ev
  have n0:H₀ a = none:=h3 a rfl
  have hi:i < ρ.length:=(List.getElem?_eq_some_iff.mp e).1
  have neF:∀ b u,F b = some u -> b ≠ a:=fun b u q z=>by subst z; rw [f] at q; cases q
  have g:Grow rl F₀ H₀ F (upd H a (.lst us)):=by
    refine ⟨fun b o q1 n=>by rw [upd_ne (ne_of_none q1 n0)]; exact r.g.same b o q1 n,r.g.fs,fun b o q1=>by rw [upd_ne (neF b o q1)]; exact r.sub b o q1,r.g.old,fun y z=>?_⟩
    obtain ⟨z1,⟨u,h1,h2⟩⟩:=r.reel y z
    exact ⟨z1,⟨u,by rw [upd_ne (fun q=>hr (by rw [<- q]; exact z))]; exact h1,h2⟩⟩
  refine ⟨g,fun j w e1=>?_,fun j k ys' zs u hjk e1 e2 w1 w2 s1 s2=>?_,fun j ys' z=>?_,by simp [r.len]⟩
  · by_cases hj:i = j
    · subst hj
      rw [List.getElem?_set_self hi] at e1
      cases e1
      exact ⟨_,es,⟨a,us,rfl,f,hr,upd_same,rs⟩,h3⟩
    · rw [List.getElem?_set_ne hj] at e1
      obtain ⟨u,g1,g2,g3⟩:=r.sl j w e1
      refine ⟨u,g1,?_,g3⟩
      cases w with
      | d x=>exact g2
      | reel=>exact g2
      | vv u=>exact g2
      | ml zs =>
        obtain ⟨b,us',eb,f1,f2,f3,f4⟩:=(show OwnL K rl F H u zs from g2)
        have ne:b ≠ a:=fun z=>r.ap i j _ _ (.ref a) hj e e1 rfl rfl es (by rw [g1,eb,z])
        exact ⟨b,us',eb,f1,f2,by rw [upd_ne ne]; exact f3,f4⟩
      | pk zs=>exact absurd e1 (r.np j zs)
      | md zs =>
        obtain ⟨b,us',eb,f1,f2,f3,f4⟩:=(show OwnD K rl F H u zs from g2)
        have ne:b ≠ a:=fun z=>r.ap i j _ _ (.ref a) hj e e1 rfl rfl es (by rw [g1,eb,z])
        exact ⟨b,us',eb,f1,f2,by rw [upd_ne ne]; exact f3,f4⟩
      | mk zs =>
        obtain ⟨b,us',eb,f1,f2,f3,f4⟩:=(show OwnK K rl F H u zs from g2)
        have ne:b ≠ a:=fun z=>r.ap i j _ _ (.ref a) hj e e1 rfl rfl es (by rw [g1,eb,z])
        exact ⟨b,us',eb,f1,f2,by rw [upd_ne ne]; exact f3,f4⟩
      | nt ds=>exact g2
      | lk=>trivial
      | sc _=>exact g2
      | fd _=>exact g2
      | fw _=>exact g2
      | ft _=>exact g2
      | xc _ _=>exact g2
      | dp _ _=>exact g2
  · have nd:∀ (j:Nat) (z:W),(ρ.set i (some (W.ml ys)))[j]? = some (some z) -> z.own = true -> ∃ z',ρ[j]? = some (some z') /\ z'.own = true:=fun j zs z o=>by
      by_cases hj:i = j
      · subst hj
        exact ⟨_,e,rfl⟩
      · rw [List.getElem?_set_ne hj] at z
        exact ⟨zs,z,o⟩
    obtain ⟨_,d1,o1⟩:=nd j _ e1 w1
    obtain ⟨_,d2,o2⟩:=nd k _ e2 w2
    exact r.ap j k _ _ u hjk d1 d2 o1 o2 s1 s2
  · rw [List.getElem?_set] at z
    split at z
    · first | cases z | (split at z <;> cases z)
    · exact r.np j ys' z
def VMut (K:W.Frag) (rl:RlT) (r:V -> List V -> Hp -> VK -> Prop) (g:List PyData -> List W -> (List PyData -> Prop) -> Prop):Prop :=
  ∀ {F H:Hp} {a:Addr} {vs args:List V} {xs:List PyData} {ws:List W} (Qn:List PyData -> Prop) (Q:VK),Same F H -> H a = some (.lst vs) -> Reps K F vs xs -> RelWs K rl F H args ws -> g xs ws Qn ->
    (∀ us ys,Reps K F us ys -> Qn ys -> Q .non (upd H a (.lst us))) -> r (.ref a) args H Q
def vMut (i:Nat) (g:List PyData -> List W -> (List PyData -> Prop) -> Prop) (fs:TVs):TSv:=fun D ρ=>∃ xs,ρ[i]? = some (some (.ml xs)) /\ fs ρ fun ws=>g xs ws fun ys=>D.nx (ρ.set i (some (.ml ys)))
theorem vs_mut (i:Nat) {x:Str} {nm:Str} {id:String} {r:V -> List V -> Hp -> VK -> Prop} {g:List PyData -> List W -> (List PyData -> Prop) -> Prop} {px apos cpos:Pos} (slot:Slot "list" nm id) (hty:typeOf (.builtin id) = pure (.type "method_descriptor")) (hm:MtR X id r) (vm:VMut X.K rl r g) (ha:PVs X rl (e :: es) fs)
    (hN:X.N[i]? = some x:=by rfl) (hv:Vis X.env.scope x:=by first | exact Or.inl rfl | exact Or.inr (Or.inl rfl) | exact Or.inr (Or.inr rfl))
    (hd:(x == ("__debug__" : Str)) = false:=by decide) (hcd:(x == ("__classdict__" : Str)) = false:=by decide)
    (hbase:attributeBase (.Name x px) nm X.env (eval (.Name x px) X.env) = eval (.Name x px) X.env:=by rfl)
    (hfew:((backTo cpos (starEach (e :: es) X.env)).all (fun x=>!x.1) && (backToKw cpos (keywordEach [] X.env)).all (fun x=>x.1.isSome)
      && decide ((e :: es).length + ([]:List Keyword).length + (if ([]:List Keyword).isEmpty then 0 else 1) < 30)) = true:=by rfl)
    (hline:(apos.endLine == cpos.line) = true:=by rfl) (hs:starEach (e :: es) X.env = (false,eval e X.env) :: starEach es X.env:=by rfl) (hplain:(backTo cpos (starEach es X.env)).any (·.1) = false:=by rfl)
    (hsw:swapsWith (.Call (.Attribute (.Name x px) nm apos) (e :: es) [] cpos) none pos.line X.env = pure false:=by rfl) :
    PSV X rl (.Expr (.Call (.Attribute (.Name x px) nm apos) (e :: es) [] cpos) pos) (vMut i g fs):=by
  obtain ⟨t,p1,k⟩:=ha
  refine ⟨_,ps_expr (pe_bm PySem.F.plainAttrs_list slot hty hm (pe_var hN hv hd hcd) p1 hbase hfew hline hs hplain) hsw,fun {F₀ H₀ F H σ ρ} R Dv D ok ⟨xs,e1,q⟩=>?_⟩
  obtain ⟨v,h1,h2,h3⟩:=R.sl i _ e1
  obtain ⟨a,vs,rfl,f,hr,hh,rs⟩:=(show OwnL X.K rl F H v xs from h2)
  refine ⟨.ref a,h1,.inl ⟨rfl,vs,.inl (.inl hh)⟩,k R _ _ q fun args ws F1 H1 g1 r1 q1=>?_⟩
  refine vm _ _ g1.sub (g1.same a _ hh hr) (rs.mono g1.fs) r1 q1 fun us ys r2 q2=>?_
  exact ok.nx _ _ _ _ g1.fs ((R.grow g1).own e1 h1 r2) q2
def gApp:List PyData -> List W -> (List PyData -> Prop) -> Prop:=fun xs ws Q=>∃ x,dats ws = some [x] /\ xs.length < sizeLine /\ Q (xs ++ [x])
theorem vm_app {K:W.Frag}:VMut K rl rAppend gApp:=fun {F H a vs args xs ws} Qn Q s ha rs ra ⟨x,e,z,q⟩ k=>by
  have r2:=dats_rel ra e
  cases r2 with
  | cons rx r3 =>
    cases r3
    exact ⟨a,vs,_,rfl,rfl,ha,by rw [rs.length]; exact z,k _ _ (rs.snoc rx) q⟩
theorem vs_app (i:Nat) {x:Str} {px apos cpos:Pos} (ha:PVs X rl [e] fs) (hN:X.N[i]? = some x:=by rfl) (hv:Vis X.env.scope x:=by first | exact Or.inl rfl | exact Or.inr (Or.inl rfl) | exact Or.inr (Or.inr rfl))
    (hd:(x == ("__debug__" : Str)) = false:=by decide) (hcd:(x == ("__classdict__" : Str)) = false:=by decide)
    (hbase:attributeBase (.Name x px) "append" X.env (eval (.Name x px) X.env) = eval (.Name x px) X.env:=by rfl)
    (hfew:((backTo cpos (starEach [e] X.env)).all (fun x=>!x.1) && (backToKw cpos (keywordEach [] X.env)).all (fun x=>x.1.isSome)
      && decide (([e]).length + ([]:List Keyword).length + (if ([]:List Keyword).isEmpty then 0 else 1) < 30)) = true:=by rfl)
    (hline:(apos.endLine == cpos.line) = true:=by rfl) (hs:starEach [e] X.env = (false,eval e X.env) :: starEach [] X.env:=by rfl) (hplain:(backTo cpos (starEach [] X.env)).any (·.1) = false:=by rfl)
    (hsw:swapsWith (.Call (.Attribute (.Name x px) "append" apos) [e] [] cpos) none pos.line X.env = pure false:=by rfl) :
    PSV X rl (.Expr (.Call (.Attribute (.Name x px) "append" apos) [e] [] cpos) pos) (vMut i gApp fs) :=
  vs_mut i PySem.F.slot_list_append PySem.F.type_list_append mt_append vm_app ha hN hv hd hcd hbase hfew hline hs hplain hsw

def argOk:W -> Bool
  | .ml _=>false
  | .md _=>false
  | .mk _=>false
  | .pk _=>false
  | _=>true
def vsp (K:W.Frag) (rl:RlT) (P:List W -> (PyData -> Prop) -> Prop):Sp:=fun vs H Q _=>∃ F ws,Same F H /\ RAt rl F H /\ RelWs K rl F H vs ws /\ ws.all argOk = true /\ P ws fun d=>∀ v F' H',Grow rl F H F' H' -> Rep K F' v d -> Q v H'
def startV (N:List Str) (ws:List W):En:=ws.map some ++ List.replicate (N.length - ws.length) none
theorem relWs_get {K:W.Frag} {F H:Hp}:∀ {vs:List V} {ws:List W} {i:Nat} {w:W},RelWs K rl F H vs ws -> ws[i]? = some w -> ∃ v,vs[i]? = some v /\ RelW K rl F H v w
  | _,_,_,_,.nil,e=>by simp at e
  | _,_,0,_,.cons h _,e=>by simp at e; subst e; exact ⟨_,rfl,h⟩
  | _,_,i + 1,w,.cons _ r,e=>by
    obtain ⟨v,h1,h2⟩:=relWs_get (i:=i) (w:=w) r (by simpa using e)
    exact ⟨v,by simpa using h1,h2⟩
theorem start_get {N:List Str} {ws:List W} {i:Nat} {w:W} (h:(startV N ws)[i]? = some (some w)):ws[i]? = some w:=by
  unfold startV at h
  by_cases hi:i < ws.length
  · rw [List.getElem?_append_left (by simpa using hi),List.getElem?_map] at h
    cases q:ws[i]? with
    | none=>rw [q] at h; cases h
    | some x=>rw [q] at h; cases h; rfl
  · rw [List.getElem?_append_right (by simpa using hi),List.getElem?_replicate] at h
    split at h <;> cases h
theorem vr_start {K:W.Frag} {F H:Hp} {N:List Str} {vs:List V} {ws:List W} (s:Same F H) (ra:RAt rl F H) (r:RelWs K rl F H vs ws) (ok:ws.all argOk = true):VR K rl F H F H (start N vs) (startV N ws):=by
  have hl:vs.length = ws.length:=Paired.length r
  have no:∀ (i:Nat) w,(startV N ws)[i]? = some (some w) -> argOk w = true:=fun i w e=>(List.all_eq_true.mp ok) w (List.mem_of_getElem? (start_get e))
  refine ⟨Grow.refl s ra,fun i w e=>?_,fun i j xs ys v _ e1 _ o _ _ _=>(by have:=no i _ e1; cases xs <;> first | exact Bool.noConfusion o | exact Bool.noConfusion this),fun i xs e=>(by have:=no i _ e; cases this),?_⟩
  · obtain ⟨v,h1,h2⟩:=relWs_get r (start_get e)
    refine ⟨v,?_,h2,?_⟩
    · unfold start
      rw [List.getElem?_append_left (by simpa using (List.getElem?_eq_some_iff.mp h1).1),List.getElem?_map,h1]
      rfl
    · have:=no i w e
      cases w with
      | ml xs=>cases this
      | md xs=>cases this
      | mk xs=>cases this
      | nt _=>trivial
      | lk=>trivial
      | sc _=>trivial
      | fd _=>trivial
      | fw _=>trivial
      | ft _=>trivial
      | xc _ _=>trivial
      | dp _ _=>trivial
      | d _=>trivial
      | pk _=>trivial
      | reel=>trivial
      | vv _=>trivial
  · unfold startV start
    simp [hl]
def vEnds (Q:PyData -> Prop):VEnds:=⟨fun _=>Q .none,fun w=>∃ d,w.fz = .d d /\ Q d,fun _=>False,fun _=>False⟩
theorem vfn {P:Program} {w:World} {K:W.Frag} {mg:Str -> Option Value} {base:Heap} {x qual:Str} {st:Stmt} {fa:Addr} {fd:FuncData} {N ps:List Str} {k:Nat} {Pd:List W -> (PyData -> Prop) -> Prop} {t:TSv}
    (Fn:Fun K x qual st fa fd) (S:FnScope N ps (defScope st)) (len:∀ ws Q,Pd ws Q -> ws.length = ps.length)
    (hbody:∀ (cdv:Value) (A:Around) (outer:List Env) (s:Shared) (H:Hp) (E:XK),Room k (A.deeper (envOfC qual (defScope st) s.heap.objs.size fa cdv)) ->
      PSsV (cxOf CX0 P w K mg base N qual (defScope st) fa cdv A outer s H E).nox rl (defBody st) t)
    (hread:∀ ws Q,Pd ws Q -> t (vEnds Q) (startV N ws)):FnOk P w K mg base CX0 (k + 1) fa fd ps (vsp K rl Pd):=by
  refine Fn.ok S (fun vs H Q E ⟨F,ws,_,_,r,_,q⟩=>(Paired.length r).trans (len ws _ q)) fun cdv A outer s H vs Q E hr h=>?_
  obtain ⟨F,ws,sm,ra,r,ok,q⟩:=h
  obtain ⟨T,p,kk⟩:=hbody cdv A outer s H E hr
  refine ⟨T,p,kk (vr_start sm ra r ok) (vEnds _) _ ⟨?_,?_,fun _ _ _ _ _ _ z=>False.elim z,fun _ _ _ _ _ _ z=>False.elim z⟩ (hread ws _ q)⟩
  · intro F1 H1 σ1 ρ1 _ R1 q1
    exact q1 .non F1 H1 R1.g .non
  · rintro v w1 F1 H1 g1 r1 n1 ⟨d,ed,q1⟩
    obtain ⟨F2,g2,s2,r2⟩:=RelW.fz g1 r1 n1
    rw [ed] at r2
    exact q1 v F2 H1 g2 r2
structure Dfn (P:Program) (w:World) (K:W.Frag) (mg:Str -> Option Value) (base:Heap) (rl:RlT) (x:Str) (ps:List Str) (k:Nat) (Pd:List W -> (PyData -> Prop) -> Prop):Prop where
  mono:∀ ws Q Q',(∀ d,Q d -> Q' d) -> Pd ws Q -> Pd ws Q'
  ex:∃ f fd,mg x = some (.ref f) /\ W.keepIn K (.ref f) = true /\ Binds K fd ps [] /\ FnOk P w K mg base CX0 k f fd ps (vsp K rl Pd)
def vUse (Pd:List W -> (PyData -> Prop) -> Prop) (fs:TVs):TV:=fun ρ Q=>fs ρ fun ws=>ws.all argOk = true /\ Pd ws fun d=>Q (.d d)
theorem v_call {x:Str} {ps:List Str} {k:Nat} {Pd:List W -> (PyData -> Prop) -> Prop} (D:Dfn X.prog X.w X.K X.mg X.base rl x ps k Pd) (hr:Room k X.A) (ha:PVs X rl (e :: es) fs) (hg:Gl X x:=by rfl)
    (hdb:(x == ("__debug__" : Str)) = false:=by decide) (he:starEach (e :: es) X.env = (false,eval e X.env) :: starEach es X.env:=by rfl) (hpl:(backTo pos (starEach es X.env)).any (·.1) = false:=by rfl) :
    PV X rl (.Call (.Name x p) (e :: es) [] pos) (vUse Pd fs):=by
  obtain ⟨f,fd,hm,hk,hb,F⟩:=D.ex
  obtain ⟨t,p1,kk⟩:=ha
  refine ⟨_,pe_call F hr hg hm hk hb .nil pass0 p1 hdb he hpl,fun R Qd Q q h=>kk R _ _ q fun vs ws F1 H1 g1 r1 ⟨ok,q1⟩=>?_⟩
  refine ⟨F1,ws,g1.sub,g1.reel,by rw [List.append_nil]; exact r1,ok,?_⟩
  exact D.mono ws _ _ (fun d qd v F2 H2 g2 r2=>h v (.d d) F2 H2 (g1.trans g2) r2 trivial qd) q1
end
end L2.VL

namespace L2
open PySem PySem.Spec PyProof.Rows

theorem closure_ok {env:Env}:∀ (names:List (Str × NameKind)) (acc:List (Str × Addr)),(∀ x ∈ names,x.2 = .free -> ∃ c,env.cells.lookup x.1 = some c) -> (∀ x c,acc.lookup x = some c -> env.cells.lookup x = some c) ->
    ∃ cl,(forIn names acc (fun (x:Str × NameKind) (cs:List (Str × Addr))=>if (x.2 == NameKind.free) = true then do let c <- cellOf env x.1; pure (ForInStep.yield ((x.1,c) :: cs)) else pure (ForInStep.yield cs)):Sem (List (Str × Addr))) = pure cl /\
      (∀ x c,cl.lookup x = some c -> env.cells.lookup x = some c) /\ (∀ x,(acc.lookup x).isSome = true -> (cl.lookup x).isSome = true) /\ ∀ x,(x,NameKind.free) ∈ names -> (cl.lookup x).isSome = true
  | [],acc,_,h2=>⟨acc,rfl,h2,fun _ z=>z,fun _ z=>nomatch z⟩
  | (n,k) :: r,acc,h1,h2=>by
    by_cases hk:k = .free
    · subst hk
      obtain ⟨c,hc⟩:=h1 (n,.free) List.mem_cons_self rfl
      have h2':∀ x c',((n,c) :: acc).lookup x = some c' -> env.cells.lookup x = some c':=fun x c' z=>by
        rw [List.lookup_cons] at z
        cases e:x == n with
        | true =>
          rw [e] at z
          have e':x = n:=by simpa using e
          cases z
          rw [e']
          exact hc
        | false =>
          rw [e] at z
          exact h2 x c' z
      obtain ⟨cl,e,g1,g2,g3⟩:=closure_ok r ((n,c) :: acc) (fun x hx=>h1 x (List.mem_cons_of_mem _ hx)) h2'
      refine ⟨cl,?_,g1,fun x z=>g2 x ?_,fun x z=>?_⟩
      · rw [List.forIn_cons]
        simp only [beq_self_eq_true,if_true]
        have e0:cellOf env n = pure c:=by unfold cellOf; rw [hc]
        rw [e0,pure_bind,pure_bind]
        exact e
      · rw [List.lookup_cons]
        split
        · rfl
        · exact z
      · rcases List.mem_cons.mp z with z | z
        · cases z
          refine g2 _ ?_
          rw [List.lookup_cons]
          simp
        · exact g3 x z
    · obtain ⟨cl,e,g1,g2,g3⟩:=closure_ok r acc (fun x hx=>h1 x (List.mem_cons_of_mem _ hx)) h2
      refine ⟨cl,?_,g1,g2,fun x z=>?_⟩
      · rw [List.forIn_cons]
        have hb:(k == NameKind.free) = false:=by simpa using hk
        simp only [hb,Bool.false_eq_true,if_false]
        rw [pure_bind]
        exact e
      · rcases List.mem_cons.mp z with z | z
        · cases z; exact absurd rfl hk
        · exact g3 x z
theorem closure_for {env:Env} {scope:Scope} (h:∀ x ∈ scope.names,x.2 = .free -> ∃ c,env.cells.lookup x.1 = some c) :
    ∃ cl,closureFor scope env = pure cl /\ (∀ x c,cl.lookup x = some c -> env.cells.lookup x = some c) /\ ∀ x,(x,NameKind.free) ∈ scope.names -> (cl.lookup x).isSome = true:=by
  obtain ⟨cl,e,g1,_,g3⟩:=closure_ok scope.names [] h (fun _ _ z=>by cases z)
  refine ⟨cl,?_,g1,g3⟩
  unfold closureFor
  first
    | exact e
    | (simp only [bind_pure]; exact e)

theorem relabel_back {env:Env} {scope:Scope} {x:Str} (h:(relabel scope env).names.lookup x = some .cell \/ (relabel scope env).names.lookup x = some .free):(x,NameKind.free) ∈ scope.names \/ (x,NameKind.cell) ∈ scope.names:=by
  have key:∀ names:List (Str × NameKind),∀ k,(k = .cell \/ k = .free) ->
      (names.map fun (n,k)=>if (k == NameKind.free && env.scope.kind == .function && env.kindOf n == some .cell) then (n,NameKind.cell) else (n,k)).lookup x = some k -> (x,NameKind.free) ∈ names \/ (x,NameKind.cell) ∈ names:=by
    intro names
    induction names with
    | nil=>intro k _ z; cases z
    | cons y r ih =>
      intro k hk z
      obtain ⟨n,kn⟩:=y
      have step:((x,NameKind.free) ∈ r \/ (x,NameKind.cell) ∈ r) -> ((x,NameKind.free) ∈ (n,kn) :: r \/ (x,NameKind.cell) ∈ (n,kn) :: r):=fun z=>z.imp (List.mem_cons_of_mem _) (List.mem_cons_of_mem _)
      rw [List.map_cons] at z
      dsimp only at z
      by_cases hc:(kn == NameKind.free && env.scope.kind == .function && env.kindOf n == some .cell) = true
      · rw [if_pos hc,List.lookup_cons] at z
        have hf:kn = .free:=by
          have:=(Bool.and_eq_true_iff.mp (Bool.and_eq_true_iff.mp hc).1).1
          simpa using this
        cases e:x == n with
        | true =>
          have e':x = n:=by simpa using e
          rw [e',<- hf]
          exact .inl List.mem_cons_self
        | false =>
          rw [e] at z
          exact step (ih k hk z)
      · rw [if_neg hc,List.lookup_cons] at z
        cases e:x == n with
        | true =>
          rw [e] at z
          have e':x = n:=by simpa using e
          cases z
          rcases hk with hk | hk
          · rw [e',hk]; exact .inr List.mem_cons_self
          · rw [e',hk]; exact .inl List.mem_cons_self
        | false =>
          rw [e] at z
          exact step (ih k hk z)
  rcases h with h | h
  · exact key scope.names .cell (.inl rfl) h
  · exact key scope.names .free (.inr rfl) h

theorem cellsFrom_app:∀ (names:List (Str × NameKind)) (n:Nat) (acc:List (Str × Addr)),cellsFrom n names acc = cellsFrom n names [] ++ acc
  | [],_,_=>rfl
  | (x,k) :: r,n,acc=>by
    unfold cellsFrom
    split
    · rw [cellsFrom_app r (n + 1) ((x,n) :: acc),cellsFrom_app r (n + 1) [(x,n)],List.append_assoc]
      rfl
    · exact cellsFrom_app r n acc
theorem cellsFrom_mem {x:Str} {c:Addr}:∀ {names:List (Str × NameKind)} {n:Nat},(x,c) ∈ cellsFrom n names [] -> (x,NameKind.cell) ∈ names
  | (y,k) :: r,n,h=>by
    unfold cellsFrom at h
    split at h
    · rename_i hk
      rw [cellsFrom_app] at h
      rcases List.mem_append.mp h with h | h
      · exact List.mem_cons_of_mem _ (cellsFrom_mem h)
      · simp at h
        have:k = .cell:=by simpa using hk
        rw [h.1,this]
        exact List.mem_cons_self
    · exact List.mem_cons_of_mem _ (cellsFrom_mem h)
theorem lookup_app {a b:List (Str × Addr)} {x:Str}:(a ++ b).lookup x = (a.lookup x).or (b.lookup x):=by
  induction a with
  | nil=>simp
  | cons y a ih =>
    obtain ⟨n,c⟩:=y
    rw [List.cons_append,List.lookup_cons,List.lookup_cons]
    cases x == n <;> simp [ih]
theorem newEnv_comp {M:Model} {A:Around} {E:Value -> Shared -> Prop} {s:Shared} {scope:Scope} {globals:Addr} {cl:List (Str × Addr)} {qual:Str} {o:Env} {Q:Env -> Shared -> Prop}
    (hQ:Q { scope,locals:=s.heap.objs.size,globals,cells:=cellsFrom (s.heap.objs.size + 1) scope.names cl,qual,func:=none,code:=o.code,frame:=o.frame,builtins:=o.builtins } { s with heap:=pushCells (s.heap.push { cls:=.type "dict", data:=.dict #[] }) scope.names }) :
    wpAny M A (newFunctionEnv scope globals cl [] qual none .none (some o)) Q E s:=by
  simp only [newFunctionEnv,Option.isSome_some,if_true]
  refine wpAny_bind (wpAny_alloc ?_)
  refine wpAny_bind (wpAny_layCells _ (fun name kind cells=>by cases hkc:kind == NameKind.cell <;> simp [hkc]) _ _ _ _ ?_)
  rw [show ({ s with heap:=s.heap.push { cls:=.type "dict", data:=.dict #[] } }:Shared).heap.objs.size = s.heap.objs.size + 1 from Heap.size_push ..]
  exact wpAny_bind (wpAny_pure (wpAny_pure hQ))
def compCx (X:Cx) (N':List Str) (scope:Scope) (cl:List (Str × Addr)) (fp:List Addr) (pn:List (Addr × Obj)) (s:Shared) (H:Hp):Cx :=
  { X with N:=N',s₀:=s,H₀:=H,env:={ compEnvC scope cl s.heap.objs.size X.env with cells:=cellsFrom (s.heap.objs.size + 1) scope.names cl },outer:=X.stack,ex:=fp,fn:=fun x=>scope.names.lookup x == some .cell,pn:=pn,xe:=fun _ _=>False }
abbrev testsOf (ifs:List Expr) (env:Env):Sem Bool:=forIn ifs true fun c r=>if r = true then do let ok <- isTrue c env (eval c env); pure (ForInStep.yield ok) else pure (ForInStep.yield r)
def PTs (X:Cx) (ifs:List Expr) (t:TT):Prop :=
  ∀ (pins:List (Addr × Obj)) (s:Shared) (σ:St) (H:Hp) (Q:Bool -> Hp -> Prop),Inv X pins σ H s -> t σ H Q -> wpAny (model X.prog X.w) X.A (testsOf ifs X.env) (TP X pins σ Q) X.xe s
theorem pts_nil {X:Cx}:PTs X [] (fun _ H Q=>Q true H):=fun _ _ _ H _ I h=>wpAny_tests_nil ⟨H,I,h⟩
theorem pts_one {X:Cx} {c:Expr} {t:TT} (h:PT X c t):PTs X [c] t:=fun pins s σ H Q I hw=>wpAny_tests_one (h pins s σ H Q I hw)

theorem comp_loop {prog:Program} {w:World} {A:Around} {R:Result -> Shared -> Prop} {s:Shared} {elt target iter:Expr} {ifs:List Expr} {scope:Scope} {pos:Pos} {it acc:Value} {env:Env} (I:Nat -> Shared -> Prop)
    (turn:∀ n s,I n s -> wpAny (model prog w) A (pyNext it) (fun r s₁=>(r = none /\ R (.ok .next) s₁) \/ ∃ v,r = some v /\
      wpAny (model prog w) A (letOwnedTupleGo target it v) (fun _ s₂=>wpAny (model prog w) A (assign target env v) (fun _ s₃=>wpAny (model prog w) A (testsOf ifs env) (fun ok s₄ =>
        if ok = true then wpAny (model prog w) A (eval elt env) (fun x s₅=>wpAny (model prog w) A (call (.builtin "list.append") [acc,x]) (fun _ s₆=>∃ m,m < n /\ I m s₆) (fun _ _=>False) s₅) (fun _ _=>False) s₄
        else ∃ m,m < n /\ I m s₄) (fun _ _=>False) s₃) (fun _ _=>False) s₂) (fun _ _=>False) s₁) (fun _ _=>False) s)
    (n:Nat) (h:I n s):codeAny (model prog w) A (.compLoop (.ListComp elt [⟨target,iter,ifs,0⟩] scope pos) 0 it acc env) R s:=by
  refine codeAny_loop rfl I (fun n s hI=>?_) n h
  show wpAny _ A ((compTurn (.ListComp elt [⟨target,iter,ifs,0⟩] scope pos) 0 it acc env).onRaise (fun x=>do noteFrame x env; theTreesLotGoes x)) _ _ s
  refine wpAny_noted ?_
  rw [compTurn_list]
  refine wpAny_bind (wpAny_standAt (wpAny_bind (wpAny_mono (turn n s hI) (fun r s₁ h₁=>?_) fun _ _ h'=>h'.elim)))
  rcases h₁ with ⟨rfl,h₁⟩ | ⟨v,rfl,h₁⟩
  · exact wpAny_pure h₁
  · refine wpAny_bind (wpAny_mono h₁ (fun _ s₂ h₂=>wpAny_bind (wpAny_mono h₂ (fun _ s₃ h₃=>wpAny_bind (wpAny_mono h₃ (fun ok s₄ h₄=>?_) fun _ _ z=>z.elim)) fun _ _ z=>z.elim)) fun _ _ z=>z.elim)
    cases ok with
    | false=>exact wpAny_pure ⟨rfl,h₄⟩
    | true=>exact wpAny_bind (wpAny_bind (wpAny_mono h₄ (fun x s₅ h₅=>wpAny_bind (wpAny_mono h₅ (fun _ s₆ h₆=>wpAny_pure (wpAny_pure ⟨rfl,h₆⟩)) fun _ _ z=>z.elim)) fun _ _ z=>z.elim))

def frIn (fr:List (Option Nat)) (σ:St):St:=fr.map fun o=>o.bind fun j=>(σ[j]?).join
def frOk (fr:List (Option Nat)) (N' N:List Str) (sc scX:Scope):Bool :=
  decide (fr.length = N'.length) && (List.range fr.length).all fun i=>match fr[i]? with
    | some (some j)=>match N'[i]? with
      | some x=>decide (N[j]? = some x) && decide (sc.names.lookup x = some .free) && (decide (scX.names.lookup x = some .cell) || decide (scX.names.lookup x = some .free))
      | none=>false
    | _=>true
def scOk (sc scX:Scope):Bool :=
  decide (sc.kind = .function) && sc.names.all fun y=>(decide (y.2 ≠ .cell) || decide (sc.names.lookup y.1 = some .cell)) && (decide (y.2 ≠ .local) || decide (sc.names.lookup y.1 = some .local)) &&
    (decide (y.2 ≠ .free) || (decide (scX.names.lookup y.1 = some .cell) || decide (scX.names.lookup y.1 = some .free)))
theorem frOk.get {fr:List (Option Nat)} {N' N:List Str} {sc scX:Scope} (h:frOk fr N' N sc scX = true):fr.length = N'.length /\ ∀ (i j:Nat),fr[i]? = some (some j) -> ∃ x,N'[i]? = some x /\ N[j]? = some x /\ sc.names.lookup x = some .free /\ (scX.names.lookup x = some .cell \/ scX.names.lookup x = some .free):=by
  unfold frOk at h
  obtain ⟨h1,h2⟩:=Bool.and_eq_true_iff.mp h
  refine ⟨of_decide_eq_true h1,fun i j e=>?_⟩
  have hi:i < fr.length:=(List.getElem?_eq_some_iff.mp e).1
  have q:=List.all_eq_true.mp h2 i (List.mem_range.mpr hi)
  rw [e] at q
  dsimp only at q
  cases en:N'[i]? with
  | none=>rw [en] at q; cases q
  | some x =>
    rw [en] at q
    dsimp only at q
    obtain ⟨q1,q2⟩:=Bool.and_eq_true_iff.mp q
    obtain ⟨q3,q4⟩:=Bool.and_eq_true_iff.mp q1
    exact ⟨x,rfl,of_decide_eq_true q3,of_decide_eq_true q4,(Bool.or_eq_true_iff.mp q2).imp of_decide_eq_true of_decide_eq_true⟩
theorem lookup_mem {x:Str} {k:NameKind}:∀ {names:List (Str × NameKind)},names.lookup x = some k -> (x,k) ∈ names:=fun h=>PySem.mem_of_lookup h

structure CompA where
  cl:List (Str × Addr)
  fp:List Addr
  pn:List (Addr × Obj)
  s:Shared
  H:Hp
abbrev blk (X:Cx) (N':List Str) (scope:Scope) (y:CompA):Cx:=compCx X N' scope y.cl y.fp y.pn y.s y.H
def tComp (wi:TI) (fr:List (Option Nat)) (g:CompA -> TG) (tt:CompA -> TT) (te:CompA -> TE):TE:=fun σ H Q=>wi σ H fun J H1=>∀ D,H1 D = none -> ∃ Wv:Nat -> Nat -> List V -> St -> Hp -> Prop,(∃ m,Wv 0 m [] (frIn fr σ) (upd H1 D (.lst []))) /\
  ∀ (z:CompA) i m acc σc H,Wv i m acc σc H -> (J.stop i H /\ Q (.ref D) H) \/ (J.go i H /\ ∀ x H',J.yld i H x H' -> g z x σc H' fun σ2 H2=>tt z σ2 H2 fun b H3 =>
    if b = true then te z σ2 H3 fun y H4=>H4 D = some (.lst acc) /\ acc.length < sizeLine /\ ∃ m',m' < m /\ Wv (i + 1) m' (acc ++ [y]) σ2 (upd H4 D (.lst (acc ++ [y]))) else ∃ m',m' < m /\ Wv (i + 1) m' acc σ2 H3)
theorem relabel_free {env:Env}:∀ {names:List (Str × NameKind)} {x:Str},names.lookup x = some .free ->
    (names.map fun (n,k)=>if (k == NameKind.free && env.scope.kind == .function && env.kindOf n == some .cell) then (n,NameKind.cell) else (n,k)).lookup x = some .cell \/
    (names.map fun (n,k)=>if (k == NameKind.free && env.scope.kind == .function && env.kindOf n == some .cell) then (n,NameKind.cell) else (n,k)).lookup x = some .free
  | [],_,h=>by simp at h
  | (n,k) :: r,x,h=>by
    have ih:=@relabel_free env r x
    rw [List.map_cons]
    dsimp only
    cases hx:x == n with
    | true =>
      simp only [List.lookup_cons,hx] at h
      cases h
      by_cases hc:((NameKind.free == NameKind.free) && env.scope.kind == .function && env.kindOf n == some .cell) = true
      · rw [if_pos hc]; simp [List.lookup_cons,hx]
      · rw [if_neg hc]; simp [List.lookup_cons,hx]
    | false =>
      simp only [List.lookup_cons,hx] at h
      by_cases hc:(k == NameKind.free && env.scope.kind == .function && env.kindOf n == some .cell) = true
      · rw [if_pos hc]; simp only [List.lookup_cons,hx]; exact ih h
      · rw [if_neg hc]; simp only [List.lookup_cons,hx]; exact ih h
theorem comp_blockG {X:Cx} {ex tg:Expr} {scope:Scope} {pins:List (Addr × Obj)} {σ:St} {H3:Hp} {s3:Shared} {it D:Addr} {fp:List Addr} {tn:Nat -> Heap -> Prop} {J:It} {Q:VK}
    {cl:List (Str × Addr)} (N':List Str) (fr:List (Option Nat)) (hc:X.calm = true) (hkind:scope.kind = .function) (hcell:∀ y ∈ scope.names,y.2 = .cell -> scope.names.lookup y.1 = some .cell)
    (hfree:∀ y ∈ scope.names,y.2 = .free -> X.env.kindOf y.1 = some .cell \/ X.env.kindOf y.1 = some .free) (frl:fr.length = N'.length)
    (frg:∀ (i j:Nat),fr[i]? = some (some j) -> ∃ x,N'[i]? = some x /\ X.N[j]? = some x /\ scope.names.lookup x = some .free /\ (X.env.scope.names.lookup x = some .cell \/ X.env.scope.names.lookup x = some .free))
    (cl1:∀ x c,cl.lookup x = some c -> X.env.cells.lookup x = some c) (cl2:∀ x,(x,NameKind.free) ∈ scope.names -> (cl.lookup x).isSome = true)
    (I3:Inv X pins σ H3 s3) (T:Turn X.prog X.w X.K tg J fp it tn) (tn3:tn 0 s3.heap) (fpD:∀ b ∈ fp,H3 b = none) (fp3:∀ b ∈ fp,b < s3.heap.objs.size)
    (fpk:∀ b ∈ fp,b ≠ X.env.locals /\ b ∉ X.fs /\ (b ∈ X.ex \/ X.s₀.heap.objs.size <= b) /\ (∀ x c,X.env.cells.lookup x = some c -> c ≠ b) /\ ∀ p ∈ X.pn ++ pins,p.1 ≠ b)
    (loop:∀ s',Inv (compCx X N' scope cl fp (X.pn ++ pins) s3 H3) [] (frIn fr σ) H3 s' -> tn 0 s'.heap -> (∀ {H':Hp},(∀ b ∈ fp,H' b = none) -> ∀ b ∈ fp,FpOk (compCx X N' scope cl fp (X.pn ++ pins) s3 H3) [] H' b) ->
      codeAny (model X.prog X.w) X.A (.compStart ex 0 (.ref it) (.ref D) (compCx X N' scope cl fp (X.pn ++ pins) s3 H3).env) (fun r s5=>r = .ok .next /\ ∃ σ5 H4,Inv (compCx X N' scope cl fp (X.pn ++ pins) s3 H3) [] σ5 H4 s5 /\ Q (.ref D) H4) s')
    {Rp:Addr -> Result -> Shared -> Prop} (fin:∀ s5 H4 m,s5.heap.Ns s3.heap.objs.size m -> (∀ h',Heap.SameBut s3.heap.objs.size s5.heap h' -> Inv X pins σ H4 { s5 with heap:=h' }) -> FpOk X pins H4 s3.heap.objs.size -> Q (.ref D) H4 -> Rp s3.heap.objs.size (.ok .next) s5) :
    wpAny (model X.prog X.w) X.A (newFunctionEnv scope X.env.globals cl [] X.env.qual none .none (some X.env)) (fun cenv s₄ =>
      codeAny (model X.prog X.w) X.A (.compStart ex 0 (.ref it) (.ref D) { cenv with scope:=relabel scope X.env })
        (Rp cenv.locals) s₄) X.xe s3:=by
  refine newEnv_comp ?_
  have ok:=cellsFrom_ok scope.names (s3.heap.push { cls:=.type "dict", data:=.dict #[] }) (s3.heap.objs.size + 1) [] ⟨fun _ _ hm=>(nomatch hm),List.Pairwise.nil⟩ (by rw [Heap.size_push]; exact Nat.le_refl _)
  rw [Heap.size_push] at ok
  have kp:∀ b o,s3.heap.get? b = some o -> (pushCells (s3.heap.push { cls:=.type "dict", data:=.dict #[] }) scope.names).get? b = some o:=fun b o e=>pushCells_keeps _ _ b o (Heap.get?_push_of_some _ e)
  have hns₁:(pushCells (s3.heap.push { cls:=.type "dict", data:=.dict #[] }) scope.names).Ns s3.heap.objs.size (fun _=>none):=(Heap.Ns.new s3.heap (.type "dict")).keeps (pushCells_keeps _ _)
  generalize pushCells (s3.heap.push { cls:=.type "dict", data:=.dict #[] }) scope.names = h₁ at ok kp hns₁ ⊢
  have cs:∀ x c,(cellsFrom (s3.heap.objs.size + 1) scope.names cl).lookup x = some c -> (cellsFrom (s3.heap.objs.size + 1) scope.names []).lookup x = some c \/ cl.lookup x = some c:=fun x c e=>by
    rw [cellsFrom_app,lookup_app] at e
    cases q:(cellsFrom (s3.heap.objs.size + 1) scope.names []).lookup x with
    | none=>rw [q] at e; exact .inr (by simpa using e)
    | some c'=>rw [q] at e; exact .inl (by simpa using e)
  have own:∀ x c,(cellsFrom (s3.heap.objs.size + 1) scope.names []).lookup x = some c -> h₁.IsCell c none /\ s3.heap.objs.size + 1 <= c:=fun x c e=>ok.empty x c (PySem.mem_of_lookup e)
  have clt:∀ x c,cl.lookup x = some c -> c < s3.heap.objs.size:=fun x c e=>by
    obtain ⟨v,o,ho,_⟩:=I3.cell x c (cl1 x c e)
    exact Heap.lt_size ho
  have frn:∀ x,scope.names.lookup x = some .free -> (cellsFrom (s3.heap.objs.size + 1) scope.names []).lookup x = none:=fun x e=>by
    cases q:(cellsFrom (s3.heap.objs.size + 1) scope.names []).lookup x with
    | none=>rfl
    | some c =>
      have:=hcell (x,.cell) (cellsFrom_mem (PySem.mem_of_lookup q)) rfl
      rw [e] at this
      cases this
  have notC:∀ b o,s3.heap.get? b = some o -> b ≠ s3.heap.objs.size:=fun b o e=>Nat.ne_of_lt (Heap.lt_size e)
  have fpstk:∀ b ∈ fp,b ∉ frs X.stack:=fun b hb z=>(List.mem_cons.mp (I3.stkSub b z)).elim (fpk b hb).1 (fpk b hb).2.1
  have cellK:∀ c v,s3.heap.IsCell c v -> h₁.IsCell c v:=fun c v ⟨o,ho,hd⟩=>⟨o,kp c o ho,hd⟩
  have IY:Inv (compCx X N' scope cl fp (X.pn ++ pins) s3 H3) [] (frIn fr σ) H3 { s3 with heap:=h₁ }:=by
    refine ⟨⟨I3.ok.mod,hkind,I3.ok.glob,I3.ok.blt,Nat.le_refl _,fun x y c e1 e2=>?_,fun x hx=>?_,fun x c _ e=>?_,I3.ok.hd,I3.ok.frames,.inl rfl,
      fun b hb=>⟨Nat.ne_of_lt (fp3 b hb),fun x c e=>?_⟩,I3.bs,Nat.le_trans I3.ok.bsz I3.sz,fun b o e hb=>?_,fun b hb=>fpstk b hb,I3.stack,I3.stkFree⟩,
      rfl,I3.bare,Un.kept kp,⟨_,hns₁,fun i x v e1 e2 e3=>?_⟩,fun x c e=>?_,I3.hok.fresh (Nat.le_refl _),fun x c e=>?_,fun p hp=>?_,I3.hok.kept kp,?_⟩
    · rcases cs x c e1 with q1 | q1 <;> rcases cs y c e2 with q2 | q2
      · exact name_of_addr ok.apart (PySem.mem_of_lookup q1) (PySem.mem_of_lookup q2)
      · exact absurd (Nat.lt_of_lt_of_le (clt y c q2) (Nat.le_of_succ_le (own x c q1).2)) (Nat.lt_irrefl _)
      · exact absurd (Nat.lt_of_lt_of_le (clt x c q1) (Nat.le_of_succ_le (own y c q2).2)) (Nat.lt_irrefl _)
      · exact I3.ok.inj x y c (cl1 x c q1) (cl1 y c q2)
    · refine Option.isSome_iff_exists.mp ?_
      show ((cellsFrom (s3.heap.objs.size + 1) scope.names cl).lookup x).isSome = true
      rcases relabel_back hx with q | q
      · exact W.cellsFrom_some _ _ _ (.inr (cl2 x q))
      · exact W.cellsFrom_some _ _ _ (.inl (hcell _ q rfl))
    · rename_i hfn
      rcases cs x c e with q | q
      · have:=(own x c q).2
        show s3.heap.objs.size <= c
        omega
      · have hfn:(scope.names.lookup x == some NameKind.cell) = true:=hfn
        have hl:scope.names.lookup x = some .cell:=by simpa using hfn
        obtain ⟨c',ec'⟩:=Option.isSome_iff_exists.mp (W.cellsFrom_some scope.names (s3.heap.objs.size + 1) [] (.inl hl))
        have e':(cellsFrom (s3.heap.objs.size + 1) scope.names cl).lookup x = some c:=e
        rw [cellsFrom_app,lookup_app,ec'] at e'
        simp at e'
        subst e'
        exact Nat.le_of_succ_le (own x c' ec').2
    · rcases cs x c e with q | q
      · exact fun z=>absurd (Nat.lt_of_lt_of_le (fp3 b hb) (Nat.le_of_succ_le (by rw [<- z]; exact (own x c q).2))) (Nat.lt_irrefl _)
      · exact (fpk b hb).2.2.2.1 x c (cl1 x c q)
    · rcases (fpk b hb).2.2.1 with z | z
      · exact I3.ok.noex b o e z
      · exact absurd (Nat.lt_of_lt_of_le (Heap.lt_size e) (Nat.le_trans I3.ok.bsz z)) (Nat.lt_irrefl _)
    · have e2':(fr[i]?).map (fun o=>o.bind fun j=>(σ[j]?).join) = some (some v):=by unfold frIn at e2; rw [List.getElem?_map] at e2; exact e2
      cases ef:fr[i]? with
      | none=>rw [ef] at e2'; cases e2'
      | some o =>
        cases o with
        | none=>rw [ef] at e2'; cases e2'
        | some j =>
          rw [ef] at e2'
          have e3':(σ[j]?).join = some v:=Option.some.inj e2'
          have e4 : σ[j]? = some (some v):=by
            cases q : σ[j]? with
            | none=>rw [q] at e3'; cases e3'
            | some z=>rw [q] at e3'; cases e3'; rfl
          obtain ⟨x',n1,n2,n3,n4⟩:=frg i j ef
          have ex:x' = x:=Option.some.inj (n1.symm.trans e1)
          subst ex
          obtain ⟨m,hn,hl⟩:=I3.loc
          obtain ⟨u,ru,lk⟩:=hl j x' v n2 e4 (n4.elim (fun z=>.inr (.inl z)) fun z=>.inr (.inr z))
          refine ⟨u,ru,?_⟩
          rcases lk with ⟨kl,_⟩ | ⟨_,c,ec,hcl⟩
          · exact absurd (show X.env.scope.names.lookup x' = some .local from kl) (by rcases n4 with z | z <;> rw [z] <;> decide)
          · obtain ⟨c',ec'⟩:=Option.isSome_iff_exists.mp (cl2 x' (lookup_mem n3))
            have:=cl1 x' c' ec'
            rw [ec] at this
            cases this
            refine .inr ⟨relabel_free n3,c,?_,cellK _ _ hcl⟩
            show (cellsFrom (s3.heap.objs.size + 1) scope.names cl).lookup x' = some c
            rw [cellsFrom_app,lookup_app,frn x' n3]
            simpa using ec'
    · rcases cs x c e with q | q
      · exact ⟨_,(own x c q).1⟩
      · obtain ⟨v,z⟩:=I3.cell x c (cl1 x c q)
        exact ⟨v,cellK _ _ z⟩
    · rcases cs x c e with q | q
      · exact I3.hok.fresh (by have:=(own x c q).2; omega)
      · exact I3.freeC x c (cl1 x c q)
    · rw [List.append_nil] at hp
      obtain ⟨e,n,ne,nf,d⟩:=I3.pin p hp
      exact ⟨kp _ _ e,n,notC _ _ e,fun z=>(List.mem_cons.mp (I3.stkSub p.1 z)).elim ne nf,d⟩
    · unfold frIn
      rw [List.length_map]
      exact frl
  have stat:∀ {H':Hp},(∀ b ∈ fp,H' b = none) -> ∀ b ∈ fp,FpOk (compCx X N' scope cl fp (X.pn ++ pins) s3 H3) [] H' b:=fun hn b hb =>
    ⟨hn b hb,Nat.ne_of_lt (fp3 b hb),fpstk b hb,.inl hb,fun x c e=>(by
      rcases cs x c e with q | q
      · exact fun z=>absurd (Nat.lt_of_lt_of_le (fp3 b hb) (Nat.le_of_succ_le (by rw [<- z]; exact (own x c q).2))) (Nat.lt_irrefl _)
      · exact (fpk b hb).2.2.2.1 x c (cl1 x c q)),fun p hp=>by rw [List.append_nil] at hp; exact (fpk b hb).2.2.2.2 p hp⟩
  refine codeAny_mono (loop _ IY (T.keep _ _ _ tn3 fun b _ o e=>kp b o e) stat) fun r s5 ⟨hr,σ5,H4,I5,qn⟩=>?_
  subst hr
  obtain ⟨m,hn,_⟩:=I5.loc
  refine fin s5 H4 m hn (fun h' hs'=>?_) (I3.fpOk (Nat.le_refl _) I5.free) qn
  have k':∀ b o,b ≠ s3.heap.objs.size -> s5.heap.get? b = some o -> h'.get? b = some o:=fun b o nb e=>hs'.extBut b o nb e
  have u5:Un (frs X.stack) fp H3 H4 s3.heap s5.heap:=I5.base
  have un:Un (frs X.stack) fp H3 H4 s3.heap h' :=
    ⟨fun b o e n hb hx=>k' b o (notC b o e) (u5.keep b o e n hb hx),fun b o e n hb hx=>by obtain ⟨sl,q⟩:=u5.slot b o e n hb hx; exact ⟨sl,k' b _ (notC b o e) q⟩,u5.free,
      fun b o e hx=>by obtain ⟨o',q⟩:=u5.there b o e hx; exact ⟨o',k' b _ (notC b o e) q⟩,u5.tups,u5.frzs,u5.tbls⟩
  have nC:H4 s3.heap.objs.size = none:=I5.free
  have hok':HOk X.prog X.w H4 h':=fun b u e=>(I5.hok b u e).stay (fun c v hcv q=>k' c v (by
    rintro rfl
    rcases hcv with z | z
    · rw [<- z] at e; rw [nC] at e; cases e
    · rw [nC] at z; cases z) q) (fun _ q=>q) fun _ _ q=>q
  obtain ⟨hh,g5,d5,t5,os5⟩:=s5
  have os':os5 = s3.os:=I5.os
  subst os'
  have I':=Inv.call (s:=s3) (h':=h') (g':=g5) (d':=d5) (t':=t5) (ch:=fp) I3 un hok' I5.bare (fun b hb=>⟨(fpk b hb).2.2.1,(fpk b hb).1,(fpk b hb).2.2.2.1,(fpk b hb).2.2.2.2⟩)
  exact I'
theorem comp_block {X:Cx} {elt tg iter:Expr} {ifs:List Expr} {scope:Scope} {pos:Pos} {g:TG} {tt:TT} {te:TE} {pins:List (Addr × Obj)} {σ:St} {H3:Hp} {s3:Shared} {it D:Addr} {fp:List Addr} {tn:Nat -> Heap -> Prop} {J:It} {Q:VK}
    {cl:List (Str × Addr)} (N':List Str) (fr:List (Option Nat)) (hc:X.calm = true) (hkind:scope.kind = .function) (hcell:∀ y ∈ scope.names,y.2 = .cell -> scope.names.lookup y.1 = some .cell)
    (hfree:∀ y ∈ scope.names,y.2 = .free -> X.env.kindOf y.1 = some .cell \/ X.env.kindOf y.1 = some .free) (frl:fr.length = N'.length)
    (frg:∀ (i j:Nat),fr[i]? = some (some j) -> ∃ x,N'[i]? = some x /\ X.N[j]? = some x /\ scope.names.lookup x = some .free /\ (X.env.scope.names.lookup x = some .cell \/ X.env.scope.names.lookup x = some .free))
    (cl1:∀ x c,cl.lookup x = some c -> X.env.cells.lookup x = some c) (cl2:∀ x,(x,NameKind.free) ∈ scope.names -> (cl.lookup x).isSome = true)
    (I3:Inv X pins σ H3 s3) (T:Turn X.prog X.w X.K tg J fp it tn) (tn3:tn 0 s3.heap) (fpD:∀ b ∈ fp,H3 b = none) (fp3:∀ b ∈ fp,b < s3.heap.objs.size)
    (fpk:∀ b ∈ fp,b ≠ X.env.locals /\ b ∉ X.fs /\ (b ∈ X.ex \/ X.s₀.heap.objs.size <= b) /\ (∀ x c,X.env.cells.lookup x = some c -> c ≠ b) /\ ∀ p ∈ X.pn ++ pins,p.1 ≠ b)
    (hg:PG (compCx X N' scope cl fp (X.pn ++ pins) s3 H3) tg g) (ht:PTs (compCx X N' scope cl fp (X.pn ++ pins) s3 H3) ifs tt) (he:PE (compCx X N' scope cl fp (X.pn ++ pins) s3 H3) elt te)
    {Wv:Nat -> Nat -> List V -> St -> Hp -> Prop} {m0:Nat} (w0:Wv 0 m0 [] (frIn fr σ) H3)
    (turn:∀ i m acc σc H,Wv i m acc σc H -> (J.stop i H /\ Q (.ref D) H) \/ (J.go i H /\ ∀ x H',J.yld i H x H' -> g x σc H' fun σ2 H2=>tt σ2 H2 fun b H3 =>
      if b = true then te σ2 H3 fun y H4=>H4 D = some (.lst acc) /\ acc.length < sizeLine /\ ∃ m',m' < m /\ Wv (i + 1) m' (acc ++ [y]) σ2 (upd H4 D (.lst (acc ++ [y]))) else ∃ m',m' < m /\ Wv (i + 1) m' acc σ2 H3))
    {Rp:Addr -> Result -> Shared -> Prop} (fin:∀ s5 H4 m,s5.heap.Ns s3.heap.objs.size m -> (∀ h',Heap.SameBut s3.heap.objs.size s5.heap h' -> Inv X pins σ H4 { s5 with heap:=h' }) -> FpOk X pins H4 s3.heap.objs.size -> Q (.ref D) H4 -> Rp s3.heap.objs.size (.ok .next) s5) :
    wpAny (model X.prog X.w) X.A (newFunctionEnv scope X.env.globals cl [] X.env.qual none .none (some X.env)) (fun cenv s₄ =>
      codeAny (model X.prog X.w) X.A (.compStart (.ListComp elt [⟨tg,iter,ifs,0⟩] scope pos) 0 (.ref it) (.ref D) { cenv with scope:=relabel scope X.env })
        (Rp cenv.locals) s₄) X.xe s3:=by
  refine comp_blockG N' fr hc hkind hcell hfree frl frg cl1 cl2 I3 T tn3 fpD fp3 fpk (fun s' IY tY stat=>?_) fin
  have loop:codeAny (model X.prog X.w) X.A (.compLoop (.ListComp elt [⟨tg,iter,ifs,0⟩] scope pos) 0 (.ref it) (.ref D) (compCx X N' scope cl fp (X.pn ++ pins) s3 H3).env)
      (fun r s5=>r = .ok .next /\ ∃ σ5 H4,Inv (compCx X N' scope cl fp (X.pn ++ pins) s3 H3) [] σ5 H4 s5 /\ Q (.ref D) H4) s':=by
    refine comp_loop (fun n s'=>∃ i acc σ' H',Inv (compCx X N' scope cl fp (X.pn ++ pins) s3 H3) [] σ' H' s' /\ tn i s'.heap /\ (∀ b ∈ fp,H' b = none) /\ Wv i n acc σ' H') ?_ m0
      ⟨0,[],_,_,IY,tY,fpD,w0⟩
    rintro n s4 ⟨i,acc,σ4,H4,I4,st4,fr4,w4⟩
    rcases turn i n acc σ4 H4 w4 with ⟨stop,qn⟩ | ⟨go,step⟩
    · exact thn (T.done (compCx X N' scope cl fp (X.pn ++ pins) s3 H3) rfl rfl rfl hc i [] s4 σ4 H4 (fun _ _=>False) I4 (stat fr4) st4 stop) fun r s5 ⟨hr,I5⟩=>.inl ⟨hr,rfl,σ4,H4,I5,qn⟩
    · refine thn (T.item (compCx X N' scope cl fp (X.pn ++ pins) s3 H3) rfl rfl rfl hc i [] s4 σ4 H4 (fun _ _=>False) I4 (stat fr4) st4 go) fun r s5 ⟨u,hr,h5⟩=>.inr ⟨u,hr,?_⟩
      refine thn h5 fun _ s6 ⟨x,H6,I6,r6,y6,st6,fr6⟩=>?_
      have I6':=I6.pinned (stat fr6) (T.obj _ _ st6)
      have again:∀ {σ7:St} {H7:Hp} {s7:Shared},Inv (compCx X N' scope cl fp (X.pn ++ pins) s3 H3) ([] ++ pinsAt fp s6.heap) σ7 H7 s7 -> ∀ {acc':List V} {m':Nat},m' < n -> Wv (i + 1) m' acc' σ7 H7 ->
          ∃ m,m < n /\ ∃ i acc σ' H',Inv (compCx X N' scope cl fp (X.pn ++ pins) s3 H3) [] σ' H' s7 /\ tn i s7.heap /\ (∀ b ∈ fp,H' b = none) /\ Wv i m acc σ' H':=fun {σ7 H7 s7} I7 {acc' m'} hm w7=>by
        refine ⟨m',hm,i + 1,acc',σ7,H7,I7.unpinned,T.keep _ _ _ st6 fun b hb o e=>(I7.pin (b,o) (List.mem_append_right _ (List.mem_append_right _ (mem_pinsAt hb e)))).1,fun b hb=>?_,w7⟩
        obtain ⟨o,e,d⟩:=T.obj _ _ st6 b hb
        exact (I7.pin (b,o) (List.mem_append_right _ (List.mem_append_right _ (mem_pinsAt hb e)))).2.1
      refine thn (hg _ s6 σ4 H6 x u _ I6' r6 (step x H6 y6)) fun _ s7 ⟨σ7,H7,I7,q7⟩=>?_
      refine thn (ht _ s7 σ7 H7 _ I7 q7) fun ok s8 ⟨H8,I8,q8⟩=>?_
      cases ok with
      | false =>
        rw [if_neg Bool.false_ne_true] at q8 ⊢
        obtain ⟨m',hm,w8⟩:=q8
        exact again I8 hm w8
      | true =>
        rw [if_pos rfl] at q8 ⊢
        refine thn (he _ s8 σ7 H8 _ I8 q8) fun y s9 ⟨yv,H9,I9,r9,eD,hl,m',hm,w9⟩=>?_
        exact thn (mt_append (X:=compCx X N' scope cl fp (X.pn ++ pins) s3 H3) _ s9 σ7 H9 (.ref D) [yv] (.ref D) [y] (fun _ H'=>H' = upd H9 D (.lst (acc ++ [yv]))) I9 rfl (.cons r9 .nil) ⟨D,acc,yv,rfl,rfl,eD,hl,rfl⟩)
          fun _ s10 ⟨_,H10,I10,_,e10⟩=>by subst e10; exact again I10 hm w9
  exact codeAny_compStart_list loop (T.self X.A 0 _ _ _ tY loop)
section
variable {X:Cx} {elt tg iter:Expr} {ifs:List Expr} {scope:Scope} {pos:Pos} {wi:TI} {g:CompA -> TG} {tt:CompA -> TT} {te:CompA -> TE}
theorem pe_lcomp (N':List Str) (fr:List (Option Nat)) (hc:X.calm = true) (hi:PI X tg iter wi) (hfr:frOk fr N' X.N scope X.env.scope = true) (hsc:scOk scope X.env.scope = true)
    (hg:∀ y,PG (blk X N' scope y) tg (g y)) (ht:∀ y,PTs (blk X N' scope y) ifs (tt y)) (he:∀ y,PE (blk X N' scope y) elt (te y))
    (hs:∀ x,foldedSetIterable iter X.env x = pure x:=by intro _; rfl):PE X (.ListComp elt [⟨tg,iter,ifs,0⟩] scope pos) (tComp wi fr g tt te):=by
  intro pins s σ H Q I h
  obtain ⟨sk,sn⟩:=Bool.and_eq_true_iff.mp hsc
  have hkind:scope.kind = .function:=of_decide_eq_true sk
  have hall:=List.all_eq_true.mp sn
  have hcell:∀ y ∈ scope.names,y.2 = .cell -> scope.names.lookup y.1 = some .cell:=fun y hy hl=>by
    rcases Bool.or_eq_true_iff.mp (Bool.and_eq_true_iff.mp (Bool.and_eq_true_iff.mp (hall y hy)).1).1 with z | z
    · exact absurd hl (of_decide_eq_true z)
    · exact of_decide_eq_true z
  have hnames:∀ y ∈ scope.names,y.2 = .local -> scope.names.lookup y.1 = some .local:=fun y hy hl=>by
    rcases Bool.or_eq_true_iff.mp (Bool.and_eq_true_iff.mp (Bool.and_eq_true_iff.mp (hall y hy)).1).2 with z | z
    · exact absurd hl (of_decide_eq_true z)
    · exact of_decide_eq_true z
  have hfree:∀ y ∈ scope.names,y.2 = .free -> X.env.kindOf y.1 = some .cell \/ X.env.kindOf y.1 = some .free:=fun y hy hl=>by
    rcases Bool.or_eq_true_iff.mp (Bool.and_eq_true_iff.mp (hall y hy)).2 with z | z
    · exact absurd hl (of_decide_eq_true z)
    · exact (Bool.or_eq_true_iff.mp z).imp of_decide_eq_true of_decide_eq_true
  obtain ⟨frl,frg⟩:=frOk.get hfr
  obtain ⟨cl,hclos,cl1,cl2⟩:=closure_for (env:=X.env) (scope:=scope) fun y hy hl=>I.ok.has y.1 (hfree y hy hl)
  rw [eval_ListComp]
  refine wpAny_comprehension_free (use:=none) rfl hs hclos hkind hnames (thn (hi pins s σ H _ I h) fun v s1 h1=>thn h1 fun itv s2 h2=>?_)
  obtain ⟨it,fp,tn,J,H2,e,I2,T,st2,f2,q2⟩:=h2
  subst e
  refine wpAny_newObj_type ?_
  have hD:H2 s2.heap.objs.size = none:=I2.hok.fresh (Nat.le_refl _)
  have I3:Inv X pins σ (upd H2 s2.heap.objs.size (.lst [])) { s2 with heap:=s2.heap.push { cls:=.type "list", data:=.seq ([]:List Value).toArray } } :=
    I2.laid (t':=s2.toks) (fun b u e=>Heap.get?_push_of_some _ e) (Nat.le_refl _) ⟨by show 0 <= sizeLine; exact Nat.zero_le _,[],0,.nil,Heap.get?_push_size _ rfl⟩
  obtain ⟨Wv,⟨m0,w0⟩,turn⟩:=q2 _ hD
  have tn3:tn 0 (s2.heap.push { cls:=.type "list", data:=.seq ([]:List Value).toArray }):=T.keep _ _ _ st2 fun b _ o e=>Heap.get?_push_of_some _ e
  have fpD:∀ b ∈ fp,(upd H2 s2.heap.objs.size (.lst [])) b = none:=fun b hb=>by
    obtain ⟨o,e,_⟩:=T.obj _ _ st2 b hb
    rw [upd_ne (Nat.ne_of_lt (Heap.lt_size e))]
    exact (f2 b hb).1
  have fp3:∀ b ∈ fp,b < (s2.heap.push { cls:=.type "list", data:=.seq ([]:List Value).toArray }).objs.size:=fun b hb=>by
    obtain ⟨o,e,_⟩:=T.obj _ _ tn3 b hb
    exact Heap.lt_size e
  exact comp_block N' fr hc hkind hcell hfree frl frg cl1 cl2 I3 T tn3 fpD fp3 (fun b hb=>(f2 b hb).2) (hg ⟨cl,fp,X.pn ++ pins,_,_⟩) (ht ⟨cl,fp,X.pn ++ pins,_,_⟩) (he ⟨cl,fp,X.pn ++ pins,_,_⟩) w0 (turn ⟨cl,fp,X.pn ++ pins,_,_⟩)
    (Rp:=compPost (model X.prog X.w) X.A X.xe none (EP X pins σ Q) (.ref s2.heap.objs.size)) fun s5 H4 m hn k _ qn=>⟨m,hn,fun h' hs'=>⟨.ref _,H4,k h' hs',rfl,qn⟩⟩
end
end L2

namespace L2.VL
open PySem PySem.Spec PyProof.Rows

def W.cap:W -> Option W
  | .d x=>some (.d x)
  | .reel=>some .reel
  | .vv u=>some (.vv u)
  | .sc ns=>some (.sc ns)
  | .fd kvs=>some (.fd kvs)
  | .fw kvs=>some (.fw kvs)
  | .ft kvs=>some (.ft kvs)
  | .xc x fs=>some (.xc x fs)
  | .dp kvs x=>some (.dp kvs x)
  | _=>none
def frEn (fr:List (Option Nat)) (ρ:En):En:=fr.map fun o=>o.bind fun j=>((ρ[j]?).join).bind W.cap
def PTVs (X:Cx) (rl:RlT) (ifs:List Expr) (f:TB):Prop:=∃ t,PTs X ifs t /\ ∀ {F₀ H₀ F H:Hp} {σ:St} {ρ:En},VR X.K rl F₀ H₀ F H σ ρ -> ∀ (Qd:Bool -> Prop) (Q:Bool -> Hp -> Prop),f ρ Qd ->
  (∀ b F' H',Grow rl F H F' H' -> Qd b -> Q b H') -> t σ H Q
theorem vt_nil {X:Cx} {rl:RlT}:PTVs X rl [] (fun _ Q=>Q true):=⟨_,pts_nil,fun R Qd Q q k=>k true _ _ (Grow.refl R.sub R.reel) q⟩
theorem vt_one {X:Cx} {rl:RlT} {c:Expr} {f:TB} (h:PB X rl c f):PTVs X rl [c] f:=let ⟨t,p,k⟩:=h; ⟨t,pts_one p,k⟩
theorem frIn_get {fr:List (Option Nat)} {ρ:En} {i:Nat} {w:W} (h:(frEn fr ρ)[i]? = some (some w)):∃ j w',fr[i]? = some (some j) /\ ρ[j]? = some (some w') /\ w'.cap = some w:=by
  unfold frEn at h
  rw [List.getElem?_map] at h
  cases ef:fr[i]? with
  | none=>rw [ef] at h; cases h
  | some o =>
    cases o with
    | none=>rw [ef] at h; cases h
    | some j =>
      rw [ef] at h
      have h':((ρ[j]?).join).bind W.cap = some w:=Option.some.inj h
      cases q : ρ[j]? with
      | none=>rw [q] at h'; cases h'
      | some o =>
        cases o with
        | none=>rw [q] at h'; cases h'
        | some w'=>rw [q] at h'; exact ⟨j,w',rfl,q,h'⟩
theorem cap_eq {w' w:W} (h:w'.cap = some w):w = w' /\ w.own = false /\ ∀ xs,w ≠ .pk xs:=by
  cases w' <;> cases h <;> exact ⟨rfl,rfl,(fun _ z=>by cases z)⟩
theorem vr_block {K:W.Frag} {rl:RlT} {F₀ H₀ F H:Hp} {σ:St} {ρ:En} {fr:List (Option Nat)} {H':Hp} (R:VR K rl F₀ H₀ F H σ ρ) (g:Grow rl F H F H'):VR K rl F H F H' (frIn fr σ) (frEn fr ρ):=by
  refine ⟨g,fun i w e=>?_,fun i j xs ys v _ e1 _ o1 _ _ _=>?_,fun i xs e=>?_,by simp [frIn,frEn]⟩
  · obtain ⟨j,w',e1,e2,e3⟩:=frIn_get e
    obtain ⟨rfl,n1,n2⟩:=cap_eq e3
    obtain ⟨v,s1,r1,_⟩:=R.sl j w e2
    refine ⟨v,?_,r1.grow g,?_⟩
    · unfold frIn
      rw [List.getElem?_map,e1]
      show some ((σ[j]?).join) = _
      rw [s1]
      rfl
    · cases w with
      | ml xs=>cases n1
      | md xs=>cases n1
      | mk xs=>cases n1
      | nt _=>trivial
      | lk=>trivial
      | sc _=>trivial
      | fd _=>trivial
      | fw _=>trivial
      | ft _=>trivial
      | xc _ _=>trivial
      | dp _ _=>trivial
      | d _=>trivial
      | pk _=>trivial
      | reel=>trivial
      | vv _=>trivial
  · obtain ⟨_,_,_,_,e3⟩:=frIn_get e1
    rw [(cap_eq e3).2.1] at o1
    cases o1
  · obtain ⟨_,_,_,_,e3⟩:=frIn_get e
    exact absurd rfl ((cap_eq e3).2.2 xs)
theorem noMl_block {fr:List (Option Nat)} {ρ:En}:NoMl (frEn fr ρ):=fun i xs e=>by
  obtain ⟨_,_,_,_,e3⟩:=frIn_get e
  exact (cap_eq e3).2.1
theorem VR.other {K:W.Frag} {rl:RlT} {F₀ H₀ F H:Hp} {σ:St} {ρ:En} (R:VR K rl F₀ H₀ F H σ ρ) (n:NoMl ρ) {D:Addr} {o:HO} (h0:H₀ D = none) (f:F D = none) (hr:rl.a ≠ some D):VR K rl F₀ H₀ F (upd H D o) σ ρ:=by
  have neF:∀ b u,F b = some u -> b ≠ D:=fun b u q z=>by subst z; rw [f] at q; cases q
  have g:Grow rl F₀ H₀ F (upd H D o):=by
    refine ⟨fun b o q1 n=>by rw [upd_ne (ne_of_none q1 h0)]; exact R.g.same b o q1 n,R.g.fs,fun b o q1=>by rw [upd_ne (neF b o q1)]; exact R.sub b o q1,R.g.old,fun y z=>?_⟩
    obtain ⟨z1,⟨u,h1,h2⟩⟩:=R.reel y z
    exact ⟨z1,⟨u,by rw [upd_ne (fun q=>hr (by rw [<- q]; exact z))]; exact h1,h2⟩⟩
  refine ⟨g,fun i w e=>?_,R.ap,R.np,R.len⟩
  obtain ⟨v,h1,h2,h3⟩:=R.sl i w e
  refine ⟨v,h1,?_,h3⟩
  cases w with
  | d x=>exact h2
  | reel=>exact h2
  | vv u=>exact h2
  | ml xs=>cases n i _ e
  | md xs=>cases n i _ e
  | mk xs=>cases n i _ e
  | nt ds=>exact h2
  | lk=>trivial
  | sc _=>exact h2
  | fd _=>exact h2
  | fw _=>exact h2
  | ft _=>exact h2
  | xc _ _=>exact h2
  | dp _ _=>exact h2
  | pk xs=>exact absurd e (R.np i xs)

section
variable {X:Cx} {rl:RlT} {elt tg iter:Expr} {ifs:List Expr} {scope:Scope} {pos:Pos} {fi:En -> (List PyData -> Prop) -> Prop} {g:TGv} {ft:TB} {fe:TV}
end
end L2.VL

namespace L2.VL
open PySem PySem.Spec PyProof.Rows

mutual
def Nice:PyData -> Prop
  | .none=>True
  | .bool _=>True
  | .int i=>i.natAbs < 2 ^ 1900
  | .str x=>PyData.strOk x = true
  | .list xs=>NiceAll xs
  | .tuple xs=>NiceAll xs
  | .dict _=>False
def NiceAll:List PyData -> Prop
  | []=>True
  | x :: xs=>Nice x /\ NiceAll xs
end
theorem log2_lt_of {n k:Nat} (h:n < 2 ^ k) (hk : 0 < k):n.log2 < k:=by
  by_cases h0:n = 0
  · subst h0; simpa using hk
  · exact (Nat.log2_lt h0).mpr h
mutual
theorem Nice.facts:∀ d:PyData,Nice d -> d.showable = true /\ d.canLay0 = true /\ d.hasDict = false /\ d.leavesShort 1921 = true
  | .none,_=>⟨rfl,rfl,rfl,rfl⟩
  | .bool _,_=>⟨rfl,rfl,rfl,rfl⟩
  | .int i,h=>by
    have hl:i.natAbs.log2 < 1920:=log2_lt_of (Nat.lt_of_lt_of_le (show i.natAbs < 2 ^ 1900 from h) (Nat.pow_le_pow_right (by decide) (by decide))) (by decide)
    refine ⟨by simp [PyData.showable,hl],rfl,rfl,?_⟩
    simp only [PyData.leavesShort,decide_eq_true_eq]
    exact int_text_len_1921 hl
  | .str x,h=>by
    refine ⟨rfl,(show PyData.canLay0 (.str x) = true by simp only [PyData.canLay0]; exact h),rfl,?_⟩
    have h:x.cps.all (· < 0x110000) = true:=h
    simp only [PyData.leavesShort]
    rw [List.all_eq_true]
    intro c hc
    have:=(Array.all_eq_true_iff_forall_mem.mp h) c (by simpa using hc)
    simp at this ⊢
    omega
  | .list xs,h=>by
    obtain ⟨a,b,c,d⟩:=NiceAll.facts xs h
    exact ⟨by simpa [PyData.showable] using a,by simpa [PyData.canLay0] using b,by simpa [PyData.hasDict] using c,by simpa [PyData.leavesShort] using d⟩
  | .tuple xs,h=>by
    obtain ⟨a,b,c,d⟩:=NiceAll.facts xs h
    exact ⟨by simpa [PyData.showable] using a,by simpa [PyData.canLay0] using b,by simpa [PyData.hasDict] using c,by simpa [PyData.leavesShort] using d⟩
  | .dict _,h=>False.elim h
theorem NiceAll.facts:∀ xs:List PyData,NiceAll xs -> PyData.showableAll xs = true /\ PyData.canLayAll0 xs = true /\ PyData.hasDictAll xs = false /\ PyData.leavesShortAll 1921 xs = true
  | [],_=>⟨rfl,rfl,rfl,rfl⟩
  | x :: xs,h=>by
    obtain ⟨a,b,c,d⟩:=Nice.facts x h.1
    obtain ⟨a',b',c',d'⟩:=NiceAll.facts xs h.2
    exact ⟨by simp [PyData.showableAll,a,a'],by simp [PyData.canLayAll0,b,b'],by simp [PyData.hasDictAll,c,c'],by simp [PyData.leavesShortAll,d,d']⟩
end
def Shw (d:PyData):Prop:=Nice d /\ d.depth <= 60 /\ d.bulk <= 8000
theorem Shw.shaped {d:PyData} (h:Shw d):SeqAt.shaped d = true:=by
  obtain ⟨_,b,_⟩:=Nice.facts d h.1
  have:=h.2.1
  simp [SeqAt.shaped,b]
  omega
theorem Shw.len {d:PyData} (h:Shw d):d.shown.length <= sizeLine:=by
  have q:=PyData.shown_le_bulk 1921 (by decide) d (Nice.facts d h.1).2.2.2
  have:=h.2.2
  have e:sizeLine = 16777216:=by decide
  omega

section
variable {X:Cx} {rl:RlT} {a b e:Expr} {es:List Expr} {fa fb fc:TV} {fs:TVs} {pos p:Pos}
def rRepr (K:W.Frag):List V -> Hp -> VK -> Prop:=fun xs H Q=>∃ x d,xs = [x] /\ Rep K H x d /\ Shw d /\ Q (.str d.shown) H
theorem call_repr (hgd:X.A.guards = some []) (hu:X.A.units + 64 < cLine):CallR X (.builtin "repr") (rRepr X.K):=by
  intro pins s σ H xs us Q I r ⟨x,d,ex,rx,sh,q⟩
  subst ex
  obtain ⟨u,rfl,ru⟩:=vals1 r
  have fin:∀ tk h' , (∀ b o,s.heap.get? b = some o -> h'.get? b = some o) -> ∀ t,EP X pins σ Q (.str d.shown t) { s with heap:=h',toks:=tk }:=fun tk h' k t=>⟨.str d.shown,H,I.kept k,⟨t,rfl⟩,q⟩
  obtain ⟨as,rd⟩:=Rep.reads I (.refl H) rx u ru
  have hs:=(Nice.facts d sh.1)
  cases rx with
  | non=>cases (show u = Value.none from ru); exact P.repr_of_none (fin _ _ (fun _ _ e=>e) _)
  | bl b=>cases (show u = Value.bool b from ru); exact P.repr_of_bool (fin _ _ (fun _ _ e=>e) _)
  | int i =>
    obtain ⟨t,e⟩:=(show ∃ t,u = Value.int i t from ru)
    cases e
    exact P.repr_of_int (by simpa [PyData.showable] using hs.1) (fin _ _ (fun _ _ e=>e) _)
  | str x =>
    obtain ⟨t,e⟩:=(show ∃ t,u = Value.str x t from ru)
    cases e
    exact P.repr_of_str (fin _ _ (fun _ _ e=>e) _) sh.len
  | tup sq rs =>
    cases (show u = Value.ref _ from ru)
    exact repr_of_reads' rd hs.1 (PyData.noDict_hsm hs.2.2.1) hgd (by have:=sh.2.1; omega) (fun _ _ e=>e) (fun h' t tk hk=>fin tk h' hk t) sh.len
  | lst sq rs =>
    cases (show u = Value.ref _ from ru)
    exact repr_of_reads' rd hs.1 (PyData.noDict_hsm hs.2.2.1) hgd (by have:=sh.2.1; omega) (fun _ _ e=>e) (fun h' t tk hk=>fin tk h' hk t) sh.len
def gRepr:List W -> (W -> Prop) -> Prop:=fun ws Q=>∃ w d,ws = [w] /\ w.dat = some d /\ Shw d /\ Q (.d (.str d.shown))
theorem vc_repr:VCall X rl (rRepr X.K) gRepr:=fun {F H vs ws} Qd Q s ra r ⟨w,d,ew,e1,sh,q⟩ k=>by
  subst ew
  obtain ⟨v,rfl,r1⟩:=rel1 r
  exact ⟨v,d,rfl,r1.dat s e1,sh,k _ (.d _) _ _ (Grow.refl s ra) (.str _) trivial q⟩
theorem v_repr (hr:Room 0 X.A) (hm:X.mg "repr" = none) (ha:PVs X rl [e] fs) (hg:Gl X "repr" := by rfl) (he:starEach [e] X.env = (false,eval e X.env) :: starEach [] X.env:=by rfl) (hpl:(backTo pos (starEach [] X.env)).any (·.1) = false:=by rfl) :
    PV X rl (.Call (.Name "repr" p) [e] [] pos) (vCall gRepr fs):=v_callB (call_repr hr.gd hr.units) vc_repr hm (by first | rfl | exact boot_repr) ha hg (by decide) (by decide) he hpl

theorem v_len (hm:X.mg "len" = none) (ha:PVs X rl [a] fs) (hg:Gl X "len" := by rfl) (he:starEach [a] X.env = (false,eval a X.env) :: starEach [] X.env:=by rfl) (hpl:(backTo pos (starEach [] X.env)).any (·.1) = false:=by rfl) :
    PV X rl (.Call (.Name "len" p) [a] [] pos) (vCall gLen fs):=v_callB call_len_seq vc_len hm boot_len ha hg (by decide) (by decide) he hpl
theorem v_abs (hm:X.mg "abs" = none) (ha:PVs X rl [a] fs) (hg:Gl X "abs" := by rfl) (he:starEach [a] X.env = (false,eval a X.env) :: starEach [] X.env:=by rfl) (hpl:(backTo pos (starEach [] X.env)).any (·.1) = false:=by rfl) :
    PV X rl (.Call (.Name "abs" p) [a] [] pos) (vCall gAbs fs):=v_callB call_abs vc_abs hm (by first | rfl | exact boot_abs) ha hg (by decide) (by decide) he hpl
end
end L2.VL

namespace L2.VL
open PySem PySem.Spec PyProof.Rows

structure FnIn (K:W.Frag) (mg:Str -> Option Value) (x:Str) (st:Stmt) (ps:List Str):Prop where
  ex:∃ f fd,mg x = some (.ref f) /\ Fun K x x st f fd /\ Binds K fd ps []
structure Bz (mg:Str -> Option Value):Prop where
  int_:mg "int" = none
  bool_:mg "bool" = none
  str_:mg "str" = none
  list_:mg "list" = none
  tuple_:mg "tuple" = none
  dict_:mg "dict" = none
  isinstance_:mg "isinstance" = none
  len_:mg "len" = none
  abs_:mg "abs" = none
  repr_:mg "repr" = none
  range_:mg "range" = none
  all_:mg "all" = none
  any_:mg "any" = none
  sum_:mg "sum" = none
  min_:mg "min" = none
  max_:mg "max" = none
  sorted_:mg "sorted" = none
  zip_:mg "zip" = none
  enumerate_:mg "enumerate" = none
  reversed_:mg "reversed" = none
  divmod_:mg "divmod" = none
  set_:mg "set" = none
section
variable {P:Program} {w:World} {K:W.Frag} {mg:Str -> Option Value} {base:Heap} {rl:RlT} {x:Str} {st:Stmt} {N ps:List Str} {k:Nat} {Pd:List W -> (PyData -> Prop) -> Prop} {t:TSv}
theorem Dfn.of (Fn:FnIn K mg x st ps) (S:FnScope N ps (defScope st)) (mono:∀ ws Q Q',(∀ d,Q d -> Q' d) -> Pd ws Q -> Pd ws Q') (len:∀ ws Q,Pd ws Q -> ws.length = ps.length)
    (hbody:∀ {f:Addr} (cdv:Value) (A:Around) (outer:List Env) (s:Shared) (H:Hp) (E:XK),Room k (A.deeper (envOfC x (defScope st) s.heap.objs.size f cdv)) ->
      PSsV (cxOf CX0 P w K mg base N x (defScope st) f cdv A outer s H E).nox rl (defBody st) t)
    (hread:∀ ws Q,Pd ws Q -> t (vEnds Q) (startV N ws)):Dfn P w K mg base rl x ps (k + 1) Pd:=by
  obtain ⟨f,fd,hm,F,hb⟩:=Fn.ex
  exact ⟨mono,f,fd,hm,F.kp,hb,vfn F S len hbody hread⟩
end
section
variable {X:Cx} {rl:RlT} {e:Expr} {es:List Expr} {fa fb fc:TV} {fs:TVs} {pos p:Pos}
end
def fn1 (pre:PyData -> Prop) (f:PyData -> PyData):List W -> (PyData -> Prop) -> Prop:=fun ws Q=>∃ a,ws = [.d a] /\ pre a /\ Q (f a)
def fn2 (pre:PyData -> PyData -> Prop) (f:PyData -> PyData -> PyData):List W -> (PyData -> Prop) -> Prop:=fun ws Q=>∃ a b,ws = [.d a,.d b] /\ pre a b /\ Q (f a b)
theorem fn1.mono {pre:PyData -> Prop} {f:PyData -> PyData}:∀ ws (Q Q':PyData -> Prop),(∀ d,Q d -> Q' d) -> fn1 pre f ws Q -> fn1 pre f ws Q':=fun _ _ _ h ⟨a,e,p,q⟩=>⟨a,e,p,h _ q⟩
theorem fn2.mono {pre:PyData -> PyData -> Prop} {f:PyData -> PyData -> PyData}:∀ ws (Q Q':PyData -> Prop),(∀ d,Q d -> Q' d) -> fn2 pre f ws Q -> fn2 pre f ws Q':=fun _ _ _ h ⟨a,b,e,p,q⟩=>⟨a,b,e,p,h _ q⟩
theorem fn1.len {pre:PyData -> Prop} {f:PyData -> PyData}:∀ ws (Q:PyData -> Prop),fn1 pre f ws Q -> ws.length = 1:=fun _ _ ⟨a,e,_⟩=>by subst e; rfl
theorem fn2.len {pre:PyData -> PyData -> Prop} {f:PyData -> PyData -> PyData}:∀ ws (Q:PyData -> Prop),fn2 pre f ws Q -> ws.length = 2:=fun _ _ ⟨a,b,e,_⟩=>by subst e; rfl
def rf0 (post:PyData -> Prop):List W -> (PyData -> Prop) -> Prop:=fun ws Q=>ws = [.reel] /\ ∀ d,post d -> Q d
theorem rf0.mono {post:PyData -> Prop}:∀ ws (Q Q':PyData -> Prop),(∀ d,Q d -> Q' d) -> rf0 post ws Q -> rf0 post ws Q':=fun _ _ _ h ⟨e,q⟩=>⟨e,fun d hd=>h d (q d hd)⟩
theorem rf0.len {post:PyData -> Prop}:∀ ws (Q:PyData -> Prop),rf0 post ws Q -> ws.length = 1:=fun _ _ ⟨e,_⟩=>by subst e; rfl
def pickP:List W -> (PyData -> Prop) -> Prop:=fun ws Q=>∃ m:Int,ws = [.reel,.d (.int m)] /\ 0 < m /\ m < 2 ^ 60 /\ ∀ k:Int,0 <= k -> k < m -> Q (.int k)
theorem pickP.mono:∀ ws (Q Q':PyData -> Prop),(∀ d,Q d -> Q' d) -> pickP ws Q -> pickP ws Q':=fun _ _ _ h ⟨m,e,p,z,q⟩=>⟨m,e,p,z,fun k a b=>h _ (q k a b)⟩
theorem pickP.len:∀ ws (Q:PyData -> Prop),pickP ws Q -> ws.length = 2:=fun _ _ ⟨m,e,_⟩=>by subst e; rfl
theorem fz_d (x:PyData):(W.d x).fz = .d x:=rfl
theorem fz_ml (x:List PyData):(W.ml x).fz = .d (.list x):=rfl
theorem fz_pk (x:List PyData):(W.pk x).fz = .pk x:=rfl
theorem fz_reel:W.reel.fz = .reel:=rfl
theorem fz_vv (x:V):(W.vv x).fz = .vv x:=rfl
theorem pk_d (x:PyData):L2.VL.W.peek (.d x) = .d x:=rfl
theorem pk_ml (x:List PyData):L2.VL.W.peek (.ml x) = .pk x:=rfl
theorem pk_reel:L2.VL.W.peek .reel = .reel:=rfl
theorem pk_vv (x:V):L2.VL.W.peek (.vv x) = .vv x:=rfl
theorem dat_d (x:PyData):(W.d x).dat = some x:=rfl
theorem dat_ml (x:List PyData):(W.ml x).dat = some (.list x):=rfl
theorem dat_pk (x:List PyData):(W.pk x).dat = some (.list x):=rfl
theorem isPk_d (x:PyData):(W.d x).isPk = false:=rfl
theorem isPk_ml (x:List PyData):(W.ml x).isPk = false:=rfl
theorem isPk_reel:W.reel.isPk = false:=rfl
theorem dats_nil:dats [] = some []:=rfl
theorem dats_d (x:PyData) (r:List W):dats (.d x :: r) = (dats r).map (x :: ·):=rfl
theorem arg_d (x:PyData):argOk (.d x) = true:=rfl
theorem arg_reel:argOk .reel = true:=rfl
theorem item_l (xs:List PyData) (i:Int):L2.VL.itemAt (.list xs) i = L2.atI xs i:=rfl
theorem item_t (xs:List PyData) (i:Int):L2.VL.itemAt (.tuple xs) i = L2.atI xs i:=rfl
theorem len_l (xs:List PyData):lenD (.list xs) = some xs.length:=rfl
theorem len_t (xs:List PyData):lenD (.tuple xs) = some xs.length:=rfl
theorem at0 {α:Type} (x : α) (r:List α):L2.atI (x :: r) 0 = some x:=by simp [L2.atI,L2.ixN]
theorem at1 {α:Type} (x y : α) (r:List α):L2.atI (x :: y :: r) 1 = some y:=by
  have:(1:Int) < ((x :: y :: r).length:Int):=by simp; omega
  simp only [L2.atI,L2.ixN]
  rw [if_pos (by decide),if_pos this]
  rfl
end L2.VL

namespace L2.VL
open PySem PySem.Spec PyProof.Rows
theorem fmod_abs_lt {x y:Int} (h:y ≠ 0):(x.fmod y).natAbs < y.natAbs:=by
  rcases Int.lt_or_gt_of_ne h with hy | hy
  · have h1:=Int.fmod_add_mul_fdiv x y
    have e:x.fmod y = -((-x).fmod (-y)):=by
      have:=Int.neg_fmod_neg x y
      omega
    have p : 0 < -y:=by omega
    have b1:=Int.fmod_nonneg_of_pos (-x) p
    have b2:=Int.fmod_lt_of_pos (-x) p
    omega
  · have b1:=Int.fmod_nonneg_of_pos x hy
    have b2:=Int.fmod_lt_of_pos x hy
    omega
theorem gcd_fmod (x y:Int):Int.gcd y (x.fmod y) = Int.gcd x y:=by
  have e:x.fmod y = x + y * (-(x.fdiv y)):=by
    have:=Int.fmod_add_mul_fdiv x y
    rw [Int.mul_neg]
    omega
  rw [e,Int.gcd_add_mul_left_right]
  exact Int.gcd_comm y x
theorem eqv_ii (a b:Int):PyData.eqv (.int a) (.int b) = (a == b):=by simp [PyData.eqv]
theorem shaped_i (a:Int):SeqAt.shaped (.int a) = true:=rfl
theorem shaped_b (a:Bool):SeqAt.shaped (.bool a) = true:=rfl
def gcdP:List W -> (PyData -> Prop) -> Prop:=fun ws Q=>∃ i j:Int,ws = [.d (.int i),.d (.int j)] /\ Q (.int (Int.gcd i j))
theorem gcdP.mono:∀ ws (Q Q':PyData -> Prop),(∀ d,Q d -> Q' d) -> gcdP ws Q -> gcdP ws Q':=fun _ _ _ h ⟨i,j,e,q⟩=>⟨i,j,e,h _ q⟩
theorem gcdP.len:∀ ws (Q:PyData -> Prop),gcdP ws Q -> ws.length = 2:=fun _ _ ⟨_,_,e,_⟩=>by subst e; rfl
theorem CDivB.of {i j:Int} (h:j ≠ 0) (b:j.natAbs < 2 ^ 64):CDivB i j:=⟨h,Nat.lt_of_lt_of_le b (Nat.pow_le_pow_right (by decide) (by decide))⟩
theorem canLay_ints:∀ ns:List Int,PyData.canLayAll0 (ns.map PyData.int) = true
  | []=>rfl
  | n :: ns=>by simp [PyData.canLayAll0,PyData.canLay0,canLay_ints ns]
theorem depth_ints:∀ ns:List Int,PyData.depthAll (ns.map PyData.int) = 0
  | []=>rfl
  | n :: ns=>by simp [PyData.depthAll,PyData.depth,depth_ints ns]
theorem shaped_ints (ns:List Int):SeqAt.shaped (.list (ns.map .int)) = true:=by simp [SeqAt.shaped,PyData.canLay0,PyData.depth,canLay_ints,depth_ints]
theorem eqv_nil (ns:List PyData):PyData.eqv (.list ns) (.list []) = ns.isEmpty:=by cases ns <;> simp [PyData.eqv,PyData.eqvAll]
theorem gcd_pos {a b:Int} (h:b ≠ 0) : 0 < (Int.gcd a b:Int):=by
  have:=Int.gcd_pos_of_ne_zero_right a h
  omega
theorem gcd_le {a b:Int} (h:b ≠ 0):(Int.gcd a b) <= b.natAbs:=Nat.le_of_dvd (by omega) (Int.gcd_dvd_natAbs_right a b)
theorem Shw.pair {a b:PyData} (h:Shw (.tuple [a,b])):a.canLay0 = true /\ b.canLay0 = true /\ a.depth <= 59 /\ b.depth <= 59:=by
  obtain ⟨_,c,_⟩:=Nice.facts _ h.1
  have d:=h.2.1
  simp [PyData.canLay0,PyData.canLayAll0] at c
  simp [PyData.depth,PyData.depthAll] at d
  exact ⟨c.1,c.2,by omega,by omega⟩
def madeP:List W -> (PyData -> Prop) -> Prop:=fun ws Q=>∃ a b:Int,ws = [.d (.int a),.d (.int b)] /\ b ≠ 0 /\ b.natAbs < 2 ^ 8000 /\
  ∀ c,c = (if 0 < b then (Int.gcd a b:Int) else -(Int.gcd a b:Int)) -> Q (.tuple [.int (a.fdiv c),.int (b.fdiv c)])
theorem madeP.mono:∀ ws (Q Q':PyData -> Prop),(∀ d,Q d -> Q' d) -> madeP ws Q -> madeP ws Q':=fun _ _ _ h ⟨a,b,e,p,z,q⟩=>⟨a,b,e,p,z,fun c hc=>h _ (q c hc)⟩
theorem madeP.len:∀ ws (Q:PyData -> Prop),madeP ws Q -> ws.length = 2:=fun _ _ ⟨_,_,e,_⟩=>by subst e; rfl
end L2.VL

namespace L2.VL
open PySem PySem.Spec PyProof.Rows
structure Lf (d:PyData):Prop where
  nice:Nice d
  dep:d.depth <= 2
  wt:d.bulk <= 2000
theorem Lf.int {i:Int} (h:i.natAbs < 2 ^ 1000):Lf (.int i) :=
  ⟨Nat.lt_trans h (Nat.pow_lt_pow_right (by decide) (by decide)),by simp [PyData.depth],by simp [PyData.bulk]⟩
theorem Lf.shw {d:PyData} (h:Lf d):Shw d:=⟨h.nice,by have:=h.dep; omega,by have:=h.wt; omega⟩
theorem Shw.t1 {a:PyData} (ha:Lf a):Shw (.tuple [a]):=by
  refine ⟨⟨ha.nice,trivial⟩,?_,?_⟩
  · have:=ha.dep; simp [PyData.depth,PyData.depthAll]; omega
  · have:=ha.wt; simp [PyData.bulk,PyData.bulkAll]; omega
theorem Shw.t2 {a b:PyData} (ha:Lf a) (hb:Lf b):Shw (.tuple [a,b]):=by
  refine ⟨⟨ha.nice,hb.nice,trivial⟩,?_,?_⟩
  · have:=ha.dep; have:=hb.dep; simp [PyData.depth,PyData.depthAll]; omega
  · have:=ha.wt; have:=hb.wt; simp [PyData.bulk,PyData.bulkAll]; omega
theorem Shw.l2 {a b:PyData} (ha:Lf a) (hb:Lf b):Shw (.list [a,b]):=by
  refine ⟨⟨ha.nice,hb.nice,trivial⟩,?_,?_⟩
  · have:=ha.dep; have:=hb.dep; simp [PyData.depth,PyData.depthAll]; omega
  · have:=ha.wt; have:=hb.wt; simp [PyData.bulk,PyData.bulkAll]; omega
theorem Lf.pair {a b:Int} (ha:a.natAbs < 2 ^ 900) (hb:b.natAbs < 2 ^ 900):Lf (.tuple [.int a,.int b]):=by
  refine ⟨⟨Nat.lt_trans ha (Nat.pow_lt_pow_right (by decide) (by decide)),Nat.lt_trans hb (Nat.pow_lt_pow_right (by decide) (by decide)),trivial⟩,by simp [PyData.depth,PyData.depthAll],by simp [PyData.bulk,PyData.bulkAll]⟩
theorem at_in {α:Type} {xs:List α} {k:Int} (h0 : 0 <= k) (h1:k < (xs.length:Int)):∃ z,L2.atI xs k = some z /\ z ∈ xs:=by
  obtain ⟨n,rfl⟩:=Int.eq_ofNat_of_zero_le h0
  have hn:n < xs.length:=by omega
  exact ⟨xs[n],atI_nat (List.getElem?_eq_getElem hn),List.getElem_mem hn⟩

theorem Lf.i {i:Int} (h:i.natAbs < 2 ^ 250):Lf (.int i):=.int (Nat.lt_of_lt_of_le h (Nat.pow_le_pow_right (by decide) (by decide)))
theorem Lf.p {a b:Int} (ha:a.natAbs < 2 ^ 250) (hb:b.natAbs < 2 ^ 250):Lf (.tuple [.int a,.int b]):=.pair (Nat.lt_of_lt_of_le ha (Nat.pow_le_pow_right (by decide) (by decide))) (Nat.lt_of_lt_of_le hb (Nat.pow_le_pow_right (by decide) (by decide)))
theorem rep_str {K:W.Frag} {F:Hp} {v:V} {i:Str} (h:Rep K F v (.str i)):v = .str i:=by cases h; rfl
def gEqS (neg:Bool):W -> W -> (W -> Prop) -> Prop:=fun x y Q=>∃ a b:Str,x = .d (.str a) /\ y = .d (.str b) /\ Q (.d (.bool (if neg then !decide (a = b) else decide (a = b))))
theorem vo_neS {X:Cx} {rl:RlT}:VOp X rl rNe (gEqS true):=fun {F H x y wx wy} Qd Q s ra r1 r2 q k=>by
  obtain ⟨a,b,rfl,rfl,q⟩:=q
  have e1:=rep_str r1
  have e2:=rep_str r2
  subst e1 e2
  have e:decide (V.str a = V.str b) = decide (a = b):=by
    by_cases h:a = b
    · subst h; simp
    · rw [decide_eq_false h,decide_eq_false fun z=>h (by injection z)]
  exact ⟨rfl,by rw [e]; exact k _ (.d _) _ _ (Grow.refl s ra) (.bl _) trivial q⟩
def vspL (K:W.Frag) (rl:RlT) (P:List W -> (List PyData -> Prop) -> Prop):Sp:=fun vs H Q _=>∃ F ws,Same F H /\ RAt rl F H /\ RelWs K rl F H vs ws /\ ws.all argOk = true /\ P ws fun xs=>∀ v F' H',Grow rl F H F' H' -> OwnL K rl F' H' v xs -> NewIn H v (.ml xs) -> Q v H'
def lEnds (Q:List PyData -> Prop):VEnds:=⟨fun _=>False,fun w=>∃ xs,w = .ml xs /\ Q xs,fun _=>False,fun _=>False⟩
structure DfnL (P:Program) (w:World) (K:W.Frag) (mg:Str -> Option Value) (base:Heap) (rl:RlT) (x:Str) (ps:List Str) (k:Nat) (Pd:List W -> (List PyData -> Prop) -> Prop):Prop where
  mono:∀ ws Q Q',(∀ d,Q d -> Q' d) -> Pd ws Q -> Pd ws Q'
  ex:∃ f fd,mg x = some (.ref f) /\ W.keepIn K (.ref f) = true /\ Binds K fd ps [] /\ FnOk P w K mg base CX0 k f fd ps (vspL K rl Pd)
section
variable {P:Program} {w:World} {K:W.Frag} {mg:Str -> Option Value} {base:Heap} {rl:RlT} {x:Str} {st:Stmt} {N ps:List Str} {k:Nat} {Pd:List W -> (List PyData -> Prop) -> Prop} {t:TSv}
theorem DfnL.of (Fn:FnIn K mg x st ps) (S:FnScope N ps (defScope st)) (mono:∀ ws Q Q',(∀ d,Q d -> Q' d) -> Pd ws Q -> Pd ws Q') (len:∀ ws Q,Pd ws Q -> ws.length = ps.length)
    (hbody:∀ {f:Addr} (cdv:Value) (A:Around) (outer:List Env) (s:Shared) (H:Hp) (E:XK),Room k (A.deeper (envOfC x (defScope st) s.heap.objs.size f cdv)) ->
      PSsV (cxOf CX0 P w K mg base N x (defScope st) f cdv A outer s H E).nox rl (defBody st) t)
    (hread:∀ ws Q,Pd ws Q -> t (lEnds Q) (startV N ws)):DfnL P w K mg base rl x ps (k + 1) Pd:=by
  obtain ⟨f,fd,hm,F,hb⟩:=Fn.ex
  refine ⟨mono,f,fd,hm,F.kp,hb,?_⟩
  refine F.ok S (fun vs H Q E ⟨F,ws,_,_,r,_,q⟩=>(Paired.length r).trans (len ws _ q)) fun cdv A outer s H vs Q E hr h=>?_
  obtain ⟨F,ws,sm,ra,r,ok,q⟩:=h
  obtain ⟨T,p,kk⟩:=hbody cdv A outer s H E hr
  refine ⟨T,p,kk (vr_start sm ra r ok) (lEnds _) _ ⟨fun _ _ _ _ _ _ z=>False.elim z,?_,fun _ _ _ _ _ _ z=>False.elim z,fun _ _ _ _ _ _ z=>False.elim z⟩ (hread ws _ q)⟩
  rintro v w1 F1 H1 g1 r1 n1 ⟨xs,rfl,q1⟩
  exact q1 v F1 H1 g1 r1 n1
end
section
variable {X:Cx} {rl:RlT} {e:Expr} {es:List Expr} {fs:TVs} {pos p:Pos}
theorem pss_any (X:Cx) (rest:List Stmt):PSs X rest (fun D σ H=>∀ pins s,Inv X pins σ H s -> wpAny (model X.prog X.w) X.A (execs rest X.env) (SP X pins D) X.xe s):=fun pins s σ H D I h=>h pins s I
end
end L2.VL

namespace L2.VL
open PySem PySem.Spec PyProof.Rows
section
variable {X:Cx} {rl:RlT} {a b c e:Expr} {es:List Expr} {fa fb fc:TV} {fs:TVs} {pos p:Pos}
def seqD:PyData -> Option (List PyData)
  | .list xs=>some xs
  | .tuple xs=>some xs
  | _=>none
theorem seq_l (xs:List PyData):seqD (.list xs) = some xs:=rfl
theorem seq_t (xs:List PyData):seqD (.tuple xs) = some xs:=rfl
theorem seqD.of {o:Option PyData} {d:PyData} {xs:List PyData} (h:o = some d) (e:seqD d = some xs):o = some (.list xs) \/ o = some (.tuple xs):=by
  cases d <;> cases e
  · exact .inl h
  · exact .inr h
def gTupO:List W -> (W -> Prop) -> Prop:=fun ws Q=>∃ w d xs,ws = [w] /\ w.dat = some d /\ seqD d = some xs /\ Q (.d (.tuple xs))
theorem vc_tup:VCall X rl (fun xs H Q=>∃ p ys,xs = [.ref p] /\ ((SqL X.K H p ys /\ ∀ l,H l = none -> Q (.ref l) (upd H l (.tup ys))) \/ (SqT X.K H p ys /\ Q (.ref p) H))) gTupO:=fun {F H vs ws} Qd Q s ra r ⟨w,d,xs,ew,ed1,ed2,q⟩ k=>by
  have ed:=seqD.of ed1 ed2
  subst ew
  obtain ⟨v,rfl,r1⟩:=rel1 r
  rcases ed with ed | ed
  · obtain ⟨a,us,rfl,sq,rs⟩:=r1.items s ed
    refine ⟨a,us,rfl,.inl ⟨sq,fun l hl=>?_⟩⟩
    have g:=Grow.data (a:=l) (o:=.tup us) s ra hl
    exact k _ (.d (.tuple xs)) _ _ g (.tup (.inl (.inl upd_same)) (rs.mono g.fs)) trivial q
  · cases w with
    | d y =>
      cases ed
      cases (show Rep X.K F v (.tuple xs) from r1) with
      | tup sq rs=>exact ⟨_,_,rfl,.inr ⟨sameT s sq,k _ (.d (.tuple xs)) _ _ (Grow.refl s ra) (.tup sq rs) trivial q⟩⟩
    | ml ys=>cases ed
    | pk ys=>cases ed
    | reel=>cases ed
    | vv u=>cases ed
    | md u=>cases ed
    | mk u=>cases ed
    | lk=>cases ed
    | sc _=>cases ed
    | fd _=>cases ed
    | fw _=>cases ed
    | ft _=>cases ed
    | xc _ _=>cases ed
    | dp _ _=>cases ed
    | nt ds =>
      cases ed
      obtain ⟨b,us,rfl,h,q'⟩:=r1
      exact ⟨_,_,rfl,.inr ⟨.inl (.inl (s _ _ h)),k _ (.d (.tuple xs)) _ _ (Grow.refl s ra) (.tup (.inl (.inl h)) q') trivial q⟩⟩
theorem v_tuple (hm:X.mg "tuple" = none) (ha:PVs X rl [a] fs) (hg:Gl X "tuple" := by rfl) (he:starEach [a] X.env = (false,eval a X.env) :: starEach [] X.env:=by rfl) (hpl:(backTo pos (starEach [] X.env)).any (·.1) = false:=by rfl) :
    PV X rl (.Call (.Name "tuple" p) [a] [] pos) (vCall gTupO fs):=v_callTy call_tuple_of vc_tup hm (by rfl) ha hg (by decide) (by decide) he hpl
def gLstO:List W -> (W -> Prop) -> Prop:=fun ws Q=>∃ w d xs,ws = [w] /\ w.dat = some d /\ seqD d = some xs /\ Q (.ml xs)
theorem vc_lst:VCall X rl (fun xs H Q=>∃ p ys,xs = [.ref p] /\ (SqL X.K H p ys \/ SqT X.K H p ys) /\ ∀ l,H l = none -> Q (.ref l) (upd H l (.lst ys))) gLstO:=fun {F H vs ws} Qd Q s ra r ⟨w,d,xs,ew,ed1,ed2,q⟩ k=>by
  have ed:=seqD.of ed1 ed2
  subst ew
  obtain ⟨v,rfl,r1⟩:=rel1 r
  rcases ed with ed | ed
  · obtain ⟨a,us,rfl,sq,rs⟩:=r1.items s ed
    exact ⟨a,us,rfl,.inl sq,fun l hl=>k _ (.ml xs) _ _ (Grow.laid s ra hl) (own_laid s ra hl rs) (fun a ea=>by cases ea; exact hl) q⟩
  · obtain ⟨a,us,rfl,sq,rs⟩:=r1.itemsT s ed
    exact ⟨a,us,rfl,.inr sq,fun l hl=>k _ (.ml xs) _ _ (Grow.laid s ra hl) (own_laid s ra hl rs) (fun a ea=>by cases ea; exact hl) q⟩
theorem v_listof (hm:X.mg "list" = none) (ha:PVs X rl [a] fs) (hg:Gl X "list" := by rfl) (he:starEach [a] X.env = (false,eval a X.env) :: starEach [] X.env:=by rfl) (hpl:(backTo pos (starEach [] X.env)).any (·.1) = false:=by rfl) :
    PV X rl (.Call (.Name "list" p) [a] [] pos) (vCall gLstO fs):=v_callTy call_list_of vc_lst hm (by rfl) ha hg (by decide) (by decide) he hpl
end
end L2.VL
namespace L2.VL
open PySem PySem.Spec PyProof.Rows
section
variable {X:Cx} {rl:RlT}
end
end L2.VL

namespace L2.VL
open PySem PySem.Spec PyProof.Rows
section
variable {X:Cx} {rl:RlT} {a b c e:Expr} {es:List Expr} {fa fb fc:TV} {fs:TVs} {pos p p2:Pos}
def gI2 (f:Int -> Int -> PyData):List W -> (W -> Prop) -> Prop:=fun ws Q=>∃ i j,ws = [.d (.int i),.d (.int j)] /\ Q (.d (f i j))
theorem vc_i2 {f:Int -> Int -> V} {g:Int -> Int -> PyData} (h:∀ K F i j,Rep K F (f i j) (g i j)):VCall X rl (fun xs H Q=>∃ i j,xs = [.int i,.int j] /\ Q (f i j) H) (gI2 g):=fun {F H vs ws} Qd Q s ra r ⟨i,j,ew,q⟩ k=>by
  subst ew
  obtain ⟨v,u,rfl,r1,r2⟩:=rel2 r
  have e1:=rep_int r1
  have e2:=rep_int r2
  subst e1 e2
  exact ⟨i,j,rfl,k _ (.d _) _ _ (Grow.refl s ra) (h _ _ i j) trivial q⟩
theorem v_min2 (hm:X.mg "min" = none) (ha:PVs X rl [a,b] fs) (hc:X.calm = true:=by rfl) (hg:Gl X "min" := by rfl) (he:starEach [a,b] X.env = (false,eval a X.env) :: starEach [b] X.env:=by rfl) (hpl:(backTo pos (starEach [b] X.env)).any (·.1) = false:=by rfl) :
    PV X rl (.Call (.Name "min" p) [a,b] [] pos) (vCall (gI2 fun i j=>.int (min i j)) fs) :=
  v_callB (call_min2 hc) (vc_i2 (f:=fun i j=>.int (if j < i then j else i)) fun _ _ i j=>(show (if j < i then j else i) = min i j by split <;> omega) ▸ .int _) hm (by rfl) ha hg (by decide) (by decide) he hpl
def ipC (C:Int -> Int -> Prop) (f:Int -> Int -> Int):TIp:=fun x y H Q=>∃ i j,x = .int i /\ y = .int j /\ C i j /\ Q (.int (f i j)) H
theorem ip_mulC:PIp X .Mult (ipC CMulB fun i j=>i * j):=by
  intro pins s σ H x y v u Q I r1 r2 h
  obtain ⟨i,j,e1,e2,hc,q⟩:=h
  subst e1; subst e2
  obtain ⟨t,rfl⟩:=r1
  obtain ⟨t',rfl⟩:=r2
  exact imul_int ⟨.int _,H,I.tok _,⟨_,rfl⟩,q⟩ hc.ok
def vAug (i:Nat) (C:Int -> Int -> Prop) (f:Int -> Int -> Int) (fa:TV):TSv:=fun D ρ=>∃ n,ρ[i]? = some (some (.d (.int n))) /\ fa ρ fun w=>∃ m,w = .d (.int m) /\ C n m /\ D.nx (ρ.set i (some (.d (.int (f n m)))))
theorem vs_aug (i:Nat) {x:Str} {op:Operator} {C:Int -> Int -> Prop} {f:Int -> Int -> Int} {pos':Pos} (hN:X.N.Nodup) (ho:PIp X op (ipC C f)) (he:PV X rl e fa) (hi:X.N[i]? = some x:=by rfl) (hx:Loc X.env.scope x:=by first | exact Or.inl rfl | exact Or.inr rfl)
    (hf:X.fn x = true \/ X.env.scope.names.lookup x = some .local:=by first | exact .inl rfl | exact .inr rfl):PSV X rl (.AugAssign (.Name x pos') op e pos) (vAug i C f fa):=by
  obtain ⟨t,p,k⟩:=he
  refine ⟨_,ps_aug hN hi hx p ho hf,fun R Dv D ok ⟨n,e1,q⟩=>?_⟩
  obtain ⟨v,s1,r1,_⟩:=R.sl i _ e1
  have ev:=rep_int r1
  subst ev
  refine ⟨_,s1,k R _ _ q fun v w F1 H1 g1 r1 n1 ⟨m,ew,hc,q1⟩=>?_⟩
  subst ew
  have ev:=rep_int r1
  subst ev
  exact ⟨n,m,rfl,rfl,hc,ok.nx _ _ _ _ g1.fs (R.set g1 (v:=.int (f n m)) (w:=.d (.int (f n m))) (.int _) trivial (fun _ z=>by cases z) i) q1⟩
def cutD (xs:List PyData) (lo hi:Option Int):List PyData:=(xs.drop (HT.sIx xs.length 0 lo)).take (HT.sIx xs.length xs.length hi - HT.sIx xs.length 0 lo)
theorem Reps.cut {K:W.Frag} {F:Hp} {vs:List V} {ds:List PyData} (r:Reps K F vs ds) (lo hi:Option Int):Reps K F (cutV vs lo hi) (cutD ds lo hi):=by
  unfold cutV cutD
  rw [r.length]
  exact (r.drop _).take _
abbrev TOv:=En -> (Option Int -> Prop) -> Prop
def PVO (X:Cx) (rl:RlT) (o:Option Expr) (f:TOv):Prop:=∃ t,PO X o t /\ ∀ {F₀ H₀ F H:Hp} {σ:St} {ρ:En},VR X.K rl F₀ H₀ F H σ ρ -> ∀ (Qd:Option Int -> Prop) (Q:Option Int -> Hp -> Prop),f ρ Qd ->
  (∀ o F' H',Grow rl F H F' H' -> Qd o -> Q o H') -> t σ H Q
def oNo:TOv:=fun _ Q=>Q none
def oIt (fa:TV):TOv:=fun ρ Q=>fa ρ fun w=>∃ i,w = .d (.int i) /\ Q (some i)
theorem vo_none:PVO X rl none oNo:=⟨_,po_none,fun R Qd Q q k=>k _ _ _ (Grow.refl R.sub R.reel) q⟩
theorem vo_some (h:PV X rl e fa):PVO X rl (some e) (oIt fa):=by
  obtain ⟨t,p,k⟩:=h
  refine ⟨_,po_some p,fun R Qd Q q h=>k R _ _ q fun v w F1 H1 g1 r1 n1 ⟨i,ew,q1⟩=>?_⟩
  subst ew
  exact ⟨i,rep_int r1,h _ F1 H1 g1 q1⟩
def vSlL (fa:TV) (fl fh:TOv):TV:=fun ρ Q=>fa ρ fun w=>fl ρ fun l=>fh ρ fun h=>∃ xs,w.dat = some (.list xs) /\ Q (.ml (cutD xs l h))
def gCatD:W -> W -> (W -> Prop) -> Prop:=fun x y Q=>∃ xs ys,x.dat = some (.list xs) /\ y.dat = some (.list ys) /\ xs.length + ys.length <= sizeLine /\ Q (.ml (xs ++ ys))
theorem RelW.lst {K:W.Frag} {F H:Hp} {v:V} {w:W} {xs:List PyData} (s:Same F H) (r:RelW K rl F H v w) (e:w.dat = some (.list xs)):∃ a vs,v = .ref a /\ H a = some (.lst vs) /\ Reps K F vs xs:=by
  have own:OwnL K rl F H v xs -> ∃ a vs,v = .ref a /\ H a = some (.lst vs) /\ Reps K F vs xs:=fun ⟨a,vs,e1,_,_,e2,e3⟩=>⟨a,vs,e1,e2,e3⟩
  cases w with
  | d y =>
    cases e
    cases (show Rep K F v (.list xs) from r) with
    | lst h q=>exact ⟨_,_,rfl,s _ _ h,q⟩
  | ml ys=>cases e; exact own r
  | pk ys=>cases e; exact own r
  | reel=>cases e
  | vv u=>cases e
  | md u=>cases e
  | mk u=>cases e
  | nt u=>cases e
  | lk=>cases e
  | sc _=>cases e
  | fd _=>cases e
  | fw _=>cases e
  | ft _=>cases e
  | xc _ _=>cases e
  | dp _ _=>cases e
theorem vo_catD:VOp X rl rCat gCatD:=fun {F H x y wx wy} Qd Q s ra r1 r2 q k=>by
  obtain ⟨xs,ys,e1,e2,z,q⟩:=q
  obtain ⟨a,vs,rfl,h1,q1⟩:=r1.lst s e1
  obtain ⟨b,us,rfl,h2,q2⟩:=r2.lst s e2
  refine ⟨a,b,vs,us,rfl,rfl,h1,h2,by rw [q1.length,q2.length]; exact z,fun p hp=>?_⟩
  exact k _ (.ml _) _ _ (Grow.laid s ra hp) (own_laid s ra hp (q1.append q2)) (fun a ea=>by cases ea; exact hp) q
theorem v_catD (ha:PV X rl a fa) (hb:PV X rl b fb):PV X rl (.BinOp a .Add b pos) (vOp gCatD fa fb):=pv_op op_cat vo_catD ha hb
structure GlD (K:W.Frag) (mg:Str -> Option Value) (x:Str) (d:PyData):Prop where
  ex:∃ v u,mg x = some u /\ RelV v u /\ ∀ F,Rep K F v d
theorem v_glob {x:Str} {d:PyData} (G:GlD X.K X.mg x d) (hg:Gl X x:=by rfl) (hd:(x == ("__debug__" : Str)) = false:=by decide):PV X rl (.Name x pos) (vC d):=by
  obtain ⟨v,u,h1,h2,h3⟩:=G.ex
  exact pv_glob h1 h2 h3 hg hd
structure GlK (K:W.Frag) (x:Str) (d:PyData):Prop where
  ex:∃ v u,W.nsIn K mainGlobals x = some (some u) /\ RelV v u /\ ∀ F,Rep K F v d
theorem GlK.of {K:W.Frag} {x:Str} {d:PyData} {h:Heap} {mg:Str -> Option Value} (k:GlK K x d) (Y:K.In h) (G:h.Ns mainGlobals mg):GlD K mg x d:=by
  obtain ⟨v,u,h1,h2,h3⟩:=k.ex
  exact ⟨v,u,W.mg_of Y G h1,h2,h3⟩
end
end L2.VL

namespace L2
open PySem PySem.Spec PyProof.Rows
section
variable {X:Cx} {a b:Expr} {ta:TA} {p q pos pos2:Pos}
theorem paired_get {α β:Type} {R : α -> β -> Prop}:∀ {xs:List α} {ys:List β},xs.length = ys.length -> (∀ (i:Nat) x y,xs[i]? = some x -> ys[i]? = some y -> R x y) -> Paired R xs ys
  | [],[],_,_=>.nil
  | x :: xs,y :: ys,hl,h=>.cons (h 0 x y rfl rfl) (paired_get (by simpa using hl) fun i x y e1 e2=>h (i + 1) x y (by simpa using e1) (by simpa using e2))
  | [],_ :: _,hl,_=>by simp at hl
  | _ :: _,[],hl,_=>by simp at hl
def intsV (lo:Int) (n:Nat):List V:=(List.range n).map fun (i:Nat)=>V.int (lo + i)
theorem vals_of_items {lo:Int} {n:Nat} {acc:Array Value} (h:ItemsOf (fun i v=>∃ t,v = .int (lo + i * 1) t) acc n):Vals (intsV lo n) acc.toList:=by
  obtain ⟨h1,h2⟩:=h
  refine paired_get ?_ ?_
  · simp [intsV,h1]
  · intro i v u e1 e2
    unfold intsV at e1
    rw [List.getElem?_map] at e1
    obtain ⟨t,e4⟩:=h2 i u (by simpa using e2)
    by_cases hi:i < n
    · rw [List.getElem?_eq_getElem (by simpa using hi)] at e1
      simp at e1
      subst e1
      exact ⟨t,by rw [e4]; simp⟩
    · rw [List.getElem?_eq_none (by simpa using hi)] at e1
      cases e1
theorem list_range {pins:List (Addr × Obj)} {σ:St} {H:Hp} {s:Shared} {Q:VK} {lo hi:Int} {t u v:Tok} {tk:Nat} (hc:X.calm = true) (I:Inv X pins σ H s) (h1 : -(2 ^ 62) <= lo) (h2:lo < 2 ^ 62) (h3 : -(2 ^ 62) <= hi) (h4:hi < 2 ^ 62) (h5:(hi - lo).toNat <= 2 ^ 24)
    (q:∀ l,H l = none -> Q (.ref l) (upd H l (.lst (intsV lo (hi - lo).toNat)))):wpAny (model X.prog X.w) X.A (call (.type "list") [.ref s.heap.objs.size]) (EP X pins σ Q) X.xe { s with heap:=s.heap.push { cls:=.type "range", data:=.fields #[.int lo t,.int hi u,.int 1 v] },toks:=tk }:=by
  have I1:Inv X pins σ H { s with heap:=s.heap.push { cls:=.type "range", data:=.fields #[.int lo t,.int hi u,.int 1 v] },toks:=tk }:=I.kept fun b o e=>Heap.get?_push_of_some _ e
  refine call_list_range (n:=(hi - lo).toNat) (I.ok.hd hc) (IsRange.new ..) (small_one h1 h2 h3 h4) (by rw [rangeSize_one]; split <;> omega) h5 fun h' tk acc c hk hn hi=>?_
  have hv:=vals_of_items hi
  refine ⟨.ref _,_,I1.laid (t':=tk) hk (Nat.le_refl _) (show ObjOk X.prog X.w _ h' _ (.lst _) from ⟨?_,acc.toList,c,hv,by rw [Array.toArray_toList]; exact hn⟩),rfl,q _ (I1.hok.fresh (Nat.le_refl _))⟩
  show (intsV lo _).length <= sizeLine
  rw [intsV,List.length_map,List.length_range]
  exact Nat.le_trans h5 (by decide)
def tLR1 (ta:TA):TE:=fun σ H Q=>ta σ H fun vs H1=>∃ j:Int,vs = [.int j] /\ (-(2 ^ 62) <= j /\ j < 2 ^ 62) /\ j.toNat <= 2 ^ 24 /\ ∀ l,H1 l = none -> Q (.ref l) (upd H1 l (.lst (intsV 0 j.toNat)))
theorem pe_lrange1 (hc:X.calm = true) (hl:Gl X "list") (hml:X.mg "list" = none) (hg:Gl X "range") (hm:X.mg "range" = none) (ha:PA X [a] ta) (hs:starEach [a] X.env = [(false,eval a X.env)]:=by rfl)
    (he:starEach [.Call (.Name "range" p) [a] [] pos2] X.env = (false,eval (.Call (.Name "range" p) [a] [] pos2) X.env) :: starEach [] X.env:=by rfl) (hpl:(backTo pos (starEach [] X.env)).any (·.1) = false:=by rfl) :
    PE X (.Call (.Name "list" q) [.Call (.Name "range" p) [a] [] pos2] [] pos) (tLR1 ta):=by
  intro pins s σ H Q I h
  refine wpAny_Call_Name_kw (ld_blt I hl hml (by rfl) ?_ (by decide) (by decide))
  refine PyProof.Rows.callWith_type1 ?_ he hpl
  rw [he]
  show wpAny _ _ (spliced ((false,eval (.Call (.Name "range" p) [a] [] pos2) X.env) :: backTo pos (starEach [] X.env))) _ _ s
  refine Calls.spliced_cons ?_
  refine Call_ (ld_blt I hg hm boot_range (PyProof.Rows.callWith_type1 (thn (ha pos2 pins s σ H _ I h) fun us s1 ⟨vs,H1,I1,r1,q1⟩=>?_) hs rfl))
  obtain ⟨j,e,⟨h3,h4⟩,h5,q1⟩:=q1
  subst e
  cases r1 with
  | cons r rr =>
    cases rr
    obtain ⟨t,rfl⟩:=r
    exact call_range_1 (Calls.spliced_nil (list_range hc I1 (by omega) (by omega) h3 h4 (by simpa using h5) (by simpa using q1)))
end
end L2
namespace L2.VL
open PySem PySem.Spec PyProof.Rows
section
variable {X:Cx} {rl:RlT} {a b c e:Expr} {es:List Expr} {fa fb fc:TV} {fs:TVs} {pos pos2 p q:Pos}
theorem reps_range {K:W.Frag} {F:Hp} (lo:Int) (n:Nat):Reps K F (intsV lo n) (rangeD lo n):=by
  unfold intsV rangeD
  generalize List.range n = l
  induction l with
  | nil=>exact .nil
  | cons x l ih=>exact .cons (.int _) ih
def vLR1 (fs:TVs):TV:=fun ρ Q=>fs ρ fun ws=>∃ j:Int,ws = [.d (.int j)] /\ (-(2 ^ 62) <= j /\ j < 2 ^ 62) /\ j.toNat <= 2 ^ 24 /\ Q (.ml (rangeD 0 j.toNat))
theorem v_lrange1 (hml:X.mg "list" = none) (hm:X.mg "range" = none) (ha:PVs X rl [a] fs) (hc:X.calm = true:=by rfl) (hl:Gl X "list" := by rfl) (hg:Gl X "range" := by rfl) (hs:starEach [a] X.env = [(false,eval a X.env)]:=by rfl)
    (he:starEach [.Call (.Name "range" p) [a] [] pos2] X.env = (false,eval (.Call (.Name "range" p) [a] [] pos2) X.env) :: starEach [] X.env:=by rfl) (hpl:(backTo pos (starEach [] X.env)).any (·.1) = false:=by rfl) :
    PV X rl (.Call (.Name "list" q) [.Call (.Name "range" p) [a] [] pos2] [] pos) (vLR1 fs):=by
  obtain ⟨t,p1,k⟩:=ha
  refine ⟨_,pe_lrange1 hc hl hml hg hm p1 hs he hpl,fun R Qd Q q h=>k R _ _ q fun vs ws F1 H1 g1 r1 ⟨j,ew,z,y,q1⟩=>?_⟩
  subst ew
  obtain ⟨v,rfl,rv⟩:=rel1 r1
  have e1:=rep_int rv
  subst e1
  exact ⟨j,rfl,z,y,fun l hl=>h _ (.ml _) _ _ (g1.trans (Grow.laid g1.sub g1.reel hl)) (own_laid g1.sub g1.reel hl (reps_range _ _)) (fun a ea=>by cases ea; exact g1.freeB hl) q1⟩
theorem Reps.erase {K:W.Frag} {F:Hp}:∀ {vs:List V} {ds:List PyData} (n:Nat),Reps K F vs ds -> Reps K F (vs.eraseIdx n) (ds.eraseIdx n)
  | _,_,_,.nil=>by simp; exact .nil
  | _,_,0,.cons h r=>r
  | _,_,n + 1,.cons h r=>.cons h (Reps.erase n r)
end
end L2.VL

namespace L2.VL
open PySem PySem.Spec PyProof.Rows
end L2.VL
namespace L2.VL
open PySem PySem.Spec PyProof.Rows
theorem foldl_succ {α β:Type} {xs:List α} {f : β -> α -> β} {a : β} {i:Nat} (h:i < xs.length):(xs.take (i + 1)).foldl f a = f ((xs.take i).foldl f a) xs[i]:=by
  rw [List.take_succ_eq_append_getElem h,List.foldl_append]
  rfl
end L2.VL
namespace L2.VL
open PySem PySem.Spec PyProof.Rows
end L2.VL
namespace L2.VL
open PySem PySem.Spec PyProof.Rows
structure Sm (dp bk:Nat) (d:PyData):Prop where
  nice:Nice d
  dep:d.depth <= dp
  blk:d.bulk <= bk
theorem niceAll_of:∀ {xs:List PyData},(∀ d ∈ xs,Nice d) -> NiceAll xs
  | [],_=>trivial
  | x :: xs,h=>⟨h x List.mem_cons_self,niceAll_of fun d hd=>h d (List.mem_cons_of_mem _ hd)⟩
theorem depthAll_le {k:Nat}:∀ {xs:List PyData},(∀ d ∈ xs,d.depth <= k) -> PyData.depthAll xs <= k + 1
  | [],_=>by simp [PyData.depthAll]
  | x :: xs,h=>by
    have h1:=h x List.mem_cons_self
    have h2:=depthAll_le (k:=k) (xs:=xs) fun d hd=>h d (List.mem_cons_of_mem _ hd)
    simp only [PyData.depthAll]
    omega
theorem bulkAll_le {k:Nat}:∀ {xs:List PyData},(∀ d ∈ xs,d.bulk <= k) -> PyData.bulkAll xs <= (k + 1) * xs.length
  | [],_=>by simp [PyData.bulkAll]
  | x :: xs,h=>by
    have h1:=h x List.mem_cons_self
    have h2:=bulkAll_le (k:=k) (xs:=xs) fun d hd=>h d (List.mem_cons_of_mem _ hd)
    simp only [PyData.bulkAll,List.length_cons,Nat.mul_succ]
    omega
theorem Sm.seq {dp bk n:Nat} {xs:List PyData} (h:∀ d ∈ xs,Sm dp bk d) (hl:xs.length <= n):Sm (dp + 2) ((bk + 1) * n) (.tuple xs) /\ Sm (dp + 2) ((bk + 1) * n) (.list xs):=by
  have a:=niceAll_of fun d hd=>(h d hd).nice
  have b:=depthAll_le fun d hd=>(h d hd).dep
  have c:PyData.bulkAll xs <= (bk + 1) * n:=Nat.le_trans (bulkAll_le fun d hd=>(h d hd).blk) (Nat.mul_le_mul_left _ hl)
  refine ⟨⟨a,?_,c⟩,⟨a,?_,c⟩⟩ <;> simp only [PyData.depth] <;> omega
theorem Sm.shw {dp bk:Nat} {d:PyData} (h:Sm dp bk d) (h1:dp <= 60) (h2:bk <= 8000):Shw d:=⟨h.nice,by have:=h.dep; omega,by have:=h.blk; omega⟩
theorem Sm.int {i:Int} (h:i.natAbs < 2 ^ 1000):Sm 0 0 (.int i):=⟨(Lf.int h).nice,by simp [PyData.depth],by simp [PyData.bulk]⟩
theorem Sm.bool {b:Bool}:Sm 0 0 (.bool b):=⟨trivial,by simp [PyData.depth],by simp [PyData.bulk]⟩
theorem Sm.none:Sm 0 0 .none:=⟨trivial,by simp [PyData.depth],by simp [PyData.bulk]⟩
theorem Sm.mono {dp bk dp' bk':Nat} {d:PyData} (h:Sm dp bk d) (h1:dp <= dp') (h2:bk <= bk'):Sm dp' bk' d:=⟨h.nice,Nat.le_trans h.dep h1,Nat.le_trans h.blk h2⟩
theorem Sm.pair {a b:Int} (ha:a.natAbs < 2 ^ 1000) (hb:b.natAbs < 2 ^ 1000):Sm 2 2 (.tuple [.int a,.int b]) :=
  (Sm.seq (dp:=0) (bk:=0) (n:=2) (xs:=[.int a,.int b]) (fun d hd=>by
    rcases List.mem_cons.mp hd with rfl | hd
    · exact Sm.int ha
    · rcases List.mem_cons.mp hd with rfl | hd
      · exact Sm.int hb
      · cases hd) (Nat.le_refl _)).1
theorem Shw.refl {d:PyData} (h:Shw d):PyData.eqv d d = true:=SeqAt.eqv_refl d (Nice.facts d h.1).2.1
end L2.VL

namespace L2
open PySem PySem.Spec PyProof.Rows
section
variable {X:Cx} {tg e:Expr} {ta te:TE} {p p2 pos:Pos}
end
end L2
namespace L2.VL
open PySem PySem.Spec PyProof.Rows
section
variable {X:Cx} {rl:RlT} {a b c e tg:Expr} {es:List Expr} {fa fb fc:TV} {fs:TVs} {pos pos2 p p2 q:Pos}
end
end L2.VL

namespace L2
open PySem PySem.Spec PyProof.Rows
section
variable {X:Cx}
end
end L2
namespace L2.VL
open PySem PySem.Spec PyProof.Rows
section
variable {X:Cx} {rl:RlT} {a b c e:Expr} {es:List Expr} {fa fb fc:TV} {fs:TVs} {pos p p2:Pos}
end
end L2.VL

namespace L2.TM
open PySem PySem.Spec PyProof.Rows
section
variable {prog:Program} {w:World} {A:Around} {E:Value -> Shared -> Prop} {s:Shared} {k:Int} {t:Tok} {l:Addr} {its:Array Value}
end
end L2.TM
namespace L2
open PySem PySem.Spec PyProof.Rows
section
variable {X:Cx}
end
end L2
namespace L2.VL
open PySem PySem.Spec PyProof.Rows
section
variable {X:Cx} {rl:RlT} {a b c e:Expr} {es:List Expr} {fa fb fc:TV} {fs:TVs} {pos p p2:Pos}
def gCatT:W -> W -> (W -> Prop) -> Prop:=fun x y Q=>∃ xs ys,x = .d (.tuple xs) /\ y = .d (.tuple ys) /\ xs ≠ [] /\ xs.length + ys.length <= sizeLine /\ Q (.d (.tuple (xs ++ ys)))
theorem vo_catT:VOp X rl (rCatT X.K) gCatT:=fun {F H x y wx wy} Qd Q s ra r1 r2 q k=>by
  obtain ⟨xs,ys,rfl,rfl,hne,hz,q⟩:=q
  cases (show Rep X.K F x (.tuple xs) from r1) with
  | @tup a vs _ sq rs =>
    cases (show Rep X.K F y (.tuple ys) from r2) with
    | @tup b us _ sq2 rs2 =>
      refine ⟨a,b,vs,us,rfl,rfl,sameT s sq,sameT s sq2,fun z=>hne ?_,by rw [rs.length,rs2.length]; exact hz,fun e=>?_,fun e p hp=>?_⟩
      · subst z; cases rs; rfl
      · subst e
        cases rs2
        rw [List.append_nil] at q
        exact k _ (.d (.tuple xs)) _ _ (Grow.refl s ra) (.tup sq rs) trivial q
      · have g:=Grow.data (a:=p) (o:=.tup (vs ++ us)) s ra hp
        exact k _ (.d _) _ _ g (.tup (.inl (.inl upd_same)) ((rs.append rs2).mono g.fs)) trivial q
end
end L2.VL

namespace L2
open PySem PySem.Spec PyProof.Rows
section
variable {X:Cx}
def rCat0 (K:W.Frag):R2:=fun x y H Q=>∃ a b ys,x = .ref a /\ y = .ref b /\ SqT K H a [] /\ SqT K H b ys /\ Q (.ref b) H
theorem op_cat0:OpR X (binaryOp .Add) (rCat0 X.K):=by
  intro pins s σ H x y v u Q I rx ry h
  obtain ⟨a,b,ys,rfl,rfl,ha,hb,q⟩:=h
  cases rx
  cases ry
  obtain ⟨its,r1,p1,_⟩:=I.tuple ha
  obtain ⟨its2,r2,p2,_⟩:=I.tuple hb
  cases r1
  obtain ⟨⟨c1,d1,e1,sl1⟩,ho,hc,n,hd⟩:=p1
  obtain ⟨⟨c2,d2,e2,sl2⟩,ho2,hc2,n2,hd2⟩:=p2
  cases hc; cases hd; cases hc2; cases hd2
  exact concat_meets ⟨_,ho,rfl⟩ ⟨_,ho2,rfl⟩ noFill_tuple_add seq_tuple_add PySem.F.slot_tuple_add PySem.F.entry_tuple_add (PySem.F.args_tuple_add_2 _ _)
    (tuple_addW0 a b _ its2.toArray n n2 d1 d2 sl1 sl2 rfl) ⟨ho,ho2,⟨.ref b,H,I,rfl,q⟩⟩
def rCatA (K:W.Frag):R2:=fun x y H Q=>rCatT K x y H Q \/ rCat0 K x y H Q
theorem op_catA:OpR X (binaryOp .Add) (rCatA X.K):=fun pins s σ H x y v u Q I rx ry h=>h.elim (op_catT pins s σ H x y v u Q I rx ry) (op_cat0 pins s σ H x y v u Q I rx ry)
section
variable {prog:Program} {w:World} {A:Around} {E:Value -> Shared -> Prop} {s:Shared}
end
end
end L2
namespace L2.VL
open PySem PySem.Spec PyProof.Rows
section
variable {X:Cx} {rl:RlT} {a b c e:Expr} {es:List Expr} {fa fb fc:TV} {fs:TVs} {pos p p2:Pos}
def gCatA:W -> W -> (W -> Prop) -> Prop:=fun x y Q=>∃ xs ys,x = .d (.tuple xs) /\ y = .d (.tuple ys) /\ xs.length + ys.length <= sizeLine /\ Q (.d (.tuple (xs ++ ys)))
theorem vo_catA:VOp X rl (rCatA X.K) gCatA:=fun {F H x y wx wy} Qd Q s ra r1 r2 q k=>by
  obtain ⟨xs,ys,rfl,rfl,hz,q⟩:=q
  by_cases hx:xs = []
  · subst hx
    cases (show Rep X.K F x (.tuple []) from r1) with
    | @tup a vs _ sq rs =>
      cases rs
      cases (show Rep X.K F y (.tuple ys) from r2) with
      | @tup b us _ sq2 rs2=>exact .inr ⟨a,b,us,rfl,rfl,sameT s sq,sameT s sq2,k _ (.d (.tuple ys)) _ _ (Grow.refl s ra) (.tup sq2 rs2) trivial q⟩
  · exact .inl (vo_catT Qd Q s ra r1 r2 ⟨xs,ys,rfl,rfl,hx,hz,q⟩ k)
theorem v_catA (ha:PV X rl a fa) (hb:PV X rl b fb):PV X rl (.BinOp a .Add b pos) (vOp gCatA fa fb):=pv_op op_catA vo_catA ha hb
theorem reps_int {K:W.Frag} {F:Hp}:∀ {vs:List V} {ns:List Int},Reps K F vs (ns.map .int) -> vs = ns.map V.int
  | _,[],h=>h.nil_iff
  | _,n :: ns,.cons h r=>by rw [rep_int h,reps_int r]; rfl
end
end L2.VL

namespace L2.TO
open PySem PySem.Spec PyProof.Rows
section
variable {prog:Program} {w:World} {A:Around} {E:Value -> Shared -> Prop} {s:Shared}
end
end L2.TO
namespace L2
open PySem PySem.Spec PyProof.Rows
section
variable {X:Cx} {a b e:Expr} {ta:TA} {te:TE} {p p2 q pos pos2:Pos}
end
end L2
namespace L2.VL
open PySem PySem.Spec PyProof.Rows
section
variable {X:Cx} {rl:RlT} {a b c e:Expr} {es:List Expr} {fa fb fc:TV} {fs:TVs} {pos pos2 p q p2:Pos}
end
end L2.VL

namespace L2.TW
open PySem PySem.Spec PyProof.Rows
section
variable {prog:Program} {w:World} {A:Around} {E:Value -> Shared -> Prop} {s:Shared}
end
end L2.TW
namespace L2
open PySem PySem.Spec PyProof.Rows
section
variable {X:Cx}
end
end L2
namespace L2.VL
open PySem PySem.Spec PyProof.Rows
section
variable {X:Cx} {rl:RlT} {a b c e:Expr} {es:List Expr} {fa fb fc:TV} {fs:TVs} {pos p p2:Pos}
end
end L2.VL

namespace L2
open PySem PySem.Spec PyProof.Rows
abbrev tabD (D:List (Str × Int)):List (PyData × PyData):=(D.map fun q=>(q.1,PyData.int q.2)).map fun q=>(PyData.str q.1,q.2)
structure GlT (P:Program) (w:World) (K:W.Frag) (mg:Str -> Option Value) (x:Str) (D:List (Str × Int)):Prop where
  ex:∃ p,mg x = some (.ref p) /\ ∀ h,K.In h -> StrTab P w h p (tabD D)
section
variable {X:Cx} {e:Expr} {ty:TE} {px apos cpos:Pos}
end
end L2
namespace L2.VL
open PySem PySem.Spec PyProof.Rows
section
variable {X:Cx} {rl:RlT} {a b c e:Expr} {es:List Expr} {fa fb fc:TV} {fs:TVs} {pos p p2 px apos cpos:Pos}
end
end L2.VL

set_option exponentiation.threshold 10000
namespace L2.VL
open PySem PySem.Spec PyProof.Rows
def gcdN:List W -> (PyData -> Prop) -> Prop:=fun ws Q=>∃ i j:Int,ws = [.d (.int i),.d (.int j)] /\ 0 <= i /\ 0 <= j /\ Q (.int (Int.gcd i j))
theorem gcdN.mono:∀ ws (Q Q':PyData -> Prop),(∀ d,Q d -> Q' d) -> gcdN ws Q -> gcdN ws Q':=fun _ _ _ h ⟨i,j,e,a,b,q⟩=>⟨i,j,e,a,b,h _ q⟩
theorem gcdN.len:∀ ws (Q:PyData -> Prop),gcdN ws Q -> ws.length = 2:=fun _ _ ⟨_,_,e,_⟩=>by subst e; rfl
def lowD (a b:Int):PyData:=.tuple [.int (a.fdiv (Int.gcd a b)),.int (b.fdiv (Int.gcd a b))]
def lowP:List W -> (PyData -> Prop) -> Prop:=fun ws Q=>∃ a b:Int,ws = [.d (.int a),.d (.int b)] /\ 0 < b /\ b.natAbs < 2 ^ 8000 /\ Q (lowD a b)
theorem lowP.mono:∀ ws (Q Q':PyData -> Prop),(∀ d,Q d -> Q' d) -> lowP ws Q -> lowP ws Q':=fun _ _ _ h ⟨i,j,e,a,b,q⟩=>⟨i,j,e,a,b,h _ q⟩
theorem lowP.len:∀ ws (Q:PyData -> Prop),lowP ws Q -> ws.length = 2:=fun _ _ ⟨_,_,e,_⟩=>by subst e; rfl
theorem gcd_div {a b:Int} (hb : 0 < b) (z:b.natAbs < 2 ^ 8000) (i:Int):CDivB i (Int.gcd a b:Int):=by
  have h1:=gcd_pos (a:=a) (b:=b) (by omega)
  have h2:=gcd_le (a:=a) (b:=b) (by omega)
  exact ⟨by omega,Nat.lt_of_le_of_lt (by omega) (Nat.lt_of_lt_of_le z (Nat.pow_le_pow_right (by decide) (by decide)))⟩
def iP (n:Nat) (pre:List Int -> Prop) (f:List Int -> PyData):List W -> (PyData -> Prop) -> Prop:=fun ws Q=>∃ xs:List Int,ws = xs.map (fun i=>.d (.int i)) /\ xs.length = n /\ pre xs /\ Q (f xs)
theorem iP.mono {n:Nat} {pre:List Int -> Prop} {f:List Int -> PyData}:∀ ws (Q Q':PyData -> Prop),(∀ d,Q d -> Q' d) -> iP n pre f ws Q -> iP n pre f ws Q':=fun _ _ _ h ⟨i,e,a,b,q⟩=>⟨i,e,a,b,h _ q⟩
def i2P (pre:Int -> Int -> Prop) (f:Int -> Int -> PyData):List W -> (PyData -> Prop) -> Prop:=fun ws Q=>∃ i j:Int,ws = [.d (.int i),.d (.int j)] /\ pre i j /\ Q (f i j)
theorem i2P.mono {pre:Int -> Int -> Prop} {f:Int -> Int -> PyData}:∀ ws (Q Q':PyData -> Prop),(∀ d,Q d -> Q' d) -> i2P pre f ws Q -> i2P pre f ws Q':=fun _ _ _ h ⟨i,j,e,a,q⟩=>⟨i,j,e,a,h _ q⟩
theorem i2P.len {pre:Int -> Int -> Prop} {f:Int -> Int -> PyData}:∀ ws (Q:PyData -> Prop),i2P pre f ws Q -> ws.length = 2:=fun _ _ ⟨_,_,e,_⟩=>by subst e; rfl
structure IsEx (b:Int) (p:List Int):Prop where
  len:p.length = b.toNat
  zero:p.head? = some 0
  nd:p.Nodup
  rng:∀ x ∈ p,0 <= x /\ x < b
def exD (p:List Int):PyData:=.tuple (p.map .int)
def exP:List W -> (PyData -> Prop) -> Prop:=fun ws Q=>∃ b:Int,ws = [.reel,.d (.int b)] /\ 2 <= b /\ b <= 16 /\ ∀ p,IsEx b p -> Q (exD p)
theorem exP.mono:∀ ws (Q Q':PyData -> Prop),(∀ d,Q d -> Q' d) -> exP ws Q -> exP ws Q':=fun _ _ _ h ⟨b,e,x,y,q⟩=>⟨b,e,x,y,fun p hp=>h _ (q p hp)⟩
theorem exP.len:∀ ws (Q:PyData -> Prop),exP ws Q -> ws.length = 2:=fun _ _ ⟨_,e,_⟩=>by subst e; rfl
def intR (lo:Int) (n:Nat):List Int:=(List.range n).map fun (i:Nat)=>lo + i
theorem rangeD_ints (lo:Int) (n:Nat):rangeD lo n = (intR lo n).map .int:=by simp [rangeD,intR]
theorem intR_mem {lo x:Int} {n:Nat}:x ∈ intR lo n ↔ lo <= x /\ x < lo + n:=by
  unfold intR
  simp only [List.mem_map,List.mem_range]
  constructor
  · rintro ⟨k,hk,rfl⟩; omega
  · rintro ⟨h1,h2⟩
    exact ⟨(x - lo).toNat,by omega,by omega⟩
theorem intR_length (lo:Int) (n:Nat):(intR lo n).length = n:=by simp [intR]
end L2.VL
namespace L2.VL
open PySem PySem.Spec PyProof.Rows
def rowD (rows:List (Int × List Int)):PyData:=.tuple (rows.map fun r=>.tuple [.int r.1,exD r.2])
structure IsRow (rows:List (Int × List Int)):Prop where
  lo : 1 <= rows.length
  hi:rows.length <= 4
  ok:∀ r ∈ rows,2 <= r.1 /\ r.1 <= 16 /\ IsEx r.1 r.2
  co:rows.Pairwise fun x y=>Int.gcd x.1 y.1 = 1
def rowP:List W -> (PyData -> Prop) -> Prop:=fun ws Q=>∃ m:Int,ws = [.reel,.d (.int m)] /\ 1 <= m /\ m <= 4 /\ ∀ rows,IsRow rows -> rows.length <= m.toNat -> Q (rowD rows)
theorem rowP.mono:∀ ws (Q Q':PyData -> Prop),(∀ d,Q d -> Q' d) -> rowP ws Q -> rowP ws Q':=fun _ _ _ h ⟨b,e,x,y,q⟩=>⟨b,e,x,y,fun p hp hl=>h _ (q p hp hl)⟩
theorem rowP.len:∀ ws (Q:PyData -> Prop),rowP ws Q -> ws.length = 2:=fun _ _ ⟨_,e,_⟩=>by subst e; rfl
def GoodB (bs:List Int):Prop:=bs.length = 4 /\ (∀ b ∈ bs,2 <= b /\ b <= 16) /\ bs.Pairwise fun x y=>Int.gcd x y = 1
instance (bs:List Int):Decidable (GoodB bs):=by unfold GoodB; infer_instance
end L2.VL
namespace L2.VL
open PySem PySem.Spec PyProof.Rows
def needP:List W -> (PyData -> Prop) -> Prop:=fun ws Q=>∃ b n:Int,ws = [.d (.int b),.d (.int n)] /\ 2 <= b /\ b <= 16 /\ n < 2 ^ 40 /\ ∀ e:Nat,n <= b ^ e -> (∀ k < e,b ^ k < n) -> Q (.int e)
theorem needP.mono:∀ ws (Q Q':PyData -> Prop),(∀ d,Q d -> Q' d) -> needP ws Q -> needP ws Q':=fun _ _ _ h ⟨b,n,e,x,y,z,q⟩=>⟨b,n,e,x,y,z,fun p a b=>h _ (q p a b)⟩
theorem needP.len:∀ ws (Q:PyData -> Prop),needP ws Q -> ws.length = 2:=fun _ _ ⟨_,_,e,_⟩=>by subst e; rfl
def pr (a b:Int):PyData:=.tuple [.int a,.int b]
def belowP:List W -> (PyData -> Prop) -> Prop:=fun ws Q=>∃ a b c d:Int,ws = [.d (pr a b),.d (pr c d)] /\ CMulB a d /\ CMulB c b /\ Q (.bool (decide (a * d < c * b)))
theorem belowP.mono:∀ ws (Q Q':PyData -> Prop),(∀ d,Q d -> Q' d) -> belowP ws Q -> belowP ws Q':=fun _ _ _ h ⟨b,n,c,d,e,x,y,q⟩=>⟨b,n,c,d,e,x,y,h _ q⟩
theorem belowP.len:∀ ws (Q:PyData -> Prop),belowP ws Q -> ws.length = 2:=fun _ _ ⟨_,_,_,_,e,_⟩=>by subst e; rfl
def lessP (f:Bool -> PyData -> PyData -> PyData):List W -> (PyData -> Prop) -> Prop:=fun ws Q=>∃ a b c d:Int,ws = [.d (pr a b),.d (pr c d)] /\ CMulB a d /\ CMulB c b /\ Q (f (decide (a * d < c * b)) (pr a b) (pr c d))
theorem lessP.mono {f:Bool -> PyData -> PyData -> PyData}:∀ ws (Q Q':PyData -> Prop),(∀ d,Q d -> Q' d) -> lessP f ws Q -> lessP f ws Q':=fun _ _ _ h ⟨b,n,c,d,e,x,y,q⟩=>⟨b,n,c,d,e,x,y,h _ q⟩
theorem lessP.len {f:Bool -> PyData -> PyData -> PyData}:∀ ws (Q:PyData -> Prop),lessP f ws Q -> ws.length = 2:=fun _ _ ⟨_,_,_,_,e,_⟩=>by subst e; rfl
end L2.VL
namespace L2.VL
open PySem PySem.Spec PyProof.Rows
def needed (b n:Int):Nat:=((List.range 31).filter fun k=>decide (b ^ k < n)).length
theorem pow_le_pow {b:Int} (h : 1 <= b) {i j:Nat} (hij:i <= j):b ^ i <= b ^ j:=by
  induction hij with
  | refl=>exact Int.le_refl _
  | step _ ih =>
    rw [Int.pow_succ]
    have : 0 <= b ^ i:=Int.le_of_lt (Int.pow_pos (by omega))
    exact Int.le_trans ih (by
      rename_i m _
      have hm : 0 < b ^ m:=Int.pow_pos (by omega)
      have:=Int.mul_le_mul_of_nonneg_left h (Int.le_of_lt hm)
      omega)
theorem pow_mono {a b:Int} (h0 : 0 <= a) (h:a <= b):∀ k:Nat,a ^ k <= b ^ k
  | 0=>by simp
  | k + 1=>by
    rw [Int.pow_succ,Int.pow_succ]
    exact Int.mul_le_mul (pow_mono h0 h k) h h0 (Int.pow_nonneg (by omega))
def stepB (n:Int) (p:Int) (r:Int × List Int):Int:=p * max 1 ((r.1 - 1) * needed r.1 n)
def boundD (p n:Int):PyData:=lowD (min n p) n
end L2.VL
namespace L2.VL
open PySem PySem.Spec PyProof.Rows
def rbP:List W -> (PyData -> Prop) -> Prop:=fun ws Q=>∃ rows n,ws = [.d (rowD rows),.d (.int n)] /\ IsRow rows /\ 1 <= n /\ n <= 2 ^ 31 /\ Q (boundD (rows.foldl (stepB n) 1 + rows.length) n)
theorem rbP.mono:∀ ws (Q Q':PyData -> Prop),(∀ d,Q d -> Q' d) -> rbP ws Q -> rbP ws Q':=fun _ _ _ h ⟨b,n,e,x,y,z,q⟩=>⟨b,n,e,x,y,z,h _ q⟩
theorem rbP.len:∀ ws (Q:PyData -> Prop),rbP ws Q -> ws.length = 2:=fun _ _ ⟨_,_,e,_⟩=>by subst e; rfl
end L2.VL
namespace L2.VL
open PySem PySem.Spec PyProof.Rows
end L2.VL
namespace L2.VL
open PySem PySem.Spec PyProof.Rows
end L2.VL
namespace L2.VL
open PySem PySem.Spec PyProof.Rows
end L2.VL
namespace L2.VL
open PySem PySem.Spec PyProof.Rows
theorem GlK.pair {K:W.Frag} {x:Str} {a b:Int} {p:Addr} {sl:Array (Option Value)} {t u:Tok} {n:Nat} (h1:W.nsIn K mainGlobals x = some (some (.ref p)))
    (h2:K.lookup p = some ⟨.type "tuple", none,.seq #[.int a t,.int b u] n,sl⟩):GlK K x (pr a b):=by
  refine ⟨.ref p,.ref p,h1,rfl,fun F=>.tup (vs:=[.int a,.int b]) (.inr ⟨_,_,n,h2,rfl,rfl,(by show 2 <= sizeLine; decide),.cons ⟨t,rfl⟩ (.cons ⟨u,rfl⟩ .nil),rfl⟩) (.cons (.int a) (.cons (.int b) .nil))⟩
end L2.VL

set_option exponentiation.threshold 10000
namespace L2.VL
open PySem PySem.Spec PyProof.Rows
def digs (b n:Nat):List Nat:=if h : 2 <= b /\ 0 < n then (n % b) :: digs b (n / b) else []
termination_by n
decreasing_by exact Nat.div_lt_self h.2 h.1
theorem digs_zero (b:Nat):digs b 0 = []:=by unfold digs; simp
theorem digs_pos {b n:Nat} (hb : 2 <= b) (hn : 0 < n):digs b n = (n % b) :: digs b (n / b):=by
  rw [digs]
  simp [hb,hn]
theorem digs_lt {b:Nat} (hb : 2 <= b):∀ n:Nat,∀ a ∈ digs b n,a < b:=by
  intro n
  induction n using Nat.strongRecOn with
  | ind n ih =>
    intro a ha
    by_cases hn : 0 < n
    · rw [digs_pos hb hn] at ha
      rcases List.mem_cons.mp ha with rfl | ha
      · exact Nat.mod_lt _ (by omega)
      · exact ih (n / b) (Nat.div_lt_self hn hb) a ha
    · have:n = 0:=by omega
      subst this
      rw [digs_zero] at ha
      cases ha
theorem digs_pow {b:Nat} (hb : 2 <= b):∀ n:Nat,0 < n -> b ^ (digs b n).length <= b * n:=by
  intro n
  induction n using Nat.strongRecOn with
  | ind n ih =>
    intro hn
    rw [digs_pos hb hn,List.length_cons,Nat.pow_succ]
    by_cases h : 0 < n / b
    · have:=ih (n / b) (Nat.div_lt_self hn hb) h
      have h2:b * (n / b) <= n:=Nat.mul_div_le n b
      calc b ^ (digs b (n / b)).length * b <= (b * (n / b)) * b:=Nat.mul_le_mul_right b this
        _ <= n * b:=Nat.mul_le_mul_right b h2
        _ = b * n:=Nat.mul_comm _ _
    · have:n / b = 0:=Nat.eq_zero_of_not_pos h
      rw [this,digs_zero]
      simp
      exact Nat.le_mul_of_pos_right b hn
def powL (b:Int) (n:Nat):Int:=b ^ (digs b.toNat n).length
def stepT (b:Int) (p:List Int) (t:Int) (a:Nat):Int:=t * b + p.getD a 0
def topOf (b:Int) (p:List Int) (n:Nat):Int:=(digs b.toNat n).foldl (stepT b p) 0
def turnD (b:Int) (p:List Int) (n:Nat):PyData:=lowD (topOf b p n) (powL b n)
theorem getD_bd {b:Int} {p:List Int} (ex:IsEx b p) {a:Nat} (h:a < b.toNat):p[a]? = some (p.getD a 0) /\ 0 <= p.getD a 0 /\ p.getD a 0 < b:=by
  have hl:a < p.length:=by rw [ex.len]; exact h
  have e:p.getD a 0 = p[a]:=by simp [List.getD,hl]
  have:=ex.rng p[a] (List.getElem_mem hl)
  rw [e]
  exact ⟨List.getElem?_eq_getElem hl,this⟩
def figP:List W -> (PyData -> Prop) -> Prop:=fun ws Q=>∃ b n:Int,ws = [.d (.int b),.d (.int n)] /\ 2 <= b /\ b <= 16 /\ 0 <= n /\ n < 2 ^ 100 /\ Q (.list ((digs b.toNat n.toNat).map fun (k:Nat)=>.int k))
theorem figP.mono:∀ ws (Q Q':PyData -> Prop),(∀ d,Q d -> Q' d) -> figP ws Q -> figP ws Q':=fun _ _ _ h ⟨b,n,e,x,y,z,u,q⟩=>⟨b,n,e,x,y,z,u,h _ q⟩
theorem figP.len:∀ ws (Q:PyData -> Prop),figP ws Q -> ws.length = 2:=fun _ _ ⟨_,_,e,_⟩=>by subst e; rfl
def numP:List W -> (PyData -> Prop) -> Prop:=fun ws Q=>∃ (b:Int) (xs:List Int),ws = [.d (.int b),.d (.list (xs.map .int))] /\ 0 <= b /\ b <= 16 /\ Q (.int (xs.reverse.foldl (fun t a=>t * b + a) 0))
theorem numP.mono:∀ ws (Q Q':PyData -> Prop),(∀ d,Q d -> Q' d) -> numP ws Q -> numP ws Q':=fun _ _ _ h ⟨b,n,e,x,y,q⟩=>⟨b,n,e,x,y,h _ q⟩
theorem numP.len:∀ ws (Q:PyData -> Prop),numP ws Q -> ws.length = 2:=fun _ _ ⟨_,_,e,_⟩=>by subst e; rfl
def turnP (f:Int -> List Int -> Nat -> PyData):List W -> (PyData -> Prop) -> Prop:=fun ws Q=>∃ (b:Int) (p:List Int) (n:Int),ws = [.d (.int b),.d (exD p),.d (.int n)] /\ 2 <= b /\ b <= 16 /\ IsEx b p /\ 0 <= n /\ n < 2 ^ 100 /\ Q (f b p n.toNat)
theorem turnP.mono {f:Int -> List Int -> Nat -> PyData}:∀ ws (Q Q':PyData -> Prop),(∀ d,Q d -> Q' d) -> turnP f ws Q -> turnP f ws Q':=fun _ _ _ h ⟨b,p,n,e,x,y,z,u,v,q⟩=>⟨b,p,n,e,x,y,z,u,v,h _ q⟩
theorem turnP.len {f:Int -> List Int -> Nat -> PyData}:∀ ws (Q:PyData -> Prop),turnP f ws Q -> ws.length = 3:=fun _ _ ⟨_,_,_,e,_⟩=>by subst e; rfl
end L2.VL
namespace L2.VL
open PySem PySem.Spec PyProof.Rows
def pointD (rows:List (Int × List Int)) (n:Nat):PyData:=.tuple (rows.map fun r=>turnD r.1 r.2 n)
def ptsD (rows:List (Int × List Int)) (n m:Nat):PyData:=.tuple ((List.range m).map fun i=>pointD rows (n + i))
def ptsP:List W -> (PyData -> Prop) -> Prop:=fun ws Q=>∃ rows n m,ws = [.d (rowD rows),.d (.int n),.d (.int m)] /\ IsRow rows /\ 0 <= n /\ n < 2 ^ 60 /\ 0 <= m /\ m <= 1000 /\ Q (ptsD rows n.toNat m.toNat)
theorem ptsP.mono:∀ ws (Q Q':PyData -> Prop),(∀ d,Q d -> Q' d) -> ptsP ws Q -> ptsP ws Q':=fun _ _ _ h ⟨b,p,n,e,x,y,z,u,v,q⟩=>⟨b,p,n,e,x,y,z,u,v,h _ q⟩
theorem ptsP.len:∀ ws (Q:PyData -> Prop),ptsP ws Q -> ws.length = 3:=fun _ _ ⟨_,_,_,e,_⟩=>by subst e; rfl
def unI:PyData -> Int
  | .int i=>i
  | _=>0
end L2.VL
namespace L2.VL
open PySem PySem.Spec PyProof.Rows
end L2.VL

namespace L2.VL
open PySem PySem.Spec PyProof.Rows
def NTup (K:W.Frag) (F:Hp) (v:V) (ds:List PyData):Prop:=∃ a vs,v = .ref a /\ F a = some (.tup vs) /\ Reps K F vs ds
def vspT (K:W.Frag) (rl:RlT) (P:List W -> (List PyData -> Prop) -> Prop):Sp:=fun vs H Q _=>∃ F ws,Same F H /\ RAt rl F H /\ RelWs K rl F H vs ws /\ ws.all argOk = true /\ P ws fun xs=>∀ v F' H',Grow rl F H F' H' -> NTup K F' v xs -> Q v H'
def tEnds (Q:List PyData -> Prop):VEnds:=⟨fun _=>False,fun w=>∃ xs,w = .nt xs /\ Q xs,fun _=>False,fun _=>False⟩
structure DfnT (P:Program) (w:World) (K:W.Frag) (mg:Str -> Option Value) (base:Heap) (rl:RlT) (x:Str) (ps:List Str) (k:Nat) (Pd:List W -> (List PyData -> Prop) -> Prop):Prop where
  mono:∀ ws Q Q',(∀ d,Q d -> Q' d) -> Pd ws Q -> Pd ws Q'
  ex:∃ f fd,mg x = some (.ref f) /\ W.keepIn K (.ref f) = true /\ Binds K fd ps [] /\ FnOk P w K mg base CX0 k f fd ps (vspT K rl Pd)
section
variable {P:Program} {w:World} {K:W.Frag} {mg:Str -> Option Value} {base:Heap} {rl:RlT} {x:Str} {st:Stmt} {N ps:List Str} {k:Nat} {Pd:List W -> (List PyData -> Prop) -> Prop} {t:TSv}
theorem DfnT.of (Fn:FnIn K mg x st ps) (S:FnScope N ps (defScope st)) (mono:∀ ws Q Q',(∀ d,Q d -> Q' d) -> Pd ws Q -> Pd ws Q') (len:∀ ws Q,Pd ws Q -> ws.length = ps.length)
    (hbody:∀ {f:Addr} (cdv:Value) (A:Around) (outer:List Env) (s:Shared) (H:Hp) (E:XK),Room k (A.deeper (envOfC x (defScope st) s.heap.objs.size f cdv)) ->
      PSsV (cxOf CX0 P w K mg base N x (defScope st) f cdv A outer s H E).nox rl (defBody st) t)
    (hread:∀ ws Q,Pd ws Q -> t (tEnds Q) (startV N ws)):DfnT P w K mg base rl x ps (k + 1) Pd:=by
  obtain ⟨f,fd,hm,F,hb⟩:=Fn.ex
  refine ⟨mono,f,fd,hm,F.kp,hb,?_⟩
  refine F.ok S (fun vs H Q E ⟨F,ws,_,_,r,_,q⟩=>(Paired.length r).trans (len ws _ q)) fun cdv A outer s H vs Q E hr h=>?_
  obtain ⟨F,ws,sm,ra,r,ok,q⟩:=h
  obtain ⟨T,p,kk⟩:=hbody cdv A outer s H E hr
  refine ⟨T,p,kk (vr_start sm ra r ok) (tEnds _) _ ⟨fun _ _ _ _ _ _ z=>False.elim z,?_,fun _ _ _ _ _ _ z=>False.elim z,fun _ _ _ _ _ _ z=>False.elim z⟩ (hread ws _ q)⟩
  rintro v w1 F1 H1 g1 r1 n1 ⟨xs,rfl,q1⟩
  exact q1 v F1 H1 g1 r1
end
section
variable {X:Cx} {rl:RlT} {a b c e:Expr} {es:List Expr} {fa fb fc:TV} {fs:TVs} {pos p p2 px apos cpos:Pos}
theorem KD.any {K:W.Frag} {F:Hp} {us:List (List Key × V)} {kvs:List (List Key × PyData)} (r:KD K F us kvs) (k:List Key):(us.any fun kv=>decide (kv.1 = k)) = kvs.any fun kv=>decide (kv.1 = k):=by
  induction r with
  | nil=>rfl
  | cons h t ih=>rw [List.any_cons,List.any_cons,ih,h.1]
theorem KD.snoc {K:W.Frag} {F:Hp} {us:List (List Key × V)} {kvs:List (List Key × PyData)} (r:KD K F us kvs) (k:List Key) {v:V} {d:PyData} (rv:Rep K F v d):KD K F (us ++ [(k,v)]) (kvs ++ [(k,d)]):=by
  induction r with
  | nil=>exact .cons ⟨rfl,rv⟩ .nil
  | cons h t ih=>exact .cons h ih
end
end L2.VL

namespace L2.IX
open PySem PySem.Spec PyProof.Rows
section
variable {prog:Program} {w:World} {A:Around} {E:Value -> Shared -> Prop} {s:Shared}
end
end L2.IX
namespace L2
open PySem PySem.Spec PyProof.Rows
section
variable {X:Cx}
end
end L2
namespace L2.VL
open PySem PySem.Spec PyProof.Rows
section
variable {X:Cx} {rl:RlT} {a b c e:Expr} {es:List Expr} {fa fb fc:TV} {fs:TVs} {pos p p2 px apos cpos:Pos}
def isNonD:PyData -> Bool
  | .none=>true
  | _=>false
end
end L2.VL

namespace L2.ZP
open PySem PySem.Spec PyProof.Rows
section
variable {prog:Program} {w:World} {A:Around} {E:Value -> Shared -> Prop} {s:Shared} {it a:Addr} {k:Nat} {xs:Array Value} {v:Value}
theorem tn_item {Q:Value -> Shared -> Prop} (st:s.heap.IsTupleIter it a k) (tu:s.heap.IsTuple a xs) (e:xs[k]? = some v)
    (q:∀ g,g.IsTupleIter it a (k + 1) -> Heap.SameBut it s.heap g -> Q v { s with heap:=g }):wpAny (model prog w) A (Builtin.SmallTypes.nextOf (.ref it)) Q E s:=by
  have ty:=st.typeIs
  obtain ⟨o,oe,oc,od⟩:=st
  obtain ⟨l,le,_,_,ld⟩:=tu
  unfold Builtin.SmallTypes.nextOf
  have sl:=F.slot_tuple_iterator_next
  refine wpAny_bind (wpAny_callSpecial?_slot (name:=Str.ofString "__next__") ty sl (wpAny_call_entry sl ty F.entry_tuple_iterator_next ?_ (F.args_tuple_iterator_next_1 _)))
  show wpAny _ _ (do let z <- field (.ref it) 0; _) _ _ s
  refine wpAny_bind (wpAny_field oe od (x:=.ref a) rfl ?_)
  show wpAny _ _ (ite ((Value.ref a == Value.none) = true) _ _) _ _ s
  rw [if_neg (show ¬ (Value.ref a == .none) = true by intro z; cases z)]
  show wpAny _ _ (do let z <- field (.ref it) 1; _) _ _ s
  refine wpAny_bind (wpAny_field oe od (x:=.int k 0) rfl ?_)
  show wpAny _ _ (do let z <- seqItems? (.ref a); _) _ _ s
  refine wpAny_bind (wpAny_seqItems le ld ?_)
  simp only [Int.toNat_natCast,e]
  refine wpAny_bind (wpAny_setField oe od (by simp) (wpAny_pure ⟨v,rfl,wpAny_pure (q _ ?_ (Heap.SameBut.update ..))⟩))
  refine ⟨_,Heap.get?_update_self _ oe (Obj.isFreed_of_fields (Obj.data_mapFields od _)),?_,?_⟩
  · exact (Obj.cls_mapFields ..).trans oc
  · rw [Obj.data_mapFields od]; simp [rawInt]
theorem tn_end {Q:Value -> Shared -> Prop} (hd:A.handled = none) (st:s.heap.IsTupleIter it a k) (tu:s.heap.IsTuple a xs) (e:xs[k]? = none)
    (q:∀ g x,Heap.ExtBut it s.heap g -> (∃ o,g.get? x = some o /\ o.cls = .type "StopIteration") -> E (.ref x) { s with heap:=g }):wpAny (model prog w) A (Builtin.SmallTypes.nextOf (.ref it)) Q E s:=by
  have ty:=st.typeIs
  obtain ⟨o,oe,oc,od⟩:=st
  obtain ⟨l,le,_,_,ld⟩:=tu
  unfold Builtin.SmallTypes.nextOf
  have sl:=F.slot_tuple_iterator_next
  refine wpAny_bind (wpAny_callSpecial?_slot (name:=Str.ofString "__next__") ty sl (wpAny_call_entry sl ty F.entry_tuple_iterator_next ?_ (F.args_tuple_iterator_next_1 _)))
  show wpAny _ _ (do let z <- field (.ref it) 0; _) _ _ s
  refine wpAny_bind (wpAny_field oe od (x:=.ref a) rfl ?_)
  show wpAny _ _ (ite ((Value.ref a == Value.none) = true) _ _) _ _ s
  rw [if_neg (show ¬ (Value.ref a == .none) = true by intro z; cases z)]
  show wpAny _ _ (do let z <- field (.ref it) 1; _) _ _ s
  refine wpAny_bind (wpAny_field oe od (x:=.int k 0) rfl ?_)
  show wpAny _ _ (do let z <- seqItems? (.ref a); _) _ _ s
  refine wpAny_bind (wpAny_seqItems le ld ?_)
  simp only [Int.toNat_natCast,e]
  refine wpAny_bind (wpAny_rule (wpAny_bind (wpAny_setField oe od (by simp) ?_)))
  show wpAny _ _ (do let z <- newExc (.type "StopIteration") []; _) _ _ _
  refine wpAny_bind ?_
  simp only [newExc,newTuple]
  refine wpAny_bind (wpAny_newObj_type ?_ (by size_fits))
  refine wpAny_bind (m:=firstArgMember _ _) (wpAny_of_eq (a:=.none) (by first | rfl | (simp only [firstArgMember]; rfl)) (wpAny_newObj_type ?_ (by size_fits)))
  simp only [raiseNew]
  refine wpAny_bind (wpAny_handled ?_)
  first
    | rw [show A.in1.handled = none from hd]
    | rw [hd]
  refine wpAny_bind (wpAny_pure (wpAny_throw ?_))
  exact q _ _ (((Heap.SameBut.update ..).extBut.push _).push _) ⟨_,Heap.get?_push_size _ rfl,rfl⟩
end
def It1 (h:Heap) (it a:Addr) (xs:Array Value) (k:Nat):Prop:=(h.IsListIter it a k /\ h.IsList a xs) \/ (h.IsTupleIter it a k /\ h.IsTuple a xs)
section
variable {prog:Program} {w:World} {A:Around} {E:Value -> Shared -> Prop} {s:Shared} {it a:Addr} {k:Nat} {xs:Array Value} {v:Value}
theorem It1.item {Q:Value -> Shared -> Prop} (st:It1 s.heap it a xs k) (ne:a ≠ it) (e:xs[k]? = some v)
    (q:∀ g,It1 g it a xs (k + 1) -> Heap.SameBut it s.heap g -> Q v { s with heap:=g }):wpAny (model prog w) A (Builtin.SmallTypes.nextOf (.ref it)) Q E s:=by
  rcases st with ⟨h1,h2⟩ | ⟨h1,h2⟩
  · exact wpAny_nextOf_list_item h1 h2 e fun g h3 h4=>q g (.inl ⟨h3,h2.extBut h4.extBut ne⟩) h4
  · exact tn_item h1 h2 e fun g h3 h4=>q g (.inr ⟨h3,h2.extBut h4.extBut ne⟩) h4
theorem It1.fin {Q:Value -> Shared -> Prop} (hd:A.handled = none) (st:It1 s.heap it a xs k) (e:xs[k]? = none)
    (q:∀ g x,Heap.ExtBut it s.heap g -> (∃ o,g.get? x = some o /\ o.cls = .type "StopIteration") -> E (.ref x) { s with heap:=g }):wpAny (model prog w) A (Builtin.SmallTypes.nextOf (.ref it)) Q E s:=by
  rcases st with ⟨h1,h2⟩ | ⟨h1,h2⟩
  · exact wpAny_nextOf_list_end hd h1 h2 e q
  · exact tn_end hd h1 h2 e q
theorem It1.keep {h h':Heap} (st:It1 h it a xs k) (e1:∀ o,h.get? it = some o -> h'.get? it = some o) (e2:∀ o,h.get? a = some o -> h'.get? a = some o):It1 h' it a xs k:=by
  rcases st with ⟨⟨o,h1,r1⟩,⟨p,h2,r2⟩⟩ | ⟨⟨o,h1,r1⟩,⟨p,h2,r2⟩⟩
  · exact .inl ⟨⟨o,e1 _ h1,r1⟩,⟨p,e2 _ h2,r2⟩⟩
  · exact .inr ⟨⟨o,e1 _ h1,r1⟩,⟨p,e2 _ h2,r2⟩⟩
theorem It1.lt {h:Heap} (st:It1 h it a xs k):it < h.objs.size /\ a < h.objs.size:=by
  rcases st with ⟨⟨o,h1,_⟩,⟨p,h2,_⟩⟩ | ⟨⟨o,h1,_⟩,⟨p,h2,_⟩⟩ <;> exact ⟨Heap.lt_size h1,Heap.lt_size h2⟩
end
end L2.ZP
namespace L2.ZP
open PySem PySem.Spec PyProof.Rows
section
variable {prog:Program} {w:World} {A:Around} {E:Value -> Shared -> Prop} {s:Shared} {z ti to i1 i2 a1 a2:Addr} {k1 k2:Nat} {xs ys:Array Value} {x y p q:Value}
theorem SameBut.keep {a b:Addr} {h h':Heap} (sb:Heap.SameBut a h h') (ne:b ≠ a):∀ o,h.get? b = some o -> h'.get? b = some o:=fun o e=>sb.extBut _ _ ne e
theorem zn_item {Q:Value -> Shared -> Prop} (D:ZipApart z ti to i1 i2 a1 a2) (oz:IsZip s.heap z ti to .none) (oi:IsPair s.heap ti (.ref i1) (.ref i2)) (oo:IsPair s.heap to p q)
    (s1:It1 s.heap i1 a1 xs k1) (s2:It1 s.heap i2 a2 ys k2) (ex:xs[k1]? = some x) (ey:ys[k2]? = some y)
    (done:∀ g,IsZip g z ti to (rawInt s.heap.objs.size) -> IsPair g to x y -> It1 g i1 a1 xs (k1 + 1) -> It1 g i2 a2 ys (k2 + 1) -> IsPair g s.heap.objs.size x y -> g.objs.size = s.heap.objs.size + 1 ->
      (∀ b o,b ≠ z -> b ≠ to -> b ≠ i1 -> b ≠ i2 -> s.heap.get? b = some o -> g.get? b = some o) -> Q (.ref s.heap.objs.size) { s with heap:=g }) :
    wpAny (model prog w) A (Builtin.«zip.__next__» ⟨[.ref z],[]⟩) (fun r s'=>∃ u,r = .done (.ret u) /\ Q u s') E s:=by
  show wpAny _ _ (do let c <- field (.ref z) 2; _) _ _ _
  refine wpAny_bind (wpAny_field oz rfl (x:=.bool false) rfl ?_)
  show wpAny _ _ (do let c <- field (.ref z) 3; _) _ _ _
  refine wpAny_bind (wpAny_field oz rfl (x:=.ref ti) rfl ?_)
  refine wpAny_bind (wpAny_seqItems oi rfl ?_)
  show wpAny _ _ (do let c <- Builtin.SmallTypes.ownedTupleIsFree (.ref z); _) _ _ _
  refine wpAny_bind ?_
  unfold Builtin.SmallTypes.ownedTupleIsFree
  refine wpAny_bind (wpAny_field oz rfl (x:=Value.none) rfl (wpAny_pure ?_))
  simp only [if_true]
  refine wpAny_bind (wpAny_rule (wpAny_bind (wpAny_field oz rfl (x:=.ref to) rfl (wpAny_bind (wpAny_setField_rec oz (by simp) fun g1 z1 b1=>?_)))))
  have z1:IsZip g1 z ti to .ellipsis:=z1
  refine wpAny_bind ?_
  simp only [List.forIn_cons,List.forIn_nil,List.zipIdx_cons,List.zipIdx_nil]
  have s1a:It1 g1 i1 a1 xs k1:=s1.keep (SameBut.keep b1 D.i1z) (SameBut.keep b1 D.l1z)
  refine wpAny_bind (wpAny_bind (wpAny_onRaise ?_))
  show wpAny _ _ (do let c <- Builtin.SmallTypes.nextOf (.ref i1); _) _ _ _
  refine wpAny_bind (s1a.item D.l1i1 ex fun g2 s1b b2=>wpAny_pure ?_)
  have o2:IsPair g2 to p q:=b2.extBut _ _ D.TOi1 (b1.extBut _ _ D.TOz oo)
  refine wpAny_bind (wpAny_seqItems o2 rfl (wpAny_bind (wpAny_updateSeq_pair o2 fun g3 o3 b3=>?_)))
  have o3:IsPair g3 to x q:=o3
  refine wpAny_bind (wpAny_letGo (wpAny_pure ?_))
  have s2a:It1 g3 i2 a2 ys k2:=((s2.keep (SameBut.keep b1 D.i2z) (SameBut.keep b1 D.l2z)).keep (SameBut.keep b2 D.i12.symm) (SameBut.keep b2 D.l2i1)).keep (SameBut.keep b3 D.TOi2.symm) (SameBut.keep b3 D.l2TO)
  refine wpAny_bind (wpAny_bind (wpAny_onRaise ?_))
  show wpAny _ _ (do let c <- Builtin.SmallTypes.nextOf (.ref i2); _) _ _ _
  refine wpAny_bind (s2a.item D.l2i2 ey fun g4 s2b b4=>wpAny_pure ?_)
  have o4:IsPair g4 to x q:=b4.extBut _ _ D.TOi2 o3
  refine wpAny_bind (wpAny_seqItems o4 rfl (wpAny_bind (wpAny_updateSeq_pair o4 fun g5 o5 b5=>?_)))
  have o5:IsPair g5 to x y:=o5
  refine wpAny_bind (wpAny_letGo (wpAny_pure (wpAny_pure ?_)))
  refine wpAny_bind (wpAny_seqItems o5 rfl (wpAny_bind (wpAny_newTuple ?_)))
  have size:g5.objs.size = s.heap.objs.size:=by rw [b5.1,b4.1,b3.1,b2.1,b1.1]
  have z5:IsZip g5 z ti to .ellipsis:=b5.extBut _ _ D.TOz.symm (b4.extBut _ _ D.i2z.symm (b3.extBut _ _ D.TOz.symm (b2.extBut _ _ D.i1z.symm z1)))
  have kp:∀ b o,b ≠ z -> b ≠ to -> b ≠ i1 -> b ≠ i2 -> s.heap.get? b = some o -> g5.get? b = some o:=fun b o n1 n2 n3 n4 e=>b5.extBut _ _ n2 (b4.extBut _ _ n4 (b3.extBut _ _ n2 (b2.extBut _ _ n3 (b1.extBut _ _ n1 e))))
  have s1c:It1 g5 i1 a1 xs (k1 + 1):=((s1b.keep (SameBut.keep b3 D.TOi1.symm) (SameBut.keep b3 D.l1TO)).keep (SameBut.keep b4 D.i12) (SameBut.keep b4 D.l1i2)).keep (SameBut.keep b5 D.TOi1.symm) (SameBut.keep b5 D.l1TO)
  have s2c:It1 g5 i2 a2 ys (k2 + 1):=s2b.keep (SameBut.keep b5 D.TOi2.symm) (SameBut.keep b5 D.l2TO)
  have zl:z < g5.objs.size:=Heap.lt_size z5
  show wpAny _ _ (do Builtin.SmallTypes.ownedTupleHandOut (.ref z) (.ref g5.objs.size); _) _ _ _
  refine wpAny_bind ?_
  unfold Builtin.SmallTypes.ownedTupleHandOut
  have z6:IsZip (g5.push { cls:=.type "tuple", data:=.seq #[x,y] }) z ti to .ellipsis:=Heap.get?_push_of_some _ z5
  refine wpAny_bind (wpAny_setField_rec z6 (by simp) fun g7 z7 b7=>?_)
  have z7:IsZip g7 z ti to (rawInt g5.objs.size):=z7
  refine wpAny_setField_rec z7 (by simp) fun g8 z8 b8=>?_
  have z8:IsZip g8 z ti to (rawInt g5.objs.size):=z8
  have up:∀ b o,b ≠ z -> g5.get? b = some o -> g8.get? b = some o:=fun b o n e=>b8.extBut _ _ n (b7.extBut _ _ n (Heap.get?_push_of_some _ e))
  have t8:IsPair g8 g5.objs.size x y:=b8.extBut _ _ (Nat.ne_of_gt zl) (b7.extBut _ _ (Nat.ne_of_gt zl) (Heap.get?_push_size _ rfl))
  have l8:g8.objs.size = g5.objs.size + 1:=by rw [b8.1,b7.1,Heap.size_push]
  rw [size] at z8 t8 l8
  refine wpAny_pure ⟨_,rfl,?_⟩
  show Q (.ref g5.objs.size) _
  rw [size]
  exact done g8 z8 (up _ _ D.TOz o5) (s1c.keep (fun o e=>up _ o D.i1z e) fun o e=>up _ o D.l1z e) (s2c.keep (fun o e=>up _ o D.i2z e) fun o e=>up _ o D.l2z e) t8 l8 fun b o n1 n2 n3 n4 e=>up b o n1 (kp b o n1 n2 n3 n4 e)
theorem zn_end {Q:Fin -> Shared -> Prop} (hd:A.handled = none) (D:ZipApart z ti to i1 i2 a1 a2) (oz:IsZip s.heap z ti to .none) (oi:IsPair s.heap ti (.ref i1) (.ref i2)) (oo:IsPair s.heap to p q)
    (s1:It1 s.heap i1 a1 xs k1) (s2:It1 s.heap i2 a2 ys k2) (e:xs[k1]? = none \/ ys[k2]? = none)
    (q':∀ g x,(∀ b o,b ≠ z -> b ≠ to -> b ≠ i1 -> b ≠ i2 -> s.heap.get? b = some o -> g.get? b = some o) -> (∃ o,g.get? x = some o /\ o.cls = .type "StopIteration") -> E (.ref x) { s with heap:=g }) :
    wpAny (model prog w) A (Builtin.«zip.__next__» ⟨[.ref z],[]⟩) Q E s:=by
  show wpAny _ _ (do let c <- field (.ref z) 2; _) _ _ _
  refine wpAny_bind (wpAny_field oz rfl (x:=.bool false) rfl ?_)
  show wpAny _ _ (do let c <- field (.ref z) 3; _) _ _ _
  refine wpAny_bind (wpAny_field oz rfl (x:=.ref ti) rfl ?_)
  refine wpAny_bind (wpAny_seqItems oi rfl ?_)
  show wpAny _ _ (do let c <- Builtin.SmallTypes.ownedTupleIsFree (.ref z); _) _ _ _
  refine wpAny_bind ?_
  unfold Builtin.SmallTypes.ownedTupleIsFree
  refine wpAny_bind (wpAny_field oz rfl (x:=Value.none) rfl (wpAny_pure ?_))
  simp only [if_true]
  refine wpAny_bind (wpAny_rule (wpAny_bind (wpAny_field oz rfl (x:=.ref to) rfl (wpAny_bind (wpAny_setField_rec oz (by simp) fun g1 z1 b1=>?_)))))
  have z1:IsZip g1 z ti to .ellipsis:=z1
  refine wpAny_bind ?_
  simp only [List.forIn_cons,List.forIn_nil,List.zipIdx_cons,List.zipIdx_nil]
  have s1a:It1 g1 i1 a1 xs k1:=s1.keep (SameBut.keep b1 D.i1z) (SameBut.keep b1 D.l1z)
  refine wpAny_bind (wpAny_bind (wpAny_onRaise ?_))
  show wpAny _ _ (do let c <- Builtin.SmallTypes.nextOf (.ref i1); _) _ _ _
  have last:∀ (g g':Heap) (u:Addr) (o:Obj),g.get? u = some o -> o.cls = .type "StopIteration" -> IsZip g z ti to .ellipsis -> Heap.SameBut z g g' -> ∃ o,g'.get? u = some o /\ o.cls = .type "StopIteration" := fun g g' u o h1 h2 h3 sb=>by
    have ne:u ≠ z:=fun c=>by rw [c,h3] at h1; cases h1; simp at h2
    exact ⟨o,sb.extBut _ _ ne h1,h2⟩
  cases ex:xs[k1]? with
  | none =>
    refine wpAny_bind (s1a.fin hd ex fun g2 u b2 ⟨o,ou,oc⟩=>?_)
    have z2:IsZip g2 z ti to .ellipsis:=b2 _ _ D.i1z.symm z1
    exact wpAny_setField_rec z2 (by simp) fun g3 _ b3=>q' g3 u (fun b o n1 _ n3 _ e=>b3.extBut _ _ n1 (b2 _ _ n3 (b1.extBut _ _ n1 e))) (last g2 g3 u o ou oc z2 b3)
  | some x =>
    have ey:ys[k2]? = none:=e.elim (fun h=>by rw [ex] at h; cases h) id
    refine wpAny_bind (s1a.item D.l1i1 ex fun g2 s1b b2=>wpAny_pure ?_)
    have o2:IsPair g2 to p q:=b2.extBut _ _ D.TOi1 (b1.extBut _ _ D.TOz oo)
    refine wpAny_bind (wpAny_seqItems o2 rfl (wpAny_bind (wpAny_updateSeq_pair o2 fun g3 o3 b3=>?_)))
    refine wpAny_bind (wpAny_letGo (wpAny_pure ?_))
    have s2a:It1 g3 i2 a2 ys k2:=((s2.keep (SameBut.keep b1 D.i2z) (SameBut.keep b1 D.l2z)).keep (SameBut.keep b2 D.i12.symm) (SameBut.keep b2 D.l2i1)).keep (SameBut.keep b3 D.TOi2.symm) (SameBut.keep b3 D.l2TO)
    refine wpAny_bind (wpAny_bind (wpAny_onRaise ?_))
    show wpAny _ _ (do let c <- Builtin.SmallTypes.nextOf (.ref i2); _) _ _ _
    refine wpAny_bind (s2a.fin hd ey fun g4 u b4 ⟨o,ou,oc⟩=>?_)
    have z4:IsZip g4 z ti to .ellipsis:=b4 _ _ D.i2z.symm (b3.extBut _ _ D.TOz.symm (b2.extBut _ _ D.i1z.symm z1))
    exact wpAny_setField_rec z4 (by simp) fun g5 _ b5=>q' g5 u (fun b o n1 n2 n3 n4 e=>b5.extBut _ _ n1 (b4 _ _ n4 (b3.extBut _ _ n2 (b2.extBut _ _ n3 (b1.extBut _ _ n1 e))))) (last g4 g5 u o ou oc z4 b5)
end
end L2.ZP
namespace L2.ZP
open PySem PySem.Spec PyProof.Rows
def Sq1 (b:Bool) (h:Heap) (a:Addr) (xs:Array Value):Prop:=bif b then h.IsTuple a xs else h.IsList a xs
def itc (b:Bool):String:=bif b then "tuple_iterator" else "list_iterator"
theorem Sq1.push {b:Bool} {h:Heap} {a:Addr} {xs:Array Value} (q:Sq1 b h a xs) (o:Obj):Sq1 b (h.push o) a xs:=by
  cases b with
  | true=>exact Heap.IsTuple.push q o
  | false=>exact Heap.IsList.push q o
section
variable {prog:Program} {w:World} {A:Around} {E:Value -> Shared -> Prop} {s:Shared} {b b1 b2:Bool} {a a1 a2:Addr} {xs ys:Array Value}
theorem iter1 {Q:Value -> Shared -> Prop} (st:Sq1 b s.heap a xs) (q:Q (.ref s.heap.objs.size) { s with heap:=s.heap.push { cls:=.type (itc b),data:=.fields #[.ref a,.int 0 0] } }):wpAny (model prog w) A (pyIter (.ref a)) Q E s:=by
  cases b with
  | true=>exact wpAny_pyIter_tuple st q
  | false=>exact wpAny_pyIter_list st q
abbrev y1 (h:Heap) (b1:Bool) (a1:Addr):Heap:=h.push { cls:=.type (itc b1),data:=.fields #[.ref a1,.int 0 0] }
abbrev y2 (h:Heap) (b1 b2:Bool) (a1 a2:Addr):Heap:=(y1 h b1 a1).push { cls:=.type (itc b2),data:=.fields #[.ref a2,.int 0 0] }
abbrev y3 (h:Heap) (b1 b2:Bool) (a1 a2:Addr):Heap:=(y2 h b1 b2 a1 a2).push { cls:=.type "tuple", data:=.seq #[.ref h.objs.size,.ref (y1 h b1 a1).objs.size] }
abbrev y4 (h:Heap) (b1 b2:Bool) (a1 a2:Addr):Heap:=(y3 h b1 b2 a1 a2).push { cls:=.type "tuple", data:=.seq #[.none,.none] }
abbrev y5 (h:Heap) (b1 b2:Bool) (a1 a2:Addr):Heap:=(y4 h b1 b2 a1 a2).push { cls:=.type "zip", data:=.fields #[.none,.bool false,.bool false,.ref (y2 h b1 b2 a1 a2).objs.size,.ref (y3 h b1 b2 a1 a2).objs.size] }
theorem zip_new (b1 b2:Bool) (a1 a2:Addr) (xs ys:Array Value) :
    Meets (Builtin.«zip.__new__» ⟨[.type "zip", .ref a1,.ref a2],[]⟩) (fun _ R s=>Sq1 b1 s.heap a1 xs /\ Sq1 b2 s.heap a2 ys /\ R (.ok (.ret (.ref (y4 s.heap b1 b2 a1 a2).objs.size))) { s with heap:=y5 s.heap b1 b2 a1 a2 }) :=
  .of_wp fun prog w A R s h=>by
    obtain ⟨hp,g,d,tk,os⟩:=s
    obtain ⟨q1,q2,h⟩:=h
    have hsub:=sub_zip
    have k1:Sq1 b1 (Shared.heap ⟨hp,g,d,tk,os⟩) a1 xs:=q1
    have k2:Sq1 b2 (Shared.heap ⟨hp.push { cls:=.type (itc b1),data:=.fields #[.ref a1,.int 0 0] },g,d,tk,os⟩) a2 ys:=q2.push _
    wp_walk using iter1 k1,iter1 k2
    exact ⟨_,rfl,h⟩
theorem call_zip {Q:Value -> Shared -> Prop} (q1:Sq1 b1 s.heap a1 xs) (q2:Sq1 b2 s.heap a2 ys)
    (k:∀ g,IsZip g (s.heap.objs.size + 4) (s.heap.objs.size + 2) (s.heap.objs.size + 3) .none -> IsPair g (s.heap.objs.size + 2) (.ref s.heap.objs.size) (.ref (s.heap.objs.size + 1)) -> IsPair g (s.heap.objs.size + 3) .none .none ->
      It1 g s.heap.objs.size a1 xs 0 -> It1 g (s.heap.objs.size + 1) a2 ys 0 -> g.objs.size = s.heap.objs.size + 5 -> (∀ c o,s.heap.get? c = some o -> g.get? c = some o) -> Q (.ref (s.heap.objs.size + 4)) { s with heap:=g }) :
    wpAny (model prog w) A (call (.type "zip") [.ref a1,.ref a2]) Q E s:=by
  refine callType_new F.called_zip (by decide) (F.typeCall_zip_2 _ _) (F.newCall_zip_2 _ _) (fun u=>F.args_object_init_3 u _ _) F.entry_zip_new (zip_new b1 b2 a1 a2 xs ys) ⟨q1,q2,?_⟩
  have n1:(y1 s.heap b1 a1).objs.size = s.heap.objs.size + 1:=Heap.size_push ..
  have n2:(y2 s.heap b1 b2 a1 a2).objs.size = s.heap.objs.size + 2:=by rw [Heap.size_push,n1]
  have n3:(y3 s.heap b1 b2 a1 a2).objs.size = s.heap.objs.size + 3:=by rw [Heap.size_push,n2]
  have n4:(y4 s.heap b1 b2 a1 a2).objs.size = s.heap.objs.size + 4:=by rw [Heap.size_push,n3]
  have n5:(y5 s.heap b1 b2 a1 a2).objs.size = s.heap.objs.size + 5:=by rw [Heap.size_push,n4]
  have pu:∀ {h:Heap} {o u:Obj} {c:Addr},h.get? c = some u -> (h.push o).get? c = some u:=fun e=>Heap.get?_push_of_some _ e
  have kp:∀ c o,s.heap.get? c = some o -> (y5 s.heap b1 b2 a1 a2).get? c = some o:=fun c o e=>pu (pu (pu (pu (pu e))))
  have f5:(y5 s.heap b1 b2 a1 a2).get? (y4 s.heap b1 b2 a1 a2).objs.size = some _:=Heap.get?_push_size _ rfl
  have f4:(y5 s.heap b1 b2 a1 a2).get? (y3 s.heap b1 b2 a1 a2).objs.size = some _:=pu (Heap.get?_push_size _ rfl)
  have f3:(y5 s.heap b1 b2 a1 a2).get? (y2 s.heap b1 b2 a1 a2).objs.size = some _:=pu (pu (Heap.get?_push_size _ rfl))
  have f2:(y5 s.heap b1 b2 a1 a2).get? (y1 s.heap b1 a1).objs.size = some _:=pu (pu (pu (Heap.get?_push_size _ rfl)))
  have f1:(y5 s.heap b1 b2 a1 a2).get? s.heap.objs.size = some _:=pu (pu (pu (pu (Heap.get?_push_size _ rfl))))
  show _ /\ _
  rw [n2,n3,n4] at f5
  rw [n1,n2] at f3
  rw [n3] at f4
  rw [n1] at f2
  rw [n4]
  have mk:∀ {b:Bool} {i a:Addr} {zs:Array Value},(y5 s.heap b1 b2 a1 a2).get? i = some { cls:=.type (itc b),data:=.fields #[.ref a,.int 0 0] } -> Sq1 b s.heap a zs -> It1 (y5 s.heap b1 b2 a1 a2) i a zs 0:=fun {b i a zs} e q=>by
    cases b with
    | true=>obtain ⟨o,h1,h2⟩:=(show s.heap.IsTuple a zs from q); exact .inr ⟨⟨_,e,rfl,rfl⟩,⟨o,kp _ _ h1,h2⟩⟩
    | false=>obtain ⟨o,h1,h2⟩:=(show s.heap.IsList a zs from q); exact .inl ⟨⟨_,e,rfl,rfl⟩,⟨o,kp _ _ h1,h2⟩⟩
  exact ⟨⟨_,f5,rfl⟩,k _ f5 f3 f4 (mk f1 q1) (mk f2 q2) n5 kp⟩
end
end L2.ZP
namespace L2
open PySem PySem.Spec PyProof.Rows L2.ZP
theorem Inv.turnedL {X:Cx} {pins:List (Addr × Obj)} {σ:St} {H:Hp} {s:Shared} {h':Heap} {t':Nat} {ch:List Addr} (I:Inv X pins σ H s) (k:∀ b o,b ∉ ch -> s.heap.get? b = some o -> h'.get? b = some o) (hn:∀ b ∈ ch,FpOk X pins H b) :
    Inv X pins σ H { s with heap:=h',toks:=t' }:=by
  have nit:∀ b u,H b = some u -> b ∉ ch:=fun b u e z=>by rw [(hn b z).1] at e; cases e
  refine I.step (g':=s.gens) (d':=s.drawn) (ch:=ch) (fun b hb=>?_) (fun b o _ _ hc e _=>k b o hc e) (fun b o _ _ hc e _=>⟨o.slots,k b o hc e⟩) (fun _ _ _ _ n=>n) (fun b o hc e=>⟨o,k b o hc e⟩) (fun _ _ e=>e) (fun _ _ _ e=>e) (fun b ps e=>⟨#[],by rw [e]; simp⟩) (fun m hm=>?_) (fun b u e=>?_) I.bare
  · obtain ⟨_,h2,_,h4,h5,h6⟩:=hn b hb
    exact ⟨h4,h2,h5,h6⟩
  · obtain ⟨o,es,ep,ho,r⟩:=hm
    exact ⟨o,es,ep,k _ o (fun z=>(hn _ z).2.1 rfl) ho,r⟩
  · refine (I.hok b u e).stay (fun c v hc q=>k c v ?_ q) (fun _ q=>q) fun _ _ q=>q
    rcases hc with z | z
    · rw [z]; exact nit b u e
    · exact nit c _ z
def SqB (b:Bool) (K:W.Frag) (H:Hp) (a:Addr) (xs:List V):Prop:=bif b then SqT K H a xs else SqL K H a xs
theorem Inv.sqB {X:Cx} {pins:List (Addr × Obj)} {σ:St} {H:Hp} {s:Shared} {b:Bool} {a:Addr} {xs:List V} (I:Inv X pins σ H s) (h:SqB b X.K H a xs):∃ its,Vals xs its /\ Sq1 b s.heap a its.toArray:=by
  cases b with
  | true =>
    obtain ⟨its,r,t,z⟩:=I.tuple h
    exact ⟨its,r,t⟩
  | false =>
    obtain ⟨its,r,p,z⟩:=I.list h
    exact ⟨its,r,p.isList⟩
theorem Inv.sqB_inj {X:Cx} {pins:List (Addr × Obj)} {σ:St} {H:Hp} {s:Shared} {b:Bool} {a:Addr} {xs ys:List V} (I:Inv X pins σ H s) (h:SqB b X.K H a xs) (h':SqB b X.K H a ys):xs = ys:=by
  cases b with
  | true=>exact I.tuple_inj h h'
  | false=>exact I.list_inj h h'
def Itz (K:W.Frag) (b1 b2:Bool) (a1 a2:Addr):It :=
  ⟨fun i H=>∃ xs ys x y,SqB b1 K H a1 xs /\ SqB b2 K H a2 ys /\ xs[i]? = some x /\ ys[i]? = some y,
   fun i H v H'=>∃ x y p,(∀ xs,SqB b1 K H a1 xs -> xs[i]? = some x) /\ (∀ ys,SqB b2 K H a2 ys -> ys[i]? = some y) /\ H p = none /\ v = .ref p /\ H' = upd H p (.tup [x,y]),
   fun i H=>∃ xs ys,SqB b1 K H a1 xs /\ SqB b2 K H a2 ys /\ (xs.length <= i \/ ys.length <= i)⟩
def Ir1 (b:Bool) (h:Heap) (it a:Addr) (k:Nat):Prop:=bif b then h.IsTupleIter it a k else h.IsListIter it a k
theorem Ir1.it1 {b:Bool} {h:Heap} {it a:Addr} {k:Nat} {xs:Array Value} (q:Ir1 b h it a k) (r:Sq1 b h a xs):It1 h it a xs k:=by
  cases b with
  | true=>exact .inr ⟨q,r⟩
  | false=>exact .inl ⟨q,r⟩
theorem Ir1.keep {b:Bool} {h h':Heap} {it a:Addr} {k:Nat} (q:Ir1 b h it a k) (e:∀ o,h.get? it = some o -> h'.get? it = some o):Ir1 b h' it a k:=by
  cases b with
  | true=>obtain ⟨o,h1,r⟩:=(show h.IsTupleIter it a k from q); exact ⟨o,e _ h1,r⟩
  | false=>obtain ⟨o,h1,r⟩:=(show h.IsListIter it a k from q); exact ⟨o,e _ h1,r⟩
theorem Ir1.obj {b:Bool} {h:Heap} {it a:Addr} {k:Nat} (q:Ir1 b h it a k):∃ o,h.get? it = some o /\ ∀ v,o.data ≠ .cell v:=by
  cases b with
  | true=>obtain ⟨o,h1,_,d⟩:=(show h.IsTupleIter it a k from q); exact ⟨o,h1,fun v z=>by rw [d] at z; cases z⟩
  | false=>obtain ⟨o,h1,_,d⟩:=(show h.IsListIter it a k from q); exact ⟨o,h1,fun v z=>by rw [d] at z; cases z⟩
theorem It1.ir {b:Bool} {h:Heap} {it a:Addr} {k j:Nat} {xs:Array Value} {h0:Heap} (q:It1 h it a xs k) (r:Ir1 b h0 it a j) (s:Sq1 b h a xs):Ir1 b h it a k:=by
  cases b with
  | true =>
    rcases q with ⟨_,⟨o,e,c,_⟩⟩ | ⟨q,_⟩
    · obtain ⟨o',e',c',_⟩:=(show h.IsTuple a xs from s)
      rw [e] at e'; cases e'; rw [c] at c'; injection c' with z; exact absurd z (by decide)
    · exact q
  | false =>
    rcases q with ⟨q,_⟩ | ⟨_,⟨o,e,c,_⟩⟩
    · exact q
    · obtain ⟨o',e',c',_⟩:=(show h.IsList a xs from s)
      rw [e] at e'; cases e'; rw [c] at c'; injection c' with z; exact absurd z (by decide)
def ZS (b1 b2:Bool) (z ti to i1 i2 a1 a2:Addr) (i:Nat) (h:Heap):Prop:=IsZip h z ti to .none /\ IsPair h ti (.ref i1) (.ref i2) /\ (∃ p q,IsPair h to p q) /\ Ir1 b1 h i1 a1 i /\ Ir1 b2 h i2 a2 i
theorem Sq1.of {b:Bool} {h h':Heap} {a:Addr} {xs:Array Value} (q:Sq1 b h a xs) (e:∀ o,h.get? a = some o -> h'.get? a = some o):Sq1 b h' a xs:=by
  cases b with
  | true=>obtain ⟨o,h1,r⟩:=(show h.IsTuple a xs from q); exact ⟨o,e _ h1,r⟩
  | false=>obtain ⟨o,h1,r⟩:=(show h.IsList a xs from q); exact ⟨o,e _ h1,r⟩
theorem turn_zip {P:Program} {w:World} {K:W.Frag} {elts:List Expr} {kt:Nat} {pt:Pos} (b1 b2:Bool) (z ti to i1 i2 a1 a2:Addr) (D:ZipApart z ti to i1 i2 a1 a2) :
    Turn P w K (.Tuple elts kt pt) (Itz K b1 b2 a1 a2) [z,ti,to,i1,i2] z (ZS b1 b2 z ti to i1 i2 a1 a2) where
  mem:=by simp
  obj:=fun i h ⟨h1,h2,⟨p,q,h3⟩,h4,h5⟩ b hb=>by
    simp at hb
    rcases hb with rfl | rfl | rfl | rfl | rfl
    · exact ⟨_,h1,fun v c=>by cases c⟩
    · exact ⟨_,h2,fun v c=>by cases c⟩
    · exact ⟨_,h3,fun v c=>by cases c⟩
    · exact h4.obj
    · exact h5.obj
  keep:=fun i h h' ⟨h1,h2,⟨p,q,h3⟩,h4,h5⟩ k=>⟨k z (by simp) _ h1,k ti (by simp) _ h2,⟨p,q,k to (by simp) _ h3⟩,h4.keep fun o e=>k i1 (by simp) o e,h5.keep fun o e=>k i2 (by simp) o e⟩
  item:=by
    intro X hP hw hK hc i pins s σ H E I hf st hg
    subst hP hw hK
    obtain ⟨h1,h2,⟨p,q,h3⟩,h4,h5⟩:=st
    obtain ⟨xs,ys,x,y,q1,q2,ex,ey⟩:=hg
    obtain ⟨its,r1,t1⟩:=I.sqB q1
    obtain ⟨jts,r2,t2⟩:=I.sqB q2
    obtain ⟨u,hu,ru⟩:=r1.get ex
    obtain ⟨v,hv,rv⟩:=r2.get ey
    have ty:s.TypeIs (.ref z) "zip" := ⟨_,h1,rfl⟩
    unfold pyNext
    refine wpAny_bind (wpAny_attempt (wpAny_callSpecial?_slot (name:=Str.ofString "__next__") ty F.slot_zip_next (wpAny_call_entry F.slot_zip_next ty F.entry_zip_next
      (zn_item D h1 h2 h3 (h4.it1 t1) (h5.it1 t2) (by simpa using hu) (by simpa using hv) fun g e1 e2 e3 e4 e5 e6 e7=>wpAny_pure ?_) (F.args_zip_next_1 _))))
    have hz:s.heap.objs.size ≠ z:=Nat.ne_of_gt (Heap.lt_size h1)
    refine ⟨.ref s.heap.objs.size,rfl,wpAny_letOwnedTupleGo_zip e1 fun g' f1 fb=>?_⟩
    have hp:H s.heap.objs.size = none:=I.hok.fresh (Nat.le_refl _)
    have I1:Inv X pins σ (upd H s.heap.objs.size (.tup [x,y])) { s with heap:=s.heap.push { cls:=.type "tuple", data:=.seq [u,v].toArray } } :=
      I.laid (t':=s.toks) (o:=.tup [x,y]) (fun b ob e=>Heap.get?_push_of_some _ e) (Nat.le_refl _) ⟨(by show 2 <= sizeLine; decide),[u,v],.cons ru (.cons rv .nil),IsTupD.new _ _⟩
    have ne:∀ b ∈ [z,ti,to,i1,i2],b ≠ s.heap.objs.size:=fun b hb e=>by
      simp at hb
      rcases hb with rfl | rfl | rfl | rfl | rfl
      · exact hz e.symm
      · exact absurd (Heap.lt_size h2) (by rw [e]; exact Nat.lt_irrefl _)
      · exact absurd (Heap.lt_size h3) (by rw [e]; exact Nat.lt_irrefl _)
      · obtain ⟨o,ho,_⟩:=h4.obj
        exact absurd (Heap.lt_size ho) (by rw [e]; exact Nat.lt_irrefl _)
      · obtain ⟨o,ho,_⟩:=h5.obj
        exact absurd (Heap.lt_size ho) (by rw [e]; exact Nat.lt_irrefl _)
    have kg:∀ b o,b ∉ [z,ti,to,i1,i2] -> (s.heap.push { cls:=.type "tuple", data:=.seq [u,v].toArray }).get? b = some o -> g'.get? b = some o:=fun b o hb e=>by
      simp at hb
      obtain ⟨n1,n2,n3,n4,n5⟩:=hb
      refine fb.extBut _ _ n1 ?_
      by_cases hbn:b = s.heap.objs.size
      · subst hbn
        rw [Heap.get?_push_size _ rfl] at e
        cases e
        exact e5
      · exact e7 b o n1 n3 n4 n5 (by rw [Heap.get?_push_ne _ _ _ hbn] at e; exact e)
    have fp1:∀ b ∈ [z,ti,to,i1,i2],FpOk X pins (upd H s.heap.objs.size (.tup [x,y])) b:=fun b hb=>by
      obtain ⟨f0,fr⟩:=hf b hb
      exact ⟨by rw [upd_ne (ne b hb)]; exact f0,fr⟩
    have I2:Inv X pins σ (upd H s.heap.objs.size (.tup [x,y])) { s with heap:=g' }:=I1.turnedL (t':=s.toks) kg fp1
    have k8:∀ b o,b ≠ z -> g.get? b = some o -> g'.get? b = some o:=fun b o n e=>fb.extBut _ _ n e
    have t1':Sq1 b1 g a1 its.toArray:=Sq1.of t1 fun o e=>e7 _ o D.l1z D.l1TO D.l1i1 D.l1i2 e
    have t2':Sq1 b2 g a2 jts.toArray:=Sq1.of t2 fun o e=>e7 _ o D.l2z D.l2TO D.l2i1 D.l2i2 e
    refine ⟨.ref s.heap.objs.size,_,I2,rfl,⟨x,y,_,fun xs' q'=>by rw [I.sqB_inj q' q1]; exact ex,fun ys' q'=>by rw [I.sqB_inj q' q2]; exact ey,hp,rfl,rfl⟩,⟨f1,k8 _ _ D.TIz (e7 _ _ D.TIz D.TITO D.TIi1 D.TIi2 h2),⟨_,_,k8 _ _ D.TOz e2⟩,(It1.ir e3 h4 t1').keep fun o e=>k8 _ o D.i1z e,(It1.ir e4 h5 t2').keep fun o e=>k8 _ o D.i2z e⟩,fun b hb=>(fp1 b hb).1⟩
  done:=by
    intro X hP hw hK hc i pins s σ H E I hf st hg
    subst hP hw hK
    obtain ⟨h1,h2,⟨p,q,h3⟩,h4,h5⟩:=st
    obtain ⟨xs,ys,q1,q2,ex⟩:=hg
    obtain ⟨its,r1,t1⟩:=I.sqB q1
    obtain ⟨jts,r2,t2⟩:=I.sqB q2
    have l1:=r1.length
    have l2:=r2.length
    have ty:s.TypeIs (.ref z) "zip" := ⟨_,h1,rfl⟩
    unfold pyNext
    refine wpAny_bind (wpAny_attempt (wpAny_callSpecial?_slot (name:=Str.ofString "__next__") ty F.slot_zip_next (wpAny_call_entry F.slot_zip_next ty F.entry_zip_next
      (zn_end (I.ok.hd hc) D h1 h2 h3 (h4.it1 t1) (h5.it1 t2) (by simp; omega) fun g e kg ⟨o,ho,hoc⟩=>?_) (F.args_zip_next_1 _))))
    refine wpAny_bind (wpAny_isInstance (T := "StopIteration") (b:=true) ⟨o,ho,hoc⟩ isSubtype_stop (wpAny_pure ⟨rfl,?_⟩))
    exact I.turnedL (t':=s.toks) (fun b o hb e=>by simp at hb; exact kg b o hb.1 hb.2.2.1 hb.2.2.2.1 hb.2.2.2.2 e) hf
  self:=fun _ _ _ _ _ st h=>wpAny_pyIter_zip st.1 h
end L2

namespace L2
open PySem PySem.Spec PyProof.Rows L2.ZP
section
variable {X:Cx} {e1 e2:Expr} {ta:TA} {elts:List Expr} {kt:Nat} {pt p pos:Pos}
def iZip (K:W.Frag) (b1 b2:Bool) (t:TA):TI:=fun σ H R=>t σ H fun vs H1=>∃ a1 a2 xs ys,vs = [.ref a1,.ref a2] /\ SqB b1 K H1 a1 xs /\ SqB b2 K H1 a2 ys /\ R (Itz K b1 b2 a1 a2) H1
theorem pi_zip (b1 b2:Bool) (hg:Gl X "zip") (hm:X.mg "zip" = none) (ha:PA X [e1,e2] ta) (hs:starEach [e1,e2] X.env = (false,eval e1 X.env) :: starEach [e2] X.env:=by rfl) (hpl:(backTo pos (starEach [e2] X.env)).any (·.1) = false:=by rfl) :
    PI X (.Tuple elts kt pt) (.Call (.Name "zip" p) [e1,e2] [] pos) (iZip X.K b1 b2 ta):=by
  intro pins s σ H R I h
  refine Call_ (ld_blt I hg hm (by rfl) (PyProof.Rows.callWith_type1 (thn (ha pos pins s σ H _ I h) fun us s1 ⟨vs,H1,I1,r1,q1⟩=>?_) hs hpl) (by decide) (by decide))
  obtain ⟨a1,a2,xs,ys,ev,q1,q2,q⟩:=q1
  subst ev
  cases r1 with
  | cons r rr =>
    cases rr with
    | cons r' rr =>
      cases rr
      cases r
      cases r'
      obtain ⟨its,v1,t1⟩:=I1.sqB q1
      obtain ⟨jts,v2,t2⟩:=I1.sqB q2
      refine call_zip t1 t2 fun g f1 f2 f3 f4 f5 f6 kp=>wpAny_pyIter_zip f1 ?_
      have lt1:a1 < s1.heap.objs.size /\ a2 < s1.heap.objs.size:=by
        constructor
        · cases b1 with
          | true=>obtain ⟨o,ho,_⟩:=(show s1.heap.IsTuple a1 _ from t1); exact Heap.lt_size ho
          | false=>obtain ⟨o,ho,_⟩:=(show s1.heap.IsList a1 _ from t1); exact Heap.lt_size ho
        · cases b2 with
          | true=>obtain ⟨o,ho,_⟩:=(show s1.heap.IsTuple a2 _ from t2); exact Heap.lt_size ho
          | false=>obtain ⟨o,ho,_⟩:=(show s1.heap.IsList a2 _ from t2); exact Heap.lt_size ho
      obtain ⟨l1,l2⟩:=lt1
      have ap:∀ {n c:Nat},c < n -> ∀ k:Nat,c ≠ n + k:=fun h k e=>by omega
      have D:ZipApart (s1.heap.objs.size + 4) (s1.heap.objs.size + 2) (s1.heap.objs.size + 3) s1.heap.objs.size (s1.heap.objs.size + 1) a1 a2:=by
        generalize hN:s1.heap.objs.size = N at l1 l2
        exact ⟨by simp,by simp,by simp,by simp,by simp,by simp,by simp,by simp,by simp,by simp,ap l1 4,ap l1 3,ap l1 0,ap l1 1,ap l2 4,ap l2 3,ap l2 0,ap l2 1⟩
      have kg:∀ b o,s1.heap.get? b = some o -> g.get? b = some o:=kp
      have I2:Inv X pins σ H1 { s1 with heap:=g }:=I1.kept (t':=s1.toks) kg
      have ir:∀ {b:Bool} {it a:Addr} {zs:Array Value},It1 g it a zs 0 -> Sq1 b s1.heap a zs -> Ir1 b g it a 0:=fun {b it a zs} q r=>by
        have r':=Sq1.of r fun o e=>kg _ o e
        cases b with
        | true =>
          rcases q with ⟨_,⟨o,e,c,_⟩⟩ | ⟨q,_⟩
          · obtain ⟨o',e',c',_⟩:=(show g.IsTuple a zs from r')
            rw [e] at e'; cases e'; rw [c] at c'; injection c' with z; exact absurd z (by decide)
          · exact q
        | false =>
          rcases q with ⟨q,_⟩ | ⟨_,⟨o,e,c,_⟩⟩
          · exact q
          · obtain ⟨o',e',c',_⟩:=(show g.IsList a zs from r')
            rw [e] at e'; cases e'; rw [c] at c'; injection c' with z; exact absurd z (by decide)
      refine ⟨_,[s1.heap.objs.size + 4,s1.heap.objs.size + 2,s1.heap.objs.size + 3,s1.heap.objs.size,s1.heap.objs.size + 1],_,_,H1,rfl,I2,turn_zip b1 b2 _ _ _ _ _ a1 a2 D,⟨f1,f2,⟨_,_,f3⟩,ir f4 t1,ir f5 t2⟩,fun b hb=>?_,q⟩
      have hb':s1.heap.objs.size <= b:=by
        simp at hb
        rcases hb with rfl | rfl | rfl | rfl | rfl
        · exact Nat.le_add_right _ 4
        · exact Nat.le_add_right _ 2
        · exact Nat.le_add_right _ 3
        · exact Nat.le_refl _
        · exact Nat.le_add_right _ 1
      exact I1.fpOk hb' (I1.hok.fresh hb')
end
end L2
namespace L2.VL
open PySem PySem.Spec PyProof.Rows
section
variable {X:Cx} {rl:RlT} {a b:Expr} {elts:List Expr} {kt:Nat} {pt p pos:Pos} {fs:TVs}
def zipD (xs ys:List PyData):List PyData:=List.zipWith (fun x y=>.tuple [x,y]) xs ys
def kindB:PyData -> Bool
  | .tuple _=>true
  | _=>false
theorem rep_sq {K:W.Frag} {F:Hp} {v:V} {d:PyData} {xs:List PyData} (r:Rep K F v d) (e:seqD d = some xs):∃ a vs,v = .ref a /\ Reps K F vs xs /\ ∀ H,Same F H -> SqB (kindB d) K H a vs:=by
  cases r with
  | tup sq rs=>cases e; exact ⟨_,_,rfl,rs,fun H s=>sameT s sq⟩
  | lst h rs=>cases e; exact ⟨_,_,rfl,rs,fun H s=>.inl (.inl (s _ _ h))⟩
  | non=>cases e
  | bl b=>cases e
  | int i=>cases e
  | str x=>cases e
theorem zipD_get {xs ys:List PyData} {i:Nat} {d:PyData} (h:(zipD xs ys)[i]? = some d):∃ x y,xs[i]? = some x /\ ys[i]? = some y /\ d = .tuple [x,y]:=by
  unfold zipD at h
  rw [List.getElem?_zipWith] at h
  cases ex:xs[i]? with
  | none=>rw [ex] at h; cases h
  | some x =>
    cases ey:ys[i]? with
    | none=>rw [ex,ey] at h; cases h
    | some y=>rw [ex,ey] at h; cases h; exact ⟨x,y,rfl,rfl,rfl⟩
theorem vi_zip (b1 b2:Bool) (hm:X.mg "zip" = none) (ha:PVs X rl [a,b] fs) (hg:Gl X "zip" := by rfl) (hs:starEach [a,b] X.env = (false,eval a X.env) :: starEach [b] X.env:=by rfl) (hpl:(backTo pos (starEach [b] X.env)).any (·.1) = false:=by rfl) :
    PIV X rl (.Tuple elts kt pt) (.Call (.Name "zip" p) [a,b] [] pos) (fun ρ Q=>fs ρ fun ws=>∃ dx dy xs ys,ws = [.d dx,.d dy] /\ seqD dx = some xs /\ seqD dy = some ys /\ kindB dx = b1 /\ kindB dy = b2 /\ Q (zipD xs ys)):=by
  obtain ⟨t,p1,k⟩:=ha
  refine ⟨_,pi_zip b1 b2 hg hm p1 hs hpl,fun R Qd Q q h=>k R _ _ q fun vs ws F1 H1 g1 r1 ⟨dx,dy,xs,ys,ew,e1,e2,kb1,kb2,q1⟩=>?_⟩
  subst ew kb1 kb2
  obtain ⟨v,u,rfl,rv,ru⟩:=rel2 r1
  obtain ⟨a1,vs,rfl,rs,sq1⟩:=rep_sq rv e1
  obtain ⟨a2,us,rfl,rt,sq2⟩:=rep_sq ru e2
  refine ⟨a1,a2,vs,us,rfl,sq1 _ g1.sub,sq2 _ g1.sub,h _ (zipD xs ys) F1 H1 g1 ⟨fun i H x e s=>?_,fun i H hl s=>?_,fun i H v H' x F2 e s s2 ra y=>?_⟩ q1⟩
  · obtain ⟨x1,y1,ex,ey,_⟩:=zipD_get e
    obtain ⟨v1,ev1,_⟩:=rs.get ex
    obtain ⟨u1,eu1,_⟩:=rt.get ey
    exact ⟨vs,us,v1,u1,sq1 _ s,sq2 _ s,ev1,eu1⟩
  · refine ⟨vs,us,sq1 _ s,sq2 _ s,?_⟩
    unfold zipD at hl
    rw [List.length_zipWith] at hl
    rw [rs.length,rt.length]
    omega
  · obtain ⟨x1,y1,ex,ey,ed⟩:=zipD_get e
    obtain ⟨vx,vy,pp,hx,hy,hp,ev,eH⟩:=y
    obtain ⟨v1,ev1,rv1⟩:=rs.get ex
    obtain ⟨u1,eu1,ru1⟩:=rt.get ey
    have h1:=hx vs (sq1 _ (s.trans s2))
    have h2:=hy us (sq2 _ (s.trans s2))
    rw [ev1] at h1
    rw [eu1] at h2
    cases h1
    cases h2
    subst ev eH ed
    have g:=Grow.data (a:=pp) (o:=.tup [vx,vy]) s2 ra hp
    exact ⟨_,g,.tup (.inl (.inl upd_same)) (.cons ((rv1.mono s).mono g.fs) (.cons ((ru1.mono s).mono g.fs) .nil))⟩
def iZb (b1 b2:Bool) (fs:TVs):En -> (List PyData -> Prop) -> Prop:=fun ρ Q=>fs ρ fun ws=>∃ dx dy xs ys,ws = [.d dx,.d dy] /\ seqD dx = some xs /\ seqD dy = some ys /\ kindB dx = b1 /\ kindB dy = b2 /\ Q (zipD xs ys)
theorem vi_zipTT (hm:X.mg "zip" = none) (ha:PVs X rl [a,b] fs) (hg:Gl X "zip" := by rfl) (hs:starEach [a,b] X.env = (false,eval a X.env) :: starEach [b] X.env:=by rfl) (hpl:(backTo pos (starEach [b] X.env)).any (·.1) = false:=by rfl) :
    PIV X rl (.Tuple elts kt pt) (.Call (.Name "zip" p) [a,b] [] pos) (iZb true true fs):=vi_zip true true hm ha hg hs hpl
end
end L2.VL

namespace L2.VL
open PySem PySem.Spec PyProof.Rows
theorem nr {α:Sort u} {a b : α} (h:a = b):a = b:=h
abbrev Mo (α:Type):=(α -> Prop) -> Prop
def ret {α:Type} (a : α):Mo α:=fun Q=>Q a
def bnd {α β:Type} (m:Mo α) (f : α -> Mo β):Mo β:=fun Q=>m fun a=>f a Q
def grd {α:Type} (P:Prop) (m:Mo α):Mo α:=fun Q=>P /\ m Q
def stk {α:Type}:Mo α:=fun _=>False
def anyM {α:Type} (P : α -> Prop):Mo α:=fun Q=>∀ a,P a -> Q a
def optM {α β:Type} (o:Option α) (f : α -> Mo β):Mo β:=match o with
  | some a=>f a
  | none=>stk
section
variable {α β γ:Type}
theorem bnd_ret (a : α) (f : α -> Mo β):bnd (ret a) f = f a:=nr rfl
theorem bnd_bnd (m:Mo α) (f : α -> Mo β) (g : β -> Mo γ):bnd (bnd m f) g = bnd m fun a=>bnd (f a) g:=nr rfl
theorem bnd_grd (P:Prop) (m:Mo α) (f : α -> Mo β):bnd (grd P m) f = grd P (bnd m f):=nr rfl
theorem bnd_stk (f : α -> Mo β):bnd stk f = stk:=nr rfl
theorem bnd_ite (c:Prop) [Decidable c] (a b:Mo α) (f : α -> Mo β):bnd (if c then a else b) f = if c then bnd a f else bnd b f:=by split <;> rfl
theorem bnd_opt (o:Option α) (k : α -> Mo β) (f : β -> Mo γ):bnd (optM o k) f = optM o fun a=>bnd (k a) f:=by cases o <;> rfl
theorem opt_some (a : α) (k : α -> Mo β):optM (some a) k = k a:=nr rfl
theorem opt_none (k : α -> Mo β):optM none k = stk:=nr rfl
theorem grd_t {P:Prop} (h:P) (m:Mo α):grd P m = m:=by funext Q; exact propext ⟨fun z=>z.2,fun z=>⟨h,z⟩⟩
theorem grd_T (m:Mo α):grd True m = m:=grd_t trivial m
theorem ite_ap (c:Prop) [Decidable c] (a b:Mo α) (Q : α -> Prop):(if c then a else b) Q = if c then a Q else b Q:=by split <;> rfl
theorem mo_ext {m n:Mo α} (h:∀ Q,m Q ↔ n Q):m = n:=funext fun Q=>propext (h Q)
end
def asI:W -> Option Int
  | .d (.int i)=>some i
  | _=>none
def asB:W -> Option Bool
  | .d (.bool b)=>some b
  | _=>none
def asS:W -> Option Str
  | .d (.str b)=>some b
  | _=>none
def asD:W -> Option PyData
  | .d x=>some x
  | _=>none
def lstD:PyData -> Option (List PyData)
  | .list xs=>some xs
  | _=>none
def tupD:PyData -> Option (List PyData)
  | .tuple xs=>some xs
  | _=>none
def asL (w:W):Option (List PyData):=w.dat.bind lstD
def asT (w:W):Option (List PyData):=(asD w).bind tupD
def asQ (w:W):Option (List PyData):=w.dat.bind seqD
def toI:W -> Option Int
  | .d (.int i)=>some i
  | .d (.bool b)=>some (if b then 1 else 0)
  | _=>none
def isiT:W -> Option String
  | .vv (.ty T)=>some T
  | _=>none
def blsD:List PyData -> Option (List Bool)
  | []=>some []
  | .bool b :: r=>(blsD r).map (b :: ·)
  | _=>none
def intsD:List PyData -> Option (List Int)
  | []=>some []
  | .int b :: r=>(intsD r).map (b :: ·)
  | _=>none
theorem blsD_map:∀ bs:List Bool,blsD (bs.map .bool) = some bs
  | []=>rfl
  | b :: bs=>by show (blsD (bs.map .bool)).map (b :: ·) = _; rw [blsD_map bs]; rfl
theorem intsD_map:∀ bs:List Int,intsD (bs.map .int) = some bs
  | []=>rfl
  | b :: bs=>by show (intsD (bs.map .int)).map (b :: ·) = _; rw [intsD_map bs]; rfl
theorem intsD_of:∀ {xs:List PyData} {bs:List Int},intsD xs = some bs -> xs = bs.map .int
  | [],bs,h=>by cases h; rfl
  | .int b :: r,bs,h=>by
    have h:(intsD r).map (b :: ·) = some bs:=h
    cases q:intsD r with
    | none=>rw [q] at h; cases h
    | some cs=>rw [q] at h; cases h; rw [intsD_of q]; rfl
  | .none :: _,_,h=>by cases h
  | .bool _ :: _,_,h=>by cases h
  | .str _ :: _,_,h=>by cases h
  | .list _ :: _,_,h=>by cases h
  | .tuple _ :: _,_,h=>by cases h
  | .dict _ :: _,_,h=>by cases h
theorem asI_d (i:Int):asI (.d (.int i)) = some i:=rfl
theorem asB_d (i:Bool):asB (.d (.bool i)) = some i:=rfl
theorem asS_d (i:Str):asS (.d (.str i)) = some i:=rfl
theorem asD_d (i:PyData):asD (.d i) = some i:=rfl
theorem asT_d (x:PyData):asT (.d x) = tupD x:=rfl
theorem asL_d (x:PyData):asL (.d x) = lstD x:=rfl
theorem asL_ml (x:List PyData):asL (.ml x) = some x:=rfl
theorem asL_pk (x:List PyData):asL (.pk x) = some x:=rfl
theorem asQ_d (x:PyData):asQ (.d x) = seqD x:=rfl
theorem asQ_ml (x:List PyData):asQ (.ml x) = some x:=rfl
theorem asQ_pk (x:List PyData):asQ (.pk x) = some x:=rfl
theorem lstD_l (x:List PyData):lstD (.list x) = some x:=rfl
theorem tupD_t (x:List PyData):tupD (.tuple x) = some x:=rfl
theorem toI_i (i:Int):toI (.d (.int i)) = some i:=rfl
theorem toI_b (i:Bool):toI (.d (.bool i)) = some (if i then 1 else 0):=rfl
theorem isiT_t (T:String):isiT (.vv (.ty T)) = some T:=rfl
theorem asI_of {w:W} {i:Int}:asI w = some i ↔ w = .d (.int i):=by
  constructor
  · intro h; unfold asI at h; split at h <;> simp_all
  · rintro rfl; rfl
theorem asB_of {w:W} {i:Bool}:asB w = some i ↔ w = .d (.bool i):=by
  constructor
  · intro h; unfold asB at h; split at h <;> simp_all
  · rintro rfl; rfl
theorem asS_of {w:W} {i:Str}:asS w = some i ↔ w = .d (.str i):=by
  constructor
  · intro h; unfold asS at h; split at h <;> simp_all
  · rintro rfl; rfl
theorem asD_of {w:W} {i:PyData}:asD w = some i ↔ w = .d i:=by
  constructor
  · intro h; unfold asD at h; split at h <;> simp_all
  · rintro rfl; rfl
theorem lstD_of {w:PyData} {i:List PyData}:lstD w = some i ↔ w = .list i:=by
  constructor
  · intro h; unfold lstD at h; split at h <;> simp_all
  · rintro rfl; rfl
theorem tupD_of {w:PyData} {i:List PyData}:tupD w = some i ↔ w = .tuple i:=by
  constructor
  · intro h; unfold tupD at h; split at h <;> simp_all
  · rintro rfl; rfl
theorem asT_of {w:W} {i:List PyData}:asT w = some i ↔ w = .d (.tuple i):=by
  constructor
  · intro h
    unfold asT at h
    cases q:asD w with
    | none=>rw [q] at h; cases h
    | some x=>rw [q] at h; rw [asD_of.mp q,tupD_of.mp h]
  · rintro rfl; rfl
theorem asL_of {w:W} {i:List PyData}:asL w = some i ↔ w.dat = some (.list i):=by
  unfold asL
  constructor
  · intro h
    cases q:w.dat with
    | none=>rw [q] at h; cases h
    | some x=>rw [q] at h; rw [lstD_of.mp h]
  · intro h; rw [h]; rfl
theorem opt_iff {α β:Type} {o:Option α} {k : α -> Mo β} {Q : β -> Prop}:optM o k Q ↔ ∃ a,o = some a /\ k a Q:=by
  cases o with
  | none=>exact ⟨fun z=>z.elim,fun ⟨_,z,_⟩=>by cases z⟩
  | some a=>exact ⟨fun z=>⟨a,rfl,z⟩,fun ⟨_,e,z⟩=>by cases e; exact z⟩
section
variable {fa fb fc:TV} {fs:TVs} {f g:TB} {ρ:En} {t u:TSv}
theorem m_vC (x:PyData):vC x ρ = ret (.d x):=nr rfl
theorem m_vVar (i:Nat):vVar i ρ = optM ((ρ[i]?).join) fun w=>ret w.peek:=by
  refine mo_ext fun Q=>?_
  rw [opt_iff]
  constructor
  · rintro ⟨w,e,q⟩; exact ⟨w,by rw [e]; rfl,q⟩
  · rintro ⟨w,e,q⟩
    refine ⟨w,?_,q⟩
    cases h : ρ[i]? with
    | none=>rw [h] at e; cases e
    | some o=>rw [h] at e; cases o with
      | none=>cases e
      | some x=>cases e; rfl
theorem m_vNil:vNil ρ = ret []:=nr rfl
theorem m_vCons {f:TV}:vCons f fs ρ = bnd (f ρ) fun w=>bnd (fs ρ) fun ws=>ret (w.fz :: ws):=nr rfl
theorem m_vOp (h:W -> W -> (W -> Prop) -> Prop):vOp h fa fb ρ = bnd (fa ρ) fun x=>bnd (fb ρ) fun y=>h x y:=nr rfl
theorem m_gI (C:Int -> Int -> Prop) (h:Int -> Int -> PyData) (x y:W):gI C h x y = optM (asI x) fun i=>optM (asI y) fun j=>grd (C i j) (ret (.d (h i j))):=by
  refine mo_ext fun Q=>?_
  simp only [opt_iff,asI_of,gI,grd,ret]
  exact ⟨fun ⟨i,j,a,b,c,q⟩=>⟨i,a,j,b,c,q⟩,fun ⟨i,a,j,b,c,q⟩=>⟨i,j,a,b,c,q⟩⟩
theorem m_gI0 (h:Int -> Int -> PyData) (x y:W):gI0 h x y = optM (asI x) fun i=>optM (asI y) fun j=>ret (.d (h i j)):=by
  refine mo_ext fun Q=>?_
  simp only [opt_iff,asI_of,gI0,ret]
  exact ⟨fun ⟨i,j,a,b,q⟩=>⟨i,a,j,b,q⟩,fun ⟨i,a,j,b,q⟩=>⟨i,j,a,b,q⟩⟩
theorem m_vNeg:vNeg fa ρ = bnd (fa ρ) fun x=>optM (asI x) fun i=>ret (.d (.int (-i))):=by
  refine mo_ext fun Q=>?_
  simp only [vNeg,bnd,opt_iff,asI_of,ret]
theorem m_vTest {f:TV}:vTest f ρ = bnd (f ρ) fun w=>optM (asB w) ret:=by
  refine mo_ext fun Q=>?_
  simp only [vTest,bnd,opt_iff,asB_of,ret]
theorem m_gEqD (neg:Bool) (x y:W):gEqD neg x y = optM x.dat fun dx=>optM y.dat fun dy=>grd (SeqAt.shaped dx = true) (grd (SeqAt.shaped dy = true) (ret (.d (.bool (if neg then !PyData.eqv dx dy else PyData.eqv dx dy))))):=by
  refine mo_ext fun Q=>?_
  simp only [opt_iff,gEqD,grd,ret]
  exact ⟨fun ⟨i,j,a,b,c,d,q⟩=>⟨i,a,j,b,c,d,q⟩,fun ⟨i,a,j,b,c,d,q⟩=>⟨i,j,a,b,c,d,q⟩⟩
theorem m_vAnd:vAnd f g ρ = bnd (f ρ) fun b=>if b = true then g ρ else ret false:=by
  refine mo_ext fun Q=>?_
  simp only [vAnd,bnd,ite_ap,ret]
theorem m_vOr:vOr f g ρ = bnd (f ρ) fun b=>if b = true then ret true else g ρ:=by
  refine mo_ext fun Q=>?_
  simp only [vOr,bnd,ite_ap,ret]
theorem m_vNot:vNot f ρ = bnd (f ρ) fun b=>ret (!b):=nr rfl
theorem m_vIf {t:TB}:vIf t fa fb ρ = bnd (t ρ) fun c=>if c = true then fa ρ else fb ρ:=by
  refine mo_ext fun Q=>?_
  simp only [vIf,bnd,ite_ap]
theorem m_vTup:vTup fs ρ = bnd (fs ρ) fun ws=>optM (dats ws) fun ds=>grd (ds.length <= sizeLine) (ret (.d (.tuple ds))):=by
  refine mo_ext fun Q=>?_
  simp only [vTup,bnd,opt_iff,grd,ret]
theorem m_vLst:vLst fs ρ = bnd (fs ρ) fun ws=>optM (dats ws) fun ds=>grd (ds.length <= sizeLine) (ret (.ml ds)):=by
  refine mo_ext fun Q=>?_
  simp only [vLst,bnd,opt_iff,grd,ret]
theorem m_gIx (x y:W):gIx x y = optM x.dat fun dx=>optM (asI y) fun i=>optM (itemAt dx i) fun z=>ret (.d z):=by
  refine mo_ext fun Q=>?_
  simp only [gIx,opt_iff,asI_of,ret]
  exact ⟨fun ⟨i,j,z,a,b,c,q⟩=>⟨i,a,j,b,z,c,q⟩,fun ⟨i,a,j,b,z,c,q⟩=>⟨i,j,z,a,b,c,q⟩⟩
theorem m_vCall (h:List W -> (W -> Prop) -> Prop):vCall h fs ρ = bnd (fs ρ) h:=nr rfl
theorem m_gAbs (w:W):gAbs [w] = optM (asI w) fun i=>ret (.d (.int (if i < 0 then -i else i))):=by
  refine mo_ext fun Q=>?_
  simp only [gAbs,opt_iff,asI_of,ret,List.cons.injEq,and_true]
theorem m_gLen (w:W):gLen [w] = optM w.dat fun d=>optM (lenD d) fun n=>ret (.d (.int n)):=by
  refine mo_ext fun Q=>?_
  simp only [gLen,opt_iff,ret,List.cons.injEq,and_true]
  exact ⟨fun ⟨w',d,n,e,a,b,q⟩=>by subst e; exact ⟨d,a,n,b,q⟩,fun ⟨d,a,n,b,q⟩=>⟨w,d,n,rfl,a,b,q⟩⟩
theorem m_gRepr (w:W):gRepr [w] = optM w.dat fun d=>grd (Shw d) (ret (.d (.str d.shown))):=by
  refine mo_ext fun Q=>?_
  simp only [gRepr,opt_iff,ret,grd,List.cons.injEq,and_true]
  exact ⟨fun ⟨w',d,e,a,b,q⟩=>by subst e; exact ⟨d,a,b,q⟩,fun ⟨d,a,b,q⟩=>⟨w,d,rfl,a,b,q⟩⟩
theorem m_gTupO (w:W):gTupO [w] = optM (asQ w) fun xs=>ret (.d (.tuple xs)):=by
  refine mo_ext fun Q=>?_
  simp only [gTupO,opt_iff,ret,List.cons.injEq,and_true]
  constructor
  · rintro ⟨w',d,xs,e,a,b,q⟩; subst e; exact ⟨xs,by unfold asQ; rw [a]; exact b,q⟩
  · rintro ⟨xs,e,q⟩
    unfold asQ at e
    cases h:w.dat with
    | none=>rw [h] at e; cases e
    | some d=>rw [h] at e; exact ⟨w,d,xs,rfl,h,e,q⟩
theorem m_gLstO (w:W):gLstO [w] = optM (asQ w) fun xs=>ret (.ml xs):=by
  refine mo_ext fun Q=>?_
  simp only [gLstO,opt_iff,ret,List.cons.injEq,and_true]
  constructor
  · rintro ⟨w',d,xs,e,a,b,q⟩; subst e; exact ⟨xs,by unfold asQ; rw [a]; exact b,q⟩
  · rintro ⟨xs,e,q⟩
    unfold asQ at e
    cases h:w.dat with
    | none=>rw [h] at e; cases e
    | some d=>rw [h] at e; exact ⟨w,d,xs,rfl,h,e,q⟩
theorem m_gI2 (h:Int -> Int -> PyData) (x y:W):gI2 h [x,y] = optM (asI x) fun i=>optM (asI y) fun j=>ret (.d (h i j)):=by
  refine mo_ext fun Q=>?_
  simp only [opt_iff,asI_of,gI2,ret,List.cons.injEq,and_true]
  exact ⟨fun ⟨i,j,⟨a,b⟩,q⟩=>⟨i,a,j,b,q⟩,fun ⟨i,a,j,b,q⟩=>⟨i,j,⟨a,b⟩,q⟩⟩
theorem m_oNo:oNo ρ = ret none:=nr rfl
theorem m_oIt:oIt fa ρ = bnd (fa ρ) fun w=>optM (asI w) fun i=>ret (some i):=by
  refine mo_ext fun Q=>?_
  simp only [oIt,bnd,opt_iff,asI_of,ret]
theorem m_vSlL {fl fh:TOv}:vSlL fa fl fh ρ = bnd (fa ρ) fun w=>bnd (fl ρ) fun l=>bnd (fh ρ) fun h=>optM (asL w) fun xs=>ret (.ml (cutD xs l h)):=by
  refine mo_ext fun Q=>?_
  simp only [vSlL,bnd,opt_iff,asL_of,ret]
theorem m_gCatD (x y:W):gCatD x y = optM (asL x) fun xs=>optM (asL y) fun ys=>grd (xs.length + ys.length <= sizeLine) (ret (.ml (xs ++ ys))):=by
  refine mo_ext fun Q=>?_
  simp only [gCatD,opt_iff,asL_of,grd,ret]
  exact ⟨fun ⟨i,j,a,b,c,q⟩=>⟨i,a,j,b,c,q⟩,fun ⟨i,a,j,b,c,q⟩=>⟨i,j,a,b,c,q⟩⟩
theorem m_gCatA (x y:W):gCatA x y = optM (asT x) fun xs=>optM (asT y) fun ys=>grd (xs.length + ys.length <= sizeLine) (ret (.d (.tuple (xs ++ ys)))):=by
  refine mo_ext fun Q=>?_
  simp only [gCatA,opt_iff,asT_of,grd,ret]
  exact ⟨fun ⟨i,j,a,b,c,q⟩=>⟨i,a,j,b,c,q⟩,fun ⟨i,a,j,b,c,q⟩=>⟨i,j,a,b,c,q⟩⟩
theorem m_vLR1:vLR1 fs ρ = bnd (fs ρ) fun ws=>optM (ws.head?.bind asI) fun j=>grd (ws.length = 1) (grd (-(2 ^ 62) <= j /\ j < 2 ^ 62) (grd (j.toNat <= 2 ^ 24) (ret (.ml (rangeD 0 j.toNat))))):=by
  show (bnd (fs ρ) fun ws=>fun (Q:W -> Prop)=>∃ j:Int,ws = [.d (.int j)] /\ (-(2 ^ 62) <= j /\ j < 2 ^ 62) /\ j.toNat <= 2 ^ 24 /\ Q (.ml (rangeD 0 j.toNat))) = _
  congr 1; funext ws
  refine mo_ext fun Q=>?_
  simp only [opt_iff,grd,ret]
  constructor
  · rintro ⟨j,rfl,a,b,q⟩; exact ⟨j,rfl,rfl,a,b,q⟩
  · rintro ⟨j,e,l,a,b,q⟩
    match ws,l with
    | [w],_=>rw [show w = .d (.int j) from asI_of.mp e]; exact ⟨j,rfl,a,b,q⟩
def two (ws:List W):Option (Int × Int):=match ws with
  | [a,b]=>(asI a).bind fun i=>(asI b).map fun j=>(i,j)
  | _=>none
theorem two_d (a b:Int):two [.d (.int a),.d (.int b)] = some (a,b):=rfl
theorem m_iL:iL fa ρ = bnd (fa ρ) fun w=>optM ((asD w.fz).bind lstD) ret:=by
  show (bnd (fa ρ) fun w=>fun (Q:List PyData -> Prop)=>∃ xs,w.fz = .d (.list xs) /\ Q xs) = _
  congr 1; funext w
  refine mo_ext fun Q=>?_
  simp only [opt_iff,ret]
  constructor
  · rintro ⟨xs,e,q⟩; exact ⟨xs,by rw [e]; rfl,q⟩
  · rintro ⟨xs,e,q⟩
    cases h:asD w.fz with
    | none=>rw [h] at e; cases e
    | some x=>rw [h] at e; rw [asD_of.mp h,lstD_of.mp e]; exact ⟨xs,rfl,q⟩
theorem m_iT:iT fa ρ = bnd (fa ρ) fun w=>optM ((asD w.fz).bind tupD) ret:=by
  show (bnd (fa ρ) fun w=>fun (Q:List PyData -> Prop)=>∃ xs,w.fz = .d (.tuple xs) /\ Q xs) = _
  congr 1; funext w
  refine mo_ext fun Q=>?_
  simp only [opt_iff,ret]
  constructor
  · rintro ⟨xs,e,q⟩; exact ⟨xs,by rw [e]; rfl,q⟩
  · rintro ⟨xs,e,q⟩
    cases h:asD w.fz with
    | none=>rw [h] at e; cases e
    | some x=>rw [h] at e; rw [asD_of.mp h,tupD_of.mp e]; exact ⟨xs,rfl,q⟩
theorem m_iR1:iR1 fs ρ = bnd (fs ρ) fun ws=>optM (ws.head?.bind asI) fun j=>grd (ws.length = 1) (grd (-(2 ^ 62) <= j /\ j < 2 ^ 62) (ret (rangeD 0 j.toNat))):=by
  show (bnd (fs ρ) fun ws=>fun (Q:List PyData -> Prop)=>∃ j:Int,ws = [.d (.int j)] /\ (-(2 ^ 62) <= j /\ j < 2 ^ 62) /\ Q (rangeD 0 j.toNat)) = _
  congr 1; funext ws
  refine mo_ext fun Q=>?_
  simp only [opt_iff,grd,ret]
  constructor
  · rintro ⟨j,rfl,a,q⟩; exact ⟨j,rfl,rfl,a,q⟩
  · rintro ⟨j,e,l,a,q⟩
    match ws,l with
    | [w],_=>rw [show w = .d (.int j) from asI_of.mp e]; exact ⟨j,rfl,a,q⟩
def zipO (b1 b2:Bool) (ws:List W):Option (List PyData):=match ws with
  | [.d x,.d y]=>if kindB x = b1 /\ kindB y = b2 then (seqD x).bind fun xs=>(seqD y).map fun ys=>zipD xs ys else none
  | _=>none
theorem m_iZb (b1 b2:Bool):iZb b1 b2 fs ρ = bnd (fs ρ) fun ws=>optM (zipO b1 b2 ws) ret:=by
  show (bnd (fs ρ) fun ws=>fun (Q:List PyData -> Prop)=>∃ dx dy xs ys,ws = [.d dx,.d dy] /\ seqD dx = some xs /\ seqD dy = some ys /\ kindB dx = b1 /\ kindB dy = b2 /\ Q (zipD xs ys)) = _
  congr 1; funext ws
  refine mo_ext fun Q=>?_
  simp only [opt_iff,ret]
  constructor
  · rintro ⟨dx,dy,xs,ys,rfl,a,b,c,d,q⟩
    exact ⟨_,by show (if kindB dx = b1 /\ kindB dy = b2 then (seqD dx).bind fun xs=>(seqD dy).map fun ys=>zipD xs ys else none) = _; rw [if_pos ⟨c,d⟩,a,b]; rfl,q⟩
  · rintro ⟨zs,e,q⟩
    unfold zipO at e
    split at e
    · rename_i dx dy
      split at e
      · rename_i c
        cases ha:seqD dx with
        | none=>rw [ha] at e; cases e
        | some xs =>
          cases hb:seqD dy with
          | none=>rw [ha,hb] at e; cases e
          | some ys=>rw [ha,hb] at e; cases e; exact ⟨dx,dy,xs,ys,rfl,ha,hb,c.1,c.2,q⟩
      · cases e
    · cases e
theorem m_vUse (Pd:List W -> (PyData -> Prop) -> Prop):vUse Pd fs ρ = bnd (fs ρ) fun ws=>grd (ws.all argOk = true) (bnd (Pd ws) fun d=>ret (.d d)):=nr rfl
theorem m_gEqS (neg:Bool) (x y:W):gEqS neg x y = optM (asS x) fun i=>optM (asS y) fun j=>ret (.d (.bool (if neg then !decide (i = j) else decide (i = j)))):=by
  refine mo_ext fun Q=>?_
  simp only [opt_iff,asS_of,gEqS,ret]
  exact ⟨fun ⟨i,j,a,b,q⟩=>⟨i,a,j,b,q⟩,fun ⟨i,a,j,b,q⟩=>⟨i,j,a,b,q⟩⟩
end
inductive Fl where
  | nx (ρ:En) | rt (w:W) | bk (ρ:En) | ct (ρ:En)
def mS (t:TSv) (ρ:En):Mo Fl:=fun Q=>t ⟨fun ρ=>Q (.nx ρ),fun w=>Q (.rt w),fun ρ=>Q (.bk ρ),fun ρ=>Q (.ct ρ)⟩ ρ
def sq (m:Mo Fl) (k:En -> Mo Fl):Mo Fl:=bnd m fun fl=>match fl with
  | .nx ρ=>k ρ
  | .rt w=>ret (.rt w)
  | .bk ρ=>ret (.bk ρ)
  | .ct ρ=>ret (.ct ρ)
def endQ (Q:PyData -> Prop):Fl -> Prop
  | .nx _=>Q .none
  | .rt w=>∃ d,w.fz = .d d /\ Q d
  | _=>False
section
variable {fa fb fc:TV} {fs:TVs} {f g:TB} {ρ:En} {t u:TSv} {k:En -> Mo Fl}
theorem read_of {Q:PyData -> Prop} (h:mS t ρ (endQ Q)):t (vEnds Q) ρ:=h
theorem end_d (Q:PyData -> Prop) (d:PyData):endQ Q (.rt (.d d)) = Q d:=propext ⟨fun ⟨_,e,q⟩=>by cases e; exact q,fun q=>⟨d,rfl,q⟩⟩
theorem end_ml (Q:PyData -> Prop) (d:List PyData):endQ Q (.rt (.ml d)) = Q (.list d):=propext ⟨fun ⟨_,e,q⟩=>by cases e; exact q,fun q=>⟨_,rfl,q⟩⟩
theorem end_nx (Q:PyData -> Prop) (ρ:En):endQ Q (.nx ρ) = Q .none:=nr rfl
theorem sq_nx:sq (ret (.nx ρ)) k = k ρ:=nr rfl
theorem sq_rt (w:W):sq (ret (.rt w)) k = ret (.rt w):=nr rfl
theorem sq_bk:sq (ret (.bk ρ)) k = ret (.bk ρ):=nr rfl
theorem sq_ct:sq (ret (.ct ρ)) k = ret (.ct ρ):=nr rfl
theorem sq_grd (P:Prop) (m:Mo Fl):sq (grd P m) k = grd P (sq m k):=nr rfl
theorem sq_stk:sq stk k = stk:=nr rfl
theorem sq_ite (c:Prop) [Decidable c] (a b:Mo Fl):sq (if c then a else b) k = if c then sq a k else sq b k:=by split <;> rfl
theorem sq_opt {α:Type} (o:Option α) (h : α -> Mo Fl):sq (optM o h) k = optM o fun a=>sq (h a) k:=by cases o <;> rfl
theorem s_next:mS vNext ρ = ret (.nx ρ):=nr rfl
theorem s_seq:mS (vSeq t u) ρ = sq (mS t ρ) (mS u):=by
  refine mo_ext fun Q=>?_
  show t ⟨fun ρ=>u ⟨_,_,_,_⟩ ρ,_,_,_⟩ ρ ↔ _
  exact Iff.rfl
theorem s_ret:mS (vRet fa) ρ = bnd (fa ρ) fun w=>ret (.rt w):=nr rfl
theorem s_ifS:mS (vIfS f t u) ρ = bnd (f ρ) fun b=>if b = true then mS t ρ else mS u ρ:=by
  refine mo_ext fun Q=>?_
  simp only [mS,vIfS,bnd,ite_ap]
theorem s_set (i:Nat):mS (vSet i fa) ρ = bnd (fa ρ) fun w=>grd (w.isPk = false) (ret (.nx (ρ.set i (some w)))):=nr rfl
theorem s_never:mS (fun _ _=>False) ρ = stk:=nr rfl
theorem m_hName (i:Nat) (x:PyData):hName i x ρ = ret (ρ.set i (some (.d x))):=nr rfl
theorem m_hNil (xs:List PyData):hNil xs ρ = grd (xs = []) (ret ρ):=nr rfl
theorem m_hCons {g:TGv} {gs:TGvs} (xs:List PyData):hCons g gs xs ρ = optM (match xs with | []=>none | y :: r=>some (y,r)) fun p=>bnd (g p.1 ρ) fun ρ'=>gs p.2 ρ':=by
  refine mo_ext fun Q=>?_
  simp only [opt_iff,hCons,bnd]
  constructor
  · rintro ⟨y,r,rfl,q⟩; exact ⟨(y,r),rfl,q⟩
  · rintro ⟨p,e,q⟩
    cases xs with
    | nil=>cases e
    | cons y r=>cases e; exact ⟨y,r,rfl,q⟩
theorem m_hCons_c {g:TGv} {gs:TGvs} (y:PyData) (r:List PyData):hCons g gs (y :: r) ρ = bnd (g y ρ) fun ρ'=>gs r ρ':=by rw [m_hCons]; rfl
theorem m_hNil_n:hNil [] ρ = ret ρ:=by rw [m_hNil,grd_t rfl]
theorem m_hTup (n:Nat) {gs:TGvs} (x:PyData):hTup n gs x ρ = optM (tupD x) fun xs=>grd (xs.length = n) (gs xs ρ):=by
  refine mo_ext fun Q=>?_
  simp only [opt_iff,tupD_of,hTup,grd]
theorem s_par (i j:Nat):mS (vPar i j fs) ρ = bnd (fs ρ) fun ws=>optM (dats ws) fun ds=>optM (match ds with | [x,y]=>some (x,y) | _=>none) fun p=>ret (.nx ((ρ.set i (some (.d p.1))).set j (some (.d p.2)))):=by
  show (bnd (fs ρ) fun ws=>fun (Q:Fl -> Prop)=>∃ x y,dats ws = some [x,y] /\ Q (.nx ((ρ.set i (some (.d x))).set j (some (.d y))))) = _
  congr 1; funext ws
  refine mo_ext fun Q=>?_
  simp only [opt_iff,ret]
  constructor
  · rintro ⟨x,y,e,q⟩; exact ⟨_,e,(x,y),rfl,q⟩
  · rintro ⟨ds,e,p,e2,q⟩
    split at e2
    · cases e2; exact ⟨_,_,e,q⟩
    · cases e2
def slI (ρ:En) (i:Nat):Option Int:=((ρ[i]?).join).bind asI
def asM:W -> Option (List PyData)
  | .ml xs=>some xs
  | _=>none
def slM (ρ:En) (i:Nat):Option (List PyData):=((ρ[i]?).join).bind asM
theorem asM_ml (xs:List PyData):asM (.ml xs) = some xs:=rfl
theorem asM_of {w:W} {xs:List PyData}:asM w = some xs ↔ w = .ml xs:=by
  constructor
  · intro h; unfold asM at h; split at h <;> simp_all
  · rintro rfl; rfl
theorem slM_of {i:Nat} {xs:List PyData}:slM ρ i = some xs ↔ ρ[i]? = some (some (.ml xs)):=by
  unfold slM
  constructor
  · intro h
    cases q : ρ[i]? with
    | none=>rw [q] at h; cases h
    | some o=>rw [q] at h; cases o with
      | none=>cases h
      | some w=>rw [asM_of.mp h]
  · intro h; rw [h]; rfl
theorem slI_of {i:Nat} {n:Int}:slI ρ i = some n ↔ ρ[i]? = some (some (.d (.int n))):=by
  unfold slI
  constructor
  · intro h
    cases q : ρ[i]? with
    | none=>rw [q] at h; cases h
    | some o=>rw [q] at h; cases o with
      | none=>cases h
      | some w=>rw [asI_of.mp h]
  · intro h; rw [h]; rfl
theorem s_aug (i:Nat) (C:Int -> Int -> Prop) (h:Int -> Int -> Int):mS (vAug i C h fa) ρ = optM (slI ρ i) fun n=>bnd (fa ρ) fun w=>optM (asI w) fun m=>grd (C n m) (ret (.nx (ρ.set i (some (.d (.int (h n m))))))):=by
  refine mo_ext fun Q=>?_
  simp only [mS,vAug,bnd,opt_iff,slI_of,asI_of,grd,ret]
theorem s_frz (i:Nat):mS (vFrz i t) ρ = optM (slM ρ i) fun xs=>mS t (ρ.set i (some (.d (.list xs)))):=by
  refine mo_ext fun Q=>?_
  simp only [mS,vFrz,opt_iff,slM_of]
theorem s_mut (i:Nat) (h:List PyData -> List W -> (List PyData -> Prop) -> Prop):mS (vMut i h fs) ρ = optM (slM ρ i) fun xs=>bnd (fs ρ) fun ws=>bnd (h xs ws) fun ys=>ret (.nx (ρ.set i (some (.ml ys)))):=by
  refine mo_ext fun Q=>?_
  simp only [mS,vMut,bnd,opt_iff,slM_of,ret]
theorem m_gApp (xs:List PyData) (w:W):gApp xs [w] = optM (asD w) fun x=>grd (xs.length < sizeLine) (ret (xs ++ [x])):=by
  refine mo_ext fun Q=>?_
  simp only [gApp,opt_iff,asD_of,grd,ret]
  constructor
  · rintro ⟨x,e,a,q⟩
    cases w <;> first | (cases e; exact ⟨_,rfl,a,q⟩) | cases e
  · rintro ⟨x,rfl,a,q⟩; exact ⟨x,rfl,a,q⟩
end
end L2.VL

namespace L2.VL
open PySem PySem.Spec PyProof.Rows
def Le (a b:En):Prop:=a.length = b.length /\ ∀ (i:Nat) w,a[i]? = some (some w) -> b[i]? = some (some w)
theorem Le.refl (a:En):Le a a:=⟨rfl,fun _ _ h=>h⟩
theorem Le.trans {a b c:En} (h:Le a b) (h':Le b c):Le a c:=⟨h.1.trans h'.1,fun i w e=>h'.2 i w (h.2 i w e)⟩
theorem le_nil:Le [] [] = True:=propext ⟨fun _=>trivial,fun _=>Le.refl _⟩
theorem le_cn (x:Option W) (a b:En):Le (none :: a) (x :: b) = Le a b:=by
  refine propext ⟨fun h=>⟨by have:=h.1; simpa using this,fun i w e=>by have:=h.2 (i + 1) w (by simpa using e); simpa using this⟩,fun h=>⟨by simp [h.1],fun i w e=>?_⟩⟩
  cases i with
  | zero=>simp at e
  | succ i=>simpa using h.2 i w (by simpa using e)
theorem le_cs (x:Option W) (a b:En):Le (x :: a) (x :: b) = Le a b:=by
  refine propext ⟨fun h=>⟨by have:=h.1; simpa using this,fun i w e=>by have:=h.2 (i + 1) w (by simpa using e); simpa using this⟩,fun h=>⟨by simp [h.1],fun i w e=>?_⟩⟩
  cases i with
  | zero=>simpa using e
  | succ i=>simpa using h.2 i w (by simpa using e)
theorem VR.le {K:W.Frag} {rl:RlT} {F₀ H₀ F H:Hp} {σ:St} {ρ ρ0:En} (R:VR K rl F₀ H₀ F H σ ρ) (h:Le ρ0 ρ):VR K rl F₀ H₀ F H σ ρ0 :=
  ⟨R.g,fun i w e=>R.sl i w (h.2 i w e),fun i j x y v n e1 e2=>R.ap i j x y v n (h.2 i x e1) (h.2 j y e2),fun i xs e=>R.np i xs (h.2 i _ e),h.1.trans R.len⟩
def fo:List Nat -> En -> En
  | [],ρ=>ρ
  | i :: l,ρ=>fo l (ρ.set i none)
theorem le_set (ρ:En) (i:Nat):Le (ρ.set i none) ρ:=by
  refine ⟨by simp,fun j w e=>?_⟩
  rw [List.getElem?_set] at e
  split at e
  · split at e
    · cases e
    · cases e
  · exact e
theorem le_fo:∀ (l:List Nat) (ρ:En),Le (fo l ρ) ρ
  | [],ρ=>Le.refl ρ
  | i :: l,ρ=>(le_fo l (ρ.set i none)).trans (le_set ρ i)
theorem fo_nil (ρ:En):fo [] ρ = ρ:=rfl
theorem fo_cons (i:Nat) (l:List Nat) (ρ:En):fo (i :: l) ρ = fo l (ρ.set i none):=rfl
def vLoopF (fl:List Nat) (g:TGv) (t:TSv):List PyData -> TSv
  | [],D,ρ=>D.nx ρ
  | x :: xs,D,ρ=>g x ρ fun ρ2=>t { D with nx:=fun ρ'=>vLoopF fl g t xs D (fo fl ρ'),ct:=fun ρ'=>vLoopF fl g t xs D (fo fl ρ'),bk:=fun ρ'=>D.nx (fo fl ρ') } ρ2
def vForF (fl:List Nat) (fi:En -> (List PyData -> Prop) -> Prop) (g:TGv) (t:TSv):TSv:=fun D ρ=>fi ρ fun xs=>vLoopF fl g t xs D (fo fl ρ)
section
variable {X:Cx} {rl:RlT} {st:Stmt} {rest body:List Stmt} {t u:TSv} {a b c e:Expr} {es:List Expr} {fa fb:TV} {fs:TVs} {f:TB} {pos p:Pos}
theorem vs_forF (fl:List Nat) {tg iter:Expr} {fi:En -> (List PyData -> Prop) -> Prop} {g:TGv} (hp:PassesOwn (model X.prog X.w) X.A X.env X.xe) (hc:X.calm = true) (hi:PIV X rl tg iter fi) (hg:PGV X rl tg g) (hb:PSsV X rl body t)
    (hs:∀ x,foldedSetIterable iter X.env x = pure x:=by intro _; rfl):PSV X rl (.For tg iter body [] pos) (vForF fl fi g t):=by
  obtain ⟨wi,p0,k0⟩:=hi
  obtain ⟨G,p1,k1⟩:=hg
  obtain ⟨T,p2,k2⟩:=hb
  refine ⟨_,ps_for hp hc p0 p1 p2 hs,fun {F₀ H₀ F H σ ρ} R Dv D ok q=>k0 R _ _ q fun J xs F1 H1 g1 vi q1=>?_⟩
  refine ⟨fun i m σ H=>m = xs.length - i /\ i <= xs.length /\ ∃ F ρ,Same F1 F /\ VR X.K rl F₀ H₀ F H σ ρ /\ vLoopF fl g t (xs.drop i) Dv ρ,⟨xs.length,by simp,Nat.zero_le _,F1,fo fl ρ,.refl _,(R.grow g1).le (le_fo fl ρ),by simpa using q1⟩,?_⟩
  rintro i m σ H ⟨rfl,hi,F2,ρ2,s2,R2,j2⟩
  have sH:Same F1 H:=s2.trans R2.sub
  by_cases hlt:i < xs.length
  · have ei:xs[i]? = some xs[i]:=by simp [hlt]
    rw [List.drop_eq_getElem_cons hlt] at j2
    refine .inr ⟨vi.go i H _ ei sH,fun σ' H'=>∃ F ρ,Same F1 F /\ VR X.K rl F₀ H₀ F H' σ' ρ /\ vLoopF fl g t (xs.drop (i + 1)) Dv ρ,fun σ' H' z=>⟨xs.length - (i + 1),by omega,rfl,hlt,z⟩,fun v H' y=>?_⟩
    obtain ⟨Fy,gy,rv⟩:=vi.yld i H v H' _ F2 ei s2 R2.sub R2.reel y
    refine k1 (R2.grow gy) v _ _ _ rv j2 fun F3 H3 σ3 ρ3 s3 n3 R3 q3=>?_
    have s13:Same F1 F3:=s2.trans (gy.fs.trans s3.fs)
    exact k2 R3 { Dv with nx:=fun ρ'=>vLoopF fl g t (xs.drop (i + 1)) Dv (fo fl ρ'),ct:=fun ρ'=>vLoopF fl g t (xs.drop (i + 1)) Dv (fo fl ρ'),bk:=fun ρ'=>Dv.nx (fo fl ρ') } _
      ⟨fun F4 H4 σ4 ρ4 s4 R4 q4=>⟨F4,fo fl ρ4,s13.trans s4,R4.le (le_fo fl ρ4),q4⟩,ok.rt,fun F4 H4 σ4 ρ4 s4 R4 q4=>ok.nx _ _ _ _ (g1.fs.trans (s13.trans s4)) (R4.le (le_fo fl ρ4)) q4,fun F4 H4 σ4 ρ4 s4 R4 q4=>⟨F4,fo fl ρ4,s13.trans s4,R4.le (le_fo fl ρ4),q4⟩⟩ q3
  · have e:i = xs.length:=by omega
    subst e
    rw [List.drop_length] at j2
    exact .inl ⟨vi.stop _ H (Nat.le_refl _) sH,ok.nx _ _ _ _ (g1.fs.trans s2) R2 j2⟩
def vWh (fl:List Nat) (f:TB) (t:TSv) (m:Nat):TSv:=fun D ρ=>f ρ fun b=>if b = true then t { D with nx:=fun ρ'=>∃ k,∃ h:k < m,vWh fl f t k D (fo fl ρ'),ct:=fun ρ'=>∃ k,∃ h:k < m,vWh fl f t k D (fo fl ρ'),bk:=fun ρ'=>D.nx (fo fl ρ') } ρ else D.nx ρ
termination_by m
def vWhileF (fl:List Nat) (f:TB) (t:TSv):TSv:=fun D ρ=>∃ m,vWh fl f t m D (fo fl ρ)
theorem vWh_eq (fl:List Nat) (f:TB) (t:TSv) (m:Nat) (D:VEnds) (ρ:En):vWh fl f t m D ρ = f ρ fun b=>if b = true then t { D with nx:=fun ρ'=>∃ k,∃ h:k < m,vWh fl f t k D (fo fl ρ'),ct:=fun ρ'=>∃ k,∃ h:k < m,vWh fl f t k D (fo fl ρ'),bk:=fun ρ'=>D.nx (fo fl ρ') } ρ else D.nx ρ:=by
  conv=>lhs; unfold vWh
theorem vs_whileF (fl:List Nat) (hp:PassesOwn (model X.prog X.w) X.A X.env X.xe) (hc:PB X rl c f) (hb:PSsV X rl body t):PSV X rl (.While c body [] pos) (vWhileF fl f t):=by
  obtain ⟨t0,p0,k0⟩:=hc
  obtain ⟨t1,p1,k1⟩:=hb
  refine ⟨_,ps_while hp p0 p1,fun {F₀ H₀ F H σ ρ} R Dv D ok q=>?_⟩
  obtain ⟨m,j0⟩:=q
  refine ⟨fun m σ' H'=>∃ F' ρ',Same F F' /\ VR X.K rl F₀ H₀ F' H' σ' ρ' /\ vWh fl f t m Dv ρ',⟨m,F,fo fl ρ,.refl _,R.le (le_fo fl ρ),j0⟩,?_⟩
  rintro m σ2 H2 ⟨F2,ρ2,s2,R2,j⟩
  rw [vWh_eq] at j
  refine k0 R2 _ _ j fun b F1 H1 g1 q1=>?_
  cases b with
  | false=>exact ok.nx _ _ _ _ (s2.trans g1.fs) (R2.grow g1) q1
  | true =>
    refine ⟨fun σ' H'=>∃ F' ρ',Same F F' /\ VR X.K rl F₀ H₀ F' H' σ' ρ' /\ ∃ m',m' < m /\ vWh fl f t m' Dv ρ',fun σ' H' ⟨F',ρ',s',R',m',hm,j⟩=>⟨m',hm,F',ρ',s',R',j⟩,?_⟩
    exact k1 (R2.grow g1) { Dv with nx:=fun ρ'=>∃ k,∃ h:k < m,vWh fl f t k Dv (fo fl ρ'),ct:=fun ρ'=>∃ k,∃ h:k < m,vWh fl f t k Dv (fo fl ρ'),bk:=fun ρ'=>Dv.nx (fo fl ρ') } _
      ⟨fun F3 H3 σ3 ρ3 s3 R3 ⟨m',hm,q3⟩=>⟨F3,fo fl ρ3,(s2.trans g1.fs).trans s3,R3.le (le_fo fl ρ3),m',hm,q3⟩,ok.rt,fun F3 H3 σ3 ρ3 s3 R3 q3=>ok.nx _ _ _ _ ((s2.trans g1.fs).trans s3) (R3.le (le_fo fl ρ3)) q3,fun F3 H3 σ3 ρ3 s3 R3 ⟨m',hm,q3⟩=>⟨F3,fo fl ρ3,(s2.trans g1.fs).trans s3,R3.le (le_fo fl ρ3),m',hm,q3⟩⟩ q1
end
def lpK (fl:List Nat) (k:En -> Mo Fl):Fl -> Mo Fl
  | .nx ρ=>k (fo fl ρ)
  | .ct ρ=>k (fo fl ρ)
  | .bk ρ=>ret (.nx (fo fl ρ))
  | .rt w=>ret (.rt w)
def loopM (fl:List Nat) (b:PyData -> En -> Mo Fl):List PyData -> En -> Mo Fl
  | [],ρ=>ret (.nx ρ)
  | x :: xs,ρ=>bnd (b x ρ) (lpK fl (loopM fl b xs))
theorem loop_eq (fl:List Nat) (g:TGv) (t:TSv):∀ (xs:List PyData) (ρ:En),mS (vLoopF fl g t xs) ρ = loopM fl (fun x ρ=>bnd (g x ρ) (mS t)) xs ρ
  | [],ρ=>rfl
  | x :: xs,ρ=>by
    refine mo_ext fun Q=>?_
    show (g x ρ fun ρ2=>t ⟨fun ρ'=>mS (vLoopF fl g t xs) (fo fl ρ') Q,fun w=>Q (.rt w),fun ρ'=>Q (.nx (fo fl ρ')),fun ρ'=>mS (vLoopF fl g t xs) (fo fl ρ') Q⟩ ρ2) ↔ _
    simp only [loop_eq fl g t xs]
    exact Iff.rfl
def bdy (g:TGv) (t:TSv):PyData -> En -> Mo Fl:=fun x ρ=>bnd (g x ρ) (mS t)
theorem bdy_ap (g:TGv) (t:TSv) (x:PyData) (ρ:En):bdy g t x ρ = bnd (g x ρ) (mS t):=nr rfl
theorem s_for (fl:List Nat) (fi:En -> (List PyData -> Prop) -> Prop) (g:TGv) (t:TSv) (ρ:En):mS (vForF fl fi g t) ρ = bnd (fi ρ) fun xs=>loopM fl (bdy g t) xs (fo fl ρ):=by
  refine mo_ext fun Q=>?_
  show (fi ρ fun xs=>mS (vLoopF fl g t xs) (fo fl ρ) Q) ↔ _
  simp only [loop_eq]
  exact Iff.rfl
def lpQ (fl:List Nat) (J:En -> Prop) (Q:Fl -> Prop):Fl -> Prop
  | .nx ρ=>J (fo fl ρ)
  | .ct ρ=>J (fo fl ρ)
  | .bk ρ=>Q (.nx (fo fl ρ))
  | .rt w=>Q (.rt w)
section
variable {α σ:Type} {fl:List Nat} {b:PyData -> En -> Mo Fl}
theorem loop_inv (J:Nat -> En -> Prop) {Q:Fl -> Prop}:∀ {xs:List PyData} {ρ:En} (n:Nat),J n ρ -> (∀ i x ρ,xs[i]? = some x -> J (n + i) ρ -> ∀ k:Fl -> Prop,(∀ r,lpQ fl (J (n + i + 1)) Q r -> k r) -> b x ρ k) -> (∀ ρ,J (n + xs.length) ρ -> Q (.nx ρ)) -> loopM fl b xs ρ Q
  | [],ρ,n,h0,_,fin=>fin ρ h0
  | x :: xs,ρ,n,h0,step,fin=>by
    refine step 0 x ρ rfl h0 (fun r=>lpK fl (loopM fl b xs) r Q) fun r hr=>?_
    have rc:∀ ρ',J (n + 1) ρ' -> loopM fl b xs ρ' Q:=fun ρ' h'=>loop_inv J (n + 1) h' (fun i y ρ e j k hk=>step (i + 1) y ρ (by simpa using e) (by rw [show n + (i + 1) = n + 1 + i by omega]; exact j) k (by rw [show n + (i + 1) + 1 = n + 1 + i + 1 by omega]; exact hk)) (fun ρ j=>fin ρ (by rw [List.length_cons,show n + (xs.length + 1) = n + 1 + xs.length by omega]; exact j))
    cases r with
    | nx ρ'=>exact rc _ hr
    | ct ρ'=>exact rc _ hr
    | bk ρ'=>exact hr
    | rt w=>exact hr
theorem loop_by {xs:List α} {enc : α -> PyData} {ρ:En} {Q:Fl -> Prop} (J:Nat -> En -> Prop) (h0:J 0 ρ)
    (step:∀ i (h:i < xs.length) ρ,J i ρ -> ∀ k:Fl -> Prop,(∀ r,lpQ fl (J (i + 1)) Q r -> k r) -> b (enc xs[i]) ρ k) (fin:∀ ρ,J xs.length ρ -> Q (.nx ρ)):loopM fl b (xs.map enc) ρ Q:=by
  refine loop_inv J 0 h0 (fun i x ρ e j k hk=>?_) (fun ρ j=>fin ρ (by simpa using j))
  have hi:i < xs.length:=by have:=(List.getElem?_eq_some_iff.mp e).1; simpa using this
  rw [List.getElem?_map,List.getElem?_eq_getElem hi] at e
  cases e
  rw [Nat.zero_add] at j hk
  exact step i hi ρ j k hk
theorem loop_byR {lo:Int} {n:Nat} {ρ:En} {Q:Fl -> Prop} (J:Nat -> En -> Prop) (h0:J 0 ρ)
    (step:∀ i,i < n -> ∀ ρ,J i ρ -> ∀ k:Fl -> Prop,(∀ r,lpQ fl (J (i + 1)) Q r -> k r) -> b (.int (lo + i)) ρ k) (fin:∀ ρ,J n ρ -> Q (.nx ρ)):loopM fl b (rangeD lo n) ρ Q:=by
  refine loop_by (xs:=List.range n) J h0 (fun i h ρ j k hk=>?_) (fun ρ j=>fin ρ (by simpa using j))
  rw [List.getElem_range]
  exact step i (by simpa using h) ρ j k hk
end
def whileM (fl:List Nat) (f:TB) (t:TSv) (ρ:En):Mo Fl:=fun Q=>∃ m,mS (vWh fl f t m) ρ Q
theorem s_while (fl:List Nat) (f:TB) (t:TSv) (ρ:En):mS (vWhileF fl f t) ρ = whileM fl f t (fo fl ρ):=nr rfl
theorem wh_eq (fl:List Nat) (f:TB) (t:TSv) (m:Nat) (ρ:En):mS (vWh fl f t m) ρ = bnd (f ρ) fun b=>if b = true then bnd (mS t ρ) (lpK fl fun ρ'=>fun Q=>∃ k,∃ h:k < m,mS (vWh fl f t k) ρ' Q) else ret (.nx ρ):=by
  refine mo_ext fun Q=>?_
  show vWh fl f t m _ ρ ↔ _
  rw [vWh_eq]
  simp only [bnd,ite_ap]
  exact Iff.rfl
theorem while_f {fl:List Nat} {f:TB} {t:TSv} {ρ:En} (h:f ρ = ret false):whileM fl f t ρ = ret (.nx ρ):=by
  refine mo_ext fun Q=>?_
  constructor
  · rintro ⟨m,q⟩; rw [wh_eq,h,bnd_ret,if_neg (by decide)] at q; exact q
  · intro q; refine ⟨0,?_⟩; rw [wh_eq,h,bnd_ret,if_neg (by decide)]; exact q
theorem while_t {fl:List Nat} {f:TB} {t:TSv} {ρ ρ':En} (h:f ρ = ret true) (h2:mS t ρ = ret (.nx ρ')):whileM fl f t ρ = whileM fl f t (fo fl ρ'):=by
  refine mo_ext fun Q=>?_
  constructor
  · rintro ⟨m,q⟩; rw [wh_eq,h,bnd_ret,if_pos rfl,h2,bnd_ret] at q; obtain ⟨k,_,q⟩:=q; exact ⟨k,q⟩
  · rintro ⟨m,q⟩; refine ⟨m + 1,?_⟩; rw [wh_eq,h,bnd_ret,if_pos rfl,h2,bnd_ret]; exact ⟨m,Nat.lt_succ_self m,q⟩
theorem while_det {σ:Type} {fl:List Nat} {f:TB} {t:TSv} (st : σ -> En) (c : σ -> Bool) (nxt : σ -> σ) (μ : σ -> Nat) (I : σ -> Prop)
    (hf:∀ s,I s -> f (st s) = ret (c s)) (ht:∀ s,I s -> c s = true -> I (nxt s) /\ μ (nxt s) < μ s /\ ∃ ρ',mS t (st s) = ret (.nx ρ') /\ fo fl ρ' = st (nxt s)) (s : σ) (hs:I s):∃ s',I s' /\ c s' = false /\ whileM fl f t (st s) = ret (.nx (st s')):=by
  induction hm : μ s using Nat.strongRecOn generalizing s with
  | ind n ih =>
    subst hm
    cases hc:c s with
    | false=>exact ⟨s,hs,hc,while_f (by rw [hf s hs,hc])⟩
    | true =>
      obtain ⟨i1,m1,ρ',e1,e2⟩:=ht s hs hc
      obtain ⟨s',a,b,e⟩:=ih _ m1 (nxt s) i1 rfl
      exact ⟨s',a,b,by rw [while_t (by rw [hf s hs,hc]) e1,e2,e]⟩
def vGoR (ρ0:En) (g:TGv) (ft:TB) (fe:TV):List PyData -> List PyData -> (List PyData -> Prop) -> Prop
  | [],acc,Q=>Q acc
  | x :: xs,acc,Q=>g x ρ0 fun ρ2=>Le ρ0 ρ2 /\ ft ρ2 fun b=>if b = true then fe ρ2 fun w=>∃ d,w.fz = .d d /\ acc.length < sizeLine /\ vGoR ρ0 g ft fe xs (acc ++ [d]) Q else vGoR ρ0 g ft fe xs acc Q
def vCompR (fi:En -> (List PyData -> Prop) -> Prop) (fr:List (Option Nat)) (g:TGv) (ft:TB) (fe:TV):TV:=fun ρ Q=>fi ρ fun xs=>vGoR (frEn fr ρ) g ft fe xs [] fun ds=>Q (.ml ds)
section
variable {X:Cx} {rl:RlT} {elt tg iter:Expr} {ifs:List Expr} {scope:Scope} {pos:Pos} {fi:En -> (List PyData -> Prop) -> Prop} {g:TGv} {ft:TB} {fe:TV}
theorem lcompR_k {N':List Str} {wi:TI} (fr:List (Option Nat)) (k0:∀ {F₀ H₀ F H:Hp} {σ:St} {ρ:En},VR X.K rl F₀ H₀ F H σ ρ -> ∀ (Qd:List PyData -> Prop) (R:It -> Hp -> Prop),fi ρ Qd ->
      (∀ J xs F' H',Grow rl F H F' H' -> VIt X.K rl F' J xs -> Qd xs -> R J H') -> wi σ H R)
    (hg:∀ y,PGV (blk X N' scope y) rl tg g) (ht:∀ y,PTVs (blk X N' scope y) rl ifs ft) (he:∀ y,PV (blk X N' scope y) rl elt fe)
    {F₀ H₀ F H:Hp} {σ:St} {ρ:En} (R:VR X.K rl F₀ H₀ F H σ ρ) (Qd:W -> Prop) (Q:VK) (q:vCompR fi fr g ft fe ρ Qd)
    (k:∀ v w F' H',Grow rl F H F' H' -> RelW X.K rl F' H' v w -> NewIn H v w -> Qd w -> Q v H'):tComp wi fr (fun y=>Classical.choose (hg y)) (fun y=>Classical.choose (ht y)) (fun y=>Classical.choose (he y)) σ H Q:=by
  refine k0 R _ _ q fun J xs F1 H1 g1 vi q1=>?_
  intro D hD
  have rD:rl.a ≠ some D:=fun e=>by obtain ⟨o,z⟩:=g1.reel.live e; rw [hD] at z; cases z
  have FD:F1 D = none:=g1.sub.free hD
  have gD:Grow rl F1 H1 F1 (upd H1 D (.lst [])):=Grow.laid g1.sub g1.reel hD
  have R1:=R.grow g1
  have n0:NoMl (frEn fr ρ):=noMl_block
  refine ⟨fun i m acc σc Hc=>m = xs.length - i /\ i <= xs.length /\ ∃ Fc ds,VR X.K rl F1 H1 Fc Hc σc (frEn fr ρ) /\ Hc D = some (.lst acc) /\ Fc D = none /\ Reps X.K Fc acc ds /\ vGoR (frEn fr ρ) g ft fe (xs.drop i) ds (fun ds=>Qd (.ml ds)),
    ⟨xs.length,by simp,Nat.zero_le _,F1,[],vr_block R1 gD,upd_same,FD,.nil,by simpa using q1⟩,?_⟩
  rintro z i m acc σc Hc ⟨rfl,hi,Fc,ds,Rc,hDc,fDc,rs,q2⟩
  have sH:Same F1 Hc:=Rc.g.fs.trans Rc.sub
  by_cases hlt:i < xs.length
  · have ei:xs[i]? = some xs[i]:=by simp [hlt]
    have ed:xs.drop i = xs[i] :: xs.drop (i + 1):=List.drop_eq_getElem_cons hlt
    rw [ed] at q2
    refine .inr ⟨vi.go i Hc _ ei sH,fun v H' y=>?_⟩
    obtain ⟨Fy,gy,rv⟩:=vi.yld i Hc v H' _ Fc ei Rc.g.fs Rc.sub Rc.reel y
    refine (Classical.choose_spec (hg z)).2 (Rc.grow gy) v _ _ _ rv q2 fun F3 H3 σ3 ρ3 g3 n3 R3 ⟨le3,q3⟩=>?_
    refine (Classical.choose_spec (ht z)).2 R3 _ _ q3 fun b F4 H4 g4 q4=>?_
    have R4:=R3.grow g4
    have g34:=(gy.trans g3).trans g4
    have keepD:∀ {Fx Hx:Hp},Grow rl Fc Hc Fx Hx -> Hx D = some (.lst acc) /\ Fx D = none:=fun gx=>⟨gx.same D _ hDc rD,by rw [gx.old D _ hDc]; exact fDc⟩
    cases b with
    | false=>exact ⟨xs.length - (i + 1),by omega,rfl,hlt,F4,ds,R4.le le3,(keepD g34).1,(keepD g34).2,rs.mono g34.fs,q4⟩
    | true =>
      refine (Classical.choose_spec (he z)).2 R4 _ _ q4 fun v5 w5 F5 H5 g5 r5 n5 ⟨d,ed5,hl,q5⟩=>?_
      obtain ⟨F6,g6,s6,r6⟩:=RelW.fz g5 r5 n5
      rw [ed5] at r6
      have g36:=g34.trans g6
      refine ⟨(keepD g36).1,by rw [rs.length]; exact hl,xs.length - (i + 1),by omega,rfl,hlt,F6,ds ++ [d],((R4.grow g6).le le3).other n0 hD (keepD g36).2 rD,upd_same,(keepD g36).2,(rs.mono g36.fs).snoc r6,q5⟩
  · have e:i = xs.length:=by omega
    subst e
    rw [List.drop_length] at q2
    refine .inl ⟨vi.stop _ Hc (Nat.le_refl _) sH,k _ (.ml ds) Fc Hc (g1.trans Rc.g) ⟨D,acc,rfl,fDc,rD,hDc,rs⟩ (fun a ea=>by cases ea; exact g1.freeB hD) q2⟩
theorem v_lcompR (N':List Str) (fr:List (Option Nat)) (hc:X.calm = true) (hi:PIV X rl tg iter fi)
    (hg:∀ y,PGV (blk X N' scope y) rl tg g) (ht:∀ y,PTVs (blk X N' scope y) rl ifs ft) (he:∀ y,PV (blk X N' scope y) rl elt fe)
    (hfr:frOk fr N' X.N scope X.env.scope = true:=by rfl) (hsc:scOk scope X.env.scope = true:=by rfl)
    (hs:∀ x,foldedSetIterable iter X.env x = pure x:=by intro _; rfl):PV X rl (.ListComp elt [⟨tg,iter,ifs,0⟩] scope pos) (vCompR fi fr g ft fe):=by
  obtain ⟨wi,p0,k0⟩:=hi
  exact ⟨_,pe_lcomp N' fr hc p0 hfr hsc (fun y=>(Classical.choose_spec (hg y)).1) (fun y=>(Classical.choose_spec (ht y)).1) (fun y=>(Classical.choose_spec (he y)).1) hs,fun R Qd Q q k=>lcompR_k fr k0 hg ht he R Qd Q q k⟩
end
def itM (ρ0:En) (g:TGv) (ft:TB) (fe:TV) (x:PyData):Mo (Option PyData):=bnd (g x ρ0) fun ρ2=>grd (Le ρ0 ρ2) (bnd (ft ρ2) fun b=>if b = true then bnd (fe ρ2) fun w=>optM (asD w.fz) fun d=>ret (some d) else ret none)
def compM (b:PyData -> Mo (Option PyData)):List PyData -> List PyData -> Mo (List PyData)
  | [],acc=>ret acc
  | x :: xs,acc=>bnd (b x) fun o=>match o with
    | some d=>grd (acc.length < sizeLine) (compM b xs (acc ++ [d]))
    | none=>compM b xs acc
theorem comp_eq (ρ0:En) (g:TGv) (ft:TB) (fe:TV):∀ (xs acc:List PyData),vGoR ρ0 g ft fe xs acc = compM (itM ρ0 g ft fe) xs acc
  | [],acc=>rfl
  | x :: xs,acc=>by
    refine mo_ext fun Q=>?_
    show (g x ρ0 fun ρ2=>Le ρ0 ρ2 /\ ft ρ2 fun b=>if b = true then fe ρ2 fun w=>∃ d,w.fz = .d d /\ acc.length < sizeLine /\ vGoR ρ0 g ft fe xs (acc ++ [d]) Q else vGoR ρ0 g ft fe xs acc Q) ↔ (bnd (itM ρ0 g ft fe x) _) Q
    simp only [comp_eq ρ0 g ft fe xs]
    have:∀ (ρ2:En) (b:Bool),(if b = true then fe ρ2 fun w=>∃ d,w.fz = .d d /\ acc.length < sizeLine /\ compM (itM ρ0 g ft fe) xs (acc ++ [d]) Q else compM (itM ρ0 g ft fe) xs acc Q) = (bnd (if b = true then bnd (fe ρ2) fun w=>optM (asD w.fz) fun d=>ret (some d) else ret none) fun o=>match o with
    | some d=>grd (acc.length < sizeLine) (compM (itM ρ0 g ft fe) xs (acc ++ [d]))
    | none=>compM (itM ρ0 g ft fe) xs acc) Q:=by
      intro ρ2 b
      cases b with
      | false=>rfl
      | true =>
        rw [if_pos rfl,if_pos rfl]
        show _ = fe ρ2 fun w=>_
        congr 1
        funext w
        refine propext ?_
        show _ ↔ (bnd (optM (asD w.fz) fun d=>ret (some d)) _) Q
        rw [bnd_opt,opt_iff]
        simp only [asD_of]
        exact Iff.rfl
    simp only [this]
    exact Iff.rfl
theorem m_comp (fi:En -> (List PyData -> Prop) -> Prop) (fr:List (Option Nat)) (g:TGv) (ft:TB) (fe:TV) (ρ:En):vCompR fi fr g ft fe ρ = bnd (fi ρ) fun xs=>bnd (compM (itM (frEn fr ρ) g ft fe) xs []) fun ds=>ret (.ml ds):=by
  refine mo_ext fun Q=>?_
  show (fi ρ fun xs=>vGoR (frEn fr ρ) g ft fe xs [] fun ds=>Q (.ml ds)) ↔ _
  simp only [comp_eq]
  exact Iff.rfl
section
variable {α:Type} {b:PyData -> Mo (Option PyData)}
theorem compM_acc {enc : α -> PyData} (f : α -> Option PyData):∀ (xs:List α) (acc:List PyData),(∀ x ∈ xs,b (enc x) = ret (f x)) -> acc.length + xs.length <= sizeLine -> compM b (xs.map enc) acc = ret (acc ++ xs.filterMap f)
  | [],acc,_,_=>by simp [compM]
  | x :: xs,acc,h,hl=>by
    show bnd (b (enc x)) _ = _
    rw [h x List.mem_cons_self,bnd_ret]
    simp at hl
    cases e:f x with
    | none =>
      show compM b (xs.map enc) acc = _
      rw [compM_acc f xs acc (fun y hy=>h y (List.mem_cons_of_mem _ hy)) (by omega),List.filterMap_cons_none e]
    | some d =>
      show grd (acc.length < sizeLine) (compM b (xs.map enc) (acc ++ [d])) = _
      rw [grd_t (by omega),compM_acc f xs (acc ++ [d]) (fun y hy=>h y (List.mem_cons_of_mem _ hy)) (by simp; omega),List.filterMap_cons_some e]
      simp
theorem comp_fm {xs:List α} {enc : α -> PyData} (f : α -> Option PyData) (h:∀ x ∈ xs,b (enc x) = ret (f x)) (hl:xs.length <= sizeLine):compM b (xs.map enc) [] = ret (xs.filterMap f):=by
  have:=compM_acc f xs [] h (by simpa using hl)
  simpa using this
theorem comp_map {xs:List α} {enc : α -> PyData} (f : α -> PyData) (h:∀ x ∈ xs,b (enc x) = ret (some (f x))) (hl:xs.length <= sizeLine):compM b (xs.map enc) [] = ret (xs.map f):=by
  rw [comp_fm (fun x=>some (f x)) h hl,List.filterMap_eq_map']
theorem comp_mapR {lo:Int} {n:Nat} (f:Nat -> PyData) (h:∀ j,j < n -> b (.int (lo + j)) = ret (some (f j))) (hl:n <= sizeLine):compM b (rangeD lo n) [] = ret ((List.range n).map f) :=
  comp_map (xs:=List.range n) f (fun j hj=>h j (List.mem_range.mp hj)) (by simpa using hl)
theorem comp_any_acc {enc : α -> PyData} (R : α -> PyData -> Prop) {Q:List PyData -> Prop}:∀ (xs:List α) (acc:List PyData),(∀ x ∈ xs,∀ k:Option PyData -> Prop,(∀ d,R x d -> k (some d)) -> b (enc x) k) -> acc.length + xs.length <= sizeLine -> (∀ ds,Paired R xs ds -> Q (acc ++ ds)) -> compM b (xs.map enc) acc Q
  | [],acc,_,_,fin=>by have:=fin [] .nil; rw [List.append_nil] at this; exact this
  | x :: xs,acc,h,hl,fin=>by
    simp at hl
    refine h x List.mem_cons_self _ fun d r=>?_
    refine ⟨by omega,comp_any_acc R xs (acc ++ [d]) (fun y hy=>h y (List.mem_cons_of_mem _ hy)) (by simp; omega) fun ds ps=>?_⟩
    have:=fin (d :: ds) (.cons r ps)
    simpa using this
theorem comp_any {xs:List α} {enc : α -> PyData} (R : α -> PyData -> Prop) {Q:List PyData -> Prop} (h:∀ x ∈ xs,∀ k:Option PyData -> Prop,(∀ d,R x d -> k (some d)) -> b (enc x) k) (hl:xs.length <= sizeLine) (fin:∀ ds,Paired R xs ds -> Q ds):compM b (xs.map enc) [] Q :=
  comp_any_acc R xs [] h (by simpa using hl) (by simpa using fin)
theorem comp_anyR {lo:Int} {n:Nat} (P:PyData -> Prop) {Q:List PyData -> Prop} (h:∀ j,j < n -> ∀ k:Option PyData -> Prop,(∀ d,P d -> k (some d)) -> b (.int (lo + j)) k) (hl:n <= sizeLine) (fin:∀ ds:List PyData,ds.length = n -> (∀ d ∈ ds,P d) -> Q ds):compM b (rangeD lo n) [] Q:=by
  refine comp_any (xs:=List.range n) (fun _ d=>P d) (fun j hj=>h j (List.mem_range.mp hj)) (by simpa using hl) fun ds ps=>?_
  refine fin ds ?_ ?_
  · have:=Paired.length ps; simpa using this.symm
  · clear fin h hl
    intro d hd
    generalize List.range n = l at ps
    induction ps with
    | nil=>cases hd
    | cons r _ ih=>exact (List.mem_cons.mp hd).elim (fun e=>by rw [e]; exact r) ih
end
section
variable (c:Prop) [Decidable c]
theorem ite_nx (a b:En):(if c then ret (Fl.nx a) else ret (Fl.nx b)) = ret (Fl.nx (if c then a else b)):=by split <;> rfl
theorem ite_rt (a b:W):(if c then ret (Fl.rt a) else ret (Fl.rt b)) = ret (Fl.rt (if c then a else b)):=by split <;> rfl
theorem ite_retd (a b:PyData):(if c then ret (W.d a) else ret (W.d b)) = ret (W.d (if c then a else b)):=by split <;> rfl
theorem ite_retb (a b:Bool):(if c then ret a else ret b) = ret (if c then a else b):=by split <;> rfl
theorem ite_rets (a b:PyData):(if c then ret (some a) else ret (some b)) = ret (some (if c then a else b)):=by split <;> rfl
theorem ite_cons {α:Type} (x y : α) (l m:List α):(if c then x :: l else y :: m) = (if c then x else y) :: (if c then l else m):=by split <;> rfl
theorem ite_some {α:Type} (x y : α):(if c then some x else some y) = some (if c then x else y):=by split <;> rfl
theorem ite_d (a b:PyData):(if c then W.d a else W.d b) = W.d (if c then a else b):=by split <;> rfl
theorem ite_pi (a b:Int):(if c then PyData.int a else PyData.int b) = PyData.int (if c then a else b):=by split <;> rfl
theorem ite_pb (a b:Bool):(if c then PyData.bool a else PyData.bool b) = PyData.bool (if c then a else b):=by split <;> rfl
theorem itb_tt (b y:Bool):(if b = true then true else y) = (b || y):=by cases b <;> rfl
theorem itb_ff (b y:Bool):(if b = true then y else false) = (b && y):=by cases b <;> rfl
theorem itb_ft (b y:Bool):(if b = true then false else y) = (!b && y):=by cases b <;> rfl
theorem itb_tf (b y:Bool):(if b = true then y else true) = (!b || y):=by cases b <;> rfl
end
theorem len_ok {n:Nat} (h:n <= 1000):(n <= sizeLine) = True:=by have:=PySem.sizeLine_eq; exact propext ⟨fun _=>trivial,fun _=>by omega⟩
theorem tup2 (x y:PyData):(match [x,y] with | [x,y]=>some (x,y) | _=>none) = some (x,y):=rfl
theorem bnd_tt {α β:Type} (a : α) (f : α -> Mo β):bnd (fun Q=>Q a) f = f a:=nr rfl
section
variable {α β:Type}
theorem any_step {P : α -> Prop} {f : α -> Mo β} {Q : β -> Prop} (h:∀ a,P a -> f a Q):bnd (anyM P) f Q:=h
theorem grd_step {P:Prop} {m:Mo α} {Q : α -> Prop} (h:P) (h':m Q):grd P m Q:=⟨h,h'⟩
theorem ite_step {c:Prop} [Decidable c] {a b:Mo α} {Q : α -> Prop} (h:c -> a Q) (h':¬ c -> b Q):(if c then a else b) Q:=by split <;> simp_all
end
theorem rt_end {Q:PyData -> Prop} {d:PyData} (h:Q d):ret (Fl.rt (.d d)) (endQ Q):=⟨d,rfl,h⟩
section
variable {α:Type} {k:En -> Mo Fl} {Q:Fl -> Prop}
theorem sqb {m:Mo α} {h : α -> Mo Fl} (z:bnd m (fun a=>sq (h a) k) Q):sq (bnd m h) k Q:=z
theorem sqo {o:Option α} {h : α -> Mo Fl} (z:optM o (fun a=>sq (h a) k) Q):sq (optM o h) k Q:=by rw [sq_opt]; exact z
def kc (k1 k2:En -> Mo Fl):En -> Mo Fl:=fun ρ=>sq (k1 ρ) k2
theorem kc_ap (k1 k2:En -> Mo Fl) (ρ:En):kc k1 k2 ρ = sq (k1 ρ) k2:=nr rfl
theorem sq_sq (m:Mo Fl) (k1 k2:En -> Mo Fl):sq (sq m k1) k2 = sq m (kc k1 k2):=by
  refine mo_ext fun Q=>?_
  show m _ ↔ m _
  have:∀ fl:Fl,(sq (match fl with | .nx ρ=>k1 ρ | .rt w=>ret (.rt w) | .bk ρ=>ret (.bk ρ) | .ct ρ=>ret (.ct ρ)) k2) Q = (match fl with | .nx ρ=>kc k1 k2 ρ | .rt w=>ret (.rt w) | .bk ρ=>ret (.bk ρ) | .ct ρ=>ret (.ct ρ):Mo Fl) Q:=by intro fl; cases fl <;> rfl
  exact Iff.of_eq (congrArg m (funext this))
theorem sqb_any {P : α -> Prop} {f : α -> Mo Fl} (z:∀ a,P a -> sq (f a) k Q):sq (bnd (anyM P) f) k Q:=z
end
end L2.VL

namespace L2.VL
open PySem PySem.Spec PyProof.Rows
theorem pk_sc (x:List Int):L2.VL.W.peek (.sc x) = .sc x:=rfl
theorem fz_sc (x:List Int):(W.sc x).fz = .sc x:=rfl
theorem arg_sc (x:List Int):argOk (.sc x) = true:=rfl
theorem isPk_sc (x:List Int):(W.sc x).isPk = false:=rfl
section
variable {X:Cx} {rl:RlT} {a b c e:Expr} {es:List Expr} {fa fb fc:TV} {fs:TVs} {pos p p2:Pos} {ρ:En}
def asSc:W -> Option (List Int)
  | .sc ns=>some ns
  | _=>none
theorem asSc_s (ns:List Int):asSc (.sc ns) = some ns:=rfl
theorem asSc_of {w:W} {i:List Int}:asSc w = some i ↔ w = .sc i:=by
  constructor
  · intro h; unfold asSc at h; split at h <;> simp_all
  · rintro rfl; rfl
theorem atI_map {α β:Type} (f : α -> β) (xs:List α) (i:Int):atI (xs.map f) i = (atI xs i).map f:=by
  unfold atI
  rw [List.length_map]
  cases ixN xs.length i <;> simp
theorem reps_is {K:W.Frag} {F:Hp}:∀ ns:List Int,Reps K F (ns.map V.int) (ns.map PyData.int)
  | []=>.nil
  | n :: ns=>.cons (.int n) (reps_is ns)
def vSlS (fa:TV) (fl fh:TOv):TV:=fun ρ Q=>fa ρ fun w=>fl ρ fun l=>fh ρ fun h=>∃ ns:List Int,w = .sc ns /\ Q (.ml (cutD (ns.map .int) l h))
theorem v_slSc {lo hi:Option Expr} {fl fh:TOv} (ha:PV X rl a fa) (hl:PVO X rl lo fl) (hh:PVO X rl hi fh):PV X rl (.Subscript a (.Slice lo hi none p2) pos) (vSlS fa fl fh):=by
  obtain ⟨t,p,k⟩:=ha
  obtain ⟨tl,pl,kl⟩:=hl
  obtain ⟨th,ph,kh⟩:=hh
  refine ⟨_,pe_slice sl_list p pl ph,fun R Qd Q q h=>k R _ _ q fun v w F1 H1 g1 r1 n1 q1=>?_⟩
  refine kl (R.grow g1) _ _ q1 fun l F2 H2 g2 q2=>kh ((R.grow g1).grow g2) _ _ q2 fun u F3 H3 g3 q3=>?_
  obtain ⟨ns,rfl,q3⟩:=q3
  obtain ⟨a,rfl,sq⟩:=(r1.grow g2).grow g3
  have g:=(g1.trans g2).trans g3
  exact ⟨a,_,rfl,sameL g3.sub sq,fun p hp=>h _ (.ml _) _ _ (g.trans (Grow.laid g3.sub g3.reel hp)) (own_laid g3.sub g3.reel hp ((reps_is ns).cut l u)) (fun a ea=>by cases ea; exact g.freeB hp) q3⟩
theorem m_vSlS {fl fh:TOv}:vSlS fa fl fh ρ = bnd (fa ρ) fun w=>bnd (fl ρ) fun l=>bnd (fh ρ) fun h=>optM (asSc w) fun ns=>ret (.ml (cutD (ns.map .int) l h)):=by
  refine mo_ext fun Q=>?_
  simp only [vSlS,bnd,opt_iff,asSc_of,ret]
end
def spR (K:W.Frag) (pre:List W -> Prop):Sp:=fun vs H Q _=>∃ F ws,Same F H /\ RelWs K RlT.no F H vs ws /\ ws.all argOk = true /\ pre ws /\ ∀ r F' H',H r = none -> Grow RlT.no F H F' H' -> RAt (RlT.at' r BM) F' H' -> Q (.ref r) H'
structure DfnR (P:Program) (w:World) (K:W.Frag) (mg:Str -> Option Value) (base:Heap) (x:Str) (ps:List Str) (k:Nat) (pre:List W -> Prop):Prop where
  ex:∃ f fd,mg x = some (.ref f) /\ W.keepIn K (.ref f) = true /\ Binds K fd ps [] /\ FnOk P w K mg base CX0 k f fd ps (spR K pre)
def nR1:Option W -> Option W
  | some .reel=>none
  | o=>o
def nR (ρ:En):En:=ρ.map nR1
def W.isR:W -> Bool
  | .reel=>true
  | _=>false
def vNewR (i:Nat) (pre:List W -> Prop) (fs:TVs) (t:TSv):TSv:=fun D ρ=>fs ρ fun ws=>ws.all argOk = true /\ pre ws /\ t ⟨fun ρ'=>D.nx (nR ρ'),fun w=>w.isR = false /\ D.rt w,fun ρ'=>D.bk (nR ρ'),fun ρ'=>D.ct (nR ρ')⟩ (ρ.set i (some .reel))
theorem grow_in {F₀ H₀ F H:Hp} {r:Addr} (g:Grow RlT.no F₀ H₀ F H) (ra:RAt (RlT.at' r BM) F H):Grow (RlT.at' r BM) F₀ H₀ F H:=⟨fun b o e _=>g.same b o e (by simp),g.fs,g.sub,g.old,ra⟩
theorem grow_out {F₀ H₀ F H:Hp} {r:Addr} {n':Nat} (g:Grow (RlT.at' r n') F₀ H₀ F H) (n:H₀ r = none):Grow RlT.no F₀ H₀ F H:=⟨fun b o e _=>g.same b o e (fun z=>by cases z; rw [n] at e; cases e),g.fs,g.sub,g.old,fun _ z=>by cases z⟩
theorem rel_in {K:W.Frag} {F H:Hp} {r:Addr} {v:V} {w:W} (h:RelW K RlT.no F H v w) (ne:∀ a,w.own = true \/ (∃ xs,w = .pk xs) -> v = .ref a -> a ≠ r):RelW K (RlT.at' r BM) F H v w:=by
  cases w with
  | d x=>exact h
  | ml xs=>obtain ⟨a,vs,e,f,_,g⟩:=h; exact ⟨a,vs,e,f,fun z=>ne a (.inl rfl) e (by cases z; rfl),g⟩
  | pk xs=>obtain ⟨a,vs,e,f,_,g⟩:=h; exact ⟨a,vs,e,f,fun z=>ne a (.inr ⟨_,rfl⟩) e (by cases z; rfl),g⟩
  | reel=>obtain ⟨_,z,_⟩:=h; cases z
  | vv u=>exact h
  | md kvs=>obtain ⟨a,vs,e,f,_,g⟩:=h; exact ⟨a,vs,e,f,fun z=>ne a (.inl rfl) e (by cases z; rfl),g⟩
  | mk kvs=>obtain ⟨a,vs,e,f,_,g⟩:=h; exact ⟨a,vs,e,f,fun z=>ne a (.inl rfl) e (by cases z; rfl),g⟩
  | nt ds=>exact h
  | lk=>trivial
  | sc ns=>exact h
  | fd _=>exact h
  | fw _=>exact h
  | ft _=>exact h
  | xc _ _=>exact h
  | dp _ _=>exact h
theorem rel_out {K:W.Frag} {F H:Hp} {r:Addr} {n':Nat} {v:V} {w:W} (h:RelW K (RlT.at' r n') F H v w) (n:w.isR = false):RelW K RlT.no F H v w:=by
  cases w with
  | d x=>exact h
  | ml xs=>obtain ⟨a,vs,e,f,_,g⟩:=h; exact ⟨a,vs,e,f,by simp,g⟩
  | pk xs=>obtain ⟨a,vs,e,f,_,g⟩:=h; exact ⟨a,vs,e,f,by simp,g⟩
  | reel=>cases n
  | vv u=>exact h
  | md kvs=>obtain ⟨a,vs,e,f,_,g⟩:=h; exact ⟨a,vs,e,f,by simp,g⟩
  | mk kvs=>obtain ⟨a,vs,e,f,_,g⟩:=h; exact ⟨a,vs,e,f,by simp,g⟩
  | nt ds=>exact h
  | lk=>trivial
  | sc ns=>exact h
  | fd _=>exact h
  | fw _=>exact h
  | ft _=>exact h
  | xc _ _=>exact h
  | dp _ _=>exact h
theorem nR_get {ρ:En} {i:Nat} {w:W} (h:(nR ρ)[i]? = some (some w)) : ρ[i]? = some (some w) /\ w.isR = false:=by
  unfold nR at h
  rw [List.getElem?_map] at h
  cases e : ρ[i]? with
  | none=>rw [e] at h; cases h
  | some o =>
    rw [e] at h
    cases o with
    | none=>cases h
    | some u=>cases u <;> first | (cases h; exact ⟨rfl,rfl⟩) | cases h
theorem VR.out {K:W.Frag} {r:Addr} {n':Nat} {F₀ H₀ F H:Hp} {σ:St} {ρ:En} (R:VR K (RlT.at' r n') F₀ H₀ F H σ ρ) (n:H₀ r = none):VR K RlT.no F₀ H₀ F H σ (nR ρ):=by
  refine ⟨grow_out R.g n,fun i w e=>?_,fun i j x y v hn e1 e2=>R.ap i j x y v hn (nR_get e1).1 (nR_get e2).1,fun i xs e=>R.np i xs (nR_get e).1,?_⟩
  · obtain ⟨e1,e2⟩:=nR_get e
    obtain ⟨v,h1,h2,h3⟩:=R.sl i w e1
    exact ⟨v,h1,rel_out h2 e2,h3⟩
  · have:=R.len; simpa [nR] using this
theorem VR.into {K:W.Frag} {r:Addr} {F₀ H₀ F H F' H':Hp} {σ:St} {ρ:En} (R:VR K RlT.no F₀ H₀ F H σ ρ) (n:H r = none) (g:Grow RlT.no F H F' H') (ra:RAt (RlT.at' r BM) F' H') (i:Nat):VR K (RlT.at' r BM) F₀ H₀ F' H' (σ.set i (some (.ref r))) (ρ.set i (some .reel)):=by
  have R1:=R.grow g
  refine ⟨grow_in R1.g ra,fun j w e=>?_,fun j k x y v hn e1 e2 o1 o2 s1 s2=>?_,fun j xs e=>?_,by simp [R.len]⟩
  · by_cases hj:i = j
    · subst hj
      have hi:i < ρ.length:=by
        rw [List.getElem?_set] at e
        by_cases hi:i < ρ.length
        · exact hi
        · simp [hi] at e
      rw [List.getElem?_set_self hi] at e
      cases e
      exact ⟨.ref r,by rw [List.getElem?_set_self (by rw [<- R.len]; exact hi)],⟨r,rfl,rfl⟩,trivial⟩
    · rw [List.getElem?_set_ne hj] at e
      obtain ⟨v,h1,h2,h3⟩:=R1.sl j w e
      refine ⟨v,by rw [List.getElem?_set_ne hj]; exact h1,rel_in h2 fun a ow ea z=>?_,h3⟩
      obtain ⟨v0,h10,h20,_⟩:=R.sl j w e
      rw [h1] at h10
      cases h10
      rcases ow with ow | ⟨xs,rfl⟩
      · obtain ⟨b,o,eb,hb⟩:=h20.live ow
        rw [ea] at eb
        cases eb
        rw [z,n] at hb
        cases hb
      · exact absurd e (R.np j xs)
  · have key:∀ (m:Nat) (z:W),(ρ.set i (some W.reel))[m]? = some (some z) -> z.own = true -> i ≠ m /\ ρ[m]? = some (some z):=fun m z e o=>by
      by_cases hm:i = m
      · subst hm
        rw [List.getElem?_set] at e
        split at e
        · split at e
          · cases e; cases o
          · cases e
        · exact absurd rfl (by assumption)
      · rw [List.getElem?_set_ne hm] at e; exact ⟨hm,e⟩
    obtain ⟨n1,d1⟩:=key j x e1 o1
    obtain ⟨n2,d2⟩:=key k y e2 o2
    rw [List.getElem?_set_ne n1] at s1
    rw [List.getElem?_set_ne n2] at s2
    exact R1.ap j k x y v hn d1 d2 o1 o2 s1 s2
  · rw [List.getElem?_set] at e
    split at e
    · split at e
      · cases e
      · cases e
    · exact R1.np j xs e
section
variable {X:Cx} {st:Stmt} {rest body:List Stmt} {t u:TSv} {a b c e:Expr} {es:List Expr} {fa fb:TV} {fs:TVs} {pos p px cpos:Pos} {ρ:En}
end
def unR:Fl -> Mo Fl
  | .nx ρ=>ret (.nx (nR ρ))
  | .rt w=>grd (w.isR = false) (ret (.rt w))
  | .bk ρ=>ret (.bk (nR ρ))
  | .ct ρ=>ret (.ct (nR ρ))
theorem s_newR (i:Nat) (pre:List W -> Prop) (fs:TVs) (t:TSv) (ρ:En):mS (vNewR i pre fs t) ρ = bnd (fs ρ) fun ws=>grd (ws.all argOk = true) (grd (pre ws) (bnd (mS t (ρ.set i (some .reel))) unR)):=nr rfl
theorem nR_nil:nR [] = []:=rfl
theorem nR_r (l:En):nR (some .reel :: l) = none :: nR l:=rfl
theorem nR_n (l:En):nR (none :: l) = none :: nR l:=rfl
theorem nR_d (x:PyData) (l:En):nR (some (.d x) :: l) = some (.d x) :: nR l:=rfl
theorem nR_ml (x:List PyData) (l:En):nR (some (.ml x) :: l) = some (.ml x) :: nR l:=rfl
theorem nR_sc (x:List Int) (l:En):nR (some (.sc x) :: l) = some (.sc x) :: nR l:=rfl
def spLaw2 (K:W.Frag):Sp:=fun vs H Q _=>∃ (a:Addr) (ns:List Int),vs = [.ref a] /\ SqL K H a (ns.map V.int) /\ ns.length <= 63 /\ ∀ H',Q (.bl true) H'
def lawE:VEnds:=⟨fun _=>False,fun w=>w = .d (.bool true),fun _=>False,fun _=>False⟩
def lawQ:Fl -> Prop
  | .rt w=>w = .d (.bool true)
  | _=>False
theorem un_law (m:Mo Fl):bnd m unR lawQ = m lawQ:=by
  show m (fun fl=>unR fl lawQ) = m lawQ
  congr 1
  funext fl
  cases fl with
  | rt w=>exact propext ⟨fun ⟨_,h⟩=>h,fun h=>⟨by rw [show w = .d (.bool true) from h]; rfl,h⟩⟩
  | _=>rfl
theorem law_end:ret (Fl.rt (.d (.bool true))) lawQ:=rfl
section
variable {P:Program} {w:World} {K:W.Frag} {mg:Str -> Option Value} {base:Heap} {st:Stmt} {N:List Str} {k:Nat} {t:TSv} {x:Str}
theorem ok_law2 {f:Addr} {fd:FuncData} (F:Fun K "law" "law" st f fd) (S:FnScope N [x] (defScope st))
    (hbody:∀ (cdv:Value) (A:Around) (outer:List Env) (s:Shared) (H:Hp) (E:XK),Room k (A.deeper (envOfC "law" (defScope st) s.heap.objs.size f cdv)) -> PSsV (cxOf CX0 P w K mg base N "law" (defScope st) f cdv A outer s H E).nox RlT.no (defBody st) t)
    (hread:∀ ns:List Int,ns.length <= 63 -> mS t (startV N [.sc ns]) lawQ):FnOk P w K mg base CX0 (k + 1) f fd [x] (spLaw2 K):=by
  refine F.ok S (fun vs H Q E h=>?_) (fun cdv A outer s H vs Q E hr h=>?_)
  · obtain ⟨a,ns,rfl,_⟩:=h
    rfl
  · obtain ⟨a,ns,rfl,hS,hl,kq⟩:=h
    obtain ⟨T,p,kk⟩:=hbody cdv A outer s H E hr
    have rw0:RelWs K RlT.no H H [.ref a] [.sc ns]:=.cons ⟨a,rfl,hS⟩ .nil
    have R:VR K RlT.no H H H H (start N [.ref a]) (startV N [.sc ns]):=vr_start (.refl H) (fun _ z=>by cases z) rw0 rfl
    refine ⟨T,p,kk R lawE _ ⟨fun _ _ _ _ _ _ z=>False.elim z,?_,fun _ _ _ _ _ _ z=>False.elim z,fun _ _ _ _ _ _ z=>False.elim z⟩ (hread ns hl)⟩
    rintro v w1 F1 H1 g1 r1 n1 z
    have z:w1 = .d (.bool true):=z
    subst z
    have e:=rep_bl r1
    subst e
    exact kq H1
end
end L2.VL

namespace L2.VL
open PySem PySem.Spec PyProof.Rows
def vSetZ (i:Nat) (fa:TV):TSv:=fun D ρ=>fa ρ fun w=>∃ d,w.fz = .d d /\ D.nx (ρ.set i (some (.d d)))
section
variable {X:Cx} {rl:RlT} {st:Stmt} {rest body:List Stmt} {t u:TSv} {a b c e:Expr} {es:List Expr} {fa fb:TV} {fs:TVs} {f:TB} {pos p:Pos} {ρ:En}
theorem vs_setZ (i:Nat) {x:Str} {pos':Pos} (hN:X.N.Nodup) (he:PV X rl e fa) (hi:X.N[i]? = some x:=by rfl) (hx:Loc X.env.scope x:=by first | exact Or.inl rfl | exact Or.inr rfl)
    (hs:swapsWith e (some (.Name x pos')) pos.line X.env = pure false:=by rfl) (hf:X.fn x = true \/ X.env.scope.names.lookup x = some .local:=by first | exact .inl rfl | exact .inr rfl) :
    PSV X rl (.Assign [.Name x pos'] e pos) (vSetZ i fa):=by
  obtain ⟨t,p,k⟩:=he
  refine ⟨_,ps_set hN hi hx p hs hf,fun R Dv D ok q=>k R _ _ q fun v w F1 H1 g1 r1 n1 ⟨d,ed,q1⟩=>?_⟩
  obtain ⟨F2,g2,s2,r2⟩:=RelW.fz g1 r1 n1
  rw [ed] at r2
  exact ok.nx _ _ _ _ g2.fs (R.set g2 r2 trivial (fun xs z=>by cases z) i) q1
theorem s_setZ (i:Nat):mS (vSetZ i fa) ρ = bnd (fa ρ) fun w=>optM (asD w.fz) fun d=>ret (.nx (ρ.set i (some (.d d)))):=by
  show (bnd (fa ρ) fun w=>fun (Q:Fl -> Prop)=>∃ d,w.fz = .d d /\ Q (.nx (ρ.set i (some (.d d))))) = _
  congr 1; funext w
  refine mo_ext fun Q=>?_
  simp only [opt_iff,asD_of,ret]
end
section
variable {X:Cx} {rl:RlT} {elt tg iter:Expr} {ifs:List Expr} {scope:Scope} {pos:Pos} {fi:En -> (List PyData -> Prop) -> Prop} {g:TGv} {ft:TB} {fe:TV}
end
def tupI (xs:List Int):PyData:=.tuple (xs.map .int)
def lstI (xs:List Int):PyData:=.list (xs.map .int)
theorem map_int_inj:∀ {xs ys:List Int},xs.map PyData.int = ys.map PyData.int ↔ xs = ys:=by
  intro xs ys
  constructor
  · intro h
    have:=congrArg intsD h
    rw [intsD_map,intsD_map] at this
    exact Option.some.inj this
  · rintro rfl; rfl
theorem tupI_inj {xs ys:List Int}:tupI xs = tupI ys ↔ xs = ys:=by
  unfold tupI
  rw [PyData.tuple.injEq,map_int_inj]
theorem lstI_inj {xs ys:List Int}:lstI xs = lstI ys ↔ xs = ys:=by
  unfold lstI
  rw [PyData.list.injEq,map_int_inj]
theorem map_inj_of {α:Type} {f : α -> PyData} (h:∀ a b,f a = f b ↔ a = b):∀ {xs ys:List α},xs.map f = ys.map f ↔ xs = ys
  | [],[]=>by simp
  | [],_ :: _=>by simp
  | _ :: _,[]=>by simp
  | x :: xs,y :: ys=>by simp [h,map_inj_of h (xs:=xs) (ys:=ys)]
def tupT (xs:List (List Int)):PyData:=.tuple (xs.map tupI)
theorem tupT_inj {xs ys:List (List Int)}:tupT xs = tupT ys ↔ xs = ys:=by
  unfold tupT
  rw [PyData.tuple.injEq,map_inj_of fun _ _=>tupI_inj]
theorem atI_at {α:Type} {xs:List α} {i:Int} (h0 : 0 <= i) (h1:i < (xs.length:Int)):atI xs i = some (xs[i.toNat]'(by omega)):=by
  obtain ⟨n,rfl⟩:=Int.eq_ofNat_of_zero_le h0
  exact atI_nat (List.getElem?_eq_getElem (by omega))
end L2.VL

namespace L2.VL
open PySem PySem.Spec PyProof.Rows
section
variable {α σ:Type} {fl:List Nat} {b:PyData -> En -> Mo Fl} {k:En -> Mo Fl} {Q:Fl -> Prop} {ρ:En}
theorem while_go {f:TB} {t:TSv} (st : σ -> En) (c : σ -> Bool) (nxt : σ -> σ) (μ : σ -> Nat) (I : σ -> Prop) (s : σ) (h0 : ρ = st s) (hs:I s)
    (hf:∀ s,I s -> f (st s) = ret (c s)) (ht:∀ s,I s -> c s = true -> I (nxt s) /\ μ (nxt s) < μ s /\ ∃ ρ',mS t (st s) = ret (.nx ρ') /\ fo fl ρ' = st (nxt s)) (fin:∀ s,I s -> c s = false -> k (st s) Q):sq (whileM fl f t ρ) k Q:=by
  subst h0
  obtain ⟨s',a,b,e⟩:=while_det st c nxt μ I hf ht s hs
  rw [e]
  exact fin s' a b
def lpS (fl:List Nat) (J:En -> Prop) (k:En -> Mo Fl) (Q:Fl -> Prop):Fl -> Prop
  | .nx ρ=>J (fo fl ρ)
  | .ct ρ=>J (fo fl ρ)
  | .bk ρ=>k (fo fl ρ) Q
  | .rt w=>Q (.rt w)
theorem lpS_nx {J:En -> Prop} {ρ:En} (h:J (fo fl ρ)):lpS fl J k Q (.nx ρ):=h
theorem inv_go {xs:List α} {enc : α -> PyData} {xs':List PyData} (J:Nat -> En -> Prop) (hx:xs' = xs.map enc) (h0:J 0 ρ)
    (step:∀ i (h:i < xs.length) ρ,J i ρ -> ∀ K:Fl -> Prop,(∀ r,lpS fl (J (i + 1)) k Q r -> K r) -> b (enc xs[i]) ρ K) (fin:∀ ρ,J xs.length ρ -> k ρ Q):sq (loopM fl b xs' ρ) k Q:=by
  subst hx
  refine loop_by (Q:=fun r=>(match r with | .nx ρ=>k ρ | .rt w=>ret (.rt w) | .bk ρ=>ret (.bk ρ) | .ct ρ=>ret (.ct ρ):Mo Fl) Q) J h0 (fun i hi ρ j K hK=>step i hi ρ j K fun r hr=>hK r ?_) fin
  cases r <;> exact hr
theorem invR_go {lo:Int} {n:Nat} (J:Nat -> En -> Prop) (h0:J 0 ρ)
    (step:∀ i,i < n -> ∀ ρ,J i ρ -> ∀ K:Fl -> Prop,(∀ r,lpS fl (J (i + 1)) k Q r -> K r) -> b (.int (lo + i)) ρ K) (fin:∀ ρ,J n ρ -> k ρ Q):sq (loopM fl b (rangeD lo n) ρ) k Q:=by
  refine loop_byR (Q:=fun r=>(match r with | .nx ρ=>k ρ | .rt w=>ret (.rt w) | .bk ρ=>ret (.bk ρ) | .ct ρ=>ret (.ct ρ):Mo Fl) Q) J h0 (fun i hi ρ j K hK=>step i hi ρ j K fun r hr=>hK r ?_) fin
  cases r <;> exact hr
theorem eachR_go {lo:Int} {n:Nat} (step:∀ i,i < n -> ∀ K:Fl -> Prop,(∀ r,lpS fl (fun ρ'=>ρ' = ρ) k Q r -> K r) -> b (.int (lo + i)) ρ K) (fin:k ρ Q):sq (loopM fl b (rangeD lo n) ρ) k Q :=
  invR_go (fun _ ρ'=>ρ' = ρ) rfl (fun i h ρ' e K hK=>by subst e; exact step i h K hK) fun ρ' e=>by subst e; exact fin
end
section
variable {α β:Type} {b:PyData -> Mo (Option PyData)} {k:List PyData -> Mo β} {Q : β -> Prop}
theorem cfm_go {xs:List α} {enc : α -> PyData} {xs':List PyData} (f : α -> Option PyData) (hx:xs' = xs.map enc) (h:∀ x ∈ xs,b (enc x) = ret (f x)) (hl:xs.length <= sizeLine) (fin:k (xs.filterMap f) Q):bnd (compM b xs' []) k Q:=by
  subst hx; rw [comp_fm f h hl]; exact fin
theorem cmap_go {xs:List α} {enc : α -> PyData} {xs':List PyData} (f : α -> PyData) (hx:xs' = xs.map enc) (h:∀ x ∈ xs,b (enc x) = ret (some (f x))) (hl:xs.length <= sizeLine) (fin:k (xs.map f) Q):bnd (compM b xs' []) k Q:=by
  subst hx; rw [comp_map f h hl]; exact fin
theorem cmapR_go {lo:Int} {n:Nat} (f:Nat -> PyData) (h:∀ j,j < n -> b (.int (lo + j)) = ret (some (f j))) (hl:n <= sizeLine) (fin:k ((List.range n).map f) Q):bnd (compM b (rangeD lo n) []) k Q:=by
  rw [comp_mapR f h hl]; exact fin
theorem cany_go {xs:List α} {enc : α -> PyData} {xs':List PyData} (R : α -> PyData -> Prop) (hx:xs' = xs.map enc) (h:∀ x ∈ xs,∀ K:Option PyData -> Prop,(∀ d,R x d -> K (some d)) -> b (enc x) K) (hl:xs.length <= sizeLine) (fin:∀ ds,Paired R xs ds -> k ds Q):bnd (compM b xs' []) k Q:=by
  subst hx; exact comp_any R h hl fin
theorem canyR_go {lo:Int} {n:Nat} (P:PyData -> Prop) (h:∀ j,j < n -> ∀ K:Option PyData -> Prop,(∀ d,P d -> K (some d)) -> b (.int (lo + j)) K) (hl:n <= sizeLine) (fin:∀ ds:List PyData,ds.length = n -> (∀ d ∈ ds,P d) -> k ds Q):bnd (compM b (rangeD lo n) []) k Q :=
  comp_anyR P h hl fin
end
section
variable {α β:Type}
theorem menu_step {xs:List PyData} {i:Int} {k:PyData -> Mo β} {Q : β -> Prop} (h0 : 0 <= i) (h1:i < (xs.length:Int)) (h:∀ z ∈ xs,k z Q):optM (atI xs i) k Q:=by
  obtain ⟨z,e,m⟩:=at_in h0 h1
  rw [e]
  exact h z m
theorem menuA_step {xs:List α} {enc : α -> PyData} {xs':List PyData} {i:Int} {k:PyData -> Mo β} {Q : β -> Prop} (P : α -> Prop) (hx:xs' = xs.map enc) (h0 : 0 <= i) (h1:i < (xs.length:Int)) (hP:∀ z ∈ xs,P z) (h:∀ z,P z -> k (enc z) Q):optM (atI xs' i) k Q:=by
  subst hx
  refine menu_step h0 (by simpa using h1) fun z mz=>?_
  obtain ⟨x,hx,rfl⟩:=List.mem_map.mp mz
  exact h x (hP x hx)
end
theorem dec_list {α:Type} {enc : α -> PyData} {P : α -> Prop}:∀ {ds:List PyData},(∀ d ∈ ds,∃ x,P x /\ d = enc x) -> ∃ xs:List α,ds = xs.map enc /\ xs.length = ds.length /\ ∀ x ∈ xs,P x
  | [],_=>⟨[],rfl,rfl,by simp⟩
  | d :: ds,h=>by
    obtain ⟨x,hx,e⟩:=h d List.mem_cons_self
    obtain ⟨xs,e1,e2,e3⟩:=dec_list (ds:=ds) fun d hd=>h d (List.mem_cons_of_mem _ hd)
    exact ⟨x :: xs,by rw [e,e1]; rfl,by simp [e2],fun y hy=>(List.mem_cons.mp hy).elim (fun z=>by rw [z]; exact hx) (e3 y)⟩
end L2.VL

namespace L2.VL
open PySem PySem.Spec PyProof.Rows
section
variable {X:Cx} {rl:RlT} {a b c o e:Expr} {es:List Expr} {fa fb:TV} {fs:TVs} {pos p apos cpos:Pos} {ρ:En}
end
end L2.VL
namespace L2
open PySem PySem.Spec PyProof.Rows
section
variable {X:Cx} {pos:Pos}
end
end L2
namespace L2.VL
open PySem PySem.Spec PyProof.Rows
section
variable {X:Cx} {rl:RlT} {es:List Expr} {pos:Pos} {ρ:En}
end
end L2.VL

namespace L2.VL
open PySem PySem.Spec PyProof.Rows
def BMON0:=And.intro @bnd_tt (And.intro @bnd_ret (And.intro @bnd_bnd (And.intro @bnd_grd (And.intro @bnd_stk (And.intro @bnd_ite (And.intro @bnd_opt (And.intro @opt_some (And.intro @opt_none (And.intro @grd_T (And.intro @sq_nx (And.intro @sq_rt (And.intro @sq_bk (And.intro @sq_ct (And.intro @sq_grd (And.intro @sq_stk (And.intro @sq_ite (And.intro @sq_sq (@kc_ap))))))))))))))))))
def BITE0:=And.intro @ite_nx (And.intro @ite_rt (And.intro @ite_retd (And.intro @ite_retb (And.intro @ite_rets (And.intro @ite_cons (And.intro @ite_some (And.intro @ite_d (And.intro @ite_pi (And.intro @ite_pb (And.intro @itb_tt (And.intro @itb_ff (And.intro @itb_ft (And.intro @itb_tf (@ite_self.{1}))))))))))))))
def BEXP0:=And.intro @m_vC (And.intro @m_vVar (And.intro @m_vNil (And.intro @m_vCons (And.intro @m_vOp (And.intro @m_gI (And.intro @m_gI0 (And.intro @m_vNeg (And.intro @m_vTest (And.intro @m_gEqD (And.intro @m_vAnd (And.intro @m_vOr (And.intro @m_vNot (And.intro @m_vIf (And.intro @m_vTup (And.intro @m_vLst (And.intro @m_gIx (And.intro @m_vCall (And.intro @m_gAbs (@m_gLen)))))))))))))))))))
def BEXP1:=And.intro @m_gRepr (And.intro @m_gTupO (And.intro @m_gLstO (And.intro @m_gI2 (And.intro @m_oNo (And.intro @m_oIt (And.intro @m_vSlL (And.intro @m_gCatD (And.intro @m_gCatA (And.intro @m_vLR1 (And.intro @m_iL (And.intro @m_iT (@m_iR1))))))))))))
def BEXP2:=And.intro @m_iZb (And.intro @m_vUse (And.intro @m_gEqS (And.intro @m_comp (@m_vSlS))))
def BSTM0:=And.intro @s_next (And.intro @s_seq (And.intro @s_ret (And.intro @s_ifS (And.intro @s_set (And.intro @s_setZ (And.intro @s_never (And.intro @s_par (And.intro @s_aug (And.intro @s_frz (And.intro @s_mut (And.intro @s_for (And.intro @bdy_ap (And.intro @s_while (And.intro @s_newR (And.intro @m_hName (@m_hNil_n))))))))))))))))
def BSTM1:=And.intro @m_hCons_c (And.intro @m_hTup (@m_gApp))
def BPRJ0:=And.intro @pk_sc (And.intro @fz_sc (And.intro @arg_sc (And.intro @isPk_sc (And.intro @asI_d (And.intro @asB_d (And.intro @asS_d (And.intro @asD_d (And.intro @asT_d (And.intro @asL_d (And.intro @asL_ml (And.intro @asL_pk (And.intro @asQ_d (And.intro @asQ_ml (And.intro @asQ_pk (And.intro @lstD_l (And.intro @tupD_t (And.intro @toI_i (And.intro @toI_b (And.intro @isiT_t (And.intro @asM_ml (And.intro @asSc_s (And.intro @two_d (@fz_d)))))))))))))))))))))))
def BPRJ1:=And.intro @fz_ml (And.intro @fz_pk (And.intro @fz_reel (And.intro @fz_vv (And.intro @pk_d (And.intro @pk_ml (And.intro @pk_reel (And.intro @pk_vv (And.intro @dat_d (And.intro @dat_ml (And.intro @dat_pk (And.intro @isPk_d (And.intro @isPk_ml (And.intro @isPk_reel (And.intro @dats_nil (And.intro @dats_d (And.intro @arg_d (And.intro @arg_reel (And.intro @item_l (And.intro @item_t (And.intro @len_l (And.intro @len_t (And.intro @seq_l (@seq_t)))))))))))))))))))))))
def BPRJ2:=And.intro @at0 (And.intro @at1 (And.intro @blsD_map (And.intro @tup2 (And.intro @fo_nil (And.intro @fo_cons (And.intro @nR_nil (And.intro @nR_r (And.intro @nR_n (And.intro @nR_d (And.intro @nR_ml (And.intro @nR_sc (And.intro @le_nil (And.intro @le_cn (And.intro @le_cs (And.intro @end_d (And.intro @end_ml (And.intro @end_nx (@un_law))))))))))))))))))
def BLST0:=And.intro @List.map_cons.{0,0} (And.intro @List.map_nil.{0,0} (And.intro @List.length_cons.{0} (And.intro @List.length_nil.{0} (And.intro @List.getElem?_cons_zero.{0} (And.intro @List.getElem?_cons_succ.{0} (And.intro @List.set_cons_zero.{0} (And.intro @List.set_cons_succ.{0} (And.intro @List.set_nil.{0} (And.intro @List.cons_append.{0} (And.intro @List.nil_append.{0} (And.intro @List.all_cons.{0} (And.intro @List.all_nil.{0} (And.intro @List.head?_cons.{0} (And.intro @Bool.and_true (And.intro @Option.some.injEq.{0} (And.intro @Option.map_some.{0,0} (And.intro @Option.bind_some.{0,0} (And.intro @Option.bind_none.{0,0} (And.intro @Option.join_some.{0} (And.intro @Option.join_none.{0} (And.intro @Bool.false_eq_true (And.intro @and_self (@and_true)))))))))))))))))))))))
def BLST1:=And.intro @true_and (And.intro @shaped_i (And.intro @eqv_ii (And.intro @shaped_b (And.intro @Bool.true_and (And.intro @Bool.and_self (And.intro @Bool.not_true (And.intro @Bool.not_false (And.intro @List.length_map.{0,0} (And.intro @Int.toNat_natCast (And.intro @Bool.true_eq_false (And.intro @decide_true (And.intro @decide_false (And.intro @List.isEmpty_cons.{0} (And.intro @List.isEmpty_nil.{0} (@List.isEmpty_map.{0,0})))))))))))))))
end L2.VL

namespace L2.VL
open PySem PySem.Spec PyProof.Rows
structure GlTK (P:Program) (w:World) (K:W.Frag) (x:Str) (D:List (Str × Int)):Prop where
  ex:∃ p,W.nsIn K mainGlobals x = some (some (.ref p)) /\ ∀ h,K.In h -> StrTab P w h p (tabD D)
theorem GlTK.of {P:Program} {w:World} {K:W.Frag} {x:Str} {D:List (Str × Int)} {h:Heap} {mg:Str -> Option Value} (k:GlTK P w K x D) (Y:K.In h) (G:h.Ns mainGlobals mg):GlT P w K mg x D:=by
  obtain ⟨p,h1,h2⟩:=k.ex
  exact ⟨p,W.mg_of Y G h1,h2⟩
section
variable {X:Cx} {rl:RlT} {e:Expr} {fa:TV} {pos dpos q1 q2 q3 q4:Pos} {ρ:En} {j1 j2 j3 j4:Nat} {a b x y:Str}
end
end L2.VL

namespace L2.VL
open PySem PySem.Spec PyProof.Rows
theorem RAt.pay {a:Option Addr} {b b':Nat} {F H:Hp} (r:RAt ⟨a,b⟩ F H) (h:b' <= b):RAt ⟨a,b'⟩ F H:=fun x e=>by
  obtain ⟨z,⟨o,q,ro⟩⟩:=r x e
  exact ⟨z,⟨o,q,ro.pay h⟩⟩
theorem Grow.pay {a:Option Addr} {b b':Nat} {F H F' H':Hp} (g:Grow ⟨a,b⟩ F H F' H') (h:b' <= b):Grow ⟨a,b'⟩ F H F' H':=⟨g.same,g.fs,g.sub,g.old,g.reel.pay h⟩
theorem Grow.tr {a:Option Addr} {b b':Nat} {F H F1 H1 F2 H2:Hp} (g:Grow ⟨a,b⟩ F H F1 H1) (g':Grow ⟨a,b'⟩ F1 H1 F2 H2):Grow ⟨a,b'⟩ F H F2 H2 :=
  ⟨fun c o e n=>g'.same c o (g.same c o e n) n,g.fs.trans g'.fs,g'.sub,fun c o e=>by obtain ⟨o',e'⟩:=g.live e; rw [g'.old c o' e',g.old c o e],g'.reel⟩
theorem RelW.on {K:W.Frag} {a:Option Addr} {b b':Nat} {F H:Hp} {v:V} {w:W} (r:RelW K ⟨a,b⟩ F H v w):RelW K ⟨a,b'⟩ F H v w:=by cases w <;> exact r
theorem RelW.gr {K:W.Frag} {a:Option Addr} {b b' b2:Nat} {F H F' H':Hp} {v:V} {w:W} (g:Grow ⟨a,b'⟩ F H F' H') (r:RelW K ⟨a,b⟩ F H v w):RelW K ⟨a,b2⟩ F' H' v w:=((r.on (b':=b')).grow g).on
theorem VR.gr {K:W.Frag} {a:Option Addr} {b b':Nat} {F₀ H₀ F H F' H':Hp} {σ:St} {ρ:En} (r:VR K ⟨a,b⟩ F₀ H₀ F H σ ρ) (g:Grow ⟨a,b'⟩ F H F' H'):VR K ⟨a,b'⟩ F₀ H₀ F' H' σ ρ :=
  ⟨r.g.tr g,fun i w e=>let ⟨v,e1,e2,e3⟩:=r.sl i w e; ⟨v,e1,e2.gr g,e3⟩,r.ap,r.np,r.len⟩
theorem VR.pay {K:W.Frag} {a:Option Addr} {b b':Nat} {F₀ H₀ F H:Hp} {σ:St} {ρ:En} (r:VR K ⟨a,b⟩ F₀ H₀ F H σ ρ) (h:b' <= b):VR K ⟨a,b'⟩ F₀ H₀ F H σ ρ:=r.gr ((Grow.refl r.sub r.reel).pay h)
theorem EndsOk.pay {K:W.Frag} {a:Option Addr} {b b':Nat} {F₀ H₀ Fs:Hp} {Dv:VEnds} {D:Ends} (ok:EndsOk K ⟨a,b'⟩ F₀ H₀ Fs Dv D) (h:b' <= b):EndsOk K ⟨a,b⟩ F₀ H₀ Fs Dv D :=
  ⟨fun F H σ ρ s R=>ok.nx F H σ ρ s (R.pay h),fun v w F H g r n=>ok.rt v w F H (g.pay h) r.on n,fun F H σ ρ s R=>ok.bk F H σ ρ s (R.pay h),fun F H σ ρ s R=>ok.ct F H σ ρ s (R.pay h)⟩
def CV (X:Cx) (al:Option Addr) (c:Nat) (e:Expr) (f:TV):Prop:=∃ t,PE X e t /\ ∀ {b:Nat} {F₀ H₀ F H:Hp} {σ:St} {ρ:En},VR X.K ⟨al,b + c⟩ F₀ H₀ F H σ ρ -> ∀ (Qd:W -> Prop) (Q:VK),f ρ Qd ->
  (∀ v w F' H',Grow ⟨al,b⟩ F H F' H' -> RelW X.K ⟨al,b⟩ F' H' v w -> NewIn H v w -> Qd w -> Q v H') -> t σ H Q
def CB (X:Cx) (al:Option Addr) (c:Nat) (e:Expr) (f:TB):Prop:=∃ t,PT X e t /\ ∀ {b:Nat} {F₀ H₀ F H:Hp} {σ:St} {ρ:En},VR X.K ⟨al,b + c⟩ F₀ H₀ F H σ ρ -> ∀ (Qd:Bool -> Prop) (Q:Bool -> Hp -> Prop),f ρ Qd ->
  (∀ k F' H',Grow ⟨al,b⟩ F H F' H' -> Qd k -> Q k H') -> t σ H Q
def CBW (X:Cx) (al:Option Addr) (c:Nat) (e:Expr) (f:TB):Prop:=∃ t,PW X e t /\ ∀ {b:Nat} {F₀ H₀ F H:Hp} {σ:St} {ρ:En},VR X.K ⟨al,b + c⟩ F₀ H₀ F H σ ρ -> ∀ (Qd:Bool -> Prop) (Q:Bool -> Hp -> Prop),f ρ Qd ->
  (∀ k F' H',Grow ⟨al,b⟩ F H F' H' -> Qd k -> Q k H') -> t σ H Q
def CVs (X:Cx) (al:Option Addr) (c:Nat) (es:List Expr) (f:TVs):Prop:=∃ t,PA X es t /\ ∀ {b:Nat} {F₀ H₀ F H:Hp} {σ:St} {ρ:En},VR X.K ⟨al,b + c⟩ F₀ H₀ F H σ ρ -> ∀ (Qd:List W -> Prop) (Q:List V -> Hp -> Prop),f ρ Qd ->
  (∀ vs ws F' H',Grow ⟨al,b⟩ F H F' H' -> RelWs X.K ⟨al,b⟩ F' H' vs ws -> Qd ws -> Q vs H') -> t σ H Q
def CS (X:Cx) (al:Option Addr) (c:Nat) (st:Stmt) (t:TSv):Prop:=∃ T,PS X st T /\ ∀ {b:Nat} {F₀ H₀ F H:Hp} {σ:St} {ρ:En},VR X.K ⟨al,b + c⟩ F₀ H₀ F H σ ρ -> ∀ Dv D,EndsOk X.K ⟨al,b⟩ F₀ H₀ F Dv D -> t Dv ρ -> T D σ H
def CSs (X:Cx) (al:Option Addr) (c:Nat) (st:List Stmt) (t:TSv):Prop:=∃ T,PSs X st T /\ ∀ {b:Nat} {F₀ H₀ F H:Hp} {σ:St} {ρ:En},VR X.K ⟨al,b + c⟩ F₀ H₀ F H σ ρ -> ∀ Dv D,EndsOk X.K ⟨al,b⟩ F₀ H₀ F Dv D -> t Dv ρ -> T D σ H
def CI (X:Cx) (al:Option Addr) (c:Nat) (tg iter:Expr) (fi:En -> (List PyData -> Prop) -> Prop):Prop:=∃ wi,PI X tg iter wi /\ ∀ {b:Nat} {F₀ H₀ F H:Hp} {σ:St} {ρ:En},VR X.K ⟨al,b + c⟩ F₀ H₀ F H σ ρ -> ∀ (Qd:List PyData -> Prop) (R:It -> Hp -> Prop),fi ρ Qd ->
  (∀ J xs F' H',Grow ⟨al,b⟩ F H F' H' -> (∀ b',VIt X.K ⟨al,b'⟩ F' J xs) -> Qd xs -> R J H') -> wi σ H R
section
variable {X:Cx} {al:Option Addr} {c c1 c2 c3:Nat} {st:Stmt} {rest body:List Stmt} {t u:TSv} {a b e ec:Expr} {es:List Expr} {fa fb:TV} {fs:TVs} {f g:TB} {pos p:Pos}
theorem cv (h:∀ n,PV X ⟨al,n⟩ e fa):CV X al 0 e fa :=
  ⟨fun σ H Q=>∃ n,Classical.choose (h n) σ H Q,fun pins s σ H Q I ⟨n,z⟩=>(Classical.choose_spec (h n)).1 pins s σ H Q I z,fun {b F₀ H₀ F H σ ρ} R Qd Q q k=>⟨b,(Classical.choose_spec (h b)).2 R Qd Q q k⟩⟩
theorem cb (h:∀ n,PB X ⟨al,n⟩ e f):CB X al 0 e f :=
  ⟨fun σ H Q=>∃ n,Classical.choose (h n) σ H Q,fun pins s σ H Q I ⟨n,z⟩=>(Classical.choose_spec (h n)).1 pins s σ H Q I z,fun {b F₀ H₀ F H σ ρ} R Qd Q q k=>⟨b,(Classical.choose_spec (h b)).2 R Qd Q q k⟩⟩
theorem cvs (h:∀ n,PVs X ⟨al,n⟩ es fs):CVs X al 0 es fs :=
  ⟨fun σ H Q=>∃ n,Classical.choose (h n) σ H Q,fun p pins s σ H Q I ⟨n,z⟩=>(Classical.choose_spec (h n)).1 p pins s σ H Q I z,fun {b F₀ H₀ F H σ ρ} R Qd Q q k=>⟨b,(Classical.choose_spec (h b)).2 R Qd Q q k⟩⟩
theorem cs (h:∀ n,PSV X ⟨al,n⟩ st t):CS X al 0 st t :=
  ⟨fun D σ H=>∃ n,Classical.choose (h n) D σ H,fun pins s σ H D I ⟨n,z⟩=>(Classical.choose_spec (h n)).1 pins s σ H D I z,fun {b F₀ H₀ F H σ ρ} R Dv D ok q=>⟨b,(Classical.choose_spec (h b)).2 R Dv D ok q⟩⟩
theorem css (h:∀ n,PSsV X ⟨al,n⟩ body t):CSs X al 0 body t :=
  ⟨fun D σ H=>∃ n,Classical.choose (h n) D σ H,fun pins s σ H D I ⟨n,z⟩=>(Classical.choose_spec (h n)).1 pins s σ H D I z,fun {b F₀ H₀ F H σ ρ} R Dv D ok q=>⟨b,(Classical.choose_spec (h b)).2 R Dv D ok q⟩⟩
theorem VIt.on {K:W.Frag} {r r':RlT} {F:Hp} {J:It} {xs:List PyData} (h:VIt K r F J xs):VIt K r' F J xs:=⟨h.go,h.stop,h.yld⟩
theorem ci {tg iter:Expr} {fi:En -> (List PyData -> Prop) -> Prop} (h:∀ n,PIV X ⟨al,n⟩ tg iter fi):CI X al 0 tg iter fi :=
  ⟨fun σ H Q=>∃ n,Classical.choose (h n) σ H Q,fun pins s σ H Q I ⟨n,z⟩=>(Classical.choose_spec (h n)).1 pins s σ H Q I z,fun {b F₀ H₀ F H σ ρ} R Qd Q q k=>⟨b,(Classical.choose_spec (h b)).2 R Qd Q q fun J xs F' H' g v=>k J xs F' H' g fun _=>v.on⟩⟩
theorem cvs_nil:CVs X al 0 [] vNil:=cvs fun _=>pvs_nil
theorem cvs_cons (h1:CV X al c1 e fa) (h2:CVs X al c2 es fs) (hs:starEach (e :: es) X.env = (false,eval e X.env) :: starEach es X.env:=by rfl):CVs X al (c1 + c2) (e :: es) (vCons fa fs):=by
  obtain ⟨t,p1,k1⟩:=h1
  obtain ⟨ts,p2,k2⟩:=h2
  refine ⟨_,pa_cons p1 p2 hs,fun {n _ _ _ _ _ _} R Qd Q q k=>?_⟩
  refine k1 (b:=n + c2) (R.pay (by omega)) _ _ q fun v w F1 H1 g1 r1 n1 q1=>?_
  obtain ⟨F2,g2,s2,r2⟩:=RelW.fz g1 r1 n1
  refine k2 (b:=n) (R.gr g2) _ _ q1 fun vs ws F3 H3 g3 r3 q3=>?_
  exact k (v :: vs) (w.fz :: ws) F3 H3 (g2.tr g3) (.cons (r2.gr g3) r3) q3
theorem cop_of {r:R2} {g:W -> W -> (W -> Prop) -> Prop} (vo:∀ n,VOp X ⟨al,n⟩ r g) (ha:CV X al c1 a fa) (hb:CV X al c2 b fb) {e:Expr} (hp:∀ ta tb,PE X a ta -> PE X b tb -> PE X e (tOp r ta tb)):CV X al (c1 + c2) e (vOp g fa fb):=by
  obtain ⟨ta,p1,k1⟩:=ha
  obtain ⟨tb,p2,k2⟩:=hb
  refine ⟨_,hp ta tb p1 p2,fun {n _ _ _ _ _ _} R Qd Q q k=>?_⟩
  refine k1 (b:=n + c2) (R.pay (by omega)) _ _ q fun v w F1 H1 g1 r1 n1 q1=>?_
  refine k2 (b:=n) (R.gr g1) _ _ q1 fun v2 w2 F2 H2 g2 r2 n2 q2=>?_
  exact vo n Qd Q g2.sub g2.reel (r1.gr g2) r2 q2 fun v3 w3 F3 H3 g3 r3 n3 q3=>k v3 w3 F3 H3 ((g1.tr g2).tr g3) r3 ((n3.back g2).back g1) q3
theorem c_bin {op:Operator} {r:R2} {g:W -> W -> (W -> Prop) -> Prop} (ho:OpR X (binaryOp op) r) (vo:∀ n,VOp X ⟨al,n⟩ r g) (ha:CV X al c1 a fa) (hb:CV X al c2 b fb):CV X al (c1 + c2) (.BinOp a op b pos) (vOp g fa fb) :=
  cop_of vo ha hb fun _ _ p1 p2=>pe_op ho p1 p2
theorem c_add (ha:CV X al c1 a fa) (hb:CV X al c2 b fb):CV X al (c1 + c2) (.BinOp a .Add b pos) (vOp (gI0 fun i j=>.int (i + j)) fa fb):=c_bin op_add (fun _=>vop_int0 fun _ _ _ _=>.int _) ha hb
theorem c_sub (ha:CV X al c1 a fa) (hb:CV X al c2 b fb):CV X al (c1 + c2) (.BinOp a .Sub b pos) (vOp (gI0 fun i j=>.int (i - j)) fa fb):=c_bin op_sub (fun _=>vop_int0 fun _ _ _ _=>.int _) ha hb
theorem c_ix (ha:CV X al c1 a fa) (hb:CV X al c2 b fb) (hs:PlainIx b:=by exact fun _ _=>rfl):CV X al (c1 + c2) (.Subscript a b pos) (vOp gIx fa fb):=cop_of (fun _=>vo_ix) ha hb fun _ _ p1 p2=>pe_ix ix_seq p1 p2 hs
theorem cb_cmp {op:CmpOp} {r:R2} {g:W -> W -> (W -> Prop) -> Prop} (ho:OpR X (compareOp op) r) (vo:∀ n,VOp X ⟨al,n⟩ r g) (hm:behindInMarks op b = false) (ha:CV X al c1 a fa) (hb:CV X al c2 b fb):CB X al (c1 + c2) (.Compare a [op] [b] pos) (vTest (vOp g fa fb)):=by
  obtain ⟨ta,p1,k1⟩:=ha
  obtain ⟨tb,p2,k2⟩:=hb
  refine ⟨_,pt_cmpR ho p1 p2 hm,fun {n _ _ _ _ _ _} R Qd Q q k=>?_⟩
  refine k1 (b:=n + c2) (R.pay (by omega)) _ _ q fun v w F1 H1 g1 r1 n1 q1=>?_
  refine k2 (b:=n) (R.gr g1) _ _ q1 fun v2 w2 F2 H2 g2 r2 n2 q2=>?_
  refine vo n _ _ g2.sub g2.reel (r1.gr g2) r2 q2 fun v3 w3 F3 H3 g3 r3 n3 ⟨kb,ew,q3⟩=>?_
  subst ew
  exact ⟨kb,rep_bl r3,k kb F3 H3 ((g1.tr g2).tr g3) q3⟩
theorem cb_one1 (ha:CB X al c a f):CBW X al c (.BoolOp .And [a] pos) f:=by
  obtain ⟨t,p,k⟩:=ha
  exact ⟨t,pw_and1 p,k⟩
theorem CBW.cb (h:CBW X al c e f):CB X al c e f:=by
  obtain ⟨t,p,k⟩:=h
  exact ⟨t,p.pt,k⟩
theorem cb_and {rest:List Expr} (ha:CB X al c1 a f) (hb:CBW X al c2 (.BoolOp .And (b :: rest) pos) g):CBW X al (c1 + c2) (.BoolOp .And (a :: b :: rest) pos) (vAnd f g):=by
  obtain ⟨t,p,k⟩:=ha
  obtain ⟨t2,p2,k2⟩:=hb
  refine ⟨_,pw_and p p2,fun {n _ _ _ _ _ _} R Qd Q q h=>k (b:=n + c2) (R.pay (by omega)) _ _ q fun c F1 H1 g1 q1=>?_⟩
  cases c with
  | true=>exact k2 (b:=n) (R.gr g1) _ _ q1 fun c F2 H2 g2 q2=>h c F2 H2 (g1.tr g2) q2
  | false=>exact h false F1 H1 (g1.pay (by omega)) q1
theorem c_tup {x1} (h:CVs X al c es fs):CV X al c (.Tuple es x1 pos) (vTup fs):=by
  obtain ⟨t,p,k⟩:=h
  refine ⟨_,pe_tup p,fun R Qd Q q h=>k R _ _ q fun vs ws F1 H1 g1 r1 ⟨ds,e1,z,q1⟩=>?_⟩
  have rs:=dats_rel r1 e1
  refine ⟨by rw [rs.length]; exact z,fun p hp=>?_⟩
  have g2:=g1.tr (Grow.data (a:=p) (o:=.tup vs) g1.sub g1.reel hp)
  exact h _ (.d (.tuple ds)) _ _ g2 (.tup (.inl (.inl upd_same)) (rs.mono (Grow.data (o:=.tup vs) g1.sub g1.reel hp).fs)) trivial q1
theorem ccall_of {r:List V -> Hp -> VK -> Prop} {g:List W -> (W -> Prop) -> Prop} (vc:∀ n,VCall X ⟨al,n⟩ r g) (ha:CVs X al c es fs) {e:Expr} (hp:∀ ta,PA X es ta -> PE X e (tCB r ta)):CV X al c e (vCall g fs):=by
  obtain ⟨ta,p1,k1⟩:=ha
  refine ⟨_,hp ta p1,fun {n _ _ _ _ _ _} R Qd Q q k=>k1 R _ _ q fun vs ws F1 H1 g1 r1 q1=>?_⟩
  exact vc n Qd Q g1.sub g1.reel r1 q1 fun v w F2 H2 g2 r2 n2 q2=>k v w F2 H2 (g1.tr g2) r2 (n2.back g1) q2
theorem c_callTy {T:String} {x:Str} {r:List V -> Hp -> VK -> Prop} {g:List W -> (W -> Prop) -> Prop} (hc:CallR X (.type T) r) (vc:∀ n,VCall X ⟨al,n⟩ r g) (hm:X.mg x = none) (hv:bootBuiltins x = some (.type T)) (ha:CVs X al c (e :: es) fs) (hg:Gl X x:=by rfl) (hn:x ≠ "__name__" := by decide) (hdb:(x == ("__debug__" : Str)) = false:=by decide)
    (he:starEach (e :: es) X.env = (false,eval e X.env) :: starEach es X.env:=by rfl) (hpl:(backTo pos (starEach es X.env)).any (·.1) = false:=by rfl):CV X al c (.Call (.Name x p) (e :: es) [] pos) (vCall g fs) :=
  ccall_of vc ha fun _ p1=>pe_callTy hc hg hm hv p1 hn hdb he hpl
theorem c_tuple (hm:X.mg "tuple" = none) (ha:CVs X al c [a] fs) (hg:Gl X "tuple" := by rfl) (he:starEach [a] X.env = (false,eval a X.env) :: starEach [] X.env:=by rfl) (hpl:(backTo pos (starEach [] X.env)).any (·.1) = false:=by rfl) :
    CV X al c (.Call (.Name "tuple" p) [a] [] pos) (vCall gTupO fs):=c_callTy call_tuple_of (fun _=>vc_tup) hm (by rfl) ha hg (by decide) (by decide) he hpl
theorem cs_nil:CSs X al 0 [] vNext:=css fun _=>vs_nil
theorem cs_one (h:CS X al c st t):CSs X al c [st] t:=by
  obtain ⟨T,p,k⟩:=h
  exact ⟨T,pss_one p,k⟩
theorem cs_cons (h:CS X al c1 st t) (h2:CSs X al c2 rest u):CSs X al (c1 + c2) (st :: rest) (vSeq t u):=by
  obtain ⟨T,p,k⟩:=h
  obtain ⟨T2,p2,k2⟩:=h2
  refine ⟨_,pss_cons p p2,fun {n _ _ _ _ _ _} R Dv D ok q=>k (b:=n + c2) (R.pay (by omega)) { Dv with nx:=u Dv } { D with nx:=T2 D } ?_ q⟩
  have o2:=ok.pay (b:=n + c2) (by omega)
  exact ⟨fun F H σ ρ s' R' q'=>k2 (b:=n) R' Dv D (ok.on s') q',o2.rt,o2.bk,o2.ct⟩
theorem cs_ret (h:CV X al c e fa):CS X al c (.Return (some e) pos) (vRet fa):=by
  obtain ⟨t,p,k⟩:=h
  exact ⟨_,ps_ret p,fun R Dv D ok q=>k R _ _ q fun v w F1 H1 g1 r1 n1 q1=>ok.rt v w F1 H1 (R.g.tr g1) r1 (n1.back R.g) q1⟩
theorem cs_if {A B:List Stmt} (hc:CB X al c1 ec f) (ha:CSs X al c2 A t) (hb:CSs X al c3 B u):CS X al (c1 + (c2 + c3)) (.If ec A B pos) (vIfS f t u):=by
  obtain ⟨t0,p0,k0⟩:=hc
  obtain ⟨t1,p1,k1⟩:=ha
  obtain ⟨t2,p2,k2⟩:=hb
  refine ⟨_,ps_if p0 p1 p2,fun {n _ _ _ _ _ _} R Dv D ok q=>k0 (b:=n + (c2 + c3)) (R.pay (by omega)) _ _ q fun k F1 H1 g1 q1=>?_⟩
  cases k with
  | true=>exact k1 (b:=n) ((R.gr g1).pay (by omega)) Dv D (ok.on g1.fs) q1
  | false=>exact k2 (b:=n) ((R.gr g1).pay (by omega)) Dv D (ok.on g1.fs) q1
theorem VR.setC {K:W.Frag} {n n':Nat} {F₀ H₀ F H:Hp} {σ:St} {ρ:En} (r:VR K ⟨al,n⟩ F₀ H₀ F H σ ρ) {H1 F1:Hp} (g:Grow ⟨al,n'⟩ F H F1 H1) (hn:n' <= n) {v:V} {w:W} (rw':RelW K ⟨al,n'⟩ F1 H1 v w) (hw:NewIn H v w) (hp:∀ xs,w ≠ .pk xs) (i:Nat):VR K ⟨al,n'⟩ F₀ H₀ F1 H1 (σ.set i (some v)) (ρ.set i (some w)) :=
  (r.pay hn).set g rw' hw hp i
theorem cs_setZ (i:Nat) {x:Str} {pos':Pos} (hN:X.N.Nodup) (he:CV X al c e fa) (hi:X.N[i]? = some x:=by rfl) (hx:Loc X.env.scope x:=by first | exact Or.inl rfl | exact Or.inr rfl)
    (hs:swapsWith e (some (.Name x pos')) pos.line X.env = pure false:=by rfl) (hf:X.fn x = true \/ X.env.scope.names.lookup x = some .local:=by first | exact .inl rfl | exact .inr rfl) :
    CS X al c (.Assign [.Name x pos'] e pos) (vSetZ i fa):=by
  obtain ⟨t,p,k⟩:=he
  refine ⟨_,ps_set hN hi hx p hs hf,fun R Dv D ok q=>k R _ _ q fun v w F1 H1 g1 r1 n1 ⟨d,ed,q1⟩=>?_⟩
  obtain ⟨F2,g2,s2,r2⟩:=RelW.fz g1 r1 n1
  rw [ed] at r2
  exact ok.nx _ _ _ _ g2.fs (R.setC g2 (by omega) r2 trivial (fun xs z=>by cases z) i) q1
theorem cs_mut (i:Nat) {x:Str} {nm:Str} {id:String} {r:V -> List V -> Hp -> VK -> Prop} {g:List PyData -> List W -> (List PyData -> Prop) -> Prop} {px apos cpos:Pos} (slot:Slot "list" nm id) (hty:typeOf (.builtin id) = pure (.type "method_descriptor")) (hm:MtR X id r) (vm:∀ n,VMut X.K ⟨al,n⟩ r g) (ha:CVs X al c (e :: es) fs)
    (hN:X.N[i]? = some x:=by rfl) (hv:Vis X.env.scope x:=by first | exact Or.inl rfl | exact Or.inr (Or.inl rfl) | exact Or.inr (Or.inr rfl))
    (hd:(x == ("__debug__" : Str)) = false:=by decide) (hcd:(x == ("__classdict__" : Str)) = false:=by decide)
    (hbase:attributeBase (.Name x px) nm X.env (eval (.Name x px) X.env) = eval (.Name x px) X.env:=by rfl)
    (hfew:((backTo cpos (starEach (e :: es) X.env)).all (fun x=>!x.1) && (backToKw cpos (keywordEach [] X.env)).all (fun x=>x.1.isSome)
      && decide ((e :: es).length + ([]:List Keyword).length + (if ([]:List Keyword).isEmpty then 0 else 1) < 30)) = true:=by rfl)
    (hline:(apos.endLine == cpos.line) = true:=by rfl) (hs:starEach (e :: es) X.env = (false,eval e X.env) :: starEach es X.env:=by rfl) (hplain:(backTo cpos (starEach es X.env)).any (·.1) = false:=by rfl)
    (hsw:swapsWith (.Call (.Attribute (.Name x px) nm apos) (e :: es) [] cpos) none pos.line X.env = pure false:=by rfl) :
    CS X al c (.Expr (.Call (.Attribute (.Name x px) nm apos) (e :: es) [] cpos) pos) (vMut i g fs):=by
  obtain ⟨t,p1,k⟩:=ha
  refine ⟨_,ps_expr (pe_bm PySem.F.plainAttrs_list slot hty hm (pe_var hN hv hd hcd) p1 hbase hfew hline hs hplain) hsw,fun {n F₀ H₀ F H σ ρ} R Dv D ok ⟨xs,e1,q⟩=>?_⟩
  obtain ⟨v,h1,h2,h3⟩:=R.sl i _ e1
  obtain ⟨a,vs,rfl,f,hr,hh,rs⟩:=(show OwnL X.K ⟨al,n + c⟩ F H v xs from h2)
  refine ⟨.ref a,h1,.inl ⟨rfl,vs,.inl (.inl hh)⟩,k R _ _ q fun args ws F1 H1 g1 r1 q1=>?_⟩
  refine vm n _ _ g1.sub (g1.same a _ hh hr) (rs.mono g1.fs) r1 q1 fun us ys r2 q2=>?_
  exact ok.nx _ _ _ _ g1.fs ((R.gr g1).own e1 h1 r2) q2
theorem cs_app (i:Nat) {x:Str} {px apos cpos:Pos} (ha:CVs X al c [e] fs) (hN:X.N[i]? = some x:=by rfl) (hv:Vis X.env.scope x:=by first | exact Or.inl rfl | exact Or.inr (Or.inl rfl) | exact Or.inr (Or.inr rfl))
    (hd:(x == ("__debug__" : Str)) = false:=by decide) (hcd:(x == ("__classdict__" : Str)) = false:=by decide)
    (hbase:attributeBase (.Name x px) "append" X.env (eval (.Name x px) X.env) = eval (.Name x px) X.env:=by rfl)
    (hfew:((backTo cpos (starEach [e] X.env)).all (fun x=>!x.1) && (backToKw cpos (keywordEach [] X.env)).all (fun x=>x.1.isSome)
      && decide (([e]).length + ([]:List Keyword).length + (if ([]:List Keyword).isEmpty then 0 else 1) < 30)) = true:=by rfl)
    (hline:(apos.endLine == cpos.line) = true:=by rfl) (hs:starEach [e] X.env = (false,eval e X.env) :: starEach [] X.env:=by rfl) (hplain:(backTo cpos (starEach [] X.env)).any (·.1) = false:=by rfl)
    (hsw:swapsWith (.Call (.Attribute (.Name x px) "append" apos) [e] [] cpos) none pos.line X.env = pure false:=by rfl) :
    CS X al c (.Expr (.Call (.Attribute (.Name x px) "append" apos) [e] [] cpos) pos) (vMut i gApp fs) :=
  cs_mut i PySem.F.slot_list_append PySem.F.type_list_append mt_append (fun _=>vm_app) ha hN hv hd hcd hbase hfew hline hs hplain hsw
end
end L2.VL

namespace L2.VL
open PySem PySem.Spec PyProof.Rows
theorem turn_left {n i c:Nat} (h:i < n):(n - i) * c = (n - (i + 1)) * c + c:=by
  have:n - i = (n - (i + 1)) + 1:=by omega
  rw [this,Nat.succ_mul]
def vForC (n:Nat) (fl:List Nat) (fi:En -> (List PyData -> Prop) -> Prop) (g:TGv) (t:TSv):TSv:=fun D ρ=>fi ρ fun xs=>xs.length <= n /\ vLoopF fl g t xs D (fo fl ρ)
section
variable {X:Cx} {al:Option Addr} {c c1 c2 c3:Nat} {st:Stmt} {rest body:List Stmt} {t u:TSv} {a b e ec:Expr} {es:List Expr} {fa fb:TV} {fs:TVs} {f:TB} {pos p:Pos}
theorem cs_for (n:Nat) (fl:List Nat) {tg iter:Expr} {fi:En -> (List PyData -> Prop) -> Prop} {g:TGv} (hp:PassesOwn (model X.prog X.w) X.A X.env X.xe) (hc:X.calm = true) (hi:CI X al c1 tg iter fi) (hg:∀ m,PGV X ⟨al,m⟩ tg g) (hb:CSs X al c2 body t)
    (hs:∀ x,foldedSetIterable iter X.env x = pure x:=by intro _; rfl):CS X al (c1 + n * c2) (.For tg iter body [] pos) (vForC n fl fi g t):=by
  obtain ⟨wi,p0,k0⟩:=hi
  obtain ⟨T,p2,k2⟩:=hb
  have p1:PG X tg (fun v σ H Q=>∃ m,Classical.choose (hg m) v σ H Q):=fun pins s σ H v u Q I rv ⟨m,z⟩=>(Classical.choose_spec (hg m)).1 pins s σ H v u Q I rv z
  refine ⟨_,ps_for hp hc p0 p1 p2 hs,fun {b F₀ H₀ F H σ ρ} R Dv D ok q=>k0 (b:=b + n * c2) (R.pay (by omega)) _ _ q fun J xs F1 H1 g1 vi ⟨hn,q1⟩=>?_⟩
  refine ⟨fun i m σ H=>m = xs.length - i /\ i <= xs.length /\ ∃ F ρ,Same F1 F /\ VR X.K ⟨al,b + (n - i) * c2⟩ F₀ H₀ F H σ ρ /\ vLoopF fl g t (xs.drop i) Dv ρ,⟨xs.length,by simp,Nat.zero_le _,F1,fo fl ρ,.refl _,(R.gr g1).le (le_fo fl ρ),by simpa using q1⟩,?_⟩
  rintro i m σ H ⟨rfl,hi,F2,ρ2,s2,R2,j2⟩
  have sH:Same F1 H:=s2.trans R2.sub
  by_cases hlt:i < xs.length
  · have ei:xs[i]? = some xs[i]:=by simp [hlt]
    rw [List.drop_eq_getElem_cons hlt] at j2
    have el:=turn_left (n:=n) (i:=i) (c:=c2) (by omega)
    refine .inr ⟨(vi 0).go i H _ ei sH,fun σ' H'=>∃ F ρ,Same F1 F /\ VR X.K ⟨al,b + (n - (i + 1)) * c2⟩ F₀ H₀ F H' σ' ρ /\ vLoopF fl g t (xs.drop (i + 1)) Dv ρ,fun σ' H' z=>⟨xs.length - (i + 1),by omega,rfl,hlt,z⟩,fun v H' y=>?_⟩
    obtain ⟨Fy,gy,rv⟩:=(vi 0).yld i H v H' _ F2 ei s2 R2.sub R2.reel y
    refine ⟨_,(Classical.choose_spec (hg (b + (n - i) * c2))).2 (R2.gr gy) v _ _ _ rv j2 fun F3 H3 σ3 ρ3 s3 n3 R3 q3=>?_⟩
    have s13:Same F1 F3:=s2.trans (gy.fs.trans s3.fs)
    have o2:=ok.pay (b:=b + (n - (i + 1)) * c2) (by omega)
    exact k2 (b:=b + (n - (i + 1)) * c2) (R3.pay (by omega)) { Dv with nx:=fun ρ'=>vLoopF fl g t (xs.drop (i + 1)) Dv (fo fl ρ'),ct:=fun ρ'=>vLoopF fl g t (xs.drop (i + 1)) Dv (fo fl ρ'),bk:=fun ρ'=>Dv.nx (fo fl ρ') } _
      ⟨fun F4 H4 σ4 ρ4 s4 R4 q4=>⟨F4,fo fl ρ4,s13.trans s4,R4.le (le_fo fl ρ4),q4⟩,o2.rt,fun F4 H4 σ4 ρ4 s4 R4 q4=>o2.nx _ _ _ _ (g1.fs.trans (s13.trans s4)) (R4.le (le_fo fl ρ4)) q4,fun F4 H4 σ4 ρ4 s4 R4 q4=>⟨F4,fo fl ρ4,s13.trans s4,R4.le (le_fo fl ρ4),q4⟩⟩ q3
  · have e:i = xs.length:=by omega
    subst e
    rw [List.drop_length] at j2
    exact .inl ⟨(vi 0).stop _ H (Nat.le_refl _) sH,ok.nx _ _ _ _ (g1.fs.trans s2) (R2.pay (by omega)) j2⟩
theorem ci_range1 {tg:Expr} (hm:X.mg "range" = none) (ha:CVs X al c [a] fs) (hg:Gl X "range" := by rfl) (hs:starEach [a] X.env = [(false,eval a X.env)]:=by rfl):CI X al c tg (.Call (.Name "range" p) [a] [] pos) (iR1 fs):=by
  obtain ⟨t,p1,k⟩:=ha
  refine ⟨_,pi_range1 hg hm p1 hs,fun R Qd Q q h=>k R _ _ q fun vs ws F1 H1 g1 r1 ⟨j,ew,b,q1⟩=>?_⟩
  subst ew
  obtain ⟨v,rfl,rv⟩:=rel1 r1
  have e:=rep_int rv
  subst e
  exact ⟨j,rfl,b.1,b.2,h _ _ F1 H1 g1 (fun _=>vit_range 0 _) q1⟩
theorem c_callN {x:Str} {ps:List Str} {k:Nat} {Pd:List W -> (PyData -> Prop) -> Prop} (D:∀ n,Dfn X.prog X.w X.K X.mg X.base ⟨al,n⟩ x ps k Pd) (hr:Room k X.A) (ha:CVs X al c (e :: es) fs) (hg:Gl X x:=by rfl)
    (hdb:(x == ("__debug__" : Str)) = false:=by decide) (he:starEach (e :: es) X.env = (false,eval e X.env) :: starEach es X.env:=by rfl) (hpl:(backTo pos (starEach es X.env)).any (·.1) = false:=by rfl) :
    CV X al c (.Call (.Name x p) (e :: es) [] pos) (vUse Pd fs):=by
  obtain ⟨t,p1,kk⟩:=ha
  have P:∀ n,∃ tn:TE,PE X (.Call (.Name x p) (e :: es) [] pos) tn /\ ∀ σ H Q,(t σ H fun vs H1=>vsp X.K ⟨al,n⟩ Pd vs H1 Q fun _ _ _=>False) -> tn σ H Q:=fun n=>by
    obtain ⟨f,fd,hm,hk,hb,F⟩:=(D n).ex
    exact ⟨_,pe_call F hr hg hm hk hb .nil pass0 p1 hdb he hpl,fun σ H Q z=>by simpa [tCall,List.append_nil] using z⟩
  refine ⟨fun σ H Q=>∃ n,Classical.choose (P n) σ H Q,fun pins s σ H Q I ⟨n,z⟩=>(Classical.choose_spec (P n)).1 pins s σ H Q I z,fun {n _ _ _ _ _ _} R Qd Q q h=>⟨n,(Classical.choose_spec (P n)).2 _ _ _ (kk (b:=n) R _ _ q fun vs ws F1 H1 g1 r1 ⟨ok,q1⟩=>?_)⟩⟩
  refine ⟨F1,ws,g1.sub,g1.reel,r1,ok,?_⟩
  exact (D n).mono ws _ _ (fun d qd v F2 H2 g2 r2=>h v (.d d) F2 H2 (g1.tr g2) r2 trivial qd) q1
def cspC (K:W.Frag) (al:Option Addr) (c:Nat) (P:List W -> (PyData -> Prop) -> Prop):Sp:=fun vs H Q _=>∃ b F ws,Same F H /\ RAt ⟨al,b + c⟩ F H /\ RelWs K ⟨al,b + c⟩ F H vs ws /\ ws.all argOk = true /\ P ws fun d=>∀ v F' H',Grow ⟨al,b⟩ F H F' H' -> Rep K F' v d -> Q v H'
structure DfnC (P:Program) (w:World) (K:W.Frag) (mg:Str -> Option Value) (base:Heap) (al:Option Addr) (c:Nat) (x:Str) (ps:List Str) (k:Nat) (Pd:List W -> (PyData -> Prop) -> Prop):Prop where
  mono:∀ ws Q Q',(∀ d,Q d -> Q' d) -> Pd ws Q -> Pd ws Q'
  ex:∃ f fd,mg x = some (.ref f) /\ W.keepIn K (.ref f) = true /\ Binds K fd ps [] /\ FnOk P w K mg base CX0 k f fd ps (cspC K al c Pd)
theorem c_call {x:Str} {ps:List Str} {k:Nat} {Pd:List W -> (PyData -> Prop) -> Prop} (D:DfnC X.prog X.w X.K X.mg X.base al c2 x ps k Pd) (hr:Room k X.A) (ha:CVs X al c1 (e :: es) fs) (hg:Gl X x:=by rfl)
    (hdb:(x == ("__debug__" : Str)) = false:=by decide) (he:starEach (e :: es) X.env = (false,eval e X.env) :: starEach es X.env:=by rfl) (hpl:(backTo pos (starEach es X.env)).any (·.1) = false:=by rfl) :
    CV X al (c1 + c2) (.Call (.Name x p) (e :: es) [] pos) (vUse Pd fs):=by
  obtain ⟨f,fd,hm,hk,hb,F⟩:=D.ex
  obtain ⟨t,p1,kk⟩:=ha
  refine ⟨_,pe_call F hr hg hm hk hb .nil pass0 p1 hdb he hpl,fun {n _ _ _ _ _ _} R Qd Q q h=>kk (b:=n + c2) (R.pay (by omega)) _ _ q fun vs ws F1 H1 g1 r1 ⟨ok,q1⟩=>?_⟩
  refine ⟨n,F1,ws,g1.sub,g1.reel,by rw [List.append_nil]; exact r1,ok,?_⟩
  exact D.mono ws _ _ (fun d qd v F2 H2 g2 r2=>h v (.d d) F2 H2 (g1.tr g2) r2 trivial qd) q1
end
section
variable {P:Program} {w:World} {K:W.Frag} {mg:Str -> Option Value} {base:Heap} {al:Option Addr} {c c0:Nat} {x:Str} {st:Stmt} {N ps:List Str} {k:Nat} {Pd:List W -> (PyData -> Prop) -> Prop} {t:TSv}
theorem DfnC.of (Fn:FnIn K mg x st ps) (S:FnScope N ps (defScope st)) (mono:∀ ws Q Q',(∀ d,Q d -> Q' d) -> Pd ws Q -> Pd ws Q') (len:∀ ws Q,Pd ws Q -> ws.length = ps.length)
    (hbody:∀ {f:Addr} (cdv:Value) (A:Around) (outer:List Env) (s:Shared) (H:Hp) (E:XK),Room k (A.deeper (envOfC x (defScope st) s.heap.objs.size f cdv)) ->
      CSs (cxOf CX0 P w K mg base N x (defScope st) f cdv A outer s H E).nox al c0 (defBody st) t)
    (hle:c0 <= c) (hread:∀ ws Q,Pd ws Q -> t (vEnds Q) (startV N ws)):DfnC P w K mg base al c x ps (k + 1) Pd:=by
  obtain ⟨f,fd,hm,F,hb⟩:=Fn.ex
  refine ⟨mono,f,fd,hm,F.kp,hb,?_⟩
  refine F.ok S (fun vs H Q E ⟨n,F,ws,_,_,r,_,q⟩=>(Paired.length r).trans (len ws _ q)) fun cdv A outer s H vs Q E hr h=>?_
  obtain ⟨n,F1,ws,sm,ra,r,ok,q⟩:=h
  obtain ⟨T,p,kk⟩:=hbody cdv A outer s H E hr
  refine ⟨T,p,kk (b:=n) ((vr_start sm ra r ok).pay (by omega)) (vEnds _) _ ⟨?_,?_,fun _ _ _ _ _ _ z=>False.elim z,fun _ _ _ _ _ _ z=>False.elim z⟩ (hread ws _ q)⟩
  · intro F2 H2 σ1 ρ1 _ R1 q1
    exact q1 .non F2 H2 R1.g .non
  · rintro v w1 F2 H2 g1 r1 n1 ⟨d,ed,q1⟩
    obtain ⟨F3,g2,s2,r2⟩:=RelW.fz g1 r1 n1
    rw [ed] at r2
    exact q1 v F3 H2 g2 r2
end
def vCompC (n:Nat) (fi:En -> (List PyData -> Prop) -> Prop) (fr:List (Option Nat)) (g:TGv) (ft:TB) (fe:TV):TV:=fun ρ Q=>fi ρ fun xs=>xs.length <= n /\ vGoR (frEn fr ρ) g ft fe xs [] fun ds=>Q (.ml ds)
def CTs (X:Cx) (al:Option Addr) (c:Nat) (ifs:List Expr) (f:TB):Prop:=∃ t,PTs X ifs t /\ ∀ {b:Nat} {F₀ H₀ F H:Hp} {σ:St} {ρ:En},VR X.K ⟨al,b + c⟩ F₀ H₀ F H σ ρ -> ∀ (Qd:Bool -> Prop) (Q:Bool -> Hp -> Prop),f ρ Qd ->
  (∀ k F' H',Grow ⟨al,b⟩ F H F' H' -> Qd k -> Q k H') -> t σ H Q
theorem ct_nil {X:Cx} {al:Option Addr}:CTs X al 0 [] (fun _ Q=>Q true):=⟨_,pts_nil,fun R Qd Q q k=>k true _ _ (Grow.refl R.sub R.reel) q⟩
section
variable {X:Cx} {al:Option Addr} {c1 c2 c3:Nat} {elt tg iter:Expr} {ifs:List Expr} {scope:Scope} {pos:Pos} {fi:En -> (List PyData -> Prop) -> Prop} {g:TGv} {ft:TB} {fe:TV}
abbrev tgC {Y:Cx} (hg:∀ m,PGV Y ⟨al,m⟩ tg g):TG:=fun v σ H Q=>∃ m,Classical.choose (hg m) v σ H Q
theorem tgC_p {Y:Cx} (hg:∀ m,PGV Y ⟨al,m⟩ tg g):PG Y tg (tgC hg):=fun pins s σ H v u Q I rv ⟨m,z⟩=>(Classical.choose_spec (hg m)).1 pins s σ H v u Q I rv z
theorem lcompC_k {N':List Str} {wi:TI} (n:Nat) (fr:List (Option Nat)) (k0:∀ {b:Nat} {F₀ H₀ F H:Hp} {σ:St} {ρ:En},VR X.K ⟨al,b + c1⟩ F₀ H₀ F H σ ρ -> ∀ (Qd:List PyData -> Prop) (R:It -> Hp -> Prop),fi ρ Qd ->
      (∀ J xs F' H',Grow ⟨al,b⟩ F H F' H' -> (∀ b',VIt X.K ⟨al,b'⟩ F' J xs) -> Qd xs -> R J H') -> wi σ H R)
    (hg:∀ y m,PGV (blk X N' scope y) ⟨al,m⟩ tg g) (ht:∀ y,CTs (blk X N' scope y) al c2 ifs ft) (he:∀ y,CV (blk X N' scope y) al c3 elt fe)
    {b:Nat} {F₀ H₀ F H:Hp} {σ:St} {ρ:En} (R:VR X.K ⟨al,b + (c1 + n * (c2 + c3))⟩ F₀ H₀ F H σ ρ) (Qd:W -> Prop) (Q:VK) (q:vCompC n fi fr g ft fe ρ Qd)
    (k:∀ v w F' H',Grow ⟨al,b⟩ F H F' H' -> RelW X.K ⟨al,b⟩ F' H' v w -> NewIn H v w -> Qd w -> Q v H'):tComp wi fr (fun y=>tgC (hg y)) (fun y=>Classical.choose (ht y)) (fun y=>Classical.choose (he y)) σ H Q:=by
  refine k0 (b:=b + n * (c2 + c3)) (R.pay (by omega)) _ _ q fun J xs F1 H1 g1 vi ⟨hn,q1⟩=>?_
  intro D hD
  have rD:al ≠ some D:=fun e=>by obtain ⟨o,z⟩:=g1.reel.live e; rw [hD] at z; cases z
  have FD:F1 D = none:=g1.sub.free hD
  have gD:Grow ⟨al,b + n * (c2 + c3)⟩ F1 H1 F1 (upd H1 D (.lst [])):=Grow.laid g1.sub g1.reel hD
  have R1:=R.gr g1
  have n0:NoMl (frEn fr ρ):=noMl_block
  refine ⟨fun i m acc σc Hc=>m = xs.length - i /\ i <= xs.length /\ ∃ Fc ds,VR X.K ⟨al,b + (n - i) * (c2 + c3)⟩ F1 H1 Fc Hc σc (frEn fr ρ) /\ Hc D = some (.lst acc) /\ Fc D = none /\ Reps X.K Fc acc ds /\ vGoR (frEn fr ρ) g ft fe (xs.drop i) ds (fun ds=>Qd (.ml ds)),
    ⟨xs.length,by simp,Nat.zero_le _,F1,[],vr_block R1 gD,upd_same,FD,.nil,by simpa using q1⟩,?_⟩
  rintro z i m acc σc Hc ⟨rfl,hi,Fc,ds,Rc,hDc,fDc,rs,q2⟩
  have sH:Same F1 Hc:=Rc.g.fs.trans Rc.sub
  by_cases hlt:i < xs.length
  · have ei:xs[i]? = some xs[i]:=by simp [hlt]
    have ed:xs.drop i = xs[i] :: xs.drop (i + 1):=List.drop_eq_getElem_cons hlt
    rw [ed] at q2
    have el:=turn_left (n:=n) (i:=i) (c:=c2 + c3) (by omega)
    refine .inr ⟨(vi 0).go i Hc _ ei sH,fun v H' y=>?_⟩
    obtain ⟨Fy,gy,rv⟩:=(vi 0).yld i Hc v H' _ Fc ei Rc.g.fs Rc.sub Rc.reel y
    refine ⟨_,(Classical.choose_spec (hg z _)).2 (Rc.gr gy) v _ _ _ rv q2 fun F3 H3 σ3 ρ3 g3 n3 R3 ⟨le3,q3⟩=>?_⟩
    obtain ⟨_,kt⟩:=Classical.choose_spec (ht z)
    refine kt (b:=b + (n - (i + 1)) * (c2 + c3) + c3) (R3.pay (by omega)) _ _ q3 fun k4 F4 H4 g4 q4=>?_
    have R4:=R3.gr g4
    have g34:=(gy.tr g3).tr g4
    have keepD:∀ {m:Nat} {Fx Hx:Hp},Grow ⟨al,m⟩ Fc Hc Fx Hx -> Hx D = some (.lst acc) /\ Fx D = none:=fun gx=>⟨gx.same D _ hDc rD,by rw [gx.old D _ hDc]; exact fDc⟩
    cases k4 with
    | false=>exact ⟨xs.length - (i + 1),by omega,rfl,hlt,F4,ds,(R4.pay (by omega)).le le3,(keepD g34).1,(keepD g34).2,rs.mono g34.fs,q4⟩
    | true =>
      obtain ⟨_,kv⟩:=Classical.choose_spec (he z)
      refine kv (b:=b + (n - (i + 1)) * (c2 + c3)) R4 _ _ q4 fun v5 w5 F5 H5 g5 r5 n5 ⟨d,ed5,hl,q5⟩=>?_
      obtain ⟨F6,g6,s6,r6⟩:=RelW.fz g5 r5 n5
      rw [ed5] at r6
      have g36:=g34.tr g6
      refine ⟨(keepD g36).1,by rw [rs.length]; exact hl,xs.length - (i + 1),by omega,rfl,hlt,F6,ds ++ [d],((R4.gr g6).le le3).other n0 hD (keepD g36).2 rD,upd_same,(keepD g36).2,(rs.mono g36.fs).snoc r6,q5⟩
  · have e:i = xs.length:=by omega
    subst e
    rw [List.drop_length] at q2
    refine .inl ⟨(vi 0).stop _ Hc (Nat.le_refl _) sH,k _ (.ml ds) Fc Hc (g1.tr (Rc.g.pay (by omega))) ⟨D,acc,rfl,fDc,rD,hDc,rs⟩ (fun a ea=>by cases ea; exact g1.freeB hD) q2⟩
theorem c_lcomp (n:Nat) (N':List Str) (fr:List (Option Nat)) (hc:X.calm = true) (hi:CI X al c1 tg iter fi)
    (hg:∀ y m,PGV (blk X N' scope y) ⟨al,m⟩ tg g) (ht:∀ y,CTs (blk X N' scope y) al c2 ifs ft) (he:∀ y,CV (blk X N' scope y) al c3 elt fe)
    (hfr:frOk fr N' X.N scope X.env.scope = true:=by rfl) (hsc:scOk scope X.env.scope = true:=by rfl)
    (hs:∀ x,foldedSetIterable iter X.env x = pure x:=by intro _; rfl):CV X al (c1 + n * (c2 + c3)) (.ListComp elt [⟨tg,iter,ifs,0⟩] scope pos) (vCompC n fi fr g ft fe):=by
  obtain ⟨wi,p0,k0⟩:=hi
  exact ⟨_,pe_lcomp N' fr hc p0 hfr hsc (fun y=>tgC_p (hg y)) (fun y=>(Classical.choose_spec (ht y)).1) (fun y=>(Classical.choose_spec (he y)).1) hs,fun R Qd Q q k=>lcompC_k n fr k0 hg ht he R Qd Q q k⟩
end
end L2.VL

namespace L2.VL
open PySem PySem.Spec PyProof.Rows
def kC:Key:=Sum.inr "cells"
def kA:Key:=Sum.inr "at"
def kL:Key:=Sum.inr "left"
theorem k_ca:¬ kC = kA:=by decide +kernel
theorem k_cl:¬ kC = kL:=by decide +kernel
theorem k_al:¬ kA = kL:=by decide +kernel
def spKv (c:Addr) (a l:Int):List (Key × V):=[(kC,.ref c),(kA,.int a),(kL,.int l)]
theorem valV_ne {p:Key × V} {r:List (Key × V)} {k:Key} (e:¬ p.1 = k):valV (p :: r) k = valV r k:=by
  unfold valV
  rw [List.find?_cons]
  simp [e]
theorem sp_c (c:Addr) (a l:Int):valV (spKv c a l) kC = some (.ref c):=valV_pos rfl
theorem sp_a (c:Addr) (a l:Int):valV (spKv c a l) kA = some (.int a):=by unfold spKv; rw [valV_ne k_ca]; exact valV_pos rfl
theorem sp_l (c:Addr) (a l:Int):valV (spKv c a l) kL = some (.int l):=by unfold spKv; rw [valV_ne k_cl,valV_ne k_al]; exact valV_pos rfl
theorem nek {a b:Key} (h:¬ a = b):¬ b = a:=fun e=>h e.symm
theorem put_l (c:Addr) (a l n:Int):putK (spKv c a l) kL (.int n) = spKv c a n:=by
  unfold putK spKv
  rw [if_pos (by simp)]
  simp [k_cl,k_al]
theorem put_a (c:Addr) (a l n:Int):putK (spKv c a l) kA (.int n) = spKv c n l:=by
  unfold putK spKv
  rw [if_pos (by simp)]
  simp [k_ca,nek k_al]
theorem bm_lt:(0:Int) + BM < 2 ^ 59990:=by
  have h:BM < 2 ^ 59990:=Nat.pow_lt_pow_right (by decide) (by decide)
  rw [Int.zero_add]
  exact_mod_cast h
theorem ReelOk.kv {n:Nat} {F H:Hp} {r:Addr} (h:ReelOk n F H r):∃ (c:Addr) (ns:List Int) (a l:Int),H r = some (.dK (spKv c a l)) /\ F c = some (.lst (ns.map V.int)) /\ ns.length <= 63 /\ 0 <= a /\ 0 <= l /\ a + n < 2 ^ 59990:=by
  obtain ⟨o,e,c,ns,a,l,rfl,q⟩:=h.ex
  exact ⟨c,ns,a,l,e,q⟩
theorem RAt.put {al:Option Addr} {n n':Nat} {F₀ H₀ F H:Hp} {K:W.Frag} {σ:St} {ρ:En} {r c:Addr} {ns:List Int} {a l:Int} (R:VR K ⟨al,n⟩ F₀ H₀ F H σ ρ) (e:al = some r) (h:F c = some (.lst (ns.map V.int)) /\ ns.length <= 63 /\ 0 <= a /\ 0 <= l /\ a + n' < 2 ^ 59990):VR K ⟨al,n'⟩ F₀ H₀ F (upd H r (.dK (spKv c a l))) σ ρ:=by
  have fr:F r = none:=(R.reel r e).1
  have neF:∀ b u,F b = some u -> b ≠ r:=fun b u q z=>by subst z; rw [fr] at q; cases q
  have g:Grow ⟨al,n'⟩ F H F (upd H r (.dK (spKv c a l))):=by
    refine ⟨fun b o q n=>by rw [upd_ne (fun z=>n (by rw [z]; exact e))]; exact q,.refl F,fun b o q=>by rw [upd_ne (neF b o q)]; exact R.sub b o q,fun _ _ _=>rfl,fun y z=>?_⟩
    have:y = r:=Option.some.inj (z.symm.trans e)
    subst this
    exact ⟨fr,⟨_,upd_same,c,ns,a,l,rfl,h⟩⟩
  exact R.gr g
theorem reps_ints {K:W.Frag} {F:Hp}:∀ ns:List Int,Reps K F (ns.map V.int) (ns.map PyData.int)
  | []=>.nil
  | n :: ns=>.cons (.int n) (reps_ints ns)
section
variable {X:Cx} {rl:RlT} {e:Expr} {fa:TV} {pos p p1 p2:Pos} {ρ:En}
def vRN (i:Nat):TV:=fun ρ Q=>ρ[i]? = some (some .reel) /\ ∀ n:Int,0 <= n -> Q (.d (.int n))
def vRC (i:Nat):TV:=fun ρ Q=>ρ[i]? = some (some .reel) /\ ∀ ns:List Int,ns.length <= 63 -> Q (.d (.list (ns.map .int)))
theorem v_rget {i:Nat} {x:Str} {j} (hr:Room 0 X.A) (hN:X.N[i]? = some x:=by rfl) (hv:Vis X.env.scope x:=by first | exact Or.inl rfl | exact Or.inr (Or.inl rfl) | exact Or.inr (Or.inr rfl))
    (hd:(x == ("__debug__" : Str)) = false:=by decide) (hcd:(x == ("__classdict__" : Str)) = false:=by decide) (hs:NoSl (.Constant (.str "left") j p2):=by exact fun _ _=>rfl):PV X rl (.Subscript (.Name x p1) (.Constant (.str "left") j p2) pos) (vRN i):=by
  refine ⟨_,pe_dget (hu_of hr) (pe_var hN hv hd hcd) pe_str hs,fun {F₀ H₀ F H σ ρ} R Qd Q ⟨e1,q⟩ h=>?_⟩
  obtain ⟨v,s1,⟨r,er,ev⟩,_⟩:=R.sl i _ e1
  subst ev
  obtain ⟨_,ok⟩:=R.reel r er
  obtain ⟨c,ns,a,l,hH,_,_,b1,b2,b3⟩:=ok.kv
  refine ⟨.ref r,s1,r,.int l,rfl,?_,h _ (.d _) F H (Grow.refl R.sub R.reel) (.int l) trivial (q l b2)⟩
  have g:=DGet.k (k:=kL) hH
  rw [sp_l] at g
  exact g
theorem v_rcells {i:Nat} {x:Str} {j} (hr:Room 0 X.A) (hN:X.N[i]? = some x:=by rfl) (hv:Vis X.env.scope x:=by first | exact Or.inl rfl | exact Or.inr (Or.inl rfl) | exact Or.inr (Or.inr rfl))
    (hd:(x == ("__debug__" : Str)) = false:=by decide) (hcd:(x == ("__classdict__" : Str)) = false:=by decide) (hs:NoSl (.Constant (.str "cells") j p2):=by exact fun _ _=>rfl):PV X rl (.Subscript (.Name x p1) (.Constant (.str "cells") j p2) pos) (vRC i):=by
  refine ⟨_,pe_dget (hu_of hr) (pe_var hN hv hd hcd) pe_str hs,fun {F₀ H₀ F H σ ρ} R Qd Q ⟨e1,q⟩ h=>?_⟩
  obtain ⟨v,s1,⟨r,er,ev⟩,_⟩:=R.sl i _ e1
  subst ev
  obtain ⟨_,ok⟩:=R.reel r er
  obtain ⟨c,ns,a,l,hH,hc,hl,_⟩:=ok.kv
  refine ⟨.ref r,s1,r,.ref c,rfl,?_,h _ (.d _) F H (Grow.refl R.sub R.reel) (Rep.lst hc (reps_ints ns)) trivial (q ns hl)⟩
  have g:=DGet.k (k:=kC) hH
  rw [sp_c] at g
  exact g
def vRPut (i:Nat) (fa:TV):TSv:=fun D ρ=>fa ρ fun w=>∃ n,w = .d (.int n) /\ 0 <= n /\ ρ[i]? = some (some .reel) /\ D.nx ρ
theorem vs_rput {i:Nat} {x:Str} {j} {pos':Pos} (hr:Room 0 X.A) (ha:PV X rl e fa) (hN:X.N[i]? = some x:=by rfl) (hv:Vis X.env.scope x:=by first | exact Or.inl rfl | exact Or.inr (Or.inl rfl) | exact Or.inr (Or.inr rfl))
    (hd:(x == ("__debug__" : Str)) = false:=by decide) (hcd:(x == ("__classdict__" : Str)) = false:=by decide) (hsw:swapsWith e (some (.Subscript (.Name x p1) (.Constant (.str "left") j p2) pos')) pos.line X.env = pure false:=by rfl) :
    PSV X rl (.Assign [.Subscript (.Name x p1) (.Constant (.str "left") j p2) pos'] e pos) (vRPut i fa):=by
  obtain ⟨t,p3,kk⟩:=ha
  refine ⟨_,ps_dput (hu_of hr) (pe_var hN hv hd hcd) pe_str p3 hsw,fun {F₀ H₀ F H σ ρ} R Dv D ok q=>kk R _ _ q fun v w F1 H1 g1 r1 n1 ⟨n,ew,hn,e1,q1⟩=>?_⟩
  subst ew
  have ev:=rep_int r1
  subst ev
  have R1:=R.grow g1
  obtain ⟨v,s1,⟨r,er,ev⟩,_⟩:=R1.sl i _ e1
  subst ev
  obtain ⟨_,okr⟩:=R1.reel r er
  obtain ⟨c,ns,a,l,hH,hc,hl,b1,b2,b3⟩:=okr.kv
  refine ⟨.ref r,s1,r,_,rfl,DPut.k (k:=kL) hH (small1000 (by show 3 <= 1000; decide)),?_⟩
  rw [put_l]
  exact ok.nx _ _ _ _ g1.fs (RAt.put (al:=rl.a) (n:=rl.b) (n':=rl.b) R1 er ⟨hc,hl,b1,hn,b3⟩) q1
def asR:W -> Option Unit
  | .reel=>some ()
  | _=>none
theorem asR_r:asR .reel = some ():=rfl
theorem slR_of {i:Nat}:(((ρ[i]?).join).bind asR = some ()) ↔ ρ[i]? = some (some .reel):=by
  constructor
  · intro h
    cases q : ρ[i]? with
    | none=>rw [q] at h; cases h
    | some o=>rw [q] at h; cases o with
      | none=>cases h
      | some w=>cases w <;> first | rfl | cases h
  · intro h; rw [h]; rfl
theorem slR_ex {β:Type} {i:Nat} {k:Unit -> Mo β} {Q : β -> Prop}:optM (((ρ[i]?).join).bind asR) k Q ↔ ρ[i]? = some (some .reel) /\ k () Q:=by
  rw [opt_iff]
  exact ⟨fun ⟨u,a,q⟩=>⟨slR_of.mp a,q⟩,fun ⟨a,q⟩=>⟨(),slR_of.mpr a,q⟩⟩
theorem m_vRN (i:Nat):vRN i ρ = optM (((ρ[i]?).join).bind asR) fun _=>bnd (anyM fun n:Int=>0 <= n) fun n=>ret (.d (.int n)):=mo_ext fun Q=>(Iff.intro (fun ⟨a,q⟩=>slR_ex.mpr ⟨a,fun n h=>q n h⟩) fun h=>⟨(slR_ex.mp h).1,fun n hn=>(slR_ex.mp h).2 n hn⟩)
theorem m_vRC (i:Nat):vRC i ρ = optM (((ρ[i]?).join).bind asR) fun _=>bnd (anyM fun ns:List Int=>ns.length <= 63) fun ns=>ret (.d (.list (ns.map .int))):=mo_ext fun Q=>(Iff.intro (fun ⟨a,q⟩=>slR_ex.mpr ⟨a,fun n h=>q n h⟩) fun h=>⟨(slR_ex.mp h).1,fun n hn=>(slR_ex.mp h).2 n hn⟩)
theorem s_rput (i:Nat):mS (vRPut i fa) ρ = bnd (fa ρ) fun w=>optM (asI w) fun n=>grd (0 <= n) (optM (((ρ[i]?).join).bind asR) fun _=>ret (.nx ρ)):=by
  show (bnd (fa ρ) fun w=>fun (Q:Fl -> Prop)=>∃ n,w = .d (.int n) /\ 0 <= n /\ ρ[i]? = some (some .reel) /\ Q (.nx ρ)) = _
  congr 1; funext w
  refine mo_ext fun Q=>?_
  simp only [opt_iff (o:=asI w),asI_of,grd,slR_ex,ret]
end
theorem merge_sp (c:Addr):mergeK [] [(kC,V.ref c),(kA,.int 0),(kL,.int 0)] = spKv c 0 0:=by
  unfold mergeK spKv
  simp only [List.foldl_cons,List.foldl_nil]
  have p0:putK ([]:List (Key × V)) kC (V.ref c) = [(kC,V.ref c)]:=rfl
  rw [p0]
  unfold putK
  simp [k_ca,k_cl,k_al]
section
variable {X:Cx} {e1:Expr} {f1:TV} {pos dpos q1 q2 q3 q4 q5:Pos} {j1 j2 j3 j4 j5:Nat}
theorem feed_body (h1:PV X RlT.no e1 f1) :
    ∃ T,PSs X [.Return (some (.Dict [some (.Constant (.str "cells") j1 q1),some (.Constant (.str "at") j2 q2),some (.Constant (.str "left") j3 q3)] [e1,.Constant (.int 0) j4 q4,.Constant (.int 0) j5 q5] dpos)) pos] T /\
      ∀ {F H:Hp} {σ:St} {ρ:En},VR X.K RlT.no F H F H σ ρ -> ∀ D:Ends,(f1 ρ fun w=>∃ ns:List Int,w = .ml (ns.map .int) /\ ns.length <= 63) ->
        (∀ r F' H',H r = none -> Grow RlT.no F H F' H' -> RAt (RlT.at' r BM) F' H' -> D.rt (.ref r) H') -> T D σ H:=by
  obtain ⟨g1,pe1,ke1⟩:=h1
  refine ⟨_,pss_one (ps_ret (pe_disp (pps_cons pe_str pe1 (pps_cons pe_str pe_int (pps_cons pe_str pe_int pps_nil))) rfl rfl (by intro z; cases z) (by show 3 <= 15; decide))),fun {F H σ ρ} R D q fin=>?_⟩
  intro p hp
  have gp:Grow RlT.no F H F (upd H p (.dK [])):=Grow.laid R.sub R.reel hp
  refine ke1 (R.grow gp) _ _ q fun v1 w1 F3 H3 g3 r1 n1 qc=>?_
  obtain ⟨ns,rfl,hl⟩:=qc
  obtain ⟨F4,g4,s4,r4⟩:=RelW.fz (w:=.ml (ns.map .int)) g3 r1 n1
  have r4:Rep X.K F4 v1 (.list (ns.map .int)):=r4
  cases r4 with
  | @lst a vs _ hc rs =>
    have ev:=reps_int rs
    subst ev
    have hp5:H3 p = some (.dK []):=g3.same p _ upd_same (by simp)
    refine ⟨hp5,[(kC,.ref a),(kA,.int 0),(kL,.int 0)],rfl,(by show 3 <= 15; decide),?_⟩
    rw [merge_sp]
    have f5:F4 p = none:=by rw [g4.old p _ upd_same]; exact R.sub.free hp
    have g0:Grow RlT.no F H F4 H3:=gp.trans g4
    refine fin p F4 _ hp ⟨fun b o eb _=>by rw [upd_ne (ne_of_none eb hp)]; exact g0.same b o eb (by simp),g0.fs,fun b o eb=>?_,g0.old,fun _ z=>by cases z⟩ (fun r er=>?_)
    · have:b ≠ p:=fun z=>by subst z; rw [f5] at eb; cases eb
      rw [upd_ne this]
      exact g0.sub b o eb
    · cases er
      exact ⟨f5,⟨_,upd_same,a,ns,0,0,rfl,hc,hl,by omega,by omega,bm_lt⟩⟩
end
def vRT (m:Nat) (i:Nat):TV:=fun ρ Q=>ρ[i]? = some (some .reel) /\ ∀ n:Int,0 <= n -> n + m < 2 ^ 59990 -> Q (.d (.int n))
section
variable {X:Cx} {al:Option Addr} {m m' c:Nat} {rest:List Stmt} {u:TSv} {e:Expr} {fa:TV} {pos p p1 p2:Pos} {ρ:En}
theorem v_rturn {i:Nat} {x:Str} {j} (hr:Room 0 X.A) (hN:X.N[i]? = some x:=by rfl) (hv:Vis X.env.scope x:=by first | exact Or.inl rfl | exact Or.inr (Or.inl rfl) | exact Or.inr (Or.inr rfl))
    (hd:(x == ("__debug__" : Str)) = false:=by decide) (hcd:(x == ("__classdict__" : Str)) = false:=by decide) (hs:NoSl (.Constant (.str "at") j p2):=by exact fun _ _=>rfl):PV X ⟨al,m⟩ (.Subscript (.Name x p1) (.Constant (.str "at") j p2) pos) (vRT m i):=by
  refine ⟨_,pe_dget (hu_of hr) (pe_var hN hv hd hcd) pe_str hs,fun {F₀ H₀ F H σ ρ} R Qd Q ⟨e1,q⟩ h=>?_⟩
  obtain ⟨v,s1,⟨r,er,ev⟩,_⟩:=R.sl i _ e1
  subst ev
  obtain ⟨_,ok⟩:=R.reel r er
  obtain ⟨c,ns,a,l,hH,hc,hl,b1,b2,b3⟩:=ok.kv
  refine ⟨.ref r,s1,r,.int a,rfl,?_,h _ (.d _) F H (Grow.refl R.sub R.reel) (.int a) trivial (q a b1 b3)⟩
  have g:=DGet.k (k:=kA) hH
  rw [sp_a] at g
  exact g
def vBump (i ih:Nat) (u:TSv):TSv:=fun D ρ=>ρ[ih]? = some (some .reel) /\ i < ρ.length /\ ∀ n:Int,0 <= n -> n < 2 ^ 59990 -> u D (ρ.set i (some (.d (.int n))))
theorem cs_bump (i ih:Nat) {x h:Str} {j1 j2 j3:Nat} {q1 q2 q3 q4 q5 q6 q7 q8 q9 q10 q11:Pos} (hr:Room 0 X.A) (hN:X.N.Nodup) (hne:i ≠ ih) (hrest:CSs X al c rest u) (hi:X.N[i]? = some x:=by rfl) (hih:X.N[ih]? = some h:=by rfl)
    (hx:Loc X.env.scope x:=by first | exact Or.inl rfl | exact Or.inr rfl) (hf:X.fn x = true \/ X.env.scope.names.lookup x = some .local:=by first | exact .inl rfl | exact .inr rfl)
    (hv:Vis X.env.scope h:=by first | exact Or.inl rfl | exact Or.inr (Or.inl rfl) | exact Or.inr (Or.inr rfl)) (hvx:Vis X.env.scope x:=by first | exact Or.inl rfl | exact Or.inr (Or.inl rfl) | exact Or.inr (Or.inr rfl))
    (hd:(h == ("__debug__" : Str)) = false:=by decide) (hcd:(h == ("__classdict__" : Str)) = false:=by decide) (hd':(x == ("__debug__" : Str)) = false:=by decide) (hcd':(x == ("__classdict__" : Str)) = false:=by decide)
    (hs:swapsWith (.Subscript (.Name h q1) (.Constant (.str "at") j1 q2) q3) (some (.Name x q6)) q7.line X.env = pure false:=by rfl)
    (hsw:swapsWith (.BinOp (.Name x q8) .Add (.Constant (.int 1) j2 q4) q5) (some (.Subscript (.Name h q9) (.Constant (.str "at") j3 q10) q11)) pos.line X.env = pure false:=by rfl)
    (hsl:NoSl (.Constant (.str "at") j1 q2):=by exact fun _ _=>rfl) :
    CSs X al (1 + c) (.Assign [.Name x q6] (.Subscript (.Name h q1) (.Constant (.str "at") j1 q2) q3) q7 :: .Assign [.Subscript (.Name h q9) (.Constant (.str "at") j3 q10) q11] (.BinOp (.Name x q8) .Add (.Constant (.int 1) j2 q4) q5) pos :: rest) (vBump i ih u):=by
  obtain ⟨T,pT,kR⟩:=hrest
  have s1:∀ n,PSV X ⟨al,n⟩ (.Assign [.Name x q6] (.Subscript (.Name h q1) (.Constant (.str "at") j1 q2) q3) q7) (vSetZ i (vRT n ih)):=fun n=>vs_setZ i hN (v_rturn hr hih hv hd hcd hsl) hi hx hs hf
  have s2:∀ n,PV X ⟨al,n⟩ (.BinOp (.Name x q8) .Add (.Constant (.int 1) j2 q4) q5) (vOp (gI0 fun i j=>.int (i + j)) (vVar i) (vC (.int 1))):=fun n=>v_add (vn i hi hvx hd' hcd') pv_int
  refine ⟨_,pss_cons (t:=fun D σ H=>∃ n,Classical.choose (s1 n) D σ H) (fun pins s σ H D I ⟨n,z⟩=>(Classical.choose_spec (s1 n)).1 pins s σ H D I z) (pss_cons (ps_dput (tv:=fun σ H Q=>∃ n,Classical.choose (s2 n) σ H Q) (hu_of hr) (pe_var hih hv hd hcd) pe_str (fun pins s σ H Q I ⟨n,z⟩=>(Classical.choose_spec (s2 n)).1 pins s σ H Q I z) hsw) pT),fun {b F₀ H₀ F H σ ρ} R Dv D ok ⟨e1,hlen,q⟩=>⟨b + (1 + c),?_⟩⟩
  refine (Classical.choose_spec (s1 (b + (1 + c)))).2 R { Dv with nx:=fun ρ'=>∃ n:Int,(0 <= n /\ n + (b + (1 + c):Nat) < 2 ^ 59990) /\ ρ' = ρ.set i (some (.d (.int n))) } _ ⟨fun F1 H1 σ1 ρ1 sm R1 qn=>?_,fun v w F1 H1 g r n q=>(ok.pay (by omega)).rt v w F1 H1 g r n q,fun F1 H1 σ1 ρ1 sm R1 q=>(ok.pay (b:=b + (1 + c)) (by omega)).bk F1 H1 σ1 ρ1 sm R1 q,fun F1 H1 σ1 ρ1 sm R1 q=>(ok.pay (b:=b + (1 + c)) (by omega)).ct F1 H1 σ1 ρ1 sm R1 q⟩ ?_
  · obtain ⟨n,⟨hn,hl⟩,rfl⟩:=qn
    refine ⟨b + (1 + c),(Classical.choose_spec (s2 (b + (1 + c)))).2 R1 (fun w=>w = .d (.int (n + 1))) _ ?_ fun v w F2 H2 g2 r2 n2 qw=>?_⟩
    · exact ⟨.d (.int n),by rw [List.getElem?_set_self hlen],n,1,rfl,rfl,rfl⟩
    · subst qw
      have ev:=rep_int r2
      subst ev
      have R2:=R1.grow g2
      obtain ⟨v2,s2',⟨r,er,ev2⟩,_⟩:=R2.sl ih .reel (by rw [List.getElem?_set_ne hne]; exact e1)
      subst ev2
      obtain ⟨_,okr⟩:=R2.reel r er
      obtain ⟨cc,ns,a,l,hH,hc,h63,b1,b2,b3⟩:=okr.kv
      refine ⟨.ref r,s2',r,_,rfl,DPut.k (k:=kA) hH (small1000 (by show 3 <= 1000; decide)),?_⟩
      rw [put_a]
      exact kR (b:=b) (RAt.put (n':=b + c) R2 er ⟨hc,h63,by omega,b2,by omega⟩) Dv D (ok.on (sm.trans g2.fs)) (q n hn (by omega))
  · exact ⟨e1,fun n h0 h1=>⟨.int n,rfl,n,⟨h0,h1⟩,rfl⟩⟩
theorem s_bump (i ih:Nat):mS (vBump i ih u) ρ = optM (((ρ[ih]?).join).bind asR) fun _=>grd (i < ρ.length) (bnd (anyM fun n:Int=>0 <= n /\ n < 2 ^ 59990) fun n=>mS u (ρ.set i (some (.d (.int n))))):=mo_ext fun Q=>(Iff.intro (fun ⟨a,l,q⟩=>slR_ex.mpr ⟨a,l,fun n hn=>q n hn.1 hn.2⟩) fun h=>⟨(slR_ex.mp h).1,(slR_ex.mp h).2.1,fun n h0 h1=>(slR_ex.mp h).2.2 n ⟨h0,h1⟩⟩)
theorem cs_newR (i:Nat) {x f:Str} {ps:List Str} {k:Nat} {pre:List W -> Prop} {fs:TVs} {es:List Expr} {px cpos:Pos} (D:DfnR X.prog X.w X.K X.mg X.base f ps k pre) (hr:Room k X.A) (hN:X.N.Nodup) (ha:PVs X RlT.no (e :: es) fs) (hrest:∀ r,CSs X (some r) c rest u) (hc:c <= BM)
    (hi:X.N[i]? = some x:=by rfl) (hx:Loc X.env.scope x:=by first | exact Or.inl rfl | exact Or.inr rfl) (hg:Gl X f:=by rfl) (hdb:(f == ("__debug__" : Str)) = false:=by decide)
    (he:starEach (e :: es) X.env = (false,eval e X.env) :: starEach es X.env:=by rfl) (hpl:(backTo cpos (starEach es X.env)).any (·.1) = false:=by rfl)
    (hs:swapsWith (.Call (.Name f p) (e :: es) [] cpos) (some (.Name x px)) pos.line X.env = pure false:=by rfl) (hf:X.fn x = true \/ X.env.scope.names.lookup x = some .local:=by first | exact .inl rfl | exact .inr rfl) :
    PSsV X RlT.no (.Assign [.Name x px] (.Call (.Name f p) (e :: es) [] cpos) pos :: rest) (vNewR i pre fs u):=by
  obtain ⟨fa,fd,hm,hk,hb,F⟩:=D.ex
  obtain ⟨ta,p1,k1⟩:=ha
  refine ⟨_,pss_cons (ps_set hN hi hx (pe_call F hr hg hm hk hb .nil pass0 p1 hdb he hpl) hs hf) (pss_any X rest),fun {F₀ H₀ F H σ ρ} R Dv D ok q=>k1 R _ _ q fun vs ws F1 H1 g1 r1 ⟨ao,pw,q1⟩=>?_⟩
  have R1:=R.grow g1
  refine ⟨F1,ws,g1.sub,by rw [List.append_nil]; exact r1,ao,pw,fun r F2 H2 hr2 g2 ra=>?_⟩
  intro pins s I
  obtain ⟨T,pT,kT⟩:=hrest r
  have h0:H₀ r = none:=R1.g.freeB hr2
  refine pT pins s _ H2 D I (kT (b:=0) ((R1.into hr2 g2 ra i).pay (by omega)) _ D ⟨fun F3 H3 σ3 ρ3 s3 R3 q3=>?_,fun v w F3 H3 g3 r3 n3 q3=>?_,fun F3 H3 σ3 ρ3 s3 R3 q3=>?_,fun F3 H3 σ3 ρ3 s3 R3 q3=>?_⟩ q1)
  · exact ok.nx F3 H3 σ3 _ (g1.fs.trans (g2.fs.trans s3)) (R3.out h0) q3
  · exact ok.rt v w F3 H3 (grow_out g3 h0) (rel_out r3 q3.1) n3 q3.2
  · exact ok.bk F3 H3 σ3 _ (g1.fs.trans (g2.fs.trans s3)) (R3.out h0) q3
  · exact ok.ct F3 H3 σ3 _ (g1.fs.trans (g2.fs.trans s3)) (R3.out h0) q3
end
theorem s_forC (n:Nat) (fl:List Nat) (fi:En -> (List PyData -> Prop) -> Prop) (g:TGv) (t:TSv) (ρ:En):mS (vForC n fl fi g t) ρ = bnd (fi ρ) fun xs=>grd (xs.length <= n) (loopM fl (bdy g t) xs (fo fl ρ)):=by
  refine mo_ext fun Q=>?_
  show (fi ρ fun xs=>xs.length <= n /\ mS (vLoopF fl g t xs) (fo fl ρ) Q) ↔ _
  simp only [loop_eq]
  exact Iff.rfl
theorem m_compC (n:Nat) (fi:En -> (List PyData -> Prop) -> Prop) (fr:List (Option Nat)) (g:TGv) (ft:TB) (fe:TV) (ρ:En):vCompC n fi fr g ft fe ρ = bnd (fi ρ) fun xs=>grd (xs.length <= n) (bnd (compM (itM (frEn fr ρ) g ft fe) xs []) fun ds=>ret (.ml ds)):=by
  refine mo_ext fun Q=>?_
  show (fi ρ fun xs=>xs.length <= n /\ vGoR (frEn fr ρ) g ft fe xs [] fun ds=>Q (.ml ds)) ↔ _
  simp only [comp_eq]
  exact Iff.rfl
end L2.VL

namespace L2.VL
open PySem PySem.Spec PyProof.Rows
def fr (q:Rat):PyData:=.tuple [.int q.num,.int q.den]
theorem fr_inj {q r:Rat} (h:fr q = fr r):q = r:=by
  simp only [fr,PyData.tuple.injEq,List.cons.injEq,PyData.int.injEq,and_true] at h
  exact Rat.ext h.1 (by omega)
theorem low_norm (n:Int) (d:Nat) (h:d ≠ 0):lowD n d = fr (Rat.normalize n d h):=by
  unfold lowD fr
  rw [Rat.normalize_eq]
  have g:(Int.gcd n d:Int) = ((n.natAbs.gcd d:Nat):Int):=by simp [Int.gcd]
  have gp : 0 < n.natAbs.gcd d:=Nat.gcd_pos_of_pos_right _ (by omega)
  have e1:n.fdiv (Int.gcd n d) = n / ((n.natAbs.gcd d:Nat):Int):=by rw [g,Int.fdiv_eq_ediv_of_nonneg _ (by omega)]
  have e2:(d:Int).fdiv (Int.gcd n d) = ((d / n.natAbs.gcd d:Nat):Int):=by rw [g,Int.fdiv_eq_ediv_of_nonneg _ (by omega),Int.natCast_ediv]
  rw [e1,e2]
theorem low_div {a b:Int} (hb : 0 < b):lowD a b = fr ((a:Rat) / (b:Rat)):=by
  obtain ⟨d,rfl⟩:=Int.eq_ofNat_of_zero_le (show 0 <= b by omega)
  rw [low_norm a d (by omega)]
  congr 1
  have:(Rat.normalize a d (by omega)) = mkRat a d:=by rw [Rat.normalize_eq_mkRat]
  rw [this,Rat.mkRat_eq_div]
  rfl
theorem fr_add (q r:Rat):lowD (q.num * r.den + r.num * q.den) (q.den * r.den) = fr (q + r):=by
  have:=low_norm (q.num * r.den + r.num * q.den) (q.den * r.den) (Nat.mul_ne_zero q.den_nz r.den_nz)
  rw [Int.natCast_mul] at this
  rw [this,Rat.add_def]
theorem fr_sub (q r:Rat):lowD (q.num * r.den - r.num * q.den) (q.den * r.den) = fr (q - r):=by
  have:=low_norm (q.num * r.den - r.num * q.den) (q.den * r.den) (Nat.mul_ne_zero q.den_nz r.den_nz)
  rw [Int.natCast_mul] at this
  rw [this,Rat.sub_def]
theorem fr_mul (q r:Rat):lowD (q.num * r.num) (q.den * r.den) = fr (q * r):=by
  have:=low_norm (q.num * r.num) (q.den * r.den) (Nat.mul_ne_zero q.den_nz r.den_nz)
  rw [Int.natCast_mul] at this
  rw [this,Rat.mul_def]
theorem fr_lt (q r:Rat):decide (q.num * r.den < r.num * q.den) = decide (q < r):=by
  rw [decide_eq_decide]
  exact (Rat.lt_iff q r).symm
def q2P (f:Rat -> Rat -> PyData) (pre:Rat -> Rat -> Prop):List W -> (PyData -> Prop) -> Prop:=fun ws Q=>∃ q r,ws = [.d (fr q),.d (fr r)] /\ pre q r /\ Q (f q r)
theorem q2P.mono {f:Rat -> Rat -> PyData} {pre:Rat -> Rat -> Prop}:∀ ws (Q Q':PyData -> Prop),(∀ d,Q d -> Q' d) -> q2P f pre ws Q -> q2P f pre ws Q':=fun _ _ _ h ⟨q,r,e,p,x⟩=>⟨q,r,e,p,h _ x⟩
theorem q2P.len {f:Rat -> Rat -> PyData} {pre:Rat -> Rat -> Prop}:∀ ws (Q:PyData -> Prop),q2P f pre ws Q -> ws.length = 2:=fun _ _ ⟨_,_,e,_⟩=>by subst e; rfl
def q1P (f:Rat -> PyData) (pre:Rat -> Prop):List W -> (PyData -> Prop) -> Prop:=fun ws Q=>∃ q,ws = [.d (fr q)] /\ pre q /\ Q (f q)
theorem q1P.mono {f:Rat -> PyData} {pre:Rat -> Prop}:∀ ws (Q Q':PyData -> Prop),(∀ d,Q d -> Q' d) -> q1P f pre ws Q -> q1P f pre ws Q':=fun _ _ _ h ⟨q,e,p,x⟩=>⟨q,e,p,h _ x⟩
theorem q1P.len {f:Rat -> PyData} {pre:Rat -> Prop}:∀ ws (Q:PyData -> Prop),q1P f pre ws Q -> ws.length = 1:=fun _ _ ⟨_,e,_⟩=>by subst e; rfl
def qSm (n:Nat) (q:Rat):Prop:=q.num.natAbs < 2 ^ n /\ q.den < 2 ^ n
theorem qSm.mono {n m:Nat} {q:Rat} (h:qSm n q) (hm:n <= m):qSm m q:=⟨Nat.lt_of_lt_of_le h.1 (Nat.pow_le_pow_right (by decide) hm),Nat.lt_of_lt_of_le h.2 (Nat.pow_le_pow_right (by decide) hm)⟩
theorem big2000 {i:Int} (h:i.natAbs < 2 ^ 2000):Big i:=Nat.lt_of_lt_of_le h (Nat.pow_le_pow_right (by decide) (by decide))
theorem qSm.bn {q:Rat} (h:qSm 2000 q):Big q.num:=big2000 h.1
theorem qSm.bd {q:Rat} (h:qSm 2000 q):Big (q.den:Int):=big2000 (by rw [Int.natAbs_natCast]; exact h.2)
theorem den_pos (q r:Rat):(0:Int) < (q.den:Int) * (r.den:Int):=Int.mul_pos (by have:=q.den_nz; omega) (by have:=r.den_nz; omega)
theorem den_small {q r:Rat} (h:qSm 2000 q) (h':qSm 2000 r):((q.den:Int) * (r.den:Int)).natAbs < 2 ^ 8000:=by
  rw [Int.natAbs_mul,Int.natAbs_natCast,Int.natAbs_natCast]
  have:q.den * r.den < 2 ^ 2000 * 2 ^ 2000:=Nat.mul_lt_mul'' h.2 h'.2
  rw [<- Nat.pow_add] at this
  exact Nat.lt_of_lt_of_le this (Nat.pow_le_pow_right (by decide) (by decide))
end L2.VL

namespace L2.VL
open PySem PySem.Spec PyProof.Rows
inductive Sd where
  | to (t:Rat) | from (a b:Rat) | round (a b:Rat)
def Sd.last:Sd -> Rat
  | .to t=>t | .from _ b=>b | .round _ b=>b
def Sd.first:Sd -> Rat
  | .to t=>t | .from a _=>a | .round a _=>a
def Sd.word:Sd -> Str
  | .to _ => "to" | .from _ _ => "from" | .round _ _ => "round"
def sdD:Sd -> PyData
  | .to t=>.tuple [.str "to", fr t]
  | .from a b=>.tuple [.str "from", fr a,fr b]
  | .round a b=>.tuple [.str "round", fr a,fr b]
def mx (q r:Rat):Rat:=if q < r then r else q
def Sd.Sm (s:Sd):Prop:=qSm 60 s.first /\ qSm 60 s.last
theorem fr0:pr 0 1 = fr 0:=rfl
theorem fr1:pr 1 1 = fr 1:=rfl
theorem qSm1:qSm 60 1:=⟨by decide,by decide⟩
theorem norm_sm {n:Int} {d k:Nat} (hd:d ≠ 0) (h1:n.natAbs < 2 ^ k) (h2:d < 2 ^ k):qSm k (Rat.normalize n d hd):=by
  rw [Rat.normalize_eq]
  refine ⟨?_,Nat.lt_of_le_of_lt (Nat.div_le_self _ _) h2⟩
  show (n / ((n.natAbs.gcd d:Nat):Int)).natAbs < 2 ^ k
  have hdv:((n.natAbs.gcd d:Nat):Int) ∣ n:=Int.ofNat_dvd_left.mpr (Nat.gcd_dvd_left _ _)
  rw [Int.natAbs_ediv_of_dvd hdv,Int.natAbs_natCast]
  exact Nat.lt_of_le_of_lt (Nat.div_le_self _ _) h1
theorem mul_lt_pow {a b m n:Nat} (h1:a < 2 ^ m) (h2:b < 2 ^ n):a * b < 2 ^ (m + n):=by
  rw [Nat.pow_add]
  exact Nat.mul_lt_mul'' h1 h2
theorem mul_sm {m n:Nat} {q r:Rat} (h:qSm m q) (h':qSm n r):qSm (m + n) (q * r):=by
  rw [Rat.mul_def]
  refine norm_sm _ ?_ (mul_lt_pow h.2 h'.2)
  rw [Int.natAbs_mul]
  exact mul_lt_pow h.1 h'.1
theorem add_sm {m n:Nat} {q r:Rat} (h:qSm m q) (h':qSm n r):qSm (m + n + 1) (q + r):=by
  rw [Rat.add_def]
  have a1:=mul_lt_pow h.1 h'.2
  have a2:=mul_lt_pow h'.1 h.2
  rw [Nat.add_comm n m] at a2
  have a3:=mul_lt_pow h.2 h'.2
  refine norm_sm _ ?_ (Nat.lt_of_lt_of_le a3 (Nat.pow_le_pow_right (by decide) (by omega)))
  have t:=Int.natAbs_add_le (q.num * r.den) (r.num * q.den)
  rw [Int.natAbs_mul,Int.natAbs_mul,Int.natAbs_natCast,Int.natAbs_natCast] at t
  rw [Nat.pow_succ]
  omega
theorem qSm.up {q:Rat} (h:qSm 60 q):qSm 2000 q:=h.mono (by decide)
def fn1x {α:Type} (pre : α -> Prop) (enc : α -> PyData) (f : α -> PyData):List W -> (PyData -> Prop) -> Prop:=fun ws Q=>∃ a,ws = [.d (enc a)] /\ pre a /\ Q (f a)
theorem fn1x.mono {α:Type} {pre : α -> Prop} {enc : α -> PyData} {f : α -> PyData}:∀ ws (Q Q':PyData -> Prop),(∀ d,Q d -> Q' d) -> fn1x pre enc f ws Q -> fn1x pre enc f ws Q':=fun _ _ _ h ⟨a,e,p,q⟩=>⟨a,e,p,h _ q⟩
theorem fn1x.len {α:Type} {pre : α -> Prop} {enc : α -> PyData} {f : α -> PyData}:∀ ws (Q:PyData -> Prop),fn1x pre enc f ws Q -> ws.length = 1:=fun _ _ ⟨_,e,_⟩=>by subst e; rfl
def gaB (x y:Rat) (b:Bool):Bool:=if b then !decide (y < x) else decide (x < y)
def gaP:List W -> (PyData -> Prop) -> Prop:=fun ws Q=>∃ x y b,ws = [.d (fr x),.d (fr y),.d (.bool b)] /\ qSm 2000 x /\ qSm 2000 y /\ Q (.bool (gaB x y b))
theorem gaP.mono:∀ ws (Q Q':PyData -> Prop),(∀ d,Q d -> Q' d) -> gaP ws Q -> gaP ws Q':=fun _ _ _ h ⟨a,b,c,e,p,p',q⟩=>⟨a,b,c,e,p,p',h _ q⟩
theorem gaP.len:∀ ws (Q:PyData -> Prop),gaP ws Q -> ws.length = 3:=fun _ _ ⟨_,_,_,e,_⟩=>by subst e; rfl
def isW (w:Str):Prop:=w = "half" \/ w = "shut" \/ w = "open"
theorem isW.sh {w:Str} (h:isW w):SeqAt.shaped (.str w) = true:=by rcases h with rfl | rfl | rfl <;> decide +kernel
def lyB (s:Sd) (w:Str) (x:Rat):Bool :=
  let ahead:=gaB x s.last (decide (w = "shut"))
  let behind:=gaB s.first x (!decide (w = "open"))
  match s with
  | .to _=>ahead
  | .from _ _=>behind && ahead
  | .round _ _=>behind || ahead
def lyP:List W -> (PyData -> Prop) -> Prop:=fun ws Q=>∃ x s w,ws = [.d (fr x),.d (sdD s),.d (.str w)] /\ qSm 60 x /\ s.Sm /\ isW w /\ Q (.bool (lyB s w x))
theorem lyP.mono:∀ ws (Q Q':PyData -> Prop),(∀ d,Q d -> Q' d) -> lyP ws Q -> lyP ws Q':=fun _ _ _ h ⟨a,b,c,e,p,p',p'',q⟩=>⟨a,b,c,e,p,p',p'',h _ q⟩
theorem lyP.len:∀ ws (Q:PyData -> Prop),lyP ws Q -> ws.length = 3:=fun _ _ ⟨_,_,_,e,_⟩=>by subst e; rfl
def prodQ (qs:List Rat):Rat:=qs.foldl (· * ·) 1
def pdP:List W -> (PyData -> Prop) -> Prop:=fun ws Q=>∃ qs:List Rat,ws = [.d (.list (qs.map fr))] /\ qs.length <= 4 /\ (∀ q ∈ qs,qSm 400 q) /\ Q (fr (prodQ qs))
theorem pdP.mono:∀ ws (Q Q':PyData -> Prop),(∀ d,Q d -> Q' d) -> pdP ws Q -> pdP ws Q':=fun _ _ _ h ⟨a,e,p,p',q⟩=>⟨a,e,p,p',h _ q⟩
theorem pdP.len:∀ ws (Q:PyData -> Prop),pdP ws Q -> ws.length = 1:=fun _ _ ⟨_,e,_⟩=>by subst e; rfl
def boxD (ss:List Sd):PyData:=.tuple (ss.map sdD)
def IsBx (ss:List Sd):Prop:=1 <= ss.length /\ ss.length <= 4 /\ ∀ s ∈ ss,s.Sm
def ptD (qs:List Rat):PyData:=.tuple (qs.map fr)
def IsPt (n:Nat) (qs:List Rat):Prop:=qs.length = n /\ ∀ q ∈ qs,qSm 60 q
def liB (qs:List Rat) (ss:List Sd) (w:Str):Bool:=(qs.zip ss).all fun p=>lyB p.2 w p.1
def liP:List W -> (PyData -> Prop) -> Prop:=fun ws Q=>∃ qs ss w,ws = [.d (ptD qs),.d (boxD ss),.d (.str w)] /\ IsPt ss.length qs /\ IsBx ss /\ isW w /\ Q (.bool (liB qs ss w))
theorem liP.mono:∀ ws (Q Q':PyData -> Prop),(∀ d,Q d -> Q' d) -> liP ws Q -> liP ws Q':=fun _ _ _ h ⟨a,b,c,e,p,p',p'',q⟩=>⟨a,b,c,e,p,p',p'',h _ q⟩
theorem liP.len:∀ ws (Q:PyData -> Prop),liP ws Q -> ws.length = 3:=fun _ _ ⟨_,_,_,e,_⟩=>by subst e; rfl
def ptsQ (ps:List (List Rat)):PyData:=.tuple (ps.map ptD)
def IsPs (n:Nat) (ps:List (List Rat)):Prop:=1 <= ps.length /\ ps.length <= 40 /\ ∀ p ∈ ps,IsPt n p
def cnP (f:List (List Rat) -> List Sd -> Str -> PyData):List W -> (PyData -> Prop) -> Prop:=fun ws Q=>∃ ps ss w,ws = [.d (ptsQ ps),.d (boxD ss),.d (.str w)] /\ IsPs ss.length ps /\ IsBx ss /\ isW w /\ Q (f ps ss w)
theorem cnP.mono {f:List (List Rat) -> List Sd -> Str -> PyData}:∀ ws (Q Q':PyData -> Prop),(∀ d,Q d -> Q' d) -> cnP f ws Q -> cnP f ws Q':=fun _ _ _ h ⟨a,b,c,e,p,p',p'',q⟩=>⟨a,b,c,e,p,p',p'',h _ q⟩
theorem cnP.len {f:List (List Rat) -> List Sd -> Str -> PyData}:∀ ws (Q:PyData -> Prop),cnP f ws Q -> ws.length = 3:=fun _ _ ⟨_,_,_,e,_⟩=>by subst e; rfl
def msP (f:List (List Rat) -> List Sd -> Rat):List W -> (PyData -> Prop) -> Prop:=fun ws Q=>∃ ps ss,ws = [.d (ptsQ ps),.d (boxD ss)] /\ IsPs ss.length ps /\ IsBx ss /\ Q (fr (f ps ss))
theorem msP.mono {f:List (List Rat) -> List Sd -> Rat}:∀ ws (Q Q':PyData -> Prop),(∀ d,Q d -> Q' d) -> msP f ws Q -> msP f ws Q':=fun _ _ _ h ⟨a,b,e,p,p',q⟩=>⟨a,b,e,p,p',h _ q⟩
theorem msP.len {f:List (List Rat) -> List Sd -> Rat}:∀ ws (Q:PyData -> Prop),msP f ws Q -> ws.length = 2:=fun _ _ ⟨_,_,e,_⟩=>by subst e; rfl
theorem at_last2 {α:Type} (x y : α):L2.atI [x,y] (-1) = some y:=rfl
theorem at_last3 {α:Type} (x y z : α):L2.atI [x,y,z] (-1) = some z:=rfl
end L2.VL

namespace L2.VL
open PySem PySem.Spec PyProof.Rows
theorem zipD_map {α β:Type} (f : α -> PyData) (g : β -> PyData):∀ (xs:List α) (ys:List β),zipD (xs.map f) (ys.map g) = (xs.zip ys).map fun p=>.tuple [f p.1,g p.2]
  | [],_=>by simp [zipD]
  | _ :: _,[]=>by simp [zipD]
  | x :: xs,y :: ys=>by
    show PyData.tuple [f x,g y] :: zipD (xs.map f) (ys.map g) = _
    rw [zipD_map f g xs ys]
    rfl
theorem fm_len {α:Type} (p : α -> Bool) (f : α -> PyData):∀ xs:List α,(xs.filterMap fun x=>if p x = true then some (f x) else none).length = (xs.filter p).length
  | []=>rfl
  | x :: xs=>by
    have ih:=fm_len p f xs
    cases h:p x <;> simp [h,ih]
theorem lay_frs:∀ qs:List Rat,PyData.canLayAll0 (qs.map fr) = true
  | []=>rfl
  | q :: qs=>by simp [PyData.canLayAll0,PyData.canLay0,fr,lay_frs qs]
theorem dep_frs:∀ qs:List Rat,PyData.depthAll (qs.map fr) <= 3
  | []=>by simp [PyData.depthAll]
  | q :: qs=>by
    have:=dep_frs qs
    simp [PyData.depthAll,PyData.depth,fr] at this ⊢
    omega
theorem at_last1 {α:Type} (x : α):L2.atI [x] (-1) = some x:=rfl
def nbP:List W -> (PyData -> Prop) -> Prop:=fun ws Q=>ws = [.reel] /\ ∀ q,qSm 60 q -> Q (fr q)
theorem nbP.mono:∀ ws (Q Q':PyData -> Prop),(∀ d,Q d -> Q' d) -> nbP ws Q -> nbP ws Q':=fun _ _ _ h ⟨e,q⟩=>⟨e,fun r hr=>h _ (q r hr)⟩
theorem nbP.len:∀ ws (Q:PyData -> Prop),nbP ws Q -> ws.length = 1:=fun _ _ ⟨e,_⟩=>by subst e; rfl
def edP:List W -> (PyData -> Prop) -> Prop:=fun ws Q=>∃ qs:List Rat,ws = [.reel,.d (.list (qs.map fr))] /\ (∀ q ∈ qs,qSm 60 q) /\ qs.length <= 40 /\ ∀ q,qSm 60 q -> Q (fr q)
theorem edP.mono:∀ ws (Q Q':PyData -> Prop),(∀ d,Q d -> Q' d) -> edP ws Q -> edP ws Q':=fun _ _ _ h ⟨a,e,p,p',q⟩=>⟨a,e,p,p',fun r hr=>h _ (q r hr)⟩
theorem edP.len:∀ ws (Q:PyData -> Prop),edP ws Q -> ws.length = 2:=fun _ _ ⟨_,e,_⟩=>by subst e; rfl
def isSw (w:Str):Prop:=w = "to" \/ w = "from" \/ w = "round"
theorem isSw.sh {w:Str} (h:isSw w):SeqAt.shaped (.str w) = true:=by rcases h with rfl | rfl | rfl <;> decide +kernel
def sdP:List W -> (PyData -> Prop) -> Prop:=fun ws Q=>∃ (qs:List Rat) (w:Str),ws = [.reel,.d (.list (qs.map fr)),.d (.str w)] /\ (∀ q ∈ qs,qSm 60 q) /\ qs.length <= 40 /\ isSw w /\ ∀ s:Sd,s.Sm -> Q (sdD s)
theorem sdP.mono:∀ ws (Q Q':PyData -> Prop),(∀ d,Q d -> Q' d) -> sdP ws Q -> sdP ws Q':=fun _ _ _ h ⟨a,b,e,p,p',p'',q⟩=>⟨a,b,e,p,p',p'',fun r hr=>h _ (q r hr)⟩
theorem sdP.len:∀ ws (Q:PyData -> Prop),sdP ws Q -> ws.length = 3:=fun _ _ ⟨_,_,e,_⟩=>by subst e; rfl
end L2.VL

namespace L2.VL
open PySem PySem.Spec PyProof.Rows
theorem fr_i {q r:Rat}:fr q = fr r ↔ q = r:=⟨fr_inj,fun h=>by rw [h]⟩
theorem sdD_i {s t:Sd}:sdD s = sdD t ↔ s = t:=by
  constructor
  · intro h
    have n1:¬ (Str.ofString "from" = Str.ofString "round"):=by decide +kernel
    cases s <;> cases t <;> simp [sdD,fr_i,n1,Ne.symm n1] at h ⊢ <;> first | exact h | exact (n1 h.1.symm).elim | exact (n1 h.1).elim
  · rintro rfl; rfl
theorem ptD_i {a b:List Rat}:ptD a = ptD b ↔ a = b:=by
  unfold ptD
  rw [PyData.tuple.injEq,map_inj_of fun _ _=>fr_i]
theorem boxD_i {a b:List Sd}:boxD a = boxD b ↔ a = b:=by
  unfold boxD
  rw [PyData.tuple.injEq,map_inj_of fun _ _=>sdD_i]
theorem ptsQ_i {a b:List (List Rat)}:ptsQ a = ptsQ b ↔ a = b:=by
  unfold ptsQ
  rw [PyData.tuple.injEq,map_inj_of fun _ _=>ptD_i]
theorem frs_i {a b:List Rat}:a.map fr = b.map fr ↔ a = b:=map_inj_of fun _ _=>fr_i
theorem item_fr0 (q:Rat):itemAt (fr q) 0 = some (.int q.num):=rfl
theorem item_fr1 (q:Rat):itemAt (fr q) 1 = some (.int q.den):=rfl
theorem tupD_pt (a:List Rat):tupD (ptD a) = some (a.map fr):=rfl
theorem seqD_pt (a:List Rat):seqD (ptD a) = some (a.map fr):=rfl
theorem lenD_pt (a:List Rat):lenD (ptD a) = some a.length:=by show some (a.map fr).length = _; rw [List.length_map]
theorem item_pt (a:List Rat) (i:Int):itemAt (ptD a) i = (atI a i).map fr:=atI_map _ _ _
theorem tupD_bx (a:List Sd):tupD (boxD a) = some (a.map sdD):=rfl
theorem seqD_bx (a:List Sd):seqD (boxD a) = some (a.map sdD):=rfl
theorem lenD_bx (a:List Sd):lenD (boxD a) = some a.length:=by show some (a.map sdD).length = _; rw [List.length_map]
theorem item_bx (a:List Sd) (i:Int):itemAt (boxD a) i = (atI a i).map sdD:=atI_map _ _ _
theorem tupD_ps (a:List (List Rat)):tupD (ptsQ a) = some (a.map ptD):=rfl
theorem seqD_ps (a:List (List Rat)):seqD (ptsQ a) = some (a.map ptD):=rfl
theorem lenD_ps (a:List (List Rat)):lenD (ptsQ a) = some a.length:=by show some (a.map ptD).length = _; rw [List.length_map]
theorem item_ps (a:List (List Rat)) (i:Int):itemAt (ptsQ a) i = (atI a i).map ptD:=atI_map _ _ _
theorem kind_pt (a:List Rat):kindB (ptD a) = kindB (.tuple []):=rfl
theorem kind_bx (a:List Sd):kindB (boxD a) = kindB (.tuple []):=rfl
def qd (a b:Int):Rat:=(a:Rat) / (b:Rat)
theorem low_qd {a b:Int} (hb : 0 < b):PyData.tuple [.int (a.fdiv (Int.gcd a b)),.int (b.fdiv (Int.gcd a b))] = fr (qd a b):=low_div hb
theorem low_qdn {a b:Int} (hb:b < 0):PyData.tuple [.int (a.fdiv (-(Int.gcd a b:Int))),.int (b.fdiv (-(Int.gcd a b:Int)))] = fr (qd a b):=by
  have h:=low_qd (a:=-a) (b:=-b) (by omega)
  have e:qd (-a) (-b) = qd a b:=by
    unfold qd
    rw [Rat.intCast_neg,Rat.intCast_neg]
    have : (b : Rat) ≠ 0 := by intro z; have : b = 0 := by exact_mod_cast z
                               omega
    grind
  rw [<- e,<- h,Int.gcd_neg,Int.neg_gcd]
  congr 2
  · rw [<- Int.neg_fdiv_neg,Int.neg_neg]
  · rw [<- Int.neg_fdiv_neg (b:=-(Int.gcd a b:Int)),Int.neg_neg]
theorem qd_self (q:Rat):qd q.num q.den = q:=by
  unfold qd
  have:=Rat.mkRat_self q
  rw [Rat.mkRat_eq_div] at this
  exact this
theorem qd_add (q r:Rat):qd (q.num * r.den + r.num * q.den) (q.den * r.den) = q + r:=fr_inj (by rw [<- fr_add]; exact (low_div (den_pos q r)).symm)
theorem qd_sub (q r:Rat):qd (q.num * r.den - r.num * q.den) (q.den * r.den) = q - r:=fr_inj (by rw [<- fr_sub]; exact (low_div (den_pos q r)).symm)
theorem qd_mul (q r:Rat):qd (q.num * r.num) (q.den * r.den) = q * r:=fr_inj (by rw [<- fr_mul]; exact (low_div (den_pos q r)).symm)
theorem den_p (q:Rat):(0:Int) < (q.den:Int):=by have:=q.den_nz; omega
theorem qd_sm {a b:Int} {k:Nat} (hb : 0 < b) (h1:a.natAbs < 2 ^ k) (h2:b.natAbs < 2 ^ k):qSm k (qd a b):=by
  obtain ⟨d,rfl⟩:=Int.eq_ofNat_of_zero_le (show 0 <= b by omega)
  have hd:d ≠ 0:=by omega
  have e:qd a d = Rat.normalize a d hd:=fr_inj (by rw [<- low_norm,low_div (by omega)]; rfl)
  rw [e]
  exact norm_sm _ h1 (by simpa using h2)
theorem neg_sm {n:Nat} {q:Rat} (h:qSm n q):qSm n (-q):=⟨by rw [Rat.neg_num,Int.natAbs_neg]; exact h.1,h.2⟩
theorem fr_neg (q:Rat):PyData.tuple [.int (-q.num),.int q.den] = fr (-q):=by unfold fr; rw [Rat.neg_num,Rat.neg_den]
theorem fr_Sm {n:Nat} {q:Rat} (h:qSm n q) (hn:n <= 1000):Sm 2 2 (fr q) :=
  Sm.pair (Nat.lt_of_lt_of_le h.1 (Nat.pow_le_pow_right (by decide) hn)) (by rw [Int.natAbs_natCast]; exact Nat.lt_of_lt_of_le h.2 (Nat.pow_le_pow_right (by decide) hn))
theorem prod_sm2:∀ (qs:List Rat) (k:Nat) (a:Rat),qSm k a -> (∀ q ∈ qs,qSm 190 q) -> qSm (k + 190 * qs.length) (qs.foldl (· * ·) a)
  | [],k,a,h,_=>h
  | q :: qs,k,a,h,hq=>by
    have:=prod_sm2 qs (k + 190) (a * q) (mul_sm h (hq q List.mem_cons_self)) fun r hr=>hq r (List.mem_cons_of_mem _ hr)
    rw [List.foldl_cons]
    refine this.mono ?_
    rw [List.length_cons]
    omega
def sg (x y:Rat):Int:=x.num * y.den - y.num * x.den
theorem lay_pts:∀ ps:List (List Rat),PyData.canLayAll0 (ps.map ptD) = true
  | []=>rfl
  | p :: ps=>by simp [PyData.canLayAll0,PyData.canLay0,ptD,lay_frs,lay_pts ps]
theorem dep_pts:∀ ps:List (List Rat),PyData.depthAll (ps.map ptD) <= 5
  | []=>by simp [PyData.depthAll]
  | p :: ps=>by
    have:=dep_pts ps
    have:=dep_frs p
    simp [PyData.depthAll,PyData.depth,ptD] at *
    omega
theorem shaped_pts (ps:List (List Rat)):SeqAt.shaped (.list (ps.map ptD)) = true:=by
  have:=dep_pts ps
  simp [SeqAt.shaped,PyData.canLay0,PyData.depth,lay_pts]
  omega
theorem fr_shw {n:Nat} {q:Rat} (h:qSm n q) (hn:n <= 1000):Shw (fr q):=(fr_Sm h hn).shw (by decide) (by decide)
def In01 (qs:List Rat):Prop:=∀ q ∈ qs,0 <= q /\ q < 1
def In01s (ps:List (List Rat)):Prop:=∀ p ∈ ps,In01 p
theorem In01.snoc {qs:List Rat} {r:Rat} (h:In01 qs) (hr : 0 <= r /\ r < 1):In01 (qs ++ [r]):=fun q hq=>by
  rcases List.mem_append.mp hq with h' | h'
  · exact h q h'
  · simp at h'; rw [h']; exact hr
theorem In01s.snoc {ps:List (List Rat)} {r:List Rat} (h:In01s ps) (hr:In01 r):In01s (ps ++ [r]):=fun q hq=>by
  rcases List.mem_append.mp hq with h' | h'
  · exact h q h'
  · simp at h'; rw [h']; exact hr
theorem qd_nn {a b:Int} (hb : 0 < b) (h : 0 <= a) : 0 <= qd a b:=by
  unfold qd
  have h1:(0:Rat) <= (a:Rat):=by exact_mod_cast h
  have h2:(0:Rat) < (b:Rat):=by exact_mod_cast hb
  rw [Rat.div_def]
  exact Rat.mul_nonneg h1 (Rat.le_of_lt (Rat.inv_pos.mpr h2))
theorem qd_lt1 {a b:Int} (hb : 0 < b) (h:a < b):qd a b < 1:=by
  unfold qd
  have h1:(a:Rat) < (b:Rat):=by exact_mod_cast h
  have h2:(0:Rat) < (b:Rat):=by exact_mod_cast hb
  exact (Rat.div_lt_iff h2).mpr (by rw [Rat.one_mul]; exact h1)
def BFR:=And.intro @item_fr0 (And.intro @item_fr1 (And.intro @tupD_pt (And.intro @seqD_pt (And.intro @lenD_pt (And.intro @item_pt (And.intro @tupD_bx (And.intro @seqD_bx (And.intro @lenD_bx (And.intro @item_bx (And.intro @tupD_ps (And.intro @seqD_ps (And.intro @lenD_ps (And.intro @item_ps (And.intro @at_last1 (And.intro @at_last2 (And.intro @at_last3 (And.intro @kind_pt (And.intro @kind_bx (And.intro @fr0 (@fr1))))))))))))))))))))
end L2.VL

namespace L2.VL
open PySem PySem.Spec PyProof.Rows
def fv (b:Int):List Int -> Rat
  | []=>0
  | d :: ds=>((d:Rat) + fv b ds) / (b:Rat)
def nv (b:Int):List Int -> Int
  | []=>0
  | d :: ds=>d + b * nv b ds
def tv (b:Int) (ds:List Int):Int:=ds.foldl (fun t d=>t * b + d) 0
def Fig (b:Int) (ds:List Int):Prop:=∀ d ∈ ds,0 <= d /\ d < b
theorem foldl_tv (b:Int):∀ (ds:List Int) (t:Int),ds.foldl (fun t d=>t * b + d) t = t * b ^ ds.length + tv b ds
  | [],t=>by simp [tv]
  | d :: ds,t=>by
    rw [List.foldl_cons,foldl_tv b ds (t * b + d),show tv b (d :: ds) = ds.foldl (fun t d=>t * b + d) (0 * b + d) from rfl,foldl_tv b ds (0 * b + d),List.length_cons,Int.pow_succ]
    grind
theorem tv_cons (b d:Int) (ds:List Int):tv b (d :: ds) = d * b ^ ds.length + tv b ds:=by
  rw [show tv b (d :: ds) = ds.foldl (fun t d=>t * b + d) (0 * b + d) from rfl,foldl_tv]; grind
theorem rat_ne {b:Int} (h : 0 < b):(b:Rat) ≠ 0:=by
  intro z
  have:b = 0:=by exact_mod_cast z
  omega
theorem tv_fv {b:Int} (hb : 2 <= b):∀ ds:List Int,qd (tv b ds) (b ^ ds.length) = fv b ds
  | []=>by rw [show tv b [] = 0 from rfl,List.length_nil,Int.pow_zero]; show ((0:Int):Rat) / ((1:Int):Rat) = 0; rw [Rat.div_def,show ((0:Int):Rat) = 0 from rfl,Rat.zero_mul]
  | d :: ds=>by
    have ih:=tv_fv hb ds
    have h1:=rat_ne (show 0 < b by omega)
    have h2:=rat_ne (show 0 < b ^ ds.length from Int.pow_pos (by omega))
    rw [tv_cons,fv,<- ih,List.length_cons,Int.pow_succ]
    unfold qd
    rw [Rat.intCast_add,Rat.intCast_mul,Rat.intCast_mul]
    grind
theorem tv_bd {b:Int} (hb : 2 <= b):∀ ds:List Int,Fig b ds -> 0 <= tv b ds /\ tv b ds < b ^ ds.length
  | [],_=>⟨Int.le_refl _,by simp [tv]⟩
  | d :: ds,h=>by
    obtain ⟨i1,i2⟩:=tv_bd hb ds fun x m=>h x (List.mem_cons_of_mem _ m)
    obtain ⟨j1,j2⟩:=h d List.mem_cons_self
    have hp : 0 < b ^ ds.length:=Int.pow_pos (by omega)
    rw [tv_cons,List.length_cons,Int.pow_succ,Int.mul_comm (b ^ ds.length) b]
    have h1 : 0 <= d * b ^ ds.length:=Int.mul_nonneg j1 (by omega)
    have h2:(d + 1) * b ^ ds.length <= b * b ^ ds.length:=Int.mul_le_mul_of_nonneg_right (by omega) (by omega)
    rw [Int.add_mul,Int.one_mul] at h2
    omega
def Xp (b t B:Int) (ds:List Int):Prop:=Fig b ds /\ t * b ^ ds.length = tv b ds * B
theorem Xp.nil {b t B:Int} (h:Xp b t B []):t = 0:=by
  have:=h.2
  simpa [tv] using this
theorem Xp.cons {b t B d:Int} {ds:List Int} (hb : 2 <= b) (hB : 0 < B) (h:Xp b t B (d :: ds)):(t * b) / B = d /\ Xp b (t * b % B) B ds:=by
  obtain ⟨f,e⟩:=h
  have fd:Fig b ds:=fun x m=>f x (List.mem_cons_of_mem _ m)
  obtain ⟨s0,s1⟩:=tv_bd hb ds fd
  rw [tv_cons,List.length_cons,Int.pow_succ] at e
  generalize hn:b ^ ds.length = n at *
  generalize hs:tv b ds = s at *
  have hn0 : 0 < n:=by rw [<- hn]; exact Int.pow_pos (by omega)
  have e1:n * (t * b - d * B) = s * B:=by grind
  have r0 : 0 <= t * b - d * B:=by
    by_cases z : 0 <= t * b - d * B
    · exact z
    · have:n * (t * b - d * B) < 0:=Int.mul_neg_of_pos_of_neg hn0 (by omega)
      have : 0 <= s * B:=Int.mul_nonneg s0 (by omega)
      omega
  have r1:t * b - d * B < B:=by
    have h1:s * B < n * B:=Int.mul_lt_mul_of_pos_right s1 hB
    exact Int.lt_of_mul_lt_mul_left (e1 ▸ h1) (by omega)
  have q:t * b / B = d:=by
    have:t * b = (t * b - d * B) + d * B:=by omega
    rw [this,Int.add_mul_ediv_right _ _ (by omega),Int.ediv_eq_zero_of_lt r0 r1,Int.zero_add]
  have q2:t * b % B = t * b - d * B:=by rw [Int.emod_def,q,Int.mul_comm B d]
  exact ⟨q,fd,by rw [q2,hn,hs,Int.mul_comm,e1]⟩
theorem tv0 {b:Int} (hb : 2 <= b):∀ ds:List Int,Fig b ds -> tv b ds = 0 -> ∀ d ∈ ds,d = 0
  | [],_,_,_,m=>nomatch m
  | d :: ds,h,e,x,m=>by
    have fd:Fig b ds:=fun x m=>h x (List.mem_cons_of_mem _ m)
    obtain ⟨s0,s1⟩:=tv_bd hb ds fd
    obtain ⟨j1,j2⟩:=h d List.mem_cons_self
    have hp : 0 < b ^ ds.length:=Int.pow_pos (by omega)
    rw [tv_cons] at e
    have hd:d = 0:=by
      by_cases z:d = 0
      · exact z
      · have : 0 < d * b ^ ds.length:=Int.mul_pos (by omega) hp
        omega
    subst hd
    rw [Int.zero_mul,Int.zero_add] at e
    rcases List.mem_cons.mp m with rfl | m
    · rfl
    · exact tv0 hb ds fd e x m
theorem nv0 (b:Int) (f:Int -> Int) (h0:f 0 = 0):∀ ds:List Int,(∀ d ∈ ds,d = 0) -> nv b (ds.map f) = 0
  | [],_=>rfl
  | d :: ds,h=>by
    rw [List.map_cons,nv,h d List.mem_cons_self,h0,nv0 b f h0 ds fun x m=>h x (List.mem_cons_of_mem _ m)]; simp
theorem Xp.zero {b B:Int} {ds:List Int} (hb : 2 <= b) (hB : 0 < B) (h:Xp b 0 B ds):∀ d ∈ ds,d = 0:=by
  have e:=h.2
  rw [Int.zero_mul] at e
  have:tv b ds = 0:=by
    rcases Int.mul_eq_zero.mp e.symm with z | z
    · exact z
    · omega
  exact tv0 hb ds h.1 this
theorem Xp.uniq {b B:Int} (hb : 2 <= b) (hB : 0 < B) (f:Int -> Int) (h0:f 0 = 0):∀ (ds es:List Int) (t:Int),Xp b t B ds -> Xp b t B es -> nv b (ds.map f) = nv b (es.map f)
  | [],es,t,h,k=>by
    have:=h.nil
    subst this
    rw [nv0 b f h0 es (k.zero hb hB)]; rfl
  | d :: ds,[],t,h,k=>by
    have:=k.nil
    subst this
    rw [nv0 b f h0 (d :: ds) (h.zero hb hB)]; rfl
  | d :: ds,e :: es,t,h,k=>by
    obtain ⟨a1,a2⟩:=h.cons hb hB
    obtain ⟨b1,b2⟩:=k.cons hb hB
    rw [List.map_cons,List.map_cons,nv,nv,Xp.uniq hb hB f h0 ds es _ a2 b2,<- a1,<- b1]
def ix (p:List Int) (f:Int):Int:=(p.idxOf f:Int)
def HasX (b:Int) (q:Rat):Prop:=∃ ds,Xp b q.num q.den ds
open Classical in
noncomputable def backQ (b:Int) (p:List Int) (q:Rat):Option Int:=if h:HasX b q then some (nv b (h.choose.map (ix p))) else none
theorem ix0 {b:Int} {p:List Int} (ex:IsEx b p):ix p 0 = 0:=by
  cases p with
  | nil=>cases ex.zero
  | cons x p =>
    have:=ex.zero
    simp only [List.head?_cons,Option.some.injEq] at this
    subst this
    simp [ix,List.idxOf_cons_self]
theorem back_of {b:Int} {p:List Int} {q:Rat} {ds:List Int} (hb : 2 <= b) (ex:IsEx b p) (h:Xp b q.num q.den ds):backQ b p q = some (nv b (ds.map (ix p))):=by
  have hx:HasX b q:=⟨ds,h⟩
  unfold backQ
  rw [dif_pos hx,Xp.uniq hb (den_p q) (ix p) (ix0 ex) _ ds q.num hx.choose_spec h]
def dgs (b n:Int):List Int:=(digs b.toNat n.toNat).map fun (k:Nat)=>(k:Int)
theorem nv_dgsN {b:Nat} (hb : 2 <= b):∀ n:Nat,nv (b:Int) ((digs b n).map fun (k:Nat)=>(k:Int)) = n:=by
  intro n
  induction n using Nat.strongRecOn with
  | _ n ih =>
    by_cases h : 0 < n
    · rw [digs_pos hb h,List.map_cons,nv,ih (n / b) (Nat.div_lt_self h (by omega))]
      have:=Nat.mod_add_div n b
      exact_mod_cast this
    · have:n = 0:=by omega
      subst this
      rw [digs_zero]; rfl
theorem nv_dgs {b n:Int} (hb : 2 <= b) (hn : 0 <= n):nv b (dgs b n) = n:=by
  have:=nv_dgsN (b:=b.toNat) (by omega) n.toNat
  rw [Int.toNat_of_nonneg (by omega),Int.toNat_of_nonneg hn] at this
  exact this
theorem fig_dgs {b:Int} (hb : 2 <= b) (n:Int):Fig b (dgs b n):=by
  intro d m
  obtain ⟨k,mk,rfl⟩:=List.mem_map.mp m
  have:=digs_lt (b:=b.toNat) (by omega) _ k mk
  omega
theorem nv_zeros (b:Int) (m:Nat):∀ xs:List Int,nv b (xs ++ List.replicate m 0) = nv b xs
  | []=>by
    show nv b (List.replicate m 0) = 0
    induction m with
    | zero=>rfl
    | succ m ih=>rw [List.replicate_succ,nv,ih]; simp
  | x :: xs=>by rw [List.cons_append,nv,nv_zeros b m xs,nv]
theorem tv_snoc (b:Int) (ds:List Int) (d:Int):tv b (ds ++ [d]) = tv b ds * b + d:=by simp [tv]
theorem tv_rev (b:Int):∀ xs:List Int,tv b xs.reverse = nv b xs
  | []=>rfl
  | x :: xs=>by rw [List.reverse_cons,tv_snoc,tv_rev b xs,nv]; grind
theorem len_digs {b:Nat} (hb : 2 <= b):∀ (k n:Nat),n < b ^ k -> (digs b n).length <= k
  | k,n,h=>by
    by_cases hn : 0 < n
    · cases k with
      | zero=>simp at h; omega
      | succ k =>
        rw [digs_pos hb hn,List.length_cons]
        have:n / b < b ^ k:=by rw [Nat.div_lt_iff_lt_mul (by omega)]; rw [Nat.pow_succ] at h; exact h
        have:=len_digs hb k (n / b) this
        omega
    · have:n = 0:=by omega
      subst this
      rw [digs_zero]; simp
theorem len_dgs {b n:Int} {k:Nat} (hb : 2 <= b) (hn : 0 <= n) (h:n < b ^ k):(dgs b n).length <= k:=by
  unfold dgs
  rw [List.length_map]
  refine len_digs (by omega) k _ ?_
  have:((n.toNat:Nat):Int) < ((b.toNat ^ k:Nat):Int):=by
    rw [Int.toNat_of_nonneg hn,Int.natCast_pow,Int.toNat_of_nonneg (by omega)]; exact h
  exact_mod_cast this
def pad (b c:Int) (k:Nat):List Int:=dgs b c ++ List.replicate (k - (dgs b c).length) 0
theorem pad_len {b c:Int} {k:Nat} (hb : 2 <= b) (hc : 0 <= c) (h:c < b ^ k):(pad b c k).length = k:=by
  have:=len_dgs hb hc h
  simp [pad]; omega
theorem pad_fig {b c:Int} {k:Nat} (hb : 2 <= b):Fig b (pad b c k):=by
  intro d m
  rcases List.mem_append.mp m with m | m
  · exact fig_dgs hb c d m
  · rw [(List.mem_replicate.mp m).2]; omega
theorem pad_nv {b c:Int} {k:Nat} (hb : 2 <= b) (hc : 0 <= c):nv b (pad b c k) = c:=by
  unfold pad
  rw [nv_zeros,nv_dgs hb hc]
theorem pad_xp {b t B c:Int} {k:Nat} (hb : 2 <= b) (hc : 0 <= c) (h:c < b ^ k) (e:c * B = t * b ^ k):Xp b t B (pad b c k).reverse:=by
  refine ⟨fun d m=>pad_fig hb d (List.mem_reverse.mp m),?_⟩
  rw [List.length_reverse,pad_len hb hc h,tv_rev,pad_nv hb hc,e]
theorem qd_cross {a c:Int} (hc : 0 < c):(qd a c).num * c = a * (qd a c).den:=by
  have h1:=rat_ne hc
  have h2:=rat_ne (den_p (qd a c))
  have e:qd (qd a c).num (qd a c).den = qd a c:=qd_self _
  have e':((qd a c).num:Rat) / (((qd a c).den:Int):Rat) = (a:Rat) / (c:Rat):=e
  generalize (qd a c).num = x at *
  generalize ((qd a c).den:Int) = y at *
  have:(x:Rat) * (c:Rat) = (a:Rat) * (y:Rat):=by grind
  exact_mod_cast this
def exI (p:List Int) (a:Int):Int:=p.getD a.toNat 0
theorem exI_bd {b:Int} {p:List Int} (ex:IsEx b p) {a:Int} (h0 : 0 <= a) (h:a < b) : 0 <= exI p a /\ exI p a < b:=(getD_bd ex (show a.toNat < b.toNat by omega)).2
theorem php:∀ (l r:List Int),l.Nodup -> (∀ x ∈ l,x ∈ r) -> l.length <= r.length
  | [],r,_,_=>Nat.zero_le _
  | x :: l,r,nd,h=>by
    have hx:=h x List.mem_cons_self
    obtain ⟨n1,n2⟩:=List.nodup_cons.mp nd
    have:=php l (r.erase x) n2 fun y my=>(List.mem_erase_of_ne (a:=y) (b:=x) (fun z=>n1 (by rw [<- z]; exact my))).mpr (h y (List.mem_cons_of_mem _ my))
    rw [List.length_erase_of_mem hx] at this
    have:=List.length_pos_of_mem hx
    simp only [List.length_cons]
    omega
theorem mem_ex {b:Int} {p:List Int} (ex:IsEx b p) {f:Int} (h0 : 0 <= f) (h:f < b):f ∈ p:=by
  by_cases m:f ∈ p
  · exact m
  · have:=php (f :: p) (intR 0 b.toNat) (List.nodup_cons.mpr ⟨m,ex.nd⟩) fun x mx=>by
      rw [intR_mem]
      rcases List.mem_cons.mp mx with rfl | mx
      · omega
      · have:=ex.rng x mx; omega
    rw [intR_length,List.length_cons,ex.len] at this
    omega
theorem ix_bd {b:Int} {p:List Int} (ex:IsEx b p) {f:Int} (h0 : 0 <= f) (h:f < b) : 0 <= ix p f /\ ix p f < b:=by
  have:=List.idxOf_lt_length_of_mem (mem_ex ex h0 h)
  rw [ex.len] at this
  unfold ix
  omega
def turnF (b:Int) (p:List Int) (n:Int):Rat:=fv b ((dgs b n).map (exI p))
theorem fig_ex {b:Int} {p:List Int} (ex:IsEx b p) {ds:List Int} (f:Fig b ds):Fig b (ds.map (exI p)):=by
  intro d m
  obtain ⟨a,ma,rfl⟩:=List.mem_map.mp m
  exact exI_bd ex (f a ma).1 (f a ma).2
theorem fig_ix {b:Int} {p:List Int} (ex:IsEx b p) {ds:List Int} (f:Fig b ds):Fig b (ds.map (ix p)):=by
  intro d m
  obtain ⟨a,ma,rfl⟩:=List.mem_map.mp m
  exact ix_bd ex (f a ma).1 (f a ma).2
theorem nv_nn {b:Int} (hb : 2 <= b):∀ es:List Int,Fig b es -> 0 <= nv b es
  | [],_=>Int.le_refl _
  | e :: es,f=>by
    have h1:=nv_nn hb es fun x m=>f x (List.mem_cons_of_mem _ m)
    have h2:=(f e List.mem_cons_self).1
    have:=Int.mul_nonneg (show 0 <= b by omega) h1
    rw [nv]; omega
theorem nv_bd {b:Int} (hb : 2 <= b) (es:List Int) (f:Fig b es):nv b es < b ^ es.length:=by
  have:=(tv_bd hb es.reverse fun d m=>f d (List.mem_reverse.mp m)).2
  rwa [tv_rev,List.length_reverse] at this
theorem back_bd {b:Int} {p:List Int} {q:Rat} {v:Int} {ds:List Int} (hb : 2 <= b) (ex:IsEx b p) (hx:Xp b q.num q.den ds) (h:backQ b p q = some v) : 0 <= v /\ v < b ^ ds.length:=by
  rw [back_of hb ex hx] at h
  cases h
  have f:=fig_ix ex hx.1
  have:=nv_bd hb _ f
  rw [List.length_map] at this
  exact ⟨nv_nn hb _ f,this⟩
theorem dgs_0 (b:Int):dgs b 0 = []:=by unfold dgs; rw [show (0:Int).toNat = 0 from rfl,digs_zero]; rfl
def Fx (b:Int) (N:Nat) (q:Rat):Prop:=∃ (T:Int) (k:Nat),q = qd T (b ^ k) /\ 0 <= T /\ T < b ^ k /\ b ^ k < 2 ^ N
theorem Fx.lt {b:Int} {N:Nat} {q:Rat} (hb : 2 <= b) (h:Fx b N q):q < 1:=by
  obtain ⟨T,k,rfl,h0,h1,_⟩:=h
  exact qd_lt1 (Int.pow_pos (by omega)) h1
theorem abs_lt {x:Int} {N:Nat} (h0 : 0 <= x) (h:x < 2 ^ N):x.natAbs < 2 ^ N:=by
  have:((x.natAbs:Nat):Int) < ((2 ^ N:Nat):Int):=by rw [Int.natAbs_of_nonneg h0]; exact_mod_cast h
  exact_mod_cast this
theorem Fx.sm {b:Int} {N:Nat} {q:Rat} (hb : 2 <= b) (h:Fx b N q):qSm N q:=by
  obtain ⟨T,k,rfl,h0,h1,h2⟩:=h
  have hp : 0 < b ^ k:=Int.pow_pos (by omega)
  exact qd_sm hp (abs_lt h0 (by omega)) (abs_lt (by omega) h2)
theorem Fx.mono {b:Int} {N M:Nat} {q:Rat} (h:Fx b N q) (hm:N <= M):Fx b M q:=by
  obtain ⟨T,k,e,h0,h1,h2⟩:=h
  exact ⟨T,k,e,h0,h1,Int.lt_of_lt_of_le h2 (pow_le_pow (by decide) hm)⟩
theorem mul_lt2 {x y:Int} {N M:Nat} (x0 : 0 <= x) (y0 : 0 < y) (hx:x < 2 ^ N) (hy:y < 2 ^ M):x * y < 2 ^ (N + M):=by
  rw [Int.pow_add]
  have h1:x * y < 2 ^ N * y:=Int.mul_lt_mul_of_pos_right hx y0
  have h2:(2:Int) ^ N * y <= 2 ^ N * 2 ^ M:=Int.mul_le_mul_of_nonneg_left (by omega) (Int.pow_nonneg (by decide))
  omega
theorem Fx.turn {b:Int} {p:List Int} {n:Int} (hb : 2 <= b) (h16:b <= 16) (ex:IsEx b p) (h0 : 0 <= n) (h1:n <= 10 ^ 9 + 1):Fx b 40 (turnF b p n):=by
  have f:=fig_ex ex (fig_dgs hb n)
  obtain ⟨t0,t1⟩:=tv_bd hb _ f
  refine ⟨_,_,(tv_fv hb _).symm,t0,t1,?_⟩
  rw [List.length_map]
  by_cases hn : 0 < n
  · have h:=digs_pow (b:=b.toNat) (by omega) n.toNat (by omega)
    unfold dgs
    rw [List.length_map]
    have h':((b.toNat ^ (digs b.toNat n.toNat).length:Nat):Int) <= ((b.toNat * n.toNat:Nat):Int):=by exact_mod_cast h
    rw [Int.natCast_pow,Int.natCast_mul,Int.toNat_of_nonneg (by omega),Int.toNat_of_nonneg (by omega)] at h'
    have h3:b * n <= 16 * n:=Int.mul_le_mul_of_nonneg_right h16 h0
    omega
  · have:n = 0:=by omega
    subst this
    rw [dgs_0,List.length_nil,Int.pow_zero]; decide
theorem Fx.xp {b:Int} {N:Nat} {q:Rat} (hb : 2 <= b) (h:Fx b N q):∃ ds,Xp b q.num q.den ds /\ b ^ ds.length < 2 ^ N:=by
  obtain ⟨T,k,rfl,h0,h1,h2⟩:=h
  have hp : 0 < b ^ k:=Int.pow_pos (by omega)
  refine ⟨_,pad_xp hb h0 h1 (qd_cross hp).symm,?_⟩
  rw [List.length_reverse,pad_len hb h0 h1]
  exact h2
theorem Fx.back {b:Int} {p:List Int} {N:Nat} {q:Rat} (hb : 2 <= b) (ex:IsEx b p) (h:Fx b N q) (hN:N <= 1000):∀ v,backQ b p q = some v -> v.natAbs < 2 ^ 1000:=by
  intro v e
  obtain ⟨ds,hx,hl⟩:=h.xp hb
  obtain ⟨v0,v1⟩:=back_bd hb ex hx e
  exact Nat.lt_of_lt_of_le (abs_lt v0 (Int.lt_trans v1 hl)) (Nat.pow_le_pow_right (by decide) hN)
end L2.VL

namespace L2.VL
open PySem PySem.Spec PyProof.Rows
def q9:Rat:=⟨999999999998,999999999999,by decide,by decide⟩
def Sd.ends:Sd -> List Rat
  | .to t=>[t] | .from a b=>[a,b] | .round a b=>[a,b]
end L2.VL

namespace L2.VL
open PySem PySem.Spec PyProof.Rows
def wbk (b:Int) (p:List Int) (k c:Int):Int:=nv b ((pad b c k.toNat).reverse.map (ix p))
theorem wbk_bd {b:Int} {p:List Int} {k c:Int} (hb : 2 <= b) (ex:IsEx b p) (h0 : 0 <= c) (h1:c < b ^ k.toNat) : 0 <= wbk b p k c /\ wbk b p k c < b ^ k.toNat:=by
  have f:=fig_ix ex (fun d m=>pad_fig (c:=c) (k:=k.toNat) hb d (List.mem_reverse.mp m))
  have:=nv_bd hb _ f
  rw [List.length_map,List.length_reverse,pad_len hb h0 h1] at this
  exact ⟨nv_nn hb _ f,this⟩
theorem mul_dvd_iff {M s y:Int} (c:Int.gcd M s = 1):M * s ∣ y ↔ M ∣ y /\ s ∣ y:=by
  constructor
  · intro h; exact ⟨Int.dvd_trans (Int.dvd_mul_right M s) h,Int.dvd_trans (Int.dvd_mul_left M s) h⟩
  · rintro ⟨h1,h2⟩
    have:=Nat.Coprime.mul_dvd_of_dvd_of_dvd (show Nat.Coprime M.natAbs s.natAbs from c) (Int.natAbs_dvd_natAbs.mpr h1) (Int.natAbs_dvd_natAbs.mpr h2)
    exact Int.natAbs_dvd_natAbs.mp (by rwa [Int.natAbs_mul])
theorem emod_iff {n s w:Int} (w0 : 0 <= w) (w1:w < s):s ∣ n - w ↔ n % s = w:=by
  rw [Int.dvd_iff_emod_eq_zero,<- Int.emod_eq_emod_iff_emod_sub_eq_zero,Int.emod_eq_of_lt w0 w1]
theorem crt_step {M s r w h:Int} (hM : 0 < M) (hs : 0 < s) (c:Int.gcd M s = 1) (r0 : 0 <= r) (r1:r < M) (w0 : 0 <= w) (w1:w < s) (hh:s ∣ M * h - 1) :
    0 <= r + M * ((w - r) * h % s) /\ r + M * ((w - r) * h % s) < M * s /\ ∀ n,M * s ∣ n - (r + M * ((w - r) * h % s)) ↔ M ∣ n - r /\ n % s = w:=by
  have x0 : 0 <= (w - r) * h % s:=Int.emod_nonneg _ (by omega)
  have x1:(w - r) * h % s < s:=Int.emod_lt_of_pos _ hs
  have dx:s ∣ (w - r) * h - (w - r) * h % s:=Int.dvd_self_sub_emod
  generalize (w - r) * h % s = x at *
  have m0 : 0 <= M * x:=Int.mul_nonneg (by omega) x0
  have m1:M * x <= M * (s - 1):=Int.mul_le_mul_of_nonneg_left (by omega) (by omega)
  have m2:M * (s - 1) = M * s - M:=by rw [Int.mul_sub,Int.mul_one]
  have dw:s ∣ r + M * x - w:=by
    obtain ⟨u,hu⟩:=dx
    obtain ⟨v,hv⟩:=hh
    refine ⟨(w - r) * v - M * u,?_⟩
    have hx:x = (w - r) * h - s * u:=by omega
    have hMh:M * h = 1 + s * v:=by omega
    have:M * x = (w - r) * (M * h) - M * s * u:=by rw [hx]; grind
    rw [hMh] at this
    rw [this]; grind
  refine ⟨by omega,by omega,fun n=>?_⟩
  rw [mul_dvd_iff c,<- emod_iff w0 w1]
  constructor
  · rintro ⟨a1,a2⟩
    refine ⟨?_,?_⟩
    · have:=Int.dvd_add a1 (Int.dvd_mul_right M x)
      rwa [show n - (r + M * x) + M * x = n - r by omega] at this
    · have:=Int.dvd_add a2 dw
      rwa [show n - (r + M * x) + (r + M * x - w) = n - w by omega] at this
  · rintro ⟨a1,a2⟩
    refine ⟨?_,?_⟩
    · have:=Int.dvd_sub a1 (Int.dvd_mul_right M x)
      rwa [show n - r - M * x = n - (r + M * x) by omega] at this
    · have:=Int.dvd_sub a2 dw
      rwa [show n - w - (r + M * x - w) = n - (r + M * x) by omega] at this
structure Iv (a m f h r d:Int):Prop where
  r0 : 0 < r
  d0 : 0 < d
  c:Int.gcd r d = 1
  hh:m ∣ a * h - r
  hf:m ∣ a * f - d
  sg:(0 <= h /\ f <= 0 /\ h * d - f * r = m) \/ (h <= 0 /\ 0 <= f /\ f * r - h * d = m)
theorem Iv.start {a m:Int} (ha : 0 < a) (hm : 0 < m) (c:Int.gcd a m = 1):Iv a m 0 1 a m:=⟨ha,hm,c,by simp,by simp,.inl ⟨by decide,by decide,by omega⟩⟩
theorem Iv.step {a m f h r d:Int} (i:Iv a m f h r d) (r1 : 1 < r):Iv a m h (f - d / r * h) (d - d / r * r) r /\ (d - d / r * r).toNat < r.toNat:=by
  obtain ⟨r0,d0,c,hh,hf,sg⟩:=i
  have e:d - d / r * r = d % r:=by rw [Int.emod_def,Int.mul_comm]
  have m0:=Int.emod_nonneg d (show r ≠ 0 by omega)
  have m1:=Int.emod_lt_of_pos d r0
  have q0 : 0 <= d / r:=Int.ediv_nonneg (by omega) (by omega)
  have c':Int.gcd (d % r) r = 1:=by
    rw [Int.gcd_comm,<- Int.fmod_eq_emod_of_nonneg d (show 0 <= r by omega),gcd_fmod,Int.gcd_comm]
    exact c
  have nz:d % r ≠ 0:=fun z=>by
    rw [z,Int.gcd_zero_left] at c'
    omega
  rw [e]
  have ed:d = d % r + d / r * r:=by omega
  refine ⟨⟨by omega,r0,c',?_,hh,?_⟩,by omega⟩
  · obtain ⟨u,hu⟩:=hh
    obtain ⟨v,hv⟩:=hf
    refine ⟨v - d / r * u,?_⟩
    rw [<- e]
    generalize d / r = q at *
    grind
  · rw [<- e]
    generalize d / r = q at *
    rcases sg with ⟨a1,a2,a3⟩ | ⟨a1,a2,a3⟩
    · right
      have:=Int.mul_nonneg q0 a1
      exact ⟨by omega,a1,by grind⟩
    · left
      have:=Int.mul_nonneg q0 (show 0 <= -h by omega)
      rw [Int.mul_neg] at this
      exact ⟨by omega,a1,by grind⟩
abbrev Pc:=(Int × List Int) × (Int × Int)
def stp (z:Pc):Int:=z.1.1 ^ z.2.1.toNat
def wz (z:Pc):Int:=wbk z.1.1 z.1.2 z.2.1 z.2.2
def prodS (zs:List Pc):Int:=zs.foldl (fun t z=>t * stp z) 1
structure PcOk (z:Pc):Prop where
  b2 : 2 <= z.1.1
  b16:z.1.1 <= 16
  ex:IsEx z.1.1 z.1.2
  k0 : 0 <= z.2.1
  k8:z.2.1 <= 8
  c0 : 0 <= z.2.2
  c1:z.2.2 < z.1.1 ^ z.2.1.toNat
theorem PcOk.st {z:Pc} (h:PcOk z) : 0 < stp z /\ stp z <= 2 ^ 32:=by
  refine ⟨Int.pow_pos (by have:=h.b2; omega),?_⟩
  have h1:stp z <= 16 ^ z.2.1.toNat:=pow_mono (by have:=h.b2; omega) h.b16 _
  have h2:(16:Int) ^ z.2.1.toNat <= 16 ^ 8:=pow_le_pow (by decide) (by have:=h.k8; omega)
  have h3:(16:Int) ^ 8 = 2 ^ 32:=by decide
  omega
theorem PcOk.w {z:Pc} (h:PcOk z) : 0 <= wz z /\ wz z < stp z:=wbk_bd h.b2 h.ex h.c0 h.c1
structure Ixs (zs:List Pc) (r M:Int):Prop where
  r0 : 0 <= r
  r1:r < M
  M1:M = prodS zs
  Mb:M <= 2 ^ (32 * zs.length)
  iff:∀ n,M ∣ n - r ↔ ∀ z ∈ zs,n % stp z = wz z
theorem Ixs.nil:Ixs [] 0 1:=⟨by decide,by decide,rfl,by decide,fun n=>by simp⟩
theorem gcd_pow {a b:Int} (h:Int.gcd a b = 1) (k:Nat):Int.gcd a (b ^ k) = 1:=by
  have:Nat.Coprime a.natAbs (b.natAbs ^ k):=Nat.Coprime.pow_right k h
  rw [Int.gcd,Int.natAbs_pow]; exact this
theorem Ixs.step {zs:List Pc} {r M h:Int} {z:Pc} (i:Ixs zs r M) (ok:PcOk z) (c:Int.gcd M (stp z) = 1) (hh:stp z ∣ M * h - 1):Ixs (zs ++ [z]) (r + M * ((wz z - r) * h % stp z)) (M * stp z):=by
  obtain ⟨s0,s1⟩:=ok.st
  obtain ⟨w0,w1⟩:=ok.w
  have M0 : 0 < M:=by have:=i.r0; have:=i.r1; omega
  obtain ⟨a0,a1,a2⟩:=crt_step M0 s0 c i.r0 i.r1 w0 w1 hh
  refine ⟨a0,a1,by rw [i.M1]; simp [prodS],?_,fun n=>?_⟩
  · rw [List.length_append,List.length_singleton,Nat.mul_add,Int.pow_add]
    exact Int.mul_le_mul i.Mb s1 (by omega) (Int.pow_nonneg (by decide))
  · rw [a2 n,i.iff n]
    simp only [List.mem_append,List.mem_singleton]
    constructor
    · rintro ⟨p,q⟩ y (hy | rfl)
      · exact p y hy
      · exact q
    · intro p
      exact ⟨fun y hy=>p y (.inl hy),p z (.inr rfl)⟩
theorem Ixs.uniq {zs:List Pc} {r M r' M':Int} (i:Ixs zs r M) (j:Ixs zs r' M'):r = r' /\ M = M':=by
  have e:M = M':=by rw [i.M1,j.M1]
  subst e
  refine ⟨?_,rfl⟩
  have h:M ∣ r' - r:=(i.iff r').mpr ((j.iff r').mp (by simp))
  obtain ⟨u,hu⟩:=h
  have:=i.r0; have:=i.r1; have:=j.r0; have:=j.r1
  have:u = 0:=by
    rcases Int.lt_trichotomy u 0 with z | z | z
    · have:M * u <= M * (-1):=Int.mul_le_mul_of_nonneg_left (by omega) (by omega)
      omega
    · exact z
    · have:M * 1 <= M * u:=Int.mul_le_mul_of_nonneg_left (by omega) (by omega)
      omega
  subst this
  omega
def smD (sm:List (Int × Int)):PyData:=.tuple (sm.map fun r=>pr r.1 r.2)
def PcsOk (rows:List (Int × List Int)) (sm:List (Int × Int)):Prop:=IsRow rows /\ sm.length = rows.length /\ ∀ z ∈ rows.zip sm,PcOk z
theorem PcsOk.len {rows:List (Int × List Int)} {sm:List (Int × Int)} (h:PcsOk rows sm):(rows.zip sm).length = rows.length:=by rw [List.length_zip,h.2.1,Nat.min_self]
theorem PcsOk.co {rows:List (Int × List Int)} {sm:List (Int × Int)} (h:PcsOk rows sm) {i:Nat} (hi:i < (rows.zip sm).length):∀ z ∈ (rows.zip sm).take i,Int.gcd (stp z) (stp (rows.zip sm)[i]) = 1:=by
  intro z mz
  obtain ⟨j,hj,e⟩:=List.mem_iff_getElem.mp mz
  rw [List.length_take] at hj
  rw [List.getElem_take] at e
  have lr:=h.len
  have p:=List.pairwise_iff_getElem.mp h.1.co j i (by omega) (by omega) (by omega)
  subst e
  unfold stp
  rw [List.getElem_zip,List.getElem_zip]
  have:=gcd_pow p (sm[i]'(by have:=h.2.1; omega)).1.toNat
  rw [Int.gcd_comm] at this
  have:=gcd_pow this (sm[j]'(by have:=h.2.1; omega)).1.toNat
  rw [Int.gcd_comm]
  exact this
theorem big_of {i:Int} {k:Nat} (h:i.natAbs < 2 ^ k) (hk:k <= 60000):Big i:=Nat.lt_of_lt_of_le h (Nat.pow_le_pow_right (by decide) hk)
end L2.VL

namespace L2.VL
open PySem PySem.Spec PyProof.Rows
noncomputable def tf (p:Prop):Bool:=@decide p (Classical.propDecidable p)
noncomputable def isExB (b:Int) (d:PyData):Bool:=tf (∃ p,d = exD p /\ IsEx b p)
noncomputable def apartB (bs:List Int):Bool:=tf (bs.Pairwise fun x y=>Int.gcd x y = 1)
theorem bulk_mem:∀ {xs:List PyData} {x:PyData},x ∈ xs -> x.bulk <= PyData.bulkAll xs
  | y :: ys,x,h=>by
    simp only [PyData.bulkAll]
    rcases List.mem_cons.mp h with rfl | h
    · omega
    · have:=bulk_mem h; omega
theorem depth_mem:∀ {xs:List PyData} {x:PyData},x ∈ xs -> x.depth <= PyData.depthAll xs
  | y :: ys,x,h=>by
    simp only [PyData.depthAll]
    rcases List.mem_cons.mp h with rfl | h
    · omega
    · have:=depth_mem h; omega
theorem nice_mem:∀ {xs:List PyData} {x:PyData},NiceAll xs -> x ∈ xs -> Nice x
  | y :: ys,x,h,hx=>by
    rcases List.mem_cons.mp hx with rfl | hx
    · exact h.1
    · exact nice_mem h.2 hx
theorem Shw.mem {xs:List PyData} {x:PyData} (h:Shw (.tuple xs)) (hx:x ∈ xs):Shw x:=by
  obtain ⟨a,b,c⟩:=h
  have h1:=bulk_mem hx
  have h2:=depth_mem hx
  simp only [PyData.depth] at b
  simp only [PyData.bulk] at c
  exact ⟨nice_mem a hx,by omega,by omega⟩
end L2.VL
namespace L2.VL
open PySem PySem.Spec PyProof.Rows
theorem sm_ex {xs:List PyData} (h:∀ d ∈ xs,Sm 0 3 d) (hl:xs.length <= 17):Sm 2 68 (.tuple xs) /\ Sm 2 68 (.list xs):=Sm.seq h hl
theorem Sm.i {i:Int} (h:i.natAbs < 2 ^ 1000):Sm 0 3 (.int i):=(Sm.int h).mono (by decide) (by decide)
theorem Sm.i2 {i:Int} (h:i.natAbs < 2 ^ 1000):Sm 2 68 (.int i):=(Sm.int h).mono (by decide) (by decide)
theorem sm_ints {p:List Int} (h:∀ x ∈ p,0 <= x /\ x < 100):∀ d ∈ p.map PyData.int,Sm 0 3 d:=fun d hd=>by
  obtain ⟨i,hi,rfl⟩:=List.mem_map.mp hd
  have:=h i hi
  exact .i (Nat.lt_of_lt_of_le (show i.natAbs < 2 ^ 7 by omega) (Nat.pow_le_pow_right (by decide) (by decide)))
theorem IsEx.sm {b:Int} {p:List Int} (h:IsEx b p) (hb:b <= 16):∀ d ∈ p.map PyData.int,Sm 0 3 d:=sm_ints fun x hx=>by have:=h.rng x hx; omega
theorem IsEx.smD {b:Int} {p:List Int} (h:IsEx b p) (hb:b <= 16):Sm 2 68 (exD p):=(sm_ex (h.sm hb) (by rw [List.length_map,h.len]; omega)).1
theorem GlK.int {K:W.Frag} {x:Str} {a:Int} {t:Tok} (h1:W.nsIn K mainGlobals x = some (some (.int a t))):GlK K x (.int a):=⟨.int a,.int a t,h1,⟨t,rfl⟩,fun F=>.int a⟩
def exqP:List W -> (PyData -> Prop) -> Prop:=fun ws Q=>∃ b d,ws = [.d (.int b),.d d] /\ 2 <= b /\ b <= 16 /\ Shw d /\ Q (.bool (isExB b d))
theorem exqP.mono:∀ ws (Q Q':PyData -> Prop),(∀ d,Q d -> Q' d) -> exqP ws Q -> exqP ws Q':=fun _ _ _ h ⟨b,d,e,x,y,z,q⟩=>⟨b,d,e,x,y,z,h _ q⟩
theorem exqP.len:∀ ws (Q:PyData -> Prop),exqP ws Q -> ws.length = 2:=fun _ _ ⟨_,_,e,_⟩=>by subst e; rfl
def apP:List W -> (PyData -> Prop) -> Prop:=fun ws Q=>∃ bs:List Int,ws = [.d (.list (bs.map .int))] /\ bs.length <= 4 /\ (∀ b ∈ bs,2 <= b /\ b <= 16) /\ Q (.bool (apartB bs))
theorem apP.mono:∀ ws (Q Q':PyData -> Prop),(∀ d,Q d -> Q' d) -> apP ws Q -> apP ws Q':=fun _ _ _ h ⟨b,e,x,y,q⟩=>⟨b,e,x,y,h _ q⟩
theorem apP.len:∀ ws (Q:PyData -> Prop),apP ws Q -> ws.length = 1:=fun _ _ ⟨_,e,_⟩=>by subst e; rfl
def bsP:List W -> (PyData -> Prop) -> Prop:=fun ws Q=>∃ b p,ws = [.reel,.d (.tuple [.int b,exD p])] /\ 2 <= b /\ b <= 16 /\ IsEx b p /\ ∀ d,Sm 4 276 d -> Q d
theorem bsP.mono:∀ ws (Q Q':PyData -> Prop),(∀ d,Q d -> Q' d) -> bsP ws Q -> bsP ws Q':=fun _ _ _ h ⟨b,p,e,x,y,z,q⟩=>⟨b,p,e,x,y,z,fun d hd=>h _ (q d hd)⟩
theorem bsP.len:∀ ws (Q:PyData -> Prop),bsP ws Q -> ws.length = 2:=fun _ _ ⟨_,_,e,_⟩=>by subst e; rfl
def bnP:List W -> (PyData -> Prop) -> Prop:=fun ws Q=>∃ rows,ws = [.reel,.d (rowD rows)] /\ IsRow rows /\ ∀ d,Sm 8 2600 d -> Q d
theorem bnP.mono:∀ ws (Q Q':PyData -> Prop),(∀ d,Q d -> Q' d) -> bnP ws Q -> bnP ws Q':=fun _ _ _ h ⟨p,e,x,q⟩=>⟨p,e,x,fun d hd=>h _ (q d hd)⟩
theorem bnP.len:∀ ws (Q:PyData -> Prop),bnP ws Q -> ws.length = 2:=fun _ _ ⟨_,e,_⟩=>by subst e; rfl
end L2.VL

namespace L2.VL
open PySem PySem.Spec PyProof.Rows
def Tm (n:Nat) (d:PyData):Prop:=d.canLay0 = true /\ d.depth <= n
theorem tm_all {n:Nat}:∀ {xs:List PyData},(∀ x ∈ xs,Tm n x) -> PyData.canLayAll0 xs = true /\ PyData.depthAll xs <= n
  | [],_=>⟨rfl,by simp [PyData.depthAll]⟩
  | x :: xs,h=>by
    obtain ⟨a,b⟩:=tm_all fun y m=>h y (List.mem_cons_of_mem x m)
    obtain ⟨c,d⟩:=h x List.mem_cons_self
    simp [PyData.canLayAll0,PyData.depthAll,a,c]
    omega
theorem Tm.tup {n:Nat} {xs:List PyData} (h:∀ x ∈ xs,Tm n x):Tm (n + 1) (.tuple xs):=by
  obtain ⟨a,b⟩:=tm_all h
  exact ⟨by simp [PyData.canLay0,a],by simp [PyData.depth]; omega⟩
theorem Tm.lst {n:Nat} {xs:List PyData} (h:∀ x ∈ xs,Tm n x):Tm (n + 1) (.list xs):=by
  obtain ⟨a,b⟩:=tm_all h
  exact ⟨by simp [PyData.canLay0,a],by simp [PyData.depth]; omega⟩
theorem Tm.int {n:Nat} (i:Int):Tm n (.int i):=⟨by simp [PyData.canLay0],by simp [PyData.depth]⟩
theorem Tm.bool {n:Nat} (i:Bool):Tm n (.bool i):=⟨by simp [PyData.canLay0],by simp [PyData.depth]⟩
theorem Tm.none {n:Nat}:Tm n .none:=⟨by simp [PyData.canLay0],by simp [PyData.depth]⟩
theorem Tm.mono {n m:Nat} {d:PyData} (h:Tm n d) (hm:n <= m):Tm m d:=⟨h.1,Nat.le_trans h.2 hm⟩
theorem Tm.shaped {n:Nat} {d:PyData} (h:Tm n d) (hn:n <= 50):SeqAt.shaped d = true:=by
  obtain ⟨a,b⟩:=h
  simp [SeqAt.shaped,a]
  omega
end L2.VL

namespace L2
open PySem PySem.Spec PyProof.Rows
section
variable {X:Cx} {kx vx tg iter:Expr} {ifs:List Expr} {scope:Scope} {pos:Pos} {wi:TI} {g:CompA -> TG} {tt:CompA -> TT} {tk te:CompA -> TE}
end
end L2

namespace L2
open PySem PySem.Spec PyProof.Rows
section
variable {prog:Program} {w:World} {A:Around} {E:Value -> Shared -> Prop}
end
end L2

namespace L2
open PySem PySem.Spec PyProof.Rows
section
variable {X:Cx}
end
end L2
namespace L2.VL
open PySem PySem.Spec PyProof.Rows
section
variable {K:W.Frag} {F:Hp} {us:List (Key × V)} {kvs:List (Key × PyData)}
theorem KDk.any (r:KDk K F us kvs) (k:Key):(us.any fun kv=>decide (kv.1 = k)) = kvs.any fun kv=>decide (kv.1 = k):=by
  induction r with
  | nil=>rfl
  | cons h t ih=>rw [List.any_cons,List.any_cons,ih,h.1]
theorem KDk.keys (r:KDk K F us kvs):us.map (·.1) = kvs.map (·.1):=by
  induction r with
  | nil=>rfl
  | cons h t ih=>rw [List.map_cons,List.map_cons,ih,h.1]
theorem KDk.snoc (r:KDk K F us kvs) (k:Key) {v:V} {d:PyData} (rv:Rep K F v d):KDk K F (us ++ [(k,v)]) (kvs ++ [(k,d)]):=by
  induction r with
  | nil=>exact .cons ⟨rfl,rv⟩ .nil
  | cons h t ih=>exact .cons h ih
theorem KDk.mono {F':Hp} (s:Same F F') (r:KDk K F us kvs):KDk K F' us kvs:=Paired.mapP r fun _ _ z=>⟨z.1,z.2.mono s⟩
end
section
variable {X:Cx} {rl:RlT} {kx vx tg iter:Expr} {ifs:List Expr} {scope:Scope} {pos:Pos} {fi:En -> (List PyData -> Prop) -> Prop} {g:TGv} {ft:TB} {fk fe:TV}
end
section
variable {α:Type} {b:PyData -> Mo (Option (Key × PyData))}
end
section
variable {X:Cx} {rl:RlT} {a c e o i:Expr} {es:List Expr} {fa fb:TV} {fs:TVs} {pos p kpos:Pos} {ρ:En}
end
end L2.VL

namespace L2
open PySem PySem.Spec PyProof.Rows
end L2
namespace L2.VL
open PySem PySem.Spec PyProof.Rows
section
variable {X:Cx} {rl:RlT} {tg:Expr} {fa:TV} {ρ:En}
end
end L2.VL

namespace L2
open PySem PySem.Spec PyProof.Rows
variable {X:Cx}
end L2
namespace L2.VL
open PySem PySem.Spec PyProof.Rows
section
variable {X:Cx} {rl:RlT} {a e:Expr} {es:List Expr} {fs:TVs} {pos:Pos}
end
end L2.VL

namespace L2.VL
open PySem PySem.Spec PyProof.Rows
def LeafD (b:Nat):PyData -> Prop
  | .none=>True
  | .bool _=>True
  | .int i=>i.natAbs < 2 ^ 1000
  | .str x=>PyData.strOk x = true /\ (PyData.str x).bulk <= b
  | _=>False
def Lv (b:Nat):List Nat -> PyData -> Prop
  | [],d=>LeafD b d
  | c :: cs,d=>LeafD b d \/ ∃ xs,(d = .tuple xs \/ d = .list xs) /\ xs.length <= c /\ ∀ x ∈ xs,Lv b cs x
def lvB (b:Nat):List Nat -> Nat
  | []=>b
  | c :: cs=>(lvB b cs + 1) * c
theorem LeafD.Sm {b:Nat} {d:PyData} (h:LeafD b d):VL.Sm 0 b d:=by
  cases d with
  | none=>exact Sm.none.mono (Nat.le_refl _) (Nat.zero_le _)
  | bool b=>exact Sm.bool.mono (Nat.le_refl _) (Nat.zero_le _)
  | int i=>exact (Sm.int h).mono (Nat.le_refl _) (Nat.zero_le _)
  | str x=>exact ⟨h.1,by simp [PyData.depth],h.2⟩
  | list xs=>cases h
  | tuple xs=>cases h
  | dict xs=>cases h
theorem Lv.leaf {b:Nat} {cs:List Nat} {d:PyData} (h:LeafD b d):Lv b cs d:=by cases cs with
  | nil=>exact h
  | cons c cs=>exact .inl h
theorem Lv.tup {b c:Nat} {cs:List Nat} {xs:List PyData} (hl:xs.length <= c) (h:∀ x ∈ xs,Lv b cs x):Lv b (c :: cs) (.tuple xs):=.inr ⟨xs,.inl rfl,hl,h⟩
theorem Lv.lst {b c:Nat} {cs:List Nat} {xs:List PyData} (hl:xs.length <= c) (h:∀ x ∈ xs,Lv b cs x):Lv b (c :: cs) (.list xs):=.inr ⟨xs,.inr rfl,hl,h⟩
def leB:List Nat -> List Nat -> Bool
  | [],_=>true
  | _ :: _,[]=>false
  | a :: as,b :: bs=>decide (a <= b) && leB as bs
theorem Lv.mono {b:Nat}:∀ {as bs:List Nat} {d:PyData},leB as bs = true -> Lv b as d -> Lv b bs d
  | [],_,_,_,h=>.leaf h
  | _ :: _,[],_,z,_=>by cases z
  | a :: as,c :: bs,d,z,h=>by
    simp only [leB,Bool.and_eq_true,decide_eq_true_iff] at z
    rcases h with h | ⟨xs,e,hl,h⟩
    · exact .inl h
    · exact .inr ⟨xs,e,Nat.le_trans hl z.1,fun x mx=>Lv.mono z.2 (h x mx)⟩
theorem lvB_le (b:Nat):∀ cs:List Nat,(∀ c ∈ cs,1 <= c) -> b <= lvB b cs
  | [],_=>Nat.le_refl _
  | c :: cs,h=>by
    have h1:=lvB_le b cs fun x m=>h x (List.mem_cons_of_mem _ m)
    have h2:=h c List.mem_cons_self
    show b <= (lvB b cs + 1) * c
    exact Nat.le_trans (Nat.le_trans h1 (Nat.le_succ _)) (Nat.le_mul_of_pos_right _ h2)
theorem Lv.Sm {b:Nat}:∀ {cs:List Nat} {d:PyData},(∀ c ∈ cs,1 <= c) -> Lv b cs d -> VL.Sm (2 * cs.length) (lvB b cs) d
  | [],d,_,h=>LeafD.Sm h
  | c :: cs,d,hc,h=>by
    rcases h with h | ⟨xs,e,hl,h⟩
    · exact (LeafD.Sm h).mono (Nat.zero_le _) (lvB_le b _ hc)
    · have:=Sm.seq (n:=c) (fun x mx=>Lv.Sm (fun y m=>hc y (List.mem_cons_of_mem _ m)) (h x mx)) hl
      rcases e with rfl | rfl
      · exact this.1
      · exact this.2
theorem Lv.shw {b:Nat} {cs:List Nat} {d:PyData} (h:Lv b cs d) (h0:∀ c ∈ cs,1 <= c:=by decide) (h1 : 2 * cs.length <= 60:=by decide) (h2:lvB b cs <= 8000:=by decide):Shw d:=(h.Sm h0).shw h1 h2
end L2.VL

namespace L2
open PySem PySem.Spec PyProof.Rows
section
variable {X:Cx}
theorem ints_at {ns:List Int} {its:List Value} (r:Vals (ns.map V.int) its) {i:Nat} {v:Value} (e:its[i]? = some v):∃ t,v = .int (ns.getD i 0) t:=by
  have hl:=r.length
  rw [List.length_map] at hl
  have hi:i < ns.length:=by have:=(List.getElem?_eq_some_iff.mp e).1; omega
  have hb:(ns.map V.int)[i]? = some (.int ns[i]):=by simp [hi]
  obtain ⟨u,hu,ru⟩:=r.get hb
  rw [e] at hu
  cases hu
  have:ns.getD i 0 = ns[i]:=by simp [List.getD,hi]
  rw [this]
  exact ru
theorem preSum_eq (ns:List Int):preSum (fun i=>ns.getD i 0) ns.length = ns.sum:=by
  have key:∀ k,k <= ns.length -> preSum (fun i=>ns.getD i 0) k = (ns.take k).sum:=by
    intro k
    induction k with
    | zero=>intro _; rfl
    | succ k ih =>
      intro hk
      have hk':k < ns.length:=by omega
      show preSum _ k + ns.getD k 0 = _
      rw [ih (by omega),List.take_succ_eq_append_getElem hk',List.sum_append]
      simp [List.getD,hk']
  rw [key _ (Nat.le_refl _),List.take_of_length_le (Nat.le_refl _)]
theorem call_sumI (hc:X.calm = true):CallR X (.builtin "sum") (fun xs H Q=>∃ (p:Addr) (ns:List Int),xs = [.ref p] /\ SqL X.K H p (ns.map V.int) /\ Q (.int ns.sum) H):=by
  intro pins s σ H xs us Q I r ⟨p,ns,ex,hq,q⟩
  subst ex
  obtain ⟨u,rfl,ru⟩:=vals1 r
  cases ru
  obtain ⟨its,rv,pl,hz⟩:=I.list hq
  have hl:=rv.length
  rw [List.length_map] at hl
  refine call_sum_walkG (wpAny_pyIter_list pl.isList ?_)
  have ne:p ≠ s.heap.objs.size:=by obtain ⟨o,ho,_⟩:=pl.isList; exact Nat.ne_of_lt (Heap.lt_size ho)
  refine ⟨s.heap.objs.size,_,_,_,_,_,fun i=>ns.getD i 0,rfl,Walks.list (A:=X.A.in1) (I.ok.hd hc) s.heap.objs.size p ne its.toArray,⟨⟨_,Heap.get?_push_size _ rfl,rfl,rfl⟩,pl.isList.push _⟩,?_,?_,?_⟩
  · intro b hb
    have hb:b = s.heap.objs.size \/ b = p:=by simpa using hb
    show b < (Heap.push _ _).objs.size
    rw [Heap.size_push]
    rcases hb with rfl | rfl
    · exact Nat.lt_succ_self _
    · obtain ⟨o,ho,_⟩:=pl.isList; exact Nat.lt_succ_of_lt (Heap.lt_size ho)
  · intro i v hP
    exact ints_at rv (by simpa using hP)
  · intro h' tk t' k
    have e:preSum (fun i=>ns.getD i 0) its.toArray.size = ns.sum:=by rw [List.size_toArray,<- hl]; exact preSum_eq ns
    rw [e]
    exact ⟨.int _,H,I.kept (t':=tk) fun b o eb=>k b o (by simp; exact Nat.ne_of_lt (Heap.lt_size eb)) (Heap.get?_push_of_some _ eb),⟨t',rfl⟩,q⟩
end
end L2
namespace L2.VL
open PySem PySem.Spec PyProof.Rows
section
variable {X:Cx} {rl:RlT} {a:Expr} {fs:TVs} {pos p:Pos}
def gSum:List W -> (W -> Prop) -> Prop:=fun ws Q=>∃ (w:W) (ns:List Int),ws = [w] /\ w.dat = some (.list (ns.map .int)) /\ Q (.d (.int ns.sum))
theorem vc_sum:VCall X rl (fun xs H Q=>∃ (p:Addr) (ns:List Int),xs = [.ref p] /\ SqL X.K H p (ns.map V.int) /\ Q (.int ns.sum) H) gSum:=fun {F H vs ws} Qd Q s ra r ⟨w,ns,ew,ed,q⟩ k=>by
  subst ew
  obtain ⟨v,rfl,r1⟩:=rel1 r
  obtain ⟨a,us,rfl,sq,rs⟩:=r1.items s ed
  have e:=reps_int rs
  subst e
  exact ⟨a,ns,rfl,sq,k _ (.d _) _ _ (Grow.refl s ra) (.int _) trivial q⟩
theorem v_sum (hm:X.mg "sum" = none) (ha:PVs X rl [a] fs) (hc:X.calm = true:=by rfl) (hg:Gl X "sum" := by rfl) (he:starEach [a] X.env = (false,eval a X.env) :: starEach [] X.env:=by rfl) (hpl:(backTo pos (starEach [] X.env)).any (·.1) = false:=by rfl) :
    PV X rl (.Call (.Name "sum" p) [a] [] pos) (vCall gSum fs):=v_callB (call_sumI hc) vc_sum hm (by rfl) ha hg (by decide) (by decide) he hpl
def intsO:PyData -> Option (List Int)
  | .list xs=>intsD xs
  | _=>none
theorem intsO_of {d:PyData} {ns:List Int}:intsO d = some ns ↔ d = .list (ns.map .int):=by
  constructor
  · intro h
    cases d with
    | list xs=>rw [intsD_of h]
    | _=>cases h
  · rintro rfl; exact intsD_map _
theorem m_gSum (w:W):gSum [w] = optM (w.dat.bind intsO) fun ns=>ret (.d (.int ns.sum)):=by
  refine mo_ext fun Q=>?_
  rw [opt_iff]
  constructor
  · rintro ⟨w',ns,e,ed,q⟩
    cases e
    exact ⟨ns,by rw [ed]; exact intsD_map ns,q⟩
  · rintro ⟨ns,e,q⟩
    cases ed:w.dat with
    | none=>rw [ed] at e; cases e
    | some d =>
      rw [ed] at e
      exact ⟨w,ns,rfl,by rw [ed,intsO_of.mp e],q⟩
theorem intsO_l (ns:List Int):intsO (.list (ns.map .int)) = some ns:=intsD_map ns
def BSM:=And.intro @m_gSum (@intsO_l)
end
end L2.VL

namespace L2
open PySem PySem.Spec PyProof.Rows
abbrev lc2 (elt t1 i1:Expr) (f1:List Expr) (t2 i2:Expr) (f2:List Expr) (scope:Scope) (pos:Pos):Expr:=.ListComp elt [⟨t1,i1,f1,0⟩,⟨t2,i2,f2,0⟩] scope pos
theorem turn2_0 (elt t1 i1:Expr) (f1:List Expr) (t2 i2:Expr) (f2:List Expr) (scope:Scope) (pos:Pos) (it acc:Value) (env:Env) :
    compTurn (lc2 elt t1 i1 f1 t2 i2 f2 scope pos) 0 it acc env = (standAt i1.pos >>= fun _=>pyNext it >>= fun r=>match r with
      | none=>pure (.done .next)
      | some v=>letOwnedTupleGo t1 it v >>= fun _=>assign t1 env v >>= fun _=>testsOf f1 env >>= fun ok=>(if ok = true then
          (eval i2 env >>= fun x=>standAt i2.pos >>= fun _=>foldedSetIterable i2 env x >>= fun x=>holding [x] (pyIter x) >>= fun y=>runOwn (.compStart (lc2 elt t1 i1 f1 t2 i2 f2 scope pos) 1 y acc env) env >>= fun _=>again (.compLoop (lc2 elt t1 i1 f1 t2 i2 f2 scope pos) 0 it acc env))
          else again (.compLoop (lc2 elt t1 i1 f1 t2 i2 f2 scope pos) 0 it acc env))):=by rfl
theorem turn2_1 (elt t1 i1:Expr) (f1:List Expr) (t2 i2:Expr) (f2:List Expr) (scope:Scope) (pos:Pos) (it acc:Value) (env:Env) :
    compTurn (lc2 elt t1 i1 f1 t2 i2 f2 scope pos) 1 it acc env = (standAt i2.pos >>= fun _=>pyNext it >>= fun r=>match r with
      | none=>pure (.done .next)
      | some v=>letOwnedTupleGo t2 it v >>= fun _=>assign t2 env v >>= fun _=>testsOf f2 env >>= fun ok=>(if ok = true then
          ((eval elt env >>= fun x=>call (.builtin "list.append") [acc,x] >>= fun _=>pure ()) >>= fun _=>again (.compLoop (lc2 elt t1 i1 f1 t2 i2 f2 scope pos) 1 it acc env))
          else again (.compLoop (lc2 elt t1 i1 f1 t2 i2 f2 scope pos) 1 it acc env))):=by rfl
section
variable {prog:Program} {w:World} {A:Around} {R:Result -> Shared -> Prop} {s:Shared} {elt t1 i1 t2 i2:Expr} {f1 f2:List Expr} {scope:Scope} {pos:Pos} {it acc:Value} {env:Env}
theorem loop2_0 (I:Nat -> Shared -> Prop) (hs:∀ x,foldedSetIterable i2 env x = pure x)
    (turn:∀ n s,I n s -> wpAny (model prog w) A (pyNext it) (fun r s₁=>(r = none /\ R (.ok .next) s₁) \/ ∃ v,r = some v /\
      wpAny (model prog w) A (letOwnedTupleGo t1 it v) (fun _ s₂=>wpAny (model prog w) A (assign t1 env v) (fun _ s₃=>wpAny (model prog w) A (testsOf f1 env) (fun ok s₄ =>
        if ok = true then wpAny (model prog w) A (eval i2 env) (fun x s₅=>wpAny (model prog w) A (pyIter x) (fun y s₆=>codeAny (model prog w) A (.compStart (lc2 elt t1 i1 f1 t2 i2 f2 scope pos) 1 y acc env) (fun r s₇=>r = .ok .next /\ ∃ m,m < n /\ I m s₇) s₆) (fun _ _=>False) s₅) (fun _ _=>False) s₄
        else ∃ m,m < n /\ I m s₄) (fun _ _=>False) s₃) (fun _ _=>False) s₂) (fun _ _=>False) s₁) (fun _ _=>False) s)
    (n:Nat) (h:I n s):codeAny (model prog w) A (.compLoop (lc2 elt t1 i1 f1 t2 i2 f2 scope pos) 0 it acc env) R s:=by
  refine codeAny_loop rfl I (fun n s hI=>?_) n h
  show wpAny _ A ((compTurn (lc2 elt t1 i1 f1 t2 i2 f2 scope pos) 0 it acc env).onRaise (fun x=>do noteFrame x env; theTreesLotGoes x)) _ _ s
  refine wpAny_noted ?_
  rw [turn2_0]
  refine wpAny_bind (wpAny_standAt (wpAny_bind (wpAny_mono (turn n s hI) (fun r s₁ h₁=>?_) fun _ _ h'=>h'.elim)))
  rcases h₁ with ⟨rfl,h₁⟩ | ⟨v,rfl,h₁⟩
  · exact wpAny_pure h₁
  · refine wpAny_bind (wpAny_mono h₁ (fun _ s₂ h₂=>wpAny_bind (wpAny_mono h₂ (fun _ s₃ h₃=>wpAny_bind (wpAny_mono h₃ (fun ok s₄ h₄=>?_) fun _ _ z=>z.elim)) fun _ _ z=>z.elim)) fun _ _ z=>z.elim)
    cases ok with
    | false=>exact wpAny_pure ⟨rfl,h₄⟩
    | true =>
      refine wpAny_bind (wpAny_mono h₄ (fun x s₅ h₅=>wpAny_bind (wpAny_standAt (wpAny_bind (wpAny_of_eq (hs x) (wpAny_bind (wpAny_holding (wpAny_mono h₅ (fun y s₆ h₆=>?_) fun _ _ z=>z.elim))))))) fun _ _ z=>z.elim)
      refine wpAny_bind (wpAny_runOwn (codeAny_mono h₆ fun r s₇ ⟨hr,h₇⟩=>?_))
      subst hr
      exact wpAny_pure ⟨rfl,h₇⟩
theorem loop2_1 (I:Nat -> Shared -> Prop)
    (turn:∀ n s,I n s -> wpAny (model prog w) A (pyNext it) (fun r s₁=>(r = none /\ R (.ok .next) s₁) \/ ∃ v,r = some v /\
      wpAny (model prog w) A (letOwnedTupleGo t2 it v) (fun _ s₂=>wpAny (model prog w) A (assign t2 env v) (fun _ s₃=>wpAny (model prog w) A (testsOf f2 env) (fun ok s₄ =>
        if ok = true then wpAny (model prog w) A (eval elt env) (fun x s₅=>wpAny (model prog w) A (call (.builtin "list.append") [acc,x]) (fun _ s₆=>∃ m,m < n /\ I m s₆) (fun _ _=>False) s₅) (fun _ _=>False) s₄
        else ∃ m,m < n /\ I m s₄) (fun _ _=>False) s₃) (fun _ _=>False) s₂) (fun _ _=>False) s₁) (fun _ _=>False) s)
    (n:Nat) (h:I n s):codeAny (model prog w) A (.compLoop (lc2 elt t1 i1 f1 t2 i2 f2 scope pos) 1 it acc env) R s:=by
  refine codeAny_loop rfl I (fun n s hI=>?_) n h
  show wpAny _ A ((compTurn (lc2 elt t1 i1 f1 t2 i2 f2 scope pos) 1 it acc env).onRaise (fun x=>do noteFrame x env; theTreesLotGoes x)) _ _ s
  refine wpAny_noted ?_
  rw [turn2_1]
  refine wpAny_bind (wpAny_standAt (wpAny_bind (wpAny_mono (turn n s hI) (fun r s₁ h₁=>?_) fun _ _ h'=>h'.elim)))
  rcases h₁ with ⟨rfl,h₁⟩ | ⟨v,rfl,h₁⟩
  · exact wpAny_pure h₁
  · refine wpAny_bind (wpAny_mono h₁ (fun _ s₂ h₂=>wpAny_bind (wpAny_mono h₂ (fun _ s₃ h₃=>wpAny_bind (wpAny_mono h₃ (fun ok s₄ h₄=>?_) fun _ _ z=>z.elim)) fun _ _ z=>z.elim)) fun _ _ z=>z.elim)
    cases ok with
    | false=>exact wpAny_pure ⟨rfl,h₄⟩
    | true=>exact wpAny_bind (wpAny_bind (wpAny_mono h₄ (fun x s₅ h₅=>wpAny_bind (wpAny_mono h₅ (fun _ s₆ h₆=>wpAny_pure (wpAny_pure ⟨rfl,h₆⟩)) fun _ _ z=>z.elim)) fun _ _ z=>z.elim))
theorem start2_1
    (h0:codeAny (model prog w) A (.compLoop (lc2 elt t1 i1 f1 t2 i2 f2 scope pos) 1 it acc env) R s)
    (h:wpAny (model prog w) A (pyIter it) (fun it' s'=>codeAny (model prog w) A (.compLoop (lc2 elt t1 i1 f1 t2 i2 f2 scope pos) 1 it' acc env) R s') (notedBy (model prog w) A env fun x s'=>R (.error x) s') s) :
    codeAny (model prog w) A (.compStart (lc2 elt t1 i1 f1 t2 i2 f2 scope pos) 1 it acc env) R s:=by
  refine codeAny_of_tree ?_
  show wpAny _ _ ((compStart (lc2 elt t1 i1 f1 t2 i2 f2 scope pos) 1 it acc env).onRaise (fun x=>do noteFrame x env; standAt theWindowsPlace)) _ _ s
  refine wpAny_notedAt ?_
  unfold compStart
  show wpAny _ _ (ask >>= _) _ _ s
  refine wpAny_bind (wpAny_askSetting (wpAny_ite ?_))
  split
  · first
      | exact wpAny_bind (wpAny_pure (wpAny_pure (And.intro rfl h0)))
      | exact wpAny_pure (And.intro rfl h0)
  · first
      | exact wpAny_bind (wpAny_rule (wpAny_bind (wpAny_standAt (wpAny_bind (wpAny_mono h (fun it' s' h'=>wpAny_pure (And.intro rfl h')) fun _ _ x=>x)))))
      | (refine wpAny_bind (wpAny_rule ?_); show wpAny _ _ (standAt i2.pos >>= _) _ _ s; exact wpAny_bind (wpAny_standAt (wpAny_bind (wpAny_mono h (fun it' s' h'=>wpAny_pure (And.intro rfl h')) fun _ _ x=>x))))
end
def tIn (wi:TI) (g:TG) (tt:TT) (te:TE) (D:Addr) (acc:List V) (σ:St) (H:Hp) (R:List V -> St -> Hp -> Prop):Prop:=wi σ H fun J H1=>∃ Wv:Nat -> Nat -> List V -> St -> Hp -> Prop,(∃ m,Wv 0 m acc σ H1) /\
  ∀ i m acc σc H,Wv i m acc σc H -> (J.stop i H /\ R acc σc H) \/ (J.go i H /\ ∀ x H',J.yld i H x H' -> g x σc H' fun σ2 H2=>tt σ2 H2 fun b H3 =>
    if b = true then te σ2 H3 fun y H4=>H4 D = some (.lst acc) /\ acc.length < sizeLine /\ ∃ m',m' < m /\ Wv (i + 1) m' (acc ++ [y]) σ2 (upd H4 D (.lst (acc ++ [y]))) else ∃ m',m' < m /\ Wv (i + 1) m' acc σ2 H3)
section
variable {Y:Cx} {elt t1 i1 t2 i2:Expr} {f1 f2:List Expr} {scope:Scope} {pos:Pos} {wi:TI} {g:TG} {tt:TT} {te:TE} {D:Addr}
theorem inner2 (hc:Y.calm = true) (hx:Y.xe = fun _ _=>False) (hi:PI Y t2 i2 wi) (hg:PG Y t2 g) (ht:PTs Y f2 tt) (he:PE Y elt te) {pins:List (Addr × Obj)} {s:Shared} {σ:St} {H:Hp} {acc:List V} {R:List V -> St -> Hp -> Prop} {Rp:Shared -> Prop}
    (I:Inv Y pins σ H s) (q:tIn wi g tt te D acc σ H R) (fin:∀ acc σ5 H5 s5,Inv Y pins σ5 H5 s5 -> R acc σ5 H5 -> Rp s5) :
    wpAny (model Y.prog Y.w) Y.A (eval i2 Y.env) (fun x s₅=>wpAny (model Y.prog Y.w) Y.A (pyIter x) (fun y s₆=>codeAny (model Y.prog Y.w) Y.A (.compStart (lc2 elt t1 i1 f1 t2 i2 f2 scope pos) 1 y (.ref D) Y.env) (fun r s₇=>r = .ok .next /\ Rp s₇) s₆) (fun _ _=>False) s₅) (fun _ _=>False) s:=by
  have hi':=hi pins s σ H _ I q
  rw [hx] at hi'
  refine thn hi' fun v s1 h1=>thn h1 fun itv s2 h2=>?_
  obtain ⟨it,fp,tn,J,H2,e,I2,T,st2,f2',Wv,⟨m0,w0⟩,turn⟩:=h2
  subst e
  have stat:∀ {H':Hp},(∀ b ∈ fp,H' b = none) -> ∀ b ∈ fp,FpOk Y pins H' b:=fun hn b hb=>⟨hn b hb,(f2' b hb).2⟩
  have loop:codeAny (model Y.prog Y.w) Y.A (.compLoop (lc2 elt t1 i1 f1 t2 i2 f2 scope pos) 1 (.ref it) (.ref D) Y.env) (fun r s₇=>r = .ok .next /\ Rp s₇) s2:=by
    refine loop2_1 (fun n s'=>∃ i acc σ' H',Inv Y pins σ' H' s' /\ tn i s'.heap /\ (∀ b ∈ fp,H' b = none) /\ Wv i n acc σ' H') ?_ m0 ⟨0,acc,σ,H2,I2,st2,fun b hb=>(f2' b hb).1,w0⟩
    rintro n s4 ⟨i,acc,σ4,H4,I4,st4,fr4,w4⟩
    rcases turn i n acc σ4 H4 w4 with ⟨stop,qn⟩ | ⟨go,step⟩
    · exact thn (T.done Y rfl rfl rfl hc i pins s4 σ4 H4 (fun _ _=>False) I4 (stat fr4) st4 stop) fun r s5 ⟨hr,I5⟩=>.inl ⟨hr,rfl,fin acc σ4 H4 s5 I5 qn⟩
    · refine thn (T.item Y rfl rfl rfl hc i pins s4 σ4 H4 (fun _ _=>False) I4 (stat fr4) st4 go) fun r s5 ⟨u,hr,h5⟩=>.inr ⟨u,hr,?_⟩
      refine thn h5 fun _ s6 ⟨x,H6,I6,r6,y6,st6,fr6⟩=>?_
      have I6':=I6.pinned (stat fr6) (T.obj _ _ st6)
      have again:∀ {σ7:St} {H7:Hp} {s7:Shared},Inv Y (pins ++ pinsAt fp s6.heap) σ7 H7 s7 -> ∀ {acc':List V} {m':Nat},m' < n -> Wv (i + 1) m' acc' σ7 H7 ->
          ∃ m,m < n /\ ∃ i acc σ' H',Inv Y pins σ' H' s7 /\ tn i s7.heap /\ (∀ b ∈ fp,H' b = none) /\ Wv i m acc σ' H':=fun {σ7 H7 s7} I7 {acc' m'} hm w7=>by
        refine ⟨m',hm,i + 1,acc',σ7,H7,I7.unpinned,T.keep _ _ _ st6 fun b hb o e=>(I7.pin (b,o) (List.mem_append_right _ (List.mem_append_right _ (mem_pinsAt hb e)))).1,fun b hb=>?_,w7⟩
        obtain ⟨o,e,d⟩:=T.obj _ _ st6 b hb
        exact (I7.pin (b,o) (List.mem_append_right _ (List.mem_append_right _ (mem_pinsAt hb e)))).2.1
      have h7:=hg _ s6 σ4 H6 x u _ I6' r6 (step x H6 y6)
      rw [hx] at h7
      refine thn h7 fun _ s7 ⟨σ7,H7,I7,q7⟩=>?_
      have h8:=ht _ s7 σ7 H7 _ I7 q7
      rw [hx] at h8
      refine thn h8 fun ok s8 ⟨H8,I8,q8⟩=>?_
      cases ok with
      | false =>
        rw [if_neg Bool.false_ne_true] at q8 ⊢
        obtain ⟨m',hm,w8⟩:=q8
        exact again I8 hm w8
      | true =>
        rw [if_pos rfl] at q8 ⊢
        have h9:=he _ s8 σ7 H8 _ I8 q8
        rw [hx] at h9
        refine thn h9 fun y s9 ⟨yv,H9,I9,r9,eD,hl,m',hm,w9⟩=>?_
        have h10:=mt_append (X:=Y) _ s9 σ7 H9 (.ref D) [yv] (.ref D) [y] (fun _ H'=>H' = upd H9 D (.lst (acc ++ [yv]))) I9 rfl (.cons r9 .nil) ⟨D,acc,yv,rfl,rfl,eD,hl,rfl⟩
        rw [hx] at h10
        exact thn h10 fun _ s10 ⟨_,H10,I10,_,e10⟩=>by subst e10; exact again I10 hm w9
  exact start2_1 loop (T.self Y.A 0 _ _ _ st2 loop)
end
def tComp2 (wi:TI) (fr:List (Option Nat)) (g:CompA -> TG) (tt:CompA -> TT) (wj:CompA -> TI) (g2:CompA -> TG) (tt2:CompA -> TT) (te:CompA -> TE):TE:=fun σ H Q=>wi σ H fun J H1=>∀ D,H1 D = none -> ∃ Wv:Nat -> Nat -> List V -> St -> Hp -> Prop,(∃ m,Wv 0 m [] (frIn fr σ) (upd H1 D (.lst []))) /\
  ∀ (z:CompA) i m acc σc H,Wv i m acc σc H -> (J.stop i H /\ Q (.ref D) H) \/ (J.go i H /\ ∀ x H',J.yld i H x H' -> g z x σc H' fun σ2 H2=>tt z σ2 H2 fun b H3 =>
    if b = true then tIn (wj z) (g2 z) (tt2 z) (te z) D acc σ2 H3 fun acc' σ5 H5=>∃ m',m' < m /\ Wv (i + 1) m' acc' σ5 H5 else ∃ m',m' < m /\ Wv (i + 1) m' acc σ2 H3)
section
variable {Y:Cx} {elt t1 i1 t2 i2:Expr} {f1 f2:List Expr} {scope:Scope} {pos:Pos} {wj:TI} {g g2:TG} {tt tt2:TT} {te:TE} {D:Addr}
theorem outer2 (hc:Y.calm = true) (hx:Y.xe = fun _ _=>False) (hg:PG Y t1 g) (ht:PTs Y f1 tt) (hj:PI Y t2 i2 wj) (hg2:PG Y t2 g2) (ht2:PTs Y f2 tt2) (he:PE Y elt te) (hs:∀ x,foldedSetIterable i2 Y.env x = pure x)
    {it:Addr} {fp:List Addr} {tn:Nat -> Heap -> Prop} {J:It} {Q:VK} (T:Turn Y.prog Y.w Y.K t1 J fp it tn) {s:Shared} {σ:St} {H:Hp} (I:Inv Y [] σ H s) (st0:tn 0 s.heap) (fp0:∀ b ∈ fp,H b = none) (stat:∀ {H':Hp},(∀ b ∈ fp,H' b = none) -> ∀ b ∈ fp,FpOk Y [] H' b)
    {Wv:Nat -> Nat -> List V -> St -> Hp -> Prop} {m0:Nat} (w0:Wv 0 m0 [] σ H)
    (turn:∀ i m acc σc H,Wv i m acc σc H -> (J.stop i H /\ Q (.ref D) H) \/ (J.go i H /\ ∀ x H',J.yld i H x H' -> g x σc H' fun σ2 H2=>tt σ2 H2 fun b H3 =>
      if b = true then tIn wj g2 tt2 te D acc σ2 H3 fun acc' σ5 H5=>∃ m',m' < m /\ Wv (i + 1) m' acc' σ5 H5 else ∃ m',m' < m /\ Wv (i + 1) m' acc σ2 H3)) :
    codeAny (model Y.prog Y.w) Y.A (.compStart (lc2 elt t1 i1 f1 t2 i2 f2 scope pos) 0 (.ref it) (.ref D) Y.env) (fun r s5=>r = .ok .next /\ ∃ σ5 H4,Inv Y [] σ5 H4 s5 /\ Q (.ref D) H4) s:=by
  have loop:codeAny (model Y.prog Y.w) Y.A (.compLoop (lc2 elt t1 i1 f1 t2 i2 f2 scope pos) 0 (.ref it) (.ref D) Y.env) (fun r s5=>r = .ok .next /\ ∃ σ5 H4,Inv Y [] σ5 H4 s5 /\ Q (.ref D) H4) s:=by
    refine loop2_0 (fun n s'=>∃ i acc σ' H',Inv Y [] σ' H' s' /\ tn i s'.heap /\ (∀ b ∈ fp,H' b = none) /\ Wv i n acc σ' H') hs ?_ m0 ⟨0,[],_,_,I,st0,fp0,w0⟩
    rintro n s4 ⟨i,acc,σ4,H4,I4,st4,fr4,w4⟩
    rcases turn i n acc σ4 H4 w4 with ⟨stop,qn⟩ | ⟨go,step⟩
    · exact thn (T.done Y rfl rfl rfl hc i [] s4 σ4 H4 (fun _ _=>False) I4 (stat fr4) st4 stop) fun r s5 ⟨hr,I5⟩=>.inl ⟨hr,rfl,σ4,H4,I5,qn⟩
    · refine thn (T.item Y rfl rfl rfl hc i [] s4 σ4 H4 (fun _ _=>False) I4 (stat fr4) st4 go) fun r s5 ⟨u,hr,h5⟩=>.inr ⟨u,hr,?_⟩
      refine thn h5 fun _ s6 ⟨x,H6,I6,r6,y6,st6,fr6⟩=>?_
      have I6':=I6.pinned (stat fr6) (T.obj _ _ st6)
      have again:∀ {σ7:St} {H7:Hp} {s7:Shared},Inv Y ([] ++ pinsAt fp s6.heap) σ7 H7 s7 -> ∀ {acc':List V} {m':Nat},m' < n -> Wv (i + 1) m' acc' σ7 H7 ->
          ∃ m,m < n /\ ∃ i acc σ' H',Inv Y [] σ' H' s7 /\ tn i s7.heap /\ (∀ b ∈ fp,H' b = none) /\ Wv i m acc σ' H':=fun {σ7 H7 s7} I7 {acc' m'} hm w7=>by
        refine ⟨m',hm,i + 1,acc',σ7,H7,I7.unpinned,T.keep _ _ _ st6 fun b hb o e=>(I7.pin (b,o) (List.mem_append_right _ (List.mem_append_right _ (mem_pinsAt hb e)))).1,fun b hb=>?_,w7⟩
        obtain ⟨o,e,d⟩:=T.obj _ _ st6 b hb
        exact (I7.pin (b,o) (List.mem_append_right _ (List.mem_append_right _ (mem_pinsAt hb e)))).2.1
      have h7:=hg _ s6 σ4 H6 x u _ I6' r6 (step x H6 y6)
      rw [hx] at h7
      refine thn h7 fun _ s7 ⟨σ7,H7,I7,q7⟩=>?_
      have h8:=ht _ s7 σ7 H7 _ I7 q7
      rw [hx] at h8
      refine thn h8 fun ok s8 ⟨H8,I8,q8⟩=>?_
      cases ok with
      | false =>
        rw [if_neg Bool.false_ne_true] at q8 ⊢
        obtain ⟨m',hm,w8⟩:=q8
        exact again I8 hm w8
      | true =>
        rw [if_pos rfl] at q8 ⊢
        exact inner2 hc hx hj hg2 ht2 he I8 q8 fun acc' σ9 H9 s9 I9 ⟨m',hm,w9⟩=>again I9 hm w9
  exact codeAny_compStart_list loop (T.self Y.A 0 _ _ _ st0 loop)
end
section
variable {X:Cx} {elt t1 i1 t2 i2:Expr} {f1 f2:List Expr} {scope:Scope} {pos:Pos} {wi:TI} {wj:CompA -> TI} {g g2:CompA -> TG} {tt tt2:CompA -> TT} {te:CompA -> TE}
theorem scOk.get {scope scX:Scope} (hsc:scOk scope scX = true):scope.kind = .function /\ (∀ y ∈ scope.names,y.2 = .cell -> scope.names.lookup y.1 = some .cell) /\ (∀ y ∈ scope.names,y.2 = .local -> scope.names.lookup y.1 = some .local) /\
    ∀ y ∈ scope.names,y.2 = .free -> scX.names.lookup y.1 = some .cell \/ scX.names.lookup y.1 = some .free:=by
  obtain ⟨sk,sn⟩:=Bool.and_eq_true_iff.mp hsc
  have hall:=List.all_eq_true.mp sn
  refine ⟨of_decide_eq_true sk,fun y hy hl=>?_,fun y hy hl=>?_,fun y hy hl=>?_⟩
  · rcases Bool.or_eq_true_iff.mp (Bool.and_eq_true_iff.mp (Bool.and_eq_true_iff.mp (hall y hy)).1).1 with z | z
    · exact absurd hl (of_decide_eq_true z)
    · exact of_decide_eq_true z
  · rcases Bool.or_eq_true_iff.mp (Bool.and_eq_true_iff.mp (Bool.and_eq_true_iff.mp (hall y hy)).1).2 with z | z
    · exact absurd hl (of_decide_eq_true z)
    · exact of_decide_eq_true z
  · rcases Bool.or_eq_true_iff.mp (Bool.and_eq_true_iff.mp (hall y hy)).2 with z | z
    · exact absurd hl (of_decide_eq_true z)
    · exact (Bool.or_eq_true_iff.mp z).imp of_decide_eq_true of_decide_eq_true
theorem pe_lcomp2 (N':List Str) (fr:List (Option Nat)) (hc:X.calm = true) (hi:PI X t1 i1 wi) (hfr:frOk fr N' X.N scope X.env.scope = true) (hsc:scOk scope X.env.scope = true)
    (hg:∀ y,PG (blk X N' scope y) t1 (g y)) (ht:∀ y,PTs (blk X N' scope y) f1 (tt y)) (hj:∀ y,PI (blk X N' scope y) t2 i2 (wj y)) (hg2:∀ y,PG (blk X N' scope y) t2 (g2 y)) (ht2:∀ y,PTs (blk X N' scope y) f2 (tt2 y)) (he:∀ y,PE (blk X N' scope y) elt (te y))
    (hs:∀ x,foldedSetIterable i1 X.env x = pure x:=by intro _; rfl) (hs2:∀ y x,foldedSetIterable i2 (blk X N' scope y).env x = pure x:=by intro _ _; rfl):PE X (lc2 elt t1 i1 f1 t2 i2 f2 scope pos) (tComp2 wi fr g tt wj g2 tt2 te):=by
  intro pins s σ H Q I h
  obtain ⟨hkind,hcell,hnames,hfree⟩:=scOk.get hsc
  obtain ⟨frl,frg⟩:=frOk.get hfr
  obtain ⟨cl,hclos,cl1,cl2⟩:=closure_for (env:=X.env) (scope:=scope) fun y hy hl=>I.ok.has y.1 (hfree y hy hl)
  rw [eval_ListComp]
  refine wpAny_comprehension_free (use:=none) rfl hs hclos hkind hnames (thn (hi pins s σ H _ I h) fun v s1 h1=>thn h1 fun itv s2 h2=>?_)
  obtain ⟨it,fp,tn,J,H2,e,I2,T,st2,f2,q2⟩:=h2
  subst e
  refine wpAny_newObj_type ?_
  have hD:H2 s2.heap.objs.size = none:=I2.hok.fresh (Nat.le_refl _)
  have I3:Inv X pins σ (upd H2 s2.heap.objs.size (.lst [])) { s2 with heap:=s2.heap.push { cls:=.type "list", data:=.seq ([]:List Value).toArray } } :=
    I2.laid (t':=s2.toks) (fun b u e=>Heap.get?_push_of_some _ e) (Nat.le_refl _) ⟨by show 0 <= sizeLine; exact Nat.zero_le _,[],0,.nil,Heap.get?_push_size _ rfl⟩
  obtain ⟨Wv,⟨m0,w0⟩,turn⟩:=q2 _ hD
  have tn3:tn 0 (s2.heap.push { cls:=.type "list", data:=.seq ([]:List Value).toArray }):=T.keep _ _ _ st2 fun b _ o e=>Heap.get?_push_of_some _ e
  have fpD:∀ b ∈ fp,(upd H2 s2.heap.objs.size (.lst [])) b = none:=fun b hb=>by
    obtain ⟨o,e,_⟩:=T.obj _ _ st2 b hb
    rw [upd_ne (Nat.ne_of_lt (Heap.lt_size e))]
    exact (f2 b hb).1
  have fp3:∀ b ∈ fp,b < (s2.heap.push { cls:=.type "list", data:=.seq ([]:List Value).toArray }).objs.size:=fun b hb=>by
    obtain ⟨o,e,_⟩:=T.obj _ _ tn3 b hb
    exact Heap.lt_size e
  exact comp_blockG N' fr hc hkind hcell hfree frl frg cl1 cl2 I3 T tn3 fpD fp3 (fun b hb=>(f2 b hb).2)
    (fun s' IY tY stat=>outer2 (Y:=blk X N' scope ⟨cl,fp,X.pn ++ pins,_,_⟩) hc rfl (hg ⟨cl,fp,X.pn ++ pins,_,_⟩) (ht ⟨cl,fp,X.pn ++ pins,_,_⟩) (hj ⟨cl,fp,X.pn ++ pins,_,_⟩) (hg2 ⟨cl,fp,X.pn ++ pins,_,_⟩) (ht2 ⟨cl,fp,X.pn ++ pins,_,_⟩) (he ⟨cl,fp,X.pn ++ pins,_,_⟩) (hs2 ⟨cl,fp,X.pn ++ pins,_,_⟩) T IY tY fpD stat w0 (turn ⟨cl,fp,X.pn ++ pins,_,_⟩))
    (Rp:=compPost (model X.prog X.w) X.A X.xe none (EP X pins σ Q) (.ref s2.heap.objs.size)) fun s5 H4 m hn k _ qn=>⟨m,hn,fun h' hs'=>⟨.ref _,H4,k h' hs',rfl,qn⟩⟩
theorem ps_setcomp2 {b:Bool} {x:Str} {px spos:Pos} {ix:Nat} (N':List Str) (fr:List (Option Nat)) (hc:X.calm = true) (hi:PI X t1 i1 wi) (hfr:frOk fr N' X.N scope X.env.scope = true) (hsc:scOk scope X.env.scope = true)
    (hg:∀ y,PG (blk X N' scope y) t1 (g y)) (ht:∀ y,PTs (blk X N' scope y) f1 (tt y)) (hj:∀ y,PI (blk X N' scope y) t2 i2 (wj y)) (hg2:∀ y,PG (blk X N' scope y) t2 (g2 y)) (ht2:∀ y,PTs (blk X N' scope y) f2 (tt2 y)) (he:∀ y,PE (blk X N' scope y) elt (te y))
    (hN:X.N.Nodup) (hix:X.N[ix]? = some x) (hx:Loc X.env.scope x) (hf:X.fn x = true \/ X.env.scope.names.lookup x = some .local) (hsw:swapsWith (lc2 elt t1 i1 f1 t2 i2 f2 scope pos) (some (.Name x px)) spos.line X.env = pure b)
    (hs:∀ x,foldedSetIterable i1 X.env x = pure x) (hs2:∀ y x,foldedSetIterable i2 (blk X N' scope y).env x = pure x):PS X (.Assign [.Name x px] (lc2 elt t1 i1 f1 t2 i2 f2 scope pos) spos) (tAsg (tComp2 wi fr g tt wj g2 tt2 te) (gName ix)):=by
  cases b with
  | false=>exact ps_set hN hix hx (pe_lcomp2 N' fr hc hi hfr hsc hg ht hj hg2 ht2 he hs hs2) hsw hf
  | true =>
  intro pins s σ H DD I h
  obtain ⟨hkind,hcell,hnames,hfree⟩:=scOk.get hsc
  obtain ⟨frl,frg⟩:=frOk.get hfr
  obtain ⟨cl,hclos,cl1,cl2⟩:=closure_for (env:=X.env) (scope:=scope) fun y hy hl=>I.ok.has y.1 (hfree y hy hl)
  rw [exec_Assign_Name_used _ _ _ _ hsw]
  refine wpAny_bind (wpAny_standAt (wpAny_bind ?_))
  show wpAny _ X.A (do let _ <- comprehension (lc2 elt t1 i1 f1 t2 i2 f2 scope pos) scope X.env _ (newList []) false (eval i1 X.env) (some (assign (.Name x px) X.env))) _ _ s
  refine wpAny_bind (wpAny_mono (wpAny_comprehension_free (use:=some (assign (.Name x px) X.env)) (Q:=fun _ s'=>SP X pins DD .next s') rfl hs hclos hkind hnames
    (thn (hi pins s σ H _ I h) fun v s1 h1=>thn h1 fun itv s2 h2=>?_)) (fun _ s' hq=>wpAny_pure (wpAny_pure hq)) fun _ _ e=>e)
  obtain ⟨it,fp,tn,J,H2,e,I2,T,st2,f2,q2⟩:=h2
  subst e
  refine wpAny_newObj_type ?_
  have hD:H2 s2.heap.objs.size = none:=I2.hok.fresh (Nat.le_refl _)
  have I3:Inv X pins σ (upd H2 s2.heap.objs.size (.lst [])) { s2 with heap:=s2.heap.push { cls:=.type "list", data:=.seq ([]:List Value).toArray } } :=
    I2.laid (t':=s2.toks) (fun b u e=>Heap.get?_push_of_some _ e) (Nat.le_refl _) ⟨by show 0 <= sizeLine; exact Nat.zero_le _,[],0,.nil,Heap.get?_push_size _ rfl⟩
  obtain ⟨Wv,⟨m0,w0⟩,turn⟩:=q2 _ hD
  have tn3:tn 0 (s2.heap.push { cls:=.type "list", data:=.seq ([]:List Value).toArray }):=T.keep _ _ _ st2 fun b _ o e=>Heap.get?_push_of_some _ e
  have fpD:∀ b ∈ fp,(upd H2 s2.heap.objs.size (.lst [])) b = none:=fun b hb=>by
    obtain ⟨o,e,_⟩:=T.obj _ _ st2 b hb
    rw [upd_ne (Nat.ne_of_lt (Heap.lt_size e))]
    exact (f2 b hb).1
  have fp3:∀ b ∈ fp,b < (s2.heap.push { cls:=.type "list", data:=.seq ([]:List Value).toArray }).objs.size:=fun b hb=>by
    obtain ⟨o,e,_⟩:=T.obj _ _ tn3 b hb
    exact Heap.lt_size e
  refine comp_blockG (Q:=fun v H1=>gName ix v σ H1 DD.nx) N' fr hc hkind hcell hfree frl frg cl1 cl2 I3 T tn3 fpD fp3 (fun b hb=>(f2 b hb).2)
    (fun s' IY tY stat=>outer2 (Y:=blk X N' scope ⟨cl,fp,X.pn ++ pins,_,_⟩) (Q:=fun v H1=>gName ix v σ H1 DD.nx) hc rfl (hg ⟨cl,fp,X.pn ++ pins,_,_⟩) (ht ⟨cl,fp,X.pn ++ pins,_,_⟩) (hj ⟨cl,fp,X.pn ++ pins,_,_⟩) (hg2 ⟨cl,fp,X.pn ++ pins,_,_⟩) (ht2 ⟨cl,fp,X.pn ++ pins,_,_⟩) (he ⟨cl,fp,X.pn ++ pins,_,_⟩) (hs2 ⟨cl,fp,X.pn ++ pins,_,_⟩) T IY tY fpD stat w0 (turn ⟨cl,fp,X.pn ++ pins,_,_⟩))
    (Rp:=compPost (model X.prog X.w) X.A X.xe (some (assign (.Name x px) X.env)) (fun _ s'=>SP X pins DD .next s') (.ref s2.heap.objs.size)) fun s5 H4 m hn k fpo qn=>?_
  show wpAny _ X.A (assign (.Name x px) X.env (.ref s2.heap.objs.size)) _ _ s5
  have I5:Inv X pins σ H4 s5:=k s5.heap (Heap.SameBut.refl _ _)
  obtain ⟨f0,f1,f2',f3,f4,f5⟩:=fpo
  refine wpAny_assign_Name (store_ok2 I5 hN hix hx (v:=.ref s2.heap.objs.size) rfl (fun s6 I6 sb=>?_) hf)
  obtain ⟨a,sb,ha⟩:=sb
  have hne:(s2.heap.push { cls:=.type "list", data:=.seq ([]:List Value).toArray }).objs.size ≠ a:=by
    rcases ha with rfl | ha
    · exact f1
    · exact fun z=>f4 x a ha z.symm
  refine ⟨m,hn.at' fun o e=>sb.extBut _ o hne e,fun h' hs'=>?_⟩
  exact ⟨_,H4,I6.turned (t':=s6.toks) (fun b o hb e=>hs'.extBut b o hb e) f0 f1 f3 f4 f5,qn⟩
end
end L2

namespace L2.VL
open PySem PySem.Spec PyProof.Rows
def vGo2 (ρ0:En) (g:TGv) (ft:TB) (fj:En -> (List PyData -> Prop) -> Prop) (g2:TGv) (ft2:TB) (fe:TV):List PyData -> List PyData -> (List PyData -> Prop) -> Prop
  | [],acc,Q=>Q acc
  | x :: xs,acc,Q=>g x ρ0 fun ρ2=>Le ρ0 ρ2 /\ ft ρ2 fun b=>if b = true then fj ρ2 fun ys=>vGoR ρ2 g2 ft2 fe ys acc fun acc'=>vGo2 ρ0 g ft fj g2 ft2 fe xs acc' Q else vGo2 ρ0 g ft fj g2 ft2 fe xs acc Q
def vComp2 (fi:En -> (List PyData -> Prop) -> Prop) (fr:List (Option Nat)) (g:TGv) (ft:TB) (fj:En -> (List PyData -> Prop) -> Prop) (g2:TGv) (ft2:TB) (fe:TV):TV:=fun ρ Q=>fi ρ fun xs=>vGo2 (frEn fr ρ) g ft fj g2 ft2 fe xs [] fun ds=>Q (.ml ds)
section
variable {X:Cx} {rl:RlT} {elt t1 i1 t2 i2:Expr} {f1 f2:List Expr} {scope:Scope} {pos:Pos} {fi fj:En -> (List PyData -> Prop) -> Prop} {g g2:TGv} {ft ft2:TB} {fe:TV}
theorem lcomp2_k {N':List Str} {wi:TI} (fr:List (Option Nat)) (k0:∀ {F₀ H₀ F H:Hp} {σ:St} {ρ:En},VR X.K rl F₀ H₀ F H σ ρ -> ∀ (Qd:List PyData -> Prop) (R:It -> Hp -> Prop),fi ρ Qd ->
      (∀ J xs F' H',Grow rl F H F' H' -> VIt X.K rl F' J xs -> Qd xs -> R J H') -> wi σ H R)
    (hg:∀ y,PGV (blk X N' scope y) rl t1 g) (ht:∀ y,PTVs (blk X N' scope y) rl f1 ft) (hj:∀ y,PIV (blk X N' scope y) rl t2 i2 fj) (hg2:∀ y,PGV (blk X N' scope y) rl t2 g2) (ht2:∀ y,PTVs (blk X N' scope y) rl f2 ft2) (he:∀ y,PV (blk X N' scope y) rl elt fe)
    {F₀ H₀ F H:Hp} {σ:St} {ρ:En} (R:VR X.K rl F₀ H₀ F H σ ρ) (Qd:W -> Prop) (Q:VK) (q:vComp2 fi fr g ft fj g2 ft2 fe ρ Qd)
    (k:∀ v w F' H',Grow rl F H F' H' -> RelW X.K rl F' H' v w -> NewIn H v w -> Qd w -> Q v H') :
    tComp2 wi fr (fun y=>Classical.choose (hg y)) (fun y=>Classical.choose (ht y)) (fun y=>Classical.choose (hj y)) (fun y=>Classical.choose (hg2 y)) (fun y=>Classical.choose (ht2 y)) (fun y=>Classical.choose (he y)) σ H Q:=by
  refine k0 R _ _ q fun J xs F1 H1 g1 vi q1=>?_
  intro D hD
  have rD:rl.a ≠ some D:=fun e=>by obtain ⟨o,z⟩:=g1.reel.live e; rw [hD] at z; cases z
  have FD:F1 D = none:=g1.sub.free hD
  have gD:Grow rl F1 H1 F1 (upd H1 D (.lst [])):=Grow.laid g1.sub g1.reel hD
  have R1:=R.grow g1
  have n0:NoMl (frEn fr ρ):=noMl_block
  have keepD:∀ {acc:List V} {Fc Hc Fx Hx:Hp},Hc D = some (.lst acc) -> Fc D = none -> Grow rl Fc Hc Fx Hx -> Hx D = some (.lst acc) /\ Fx D = none:=fun hDc fDc gx=>⟨gx.same D _ hDc rD,by rw [gx.old D _ hDc]; exact fDc⟩
  refine ⟨fun i m acc σc Hc=>m = xs.length - i /\ i <= xs.length /\ ∃ Fc ds,VR X.K rl F1 H1 Fc Hc σc (frEn fr ρ) /\ Hc D = some (.lst acc) /\ Fc D = none /\ Reps X.K Fc acc ds /\ vGo2 (frEn fr ρ) g ft fj g2 ft2 fe (xs.drop i) ds (fun ds=>Qd (.ml ds)),
    ⟨xs.length,by simp,Nat.zero_le _,F1,[],vr_block R1 gD,upd_same,FD,.nil,by simpa using q1⟩,?_⟩
  rintro z i m acc σc Hc ⟨rfl,hi,Fc,ds,Rc,hDc,fDc,rs,q2⟩
  have sH:Same F1 Hc:=Rc.g.fs.trans Rc.sub
  by_cases hlt:i < xs.length
  · have ei:xs[i]? = some xs[i]:=by simp [hlt]
    have ed:xs.drop i = xs[i] :: xs.drop (i + 1):=List.drop_eq_getElem_cons hlt
    rw [ed] at q2
    refine .inr ⟨vi.go i Hc _ ei sH,fun v H' y=>?_⟩
    obtain ⟨Fy,gy,rv⟩:=vi.yld i Hc v H' _ Fc ei Rc.g.fs Rc.sub Rc.reel y
    refine (Classical.choose_spec (hg z)).2 (Rc.grow gy) v _ _ _ rv q2 fun F3 H3 σ3 ρ3 g3 n3 R3 ⟨le3,q3⟩=>?_
    refine (Classical.choose_spec (ht z)).2 R3 _ _ q3 fun b F4 H4 g4 q4=>?_
    have R4:=R3.grow g4
    have g34:=(gy.trans g3).trans g4
    have nm3:NoMl ρ3:=n3 n0
    cases b with
    | false=>exact ⟨xs.length - (i + 1),by omega,rfl,hlt,F4,ds,R4.le le3,(keepD hDc fDc g34).1,(keepD hDc fDc g34).2,rs.mono g34.fs,q4⟩
    | true =>
      refine (Classical.choose_spec (hj z)).2 R4 _ _ q4 fun J2 ys F5 H5 g5 vi2 q5=>?_
      have g35:=g34.trans g5
      refine ⟨fun j m acc σe He=>m = ys.length - j /\ j <= ys.length /\ ∃ Fe es,VR X.K rl F1 H1 Fe He σe ρ3 /\ Same F5 Fe /\ He D = some (.lst acc) /\ Fe D = none /\ Reps X.K Fe acc es /\
          vGoR ρ3 g2 ft2 fe (ys.drop j) es (fun es=>vGo2 (frEn fr ρ) g ft fj g2 ft2 fe (xs.drop (i + 1)) es (fun ds=>Qd (.ml ds))),
        ⟨ys.length,by simp,Nat.zero_le _,F5,ds,R4.grow g5,.refl _,(keepD hDc fDc g35).1,(keepD hDc fDc g35).2,rs.mono g35.fs,by simpa using q5⟩,?_⟩
      rintro j m acc2 σe He ⟨rfl,hj',Fe,es,Re,s5,hDe,fDe,res,q6⟩
      have sHe:Same F5 He:=s5.trans Re.sub
      by_cases hlt2:j < ys.length
      · have ej:ys[j]? = some ys[j]:=by simp [hlt2]
        have edj:ys.drop j = ys[j] :: ys.drop (j + 1):=List.drop_eq_getElem_cons hlt2
        rw [edj] at q6
        refine .inr ⟨vi2.go j He _ ej sHe,fun v2 H2' y2=>?_⟩
        obtain ⟨Fy2,gy2,rv2⟩:=vi2.yld j He v2 H2' _ Fe ej s5 Re.sub Re.reel y2
        refine (Classical.choose_spec (hg2 z)).2 (Re.grow gy2) v2 _ _ _ rv2 q6 fun F7 H7 σ7 ρ7 g7 n7 R7 ⟨le7,q7⟩=>?_
        refine (Classical.choose_spec (ht2 z)).2 R7 _ _ q7 fun b2 F8 H8 g8 q8=>?_
        have R8:=R7.grow g8
        have g78:=(gy2.trans g7).trans g8
        cases b2 with
        | false=>exact ⟨ys.length - (j + 1),by omega,rfl,hlt2,F8,es,R8.le le7,s5.trans g78.fs,(keepD hDe fDe g78).1,(keepD hDe fDe g78).2,res.mono g78.fs,q8⟩
        | true =>
          refine (Classical.choose_spec (he z)).2 R8 _ _ q8 fun v9 w9 F9 H9 g9 r9 n9 ⟨d,ed9,hl,q9⟩=>?_
          obtain ⟨F10,g10,s10,r10⟩:=RelW.fz g9 r9 n9
          rw [ed9] at r10
          have g710:=g78.trans g10
          refine ⟨(keepD hDe fDe g710).1,by rw [res.length]; exact hl,ys.length - (j + 1),by omega,rfl,hlt2,F10,es ++ [d],((R8.grow g10).le le7).other nm3 hD (keepD hDe fDe g710).2 rD,s5.trans g710.fs,upd_same,(keepD hDe fDe g710).2,(res.mono g710.fs).snoc r10,q9⟩
      · have e:j = ys.length:=by omega
        subst e
        rw [List.drop_length] at q6
        exact .inl ⟨vi2.stop _ He (Nat.le_refl _) sHe,xs.length - (i + 1),by omega,rfl,hlt,Fe,es,Re.le le3,hDe,fDe,res,q6⟩
  · have e:i = xs.length:=by omega
    subst e
    rw [List.drop_length] at q2
    refine .inl ⟨vi.stop _ Hc (Nat.le_refl _) sH,k _ (.ml ds) Fc Hc (g1.trans Rc.g) ⟨D,acc,rfl,fDc,rD,hDc,rs⟩ (fun a ea=>by cases ea; exact g1.freeB hD) q2⟩
theorem vs_setcomp2 (i:Nat) {b:Bool} {x:Str} {px spos:Pos} (hN:X.N.Nodup) (N':List Str) (fr:List (Option Nat)) (hc:X.calm = true) (hi:PIV X rl t1 i1 fi)
    (hg:∀ y,PGV (blk X N' scope y) rl t1 g) (ht:∀ y,PTVs (blk X N' scope y) rl f1 ft) (hj:∀ y,PIV (blk X N' scope y) rl t2 i2 fj) (hg2:∀ y,PGV (blk X N' scope y) rl t2 g2) (ht2:∀ y,PTVs (blk X N' scope y) rl f2 ft2) (he:∀ y,PV (blk X N' scope y) rl elt fe)
    (hsw:swapsWith (.ListComp elt [⟨t1,i1,f1,0⟩,⟨t2,i2,f2,0⟩] scope pos) (some (.Name x px)) spos.line X.env = pure b:=by rfl)
    (hix:X.N[i]? = some x:=by rfl) (hx:Loc X.env.scope x:=by first | exact Or.inl rfl | exact Or.inr rfl) (hf:X.fn x = true \/ X.env.scope.names.lookup x = some .local:=by first | exact .inl rfl | exact .inr rfl)
    (hfr:frOk fr N' X.N scope X.env.scope = true:=by rfl) (hsc:scOk scope X.env.scope = true:=by rfl)
    (hs:∀ x,foldedSetIterable i1 X.env x = pure x:=by intro _; rfl) (hs2:∀ y x,foldedSetIterable i2 (blk X N' scope y).env x = pure x:=by intro _ _; rfl) :
    PSV X rl (.Assign [.Name x px] (.ListComp elt [⟨t1,i1,f1,0⟩,⟨t2,i2,f2,0⟩] scope pos) spos) (vSetZ i (vComp2 fi fr g ft fj g2 ft2 fe)):=by
  obtain ⟨wi,p0,k0⟩:=hi
  refine ⟨_,ps_setcomp2 N' fr hc p0 hfr hsc (fun y=>(Classical.choose_spec (hg y)).1) (fun y=>(Classical.choose_spec (ht y)).1) (fun y=>(Classical.choose_spec (hj y)).1) (fun y=>(Classical.choose_spec (hg2 y)).1) (fun y=>(Classical.choose_spec (ht2 y)).1) (fun y=>(Classical.choose_spec (he y)).1) hN hix hx hf hsw hs hs2,
    fun R Dv D ok q=>lcomp2_k fr k0 hg ht hj hg2 ht2 he R _ _ q fun v w F1 H1 g1 r1 n1 ⟨d,ed,q1⟩=>?_⟩
  obtain ⟨F2,g2,s2,r2⟩:=RelW.fz g1 r1 n1
  rw [ed] at r2
  exact ok.nx _ _ _ _ g2.fs (R.set g2 r2 trivial (fun xs z=>by cases z) i) q1
end
def itM2 (ρ0:En) (g:TGv) (ft:TB) (fj:En -> (List PyData -> Prop) -> Prop) (g2:TGv) (ft2:TB) (fe:TV) (x:PyData) (acc:List PyData):Mo (List PyData) :=
  bnd (g x ρ0) fun ρ2=>grd (Le ρ0 ρ2) (bnd (ft ρ2) fun b=>if b = true then bnd (fj ρ2) fun ys=>compM (itM ρ2 g2 ft2 fe) ys acc else ret acc)
def compM2 (b:PyData -> List PyData -> Mo (List PyData)):List PyData -> List PyData -> Mo (List PyData)
  | [],acc=>ret acc
  | x :: xs,acc=>bnd (b x acc) (compM2 b xs)
theorem comp2_eq (ρ0:En) (g:TGv) (ft:TB) (fj:En -> (List PyData -> Prop) -> Prop) (g2:TGv) (ft2:TB) (fe:TV):∀ (xs acc:List PyData),vGo2 ρ0 g ft fj g2 ft2 fe xs acc = compM2 (itM2 ρ0 g ft fj g2 ft2 fe) xs acc
  | [],acc=>rfl
  | x :: xs,acc=>by
    refine mo_ext fun Q=>?_
    show (g x ρ0 fun ρ2=>Le ρ0 ρ2 /\ ft ρ2 fun b=>if b = true then fj ρ2 fun ys=>vGoR ρ2 g2 ft2 fe ys acc fun acc'=>vGo2 ρ0 g ft fj g2 ft2 fe xs acc' Q else vGo2 ρ0 g ft fj g2 ft2 fe xs acc Q) ↔ (bnd (itM2 ρ0 g ft fj g2 ft2 fe x acc) (compM2 (itM2 ρ0 g ft fj g2 ft2 fe) xs)) Q
    simp only [comp2_eq ρ0 g ft fj g2 ft2 fe xs,comp_eq]
    have:∀ (ρ2:En) (b:Bool),(if b = true then fj ρ2 fun ys=>compM (itM ρ2 g2 ft2 fe) ys acc fun acc'=>compM2 (itM2 ρ0 g ft fj g2 ft2 fe) xs acc' Q else compM2 (itM2 ρ0 g ft fj g2 ft2 fe) xs acc Q)
        = (bnd (if b = true then bnd (fj ρ2) fun ys=>compM (itM ρ2 g2 ft2 fe) ys acc else ret acc) (compM2 (itM2 ρ0 g ft fj g2 ft2 fe) xs)) Q:=by
      intro ρ2 b
      cases b <;> rfl
    simp only [this]
    exact Iff.rfl
theorem m_comp2 (fi:En -> (List PyData -> Prop) -> Prop) (fr:List (Option Nat)) (g:TGv) (ft:TB) (fj:En -> (List PyData -> Prop) -> Prop) (g2:TGv) (ft2:TB) (fe:TV) (ρ:En) :
    vComp2 fi fr g ft fj g2 ft2 fe ρ = bnd (fi ρ) fun xs=>bnd (compM2 (itM2 (frEn fr ρ) g ft fj g2 ft2 fe) xs []) fun ds=>ret (.ml ds):=by
  refine mo_ext fun Q=>?_
  show (fi ρ fun xs=>vGo2 (frEn fr ρ) g ft fj g2 ft2 fe xs [] fun ds=>Q (.ml ds)) ↔ _
  simp only [comp2_eq]
  exact Iff.rfl
section
variable {α β:Type} {b:PyData -> Mo (Option PyData)}
theorem compM2_rows {c:PyData -> List PyData -> Mo (List PyData)} {xs:List α} {enc : α -> PyData} (F : α -> List PyData) (h:∀ x ∈ xs,∀ acc:List PyData,acc.length + (F x).length <= sizeLine -> c (enc x) acc = ret (acc ++ F x)) :
    ∀ acc:List PyData,acc.length + (xs.flatMap F).length <= sizeLine -> compM2 c (xs.map enc) acc = ret (acc ++ xs.flatMap F):=by
  induction xs with
  | nil=>intro acc _; show ret acc = _; simp
  | cons x xs ih =>
    intro acc hl
    rw [List.flatMap_cons,List.length_append] at hl
    show bnd (c (enc x) acc) _ = _
    rw [h x List.mem_cons_self acc (by omega),bnd_ret,ih (fun y my=>h y (List.mem_cons_of_mem _ my)) (acc ++ F x) (by rw [List.length_append]; omega),List.flatMap_cons,List.append_assoc]
theorem c2_go {γ:Type} {c:PyData -> List PyData -> Mo (List PyData)} {k:List PyData -> Mo γ} {Q : γ -> Prop} {xs:List α} {enc : α -> PyData} {xs':List PyData} (F : α -> List PyData) (hx:xs' = xs.map enc)
    (h:∀ x ∈ xs,∀ acc:List PyData,acc.length + (F x).length <= sizeLine -> c (enc x) acc = ret (acc ++ F x)) (hl:(xs.flatMap F).length <= sizeLine) (fin:k (xs.flatMap F) Q):bnd (compM2 c xs' []) k Q:=by
  subst hx
  rw [compM2_rows F h [] (by simpa using hl),bnd_ret]
  simpa using fin
end
def BC2:=And.intro @m_comp2 (@bnd_ret)
end L2.VL

namespace L2.VL
open PySem PySem.Spec
inductive Sh where
  | one (c v:List Rat)
  | two (c d:List Rat) (vs:List (List Rat))
def Sh.cuts:Sh -> List (List Rat)
  | .one c _=>[c]
  | .two c d _=>[c,d]
def Sh.vD:Sh -> PyData
  | .one _ v=>ptD v
  | .two _ _ vs=>ptsQ vs
def shD (s:Sh):PyData:=.tuple [ptsQ s.cuts,s.vD]
def CutOk (n:Nat) (c:List Rat):Prop:=∃ (d:Int) (as:List Int),0 < d /\ d < 2 ^ 20 /\ as.length <= n /\ c = as.map (fun a=>qd a d) /\ (∀ a ∈ as,0 < a /\ a < d) /\ as.Pairwise (· < ·)
def Sh.Ok:Sh -> Prop
  | .one c v=>CutOk 6 c /\ v.length = c.length + 1 /\ ∀ q ∈ v,qSm 20 q
  | .two c d vs=>CutOk 3 c /\ CutOk 3 d /\ vs.length = c.length + 1 /\ ∀ v ∈ vs,v.length = d.length + 1 /\ ∀ q ∈ v,qSm 20 q
def Sh.at:Sh -> List Int -> Rat
  | .one _ v,p=>v.getD (p.getD 0 0).toNat 0
  | .two _ _ vs,p=>(vs.getD (p.getD 0 0).toNat []).getD (p.getD 1 0).toNat 0
def PaOk (cs:List (List Rat)) (p:List Int):Prop:=p.length = cs.length /\ ∀ z ∈ cs.zip p,0 <= z.2 /\ z.2 <= (z.1.length:Int)
def lim (c:List Rat):List Rat:=0 :: (c ++ [1])
def lenQ (c:List Rat) (j:Int):Rat:=(lim c).getD (j.toNat + 1) 0 - (lim c).getD j.toNat 0
theorem qd_z {d:Int} (h : 0 < d):qd 0 d = 0:=by unfold qd; rw [Rat.div_def]; show (0:Rat) * _ = 0; rw [Rat.zero_mul]
theorem qd_o {d:Int} (h : 0 < d):qd d d = 1:=by
  unfold qd
  have:=rat_ne h
  grind
theorem qd_subd (a b:Int) {d:Int} (h : 0 < d):qd a d - qd b d = qd (a - b) d:=by
  unfold qd
  have:=rat_ne h
  rw [Rat.intCast_sub]
  grind
theorem qd_addd (a b:Int) {d:Int} (h : 0 < d):qd a d + qd b d = qd (a + b) d:=by
  unfold qd
  have:=rat_ne h
  rw [Rat.intCast_add]
  grind
theorem CutOk.len {n:Nat} {c:List Rat} (h:CutOk n c):c.length <= n:=by
  obtain ⟨d,as,_,_,hl,rfl,_⟩:=h
  rw [List.length_map]; exact hl
theorem lim_mem {n:Nat} {c:List Rat} (h:CutOk n c):∃ d:Int,0 < d /\ d < 2 ^ 20 /\ ∀ q ∈ lim c,∃ a:Int,0 <= a /\ a <= d /\ q = qd a d:=by
  obtain ⟨d,as,d0,d1,_,rfl,ha,_⟩:=h
  refine ⟨d,d0,d1,fun q hq=>?_⟩
  rcases List.mem_cons.mp hq with rfl | hq
  · exact ⟨0,Int.le_refl _,by omega,(qd_z d0).symm⟩
  rcases List.mem_append.mp hq with hq | hq
  · obtain ⟨a,ma,rfl⟩:=List.mem_map.mp hq
    exact ⟨a,Int.le_of_lt (ha a ma).1,Int.le_of_lt (ha a ma).2,rfl⟩
  · rw [List.mem_singleton.mp hq]
    exact ⟨d,by omega,Int.le_refl _,(qd_o d0).symm⟩
theorem lim_len (c:List Rat):(lim c).length = c.length + 2:=by simp [lim]
theorem getD_mem {α:Type} {xs:List α} {k:Nat} {d : α} (h:k < xs.length):xs.getD k d ∈ xs:=by
  rw [List.getD_eq_getElem?_getD,List.getElem?_eq_getElem h]; exact List.getElem_mem h
theorem len_sm {n:Nat} {c:List Rat} {j:Int} (h:CutOk n c) (j0 : 0 <= j) (j1:j <= (c.length:Int)):qSm 20 (lenQ c j):=by
  obtain ⟨d,d0,d1,hm⟩:=lim_mem h
  have ll:=lim_len c
  obtain ⟨a,a0,a1,ea⟩:=hm _ (getD_mem (d:=0) (show j.toNat + 1 < (lim c).length by omega))
  obtain ⟨b,b0,b1,eb⟩:=hm _ (getD_mem (d:=0) (show j.toNat < (lim c).length by omega))
  unfold lenQ
  rw [ea,eb,qd_subd _ _ d0]
  exact qd_sm d0 (by omega) (by omega)
theorem lim_sm {n:Nat} {c:List Rat} (h:CutOk n c):∀ q ∈ lim c,qSm 20 q:=by
  obtain ⟨d,d0,d1,hm⟩:=lim_mem h
  intro q hq
  obtain ⟨a,a0,a1,rfl⟩:=hm q hq
  exact qd_sm d0 (by omega) (by omega)
theorem CutOk.sm {n:Nat} {c:List Rat} (h:CutOk n c):∀ q ∈ c,qSm 20 q:=fun q hq=>lim_sm h q (List.mem_cons_of_mem _ (List.mem_append_left _ hq))
def stN (x:Rat) (c:List Rat):Nat:=(c.filter fun e=>!decide (x < e)).length
theorem stN_le (x:Rat) (c:List Rat):stN x c <= c.length:=List.length_filter_le _ _
def ptc (p:List Rat) (cs:List (List Rat)):List Int:=(p.zip cs).map fun z=>(stN z.1 z.2:Int)
def chI (rows:List (List Int)):List (List Int):=rows.foldl (fun ch r=>ch.flatMap fun b=>r.map fun t=>b ++ [t]) [[]]
def pch (cs:List (List Rat)):List (List Int):=chI (cs.map fun c=>intR 0 (c.length + 1))
def sumQ (qs:List Rat):Rat:=qs.foldl (· + ·) 0
theorem foldl_addQ:∀ (qs:List Rat) (a:Rat),qs.foldl (· + ·) a = a + sumQ qs
  | [],a=>by unfold sumQ; rw [List.foldl_nil,List.foldl_nil,Rat.add_zero]
  | q :: qs,a=>by
    unfold sumQ
    rw [List.foldl_cons,List.foldl_cons,foldl_addQ qs,foldl_addQ qs]
    grind
theorem sumQ_cons (q:Rat) (qs:List Rat):sumQ (q :: qs) = q + sumQ qs:=by
  show (qs.foldl (· + ·) (0 + q)) = _
  rw [foldl_addQ,Rat.zero_add]
theorem sumQ_snoc (q:Rat) (qs:List Rat):sumQ (qs ++ [q]) = sumQ qs + q:=by unfold sumQ; rw [List.foldl_append]; rfl
theorem qd_num {q:Rat} {B:Int} (hB : 0 < B) (hd:(q.den:Int) ∣ B):qd (q.num * (B / q.den)) B = q:=by
  obtain ⟨c,hc⟩:=hd
  have dp:=den_p q
  have c0 : 0 < c:=by
    rcases Int.lt_trichotomy 0 c with h | h | h
    · exact h
    · subst h; omega
    · have:=Int.mul_neg_of_pos_of_neg dp h; omega
  have e:B / (q.den:Int) = c:=by rw [hc]; exact Int.mul_ediv_cancel_left _ (by omega)
  rw [e,hc]
  have es:=qd_self q
  unfold qd at *
  rw [Rat.intCast_mul,Rat.intCast_mul]
  have h1:=rat_ne c0
  have h2:=rat_ne dp
  generalize (q.num:Rat) = x at *
  generalize ((q.den:Int):Rat) = y at *
  generalize (c:Rat) = z at *
  rw [<- es]
  grind
theorem sum_qd {B:Int} (hB : 0 < B):∀ qs:List Rat,(∀ q ∈ qs,(q.den:Int) ∣ B) -> qd (qs.map fun q=>q.num * (B / q.den)).sum B = sumQ qs
  | [],_=>by rw [List.map_nil,List.sum_nil,qd_z hB]; rfl
  | q :: qs,h=>by
    rw [List.map_cons,List.sum_cons,<- qd_addd _ _ hB,qd_num hB (h q List.mem_cons_self),sum_qd hB qs fun r hr=>h r (List.mem_cons_of_mem _ hr),sumQ_cons]
structure LcmI (n:Nat) (qs:List Rat) (B:Int):Prop where
  p : 0 < B
  z:B < 2 ^ (n * qs.length + 1)
  d:∀ q ∈ qs,(q.den:Int) ∣ B
theorem LcmI.nil (n:Nat):LcmI n [] 1:=⟨by decide,by simp,by simp⟩
theorem LcmI.step {n:Nat} {qs:List Rat} {B:Int} {q:Rat} (h:LcmI n qs B) (hq:qSm n q):LcmI n (qs ++ [q]) (B * ((q.den:Int) / (Int.gcd B q.den:Int))):=by
  have dp:=den_p q
  have bp:=h.p
  have gp:(0:Int) < (Int.gcd B q.den:Int):=by have:=Int.gcd_pos_of_ne_zero_right B (show (q.den:Int) ≠ 0 by omega); omega
  obtain ⟨b,hb⟩:=Int.gcd_dvd_left (a:=B) (b:=(q.den:Int))
  obtain ⟨c,hc⟩:=Int.gcd_dvd_right (a:=B) (b:=(q.den:Int))
  have ec:(q.den:Int) / (Int.gcd B q.den:Int) = c:=by
    generalize (Int.gcd B q.den:Int) = g at *
    rw [hc]; exact Int.mul_ediv_cancel_left _ (by omega)
  rw [ec]
  have c0 : 0 < c:=by
    rcases Int.lt_trichotomy 0 c with h | h | h
    · exact h
    · subst h; omega
    · have:=Int.mul_neg_of_pos_of_neg gp h; omega
  have cle:c <= (q.den:Int):=by
    have : 1 * c <= (Int.gcd B q.den:Int) * c:=Int.mul_le_mul_of_nonneg_right (by omega) (by omega)
    omega
  refine ⟨Int.mul_pos bp c0,?_,fun r hr=>?_⟩
  · have l:n * (qs ++ [q]).length + 1 = (n * qs.length + 1) + n:=by rw [List.length_append,List.length_singleton,Nat.mul_succ]; omega
    rw [l]
    have d2:(q.den:Int) < 2 ^ n:=by have:=hq.2; exact_mod_cast this
    exact mul_lt2 (by omega) c0 h.z (by omega)
  · rcases List.mem_append.mp hr with hr | hr
    · exact Int.dvd_trans (h.d r hr) (Int.dvd_mul_right _ _)
    · rw [List.mem_singleton.mp hr]
      refine ⟨b,?_⟩
      generalize (Int.gcd B q.den:Int) = g at *
      rw [hb,hc]
      grind
def sizeP (cs:List (List Rat)) (p:List Int):Rat:=prodQ ((cs.zip p).map fun z=>lenQ z.1 z.2)
def wholeQ (s:Sh):Rat:=sumQ ((pch s.cuts).map fun p=>s.at p * sizeP s.cuts p)
theorem chI1 (r:List Int):chI [r] = r.map fun t=>[t]:=by simp [chI]
theorem chI2 (r s:List Int):chI [r,s] = r.flatMap fun a=>s.map fun b=>[a,b]:=by
  show List.flatMap _ (chI [r]) = _
  rw [chI1,List.flatMap_map]; rfl
theorem Sh.pch_ok {s:Sh}:∀ p ∈ pch s.cuts,PaOk s.cuts p:=by
  intro p hp
  cases s with
  | one c v =>
    unfold pch Sh.cuts at hp
    rw [List.map_cons,List.map_nil,chI1] at hp
    obtain ⟨k,mk,rfl⟩:=List.mem_map.mp hp
    have:=intR_mem.mp mk
    refine ⟨rfl,fun z hz=>?_⟩
    rw [show (Sh.one c v).cuts.zip [k] = [(c,k)] from rfl] at hz
    rw [List.mem_singleton.mp hz]
    dsimp only
    omega
  | two c d vs =>
    unfold pch Sh.cuts at hp
    rw [List.map_cons,List.map_cons,List.map_nil,chI2] at hp
    obtain ⟨k,mk,hp⟩:=List.mem_flatMap.mp hp
    obtain ⟨j,mj,rfl⟩:=List.mem_map.mp hp
    have h1:=intR_mem.mp mk
    have h2:=intR_mem.mp mj
    refine ⟨rfl,fun z hz=>?_⟩
    rw [show (Sh.two c d vs).cuts.zip [k,j] = [(c,k),(d,j)] from rfl] at hz
    rcases List.mem_cons.mp hz with rfl | hz
    · dsimp only; omega
    · rw [List.mem_singleton.mp hz]; dsimp only; omega
theorem PaOk.one {c:List Rat} {p:List Int} (h:PaOk [c] p):∃ k:Int,p = [k] /\ 0 <= k /\ k <= (c.length:Int):=by
  obtain ⟨hl,hz⟩:=h
  match p,hl with
  | [k],_=>exact ⟨k,rfl,hz (c,k) List.mem_cons_self⟩
theorem PaOk.two {c d:List Rat} {p:List Int} (h:PaOk [c,d] p):∃ k j:Int,p = [k,j] /\ (0 <= k /\ k <= (c.length:Int)) /\ 0 <= j /\ j <= (d.length:Int):=by
  obtain ⟨hl,hz⟩:=h
  match p,hl with
  | [k,j],_=>exact ⟨k,j,rfl,hz (c,k) List.mem_cons_self,hz (d,j) (List.mem_cons_of_mem _ List.mem_cons_self)⟩
theorem Sh.at_sm {s:Sh} {p:List Int} (h:s.Ok) (hp:PaOk s.cuts p):qSm 20 (s.at p):=by
  cases s with
  | one c v =>
    obtain ⟨k,rfl,k0,k1⟩:=PaOk.one hp
    obtain ⟨_,hl,hv⟩:=h
    exact hv _ (getD_mem (by show k.toNat < v.length; omega))
  | two c d vs =>
    obtain ⟨k,j,rfl,⟨k0,k1⟩,j0,j1⟩:=PaOk.two hp
    obtain ⟨_,_,hl,hv⟩:=h
    have:=hv _ (getD_mem (d:=[]) (show k.toNat < vs.length by omega))
    exact this.2 _ (getD_mem (by show j.toNat < (vs.getD k.toNat []).length; omega))
theorem ptc_ok {p:List Rat} {s:Sh} (h:p.length = s.cuts.length):PaOk s.cuts (ptc p s.cuts):=by
  refine ⟨by unfold ptc; rw [List.length_map,List.length_zip,h,Nat.min_self],fun z hz=>?_⟩
  have:∀ (p:List Rat) (cs:List (List Rat)),∀ z ∈ cs.zip (ptc p cs),0 <= z.2 /\ z.2 <= (z.1.length:Int):=by
    intro p
    induction p with
    | nil=>intro cs z hz; simp [ptc] at hz
    | cons x p ih =>
      intro cs z hz
      cases cs with
      | nil=>simp at hz
      | cons c cs =>
        have e:(c :: cs).zip (ptc (x :: p) (c :: cs)) = (c,(stN x c:Int)) :: cs.zip (ptc p cs):=rfl
        rw [e] at hz
        rcases List.mem_cons.mp hz with rfl | hz
        · have:=stN_le x c
          dsimp only
          omega
        · exact ih cs z hz
  exact this p s.cuts z hz
theorem sum_sm {n:Nat}:∀ (qs:List Rat) (m:Nat) (a:Rat),qSm m a -> (∀ q ∈ qs,qSm n q) -> qSm (m + (n + 1) * qs.length) (qs.foldl (· + ·) a)
  | [],m,a,ha,_=>by simpa using ha
  | q :: qs,m,a,ha,h=>by
    have:=sum_sm qs (m + n + 1) (a + q) (add_sm ha (h q List.mem_cons_self)) fun r hr=>h r (List.mem_cons_of_mem _ hr)
    rw [List.foldl_cons]
    refine this.mono ?_
    rw [List.length_cons,Nat.mul_succ]; omega
theorem q0s:qSm 1 0:=⟨by decide,by decide⟩
theorem q1s:qSm 1 1:=⟨by decide,by decide⟩
theorem sumQ_sm {n:Nat} {qs:List Rat} (h:∀ q ∈ qs,qSm n q):qSm (1 + (n + 1) * qs.length) (sumQ qs):=sum_sm qs 1 0 q0s h
theorem qd_div (q:Rat) {n:Int} (h : 0 < n):qd q.num (q.den * n) = q / qd n 1:=by
  have es:=qd_self q
  have dp:=den_p q
  unfold qd at *
  rw [Rat.intCast_mul]
  have h1:=rat_ne h
  have h2:=rat_ne dp
  generalize (q.num:Rat) = x at *
  generalize ((q.den:Int):Rat) = y at *
  generalize (n:Rat) = z at *
  have e1:((1:Int):Rat) = 1:=rfl
  rw [<- es,e1]
  grind
theorem shD_i {a b:Sh}:shD a = shD b ↔ a = b:=by
  constructor
  · intro h
    unfold shD at h
    simp only [PyData.tuple.injEq,List.cons.injEq,and_true,ptsQ_i] at h
    obtain ⟨h1,h2⟩:=h
    cases a with
    | one c v=>cases b with
      | one c' v' =>
        simp only [Sh.cuts,List.cons.injEq,and_true] at h1
        have h2:ptD v = ptD v':=h2
        rw [h1,ptD_i.mp h2]
      | two c' d' vs'=>simp [Sh.cuts] at h1
    | two c d vs=>cases b with
      | one c' v'=>simp [Sh.cuts] at h1
      | two c' d' vs' =>
        simp only [Sh.cuts,List.cons.injEq,and_true] at h1
        have h2:ptsQ vs = ptsQ vs':=h2
        rw [h1.1,h1.2,ptsQ_i.mp h2]
  · rintro rfl; rfl
theorem item_sh0 (s:Sh):itemAt (shD s) 0 = some (ptsQ s.cuts):=rfl
theorem item_sh1 (s:Sh):itemAt (shD s) 1 = some s.vD:=rfl
theorem loop_nil (fl:List Nat) (b:PyData -> En -> Mo Fl) (ρ:En):loopM fl b [] ρ = ret (.nx ρ):=nr rfl
theorem loop_cons (fl:List Nat) (b:PyData -> En -> Mo Fl) (x:PyData) (xs:List PyData) (ρ:En):loopM fl b (x :: xs) ρ = bnd (b x ρ) (lpK fl (loopM fl b xs)):=nr rfl
theorem lpK_nx (fl:List Nat) (k:En -> Mo Fl) (ρ:En):lpK fl k (.nx ρ) = k (fo fl ρ):=nr rfl
theorem lpK_rt (fl:List Nat) (k:En -> Mo Fl) (w:W):lpK fl k (.rt w) = ret (.rt w):=nr rfl
theorem seqD_tI (xs:List Int):seqD (tupI xs) = some (xs.map .int):=rfl
theorem tupD_tI (xs:List Int):tupD (tupI xs) = some (xs.map .int):=rfl
theorem item_tI (xs:List Int) (i:Int):itemAt (tupI xs) i = (atI xs i).map .int:=atI_map _ _ _
theorem lenD_tI (xs:List Int):lenD (tupI xs) = some xs.length:=by show some (xs.map PyData.int).length = _; rw [List.length_map]
theorem tup_of (xs:List Int):PyData.tuple (xs.map PyData.int) = tupI xs:=rfl
theorem pt_of (xs:List Rat):PyData.tuple (xs.map fr) = ptD xs:=rfl
theorem pts_of (xs:List (List Rat)):PyData.tuple (xs.map ptD) = ptsQ xs:=rfl
theorem map_ints {α:Type} (l:List α) (f : α -> Int):l.map (fun z=>PyData.int (f z)) = (l.map f).map .int:=by rw [List.map_map]; rfl
theorem map_lsts {α:Type} (l:List α) (f : α -> List Int):l.map (fun z=>lstI (f z)) = (l.map f).map lstI:=by rw [List.map_map]; rfl
theorem map_frs {α:Type} (l:List α) (f : α -> Rat):l.map (fun z=>fr (f z)) = (l.map f).map fr:=by rw [List.map_map]; rfl
theorem lsts_i {a b:List (List Int)}:a.map lstI = b.map lstI ↔ a = b:=map_inj_of fun _ _=>lstI_inj
theorem getD_of {α:Type} {xs:List α} {k:Nat} {d : α} (h:k < xs.length):xs.getD k d = xs[k]:=by rw [List.getD_eq_getElem?_getD,List.getElem?_eq_getElem h]; rfl
theorem atI_getD {α:Type} {xs:List α} {i:Int} (d : α) (h0 : 0 <= i) (h1:i < (xs.length:Int)):atI xs i = some (xs.getD i.toNat d):=by rw [atI_at h0 h1,getD_of (by omega)]
def BSH:=And.intro @item_sh0 (And.intro @item_sh1 (And.intro @seqD_tI (And.intro @tupD_tI (And.intro @item_tI (And.intro @lenD_tI (And.intro @tup_of (And.intro @pt_of (And.intro @lpK_nx (@lpK_rt)))))))))
theorem Sh.cut60 {s:Sh} (h:s.Ok):∀ c ∈ s.cuts,c.length <= 60 /\ ∀ q ∈ c,qSm 60 q:=by
  intro c hc
  cases s with
  | one a v =>
    rw [List.mem_singleton.mp hc]
    exact ⟨by have:=h.1.len; omega,fun q hq=>(h.1.sm q hq).mono (by decide)⟩
  | two a b vs =>
    rcases List.mem_cons.mp hc with rfl | hc
    · exact ⟨by have:=h.1.len; omega,fun q hq=>(h.1.sm q hq).mono (by decide)⟩
    · rw [List.mem_singleton.mp hc]
      exact ⟨by have:=h.2.1.len; omega,fun q hq=>(h.2.1.sm q hq).mono (by decide)⟩
theorem Sh.cut6 {s:Sh} (h:s.Ok):∀ c ∈ s.cuts,CutOk 6 c:=by
  intro c hc
  cases s with
  | one a v =>
    rw [List.mem_singleton.mp hc]
    exact h.1
  | two a b vs =>
    have up:∀ c,CutOk 3 c -> CutOk 6 c:=fun c ⟨d,as,h1,h2,h3,h4⟩=>⟨d,as,h1,h2,by omega,h4⟩
    rcases List.mem_cons.mp hc with rfl | hc
    · exact up _ h.1
    · rw [List.mem_singleton.mp hc]; exact up _ h.2.1
theorem Sh.cl (s:Sh):s.cuts.length <= 2:=by cases s <;> simp [Sh.cuts]
theorem sizeP_sm {cs:List (List Rat)} {p:List Int} (hl:cs.length <= 2) (hc:∀ c ∈ cs,CutOk 6 c) (hp:PaOk cs p):qSm 40 (sizeP cs p):=by
  have hm:∀ z ∈ cs.zip p,qSm 20 (lenQ z.1 z.2):=fun z mz=>len_sm (hc _ (List.of_mem_zip mz).1) (hp.2 z mz).1 (hp.2 z mz).2
  have ll:(cs.zip p).length <= 2:=by rw [List.length_zip]; omega
  unfold sizeP prodQ
  generalize cs.zip p = l at hm ll
  match l,ll,hm with
  | [],_,_=>exact q1s.mono (by decide)
  | [z],_,hm =>
    show qSm 40 (1 * _)
    rw [Rat.one_mul]
    exact (hm z List.mem_cons_self).mono (by decide)
  | [z,y],_,hm =>
    show qSm 40 (1 * _ * _)
    rw [Rat.one_mul]
    exact mul_sm (hm z List.mem_cons_self) (hm y (List.mem_cons_of_mem _ List.mem_cons_self))
theorem pch_len {s:Sh} (h:s.Ok):(pch s.cuts).length <= 16:=by
  cases s with
  | one c v =>
    show (chI _).length <= 16
    rw [Sh.cuts,List.map_cons,List.map_nil,chI1,List.length_map,intR_length]
    have:=h.1.len; omega
  | two c d vs =>
    show (chI _).length <= 16
    rw [Sh.cuts,List.map_cons,List.map_cons,List.map_nil,chI2,List.length_flatMap]
    have h1:=h.1.len
    have h2:=h.2.1.len
    simp only [List.length_map,intR_length,List.map_const',List.sum_replicate_nat]
    exact Nat.le_trans (Nat.mul_le_mul (show _ <= 4 by omega) (show _ <= 4 by omega)) (by decide)
def trm (s:Sh) (p:List Int):Rat:=s.at p * sizeP s.cuts p
theorem trm_sm {s:Sh} (h:s.Ok) {p:List Int} (hp:PaOk s.cuts p):qSm 60 (trm s p):=mul_sm (s.at_sm h hp) (sizeP_sm s.cl (s.cut6 h) hp)
theorem whole_sm {s:Sh} (h:s.Ok):qSm 1000 (wholeQ s):=by
  have hm:∀ q ∈ (pch s.cuts).map (trm s),qSm 60 q:=fun q mq=>by
    obtain ⟨p,mp,rfl⟩:=List.mem_map.mp mq
    exact trm_sm h (s.pch_ok p mp)
  refine (sumQ_sm hm).mono ?_
  have:=pch_len h
  rw [List.length_map]; omega
theorem fr_int (n:Int):PyData.tuple [.int n,.int 1] = fr (qd n 1):=by
  have e:qd n 1 = (n:Rat):=by unfold qd; have:((1:Int):Rat) = 1:=rfl; rw [this]; grind
  rw [e]; rfl
theorem cdiv_b {a b:Int} {k:Nat} (h:b ≠ 0) (hz:b.natAbs < 2 ^ k) (hk:k <= 9000):CDivB a b:=⟨h,Nat.lt_of_lt_of_le hz (Nat.pow_le_pow_right (by decide) hk)⟩
theorem CutOk.in01 {n:Nat} {c:List Rat} (h:CutOk n c):∀ q ∈ c,0 <= q /\ q < 1:=by
  obtain ⟨d,as,d0,_,_,rfl,ha,_⟩:=h
  intro q hq
  obtain ⟨a,ma,rfl⟩:=List.mem_map.mp hq
  exact ⟨qd_nn d0 (Int.le_of_lt (ha a ma).1),qd_lt1 d0 (ha a ma).2⟩
theorem prodl_sm (l:List (List Rat × Int)) (hl:l.length <= 2) (hm:∀ z ∈ l,qSm 20 (lenQ z.1 z.2)) (j:Nat):qSm 190 (prodQ ((l.map fun z=>lenQ z.1 z.2).take j)):=by
  have h:=prod_sm2 ((l.map fun z=>lenQ z.1 z.2).take j)
  have key:∀ (qs:List Rat),qs.length <= 2 -> (∀ q ∈ qs,qSm 20 q) -> qSm 190 (prodQ qs)
    | [],_,_=>q1s.mono (by decide)
    | [q],_,hq=>by
      show qSm 190 (1 * q)
      rw [Rat.one_mul]; exact (hq q List.mem_cons_self).mono (by decide)
    | [q,r],_,hq=>by
      show qSm 190 (1 * q * r)
      rw [Rat.one_mul]; exact (mul_sm (hq q List.mem_cons_self) (hq r (List.mem_cons_of_mem _ List.mem_cons_self))).mono (by decide)
  refine key _ (by rw [List.length_take,List.length_map]; omega) fun q mq=>?_
  obtain ⟨z,mz,rfl⟩:=List.mem_map.mp (List.mem_of_mem_take mq)
  exact hm z mz
end L2.VL

namespace K86
open PySem PySem.Spec PyProof.Rows L2 L2.VL
local macro_rules | `(tactic| simp_arith only [$xs,*])=>`(tactic| simp (maxSteps:=2000000) (disch:=(first | assumption | omega | decide)) only [BMON0,BITE0,BEXP0,BEXP1,BEXP2,BSTM0,BSTM1,BPRJ0,BPRJ1,BPRJ2,BLST0,BLST1,zipO,slI,slM,kindB,startV,frEn,W.cap,lpQ,List.replicate,id,↓reduceIte,if_true,Nat.reduceAdd,Nat.reduceSub,Nat.reduceLeDiff,Int.cast_ofNat_Int,Int.reduceBEq,Int.reduceSub,Int.reduceAdd,Int.reduceLT,Int.reduceLE,Int.reduceMul,Int.reduceNeg,reduceCtorEq,isNonD,$xs,*])
local macro_rules | `(tactic| simp_arith only [$xs,*] at $h:ident)=>`(tactic| simp only [List.cons.injEq,W.d.injEq,PyData.int.injEq,PyData.bool.injEq,PyData.str.injEq,PyData.list.injEq,PyData.tuple.injEq,tupI_inj,lstI_inj,tupT_inj,map_int_inj,and_true,true_and,reduceCtorEq,$xs,*] at $h:ident)
section
variable {P:Program} {w:World} {K:PySem.W.Frag} {mg:Str -> Option Value} {base:Heap} {rl:RlT} {al:Option Addr}
def preF (ws:List W):Prop:=∃ ns:List Int,ws = [.sc ns] /\ ns.length <= 63
theorem cutS {α:Type} (xs:List α) (f : α -> PyData) (k:Nat):VL.cutD (xs.map f) none (some (k:Int)) = (xs.take k).map f:=by
  unfold VL.cutD
  rw [HT.sIx_none,HT.sIx_nat,List.drop_zero,List.length_map,Nat.sub_zero,<- List.map_take]
  congr 1
  by_cases z:k <= xs.length
  · rw [Nat.min_eq_left z]
  · rw [Nat.min_eq_right (by omega),List.take_of_length_le (by omega),List.take_of_length_le (by omega)]
theorem sc__law_feed:FnScope ["_law_script"] ["_law_script"] (defScope (top 28)):=⟨rfl,rfl,rfl,by decide +kernel,rfl,by decide +kernel,by decide +kernel⟩
theorem d__law_feed (Fn:FnIn K mg "_law_feed" (top 28) ["_law_script"]) (Z:Bz mg):DfnR P w K mg base "_law_feed" ["_law_script"] 2 preF:=by
  have sc:=sc__law_feed
  obtain ⟨f,fd,hm,F,hb⟩:=Fn.ex
  refine ⟨f,fd,hm,F.kp,hb,?_⟩
  refine F.ok (k:=1) sc (fun vs H Q E h=>?_) (fun cdv A outer s H vs Q E hr h=>?_)
  · obtain ⟨F,ws,_,r,_,⟨ns,rfl,_⟩,_⟩:=h
    have:=Paired.length r
    simpa using this
  · obtain ⟨F,ws,sm,r,ao,⟨ns,rfl,hn⟩,fin⟩:=h
    obtain ⟨T,p,kk⟩:=feed_body (X:=(cxOf CX0 P w K mg base ["_law_script"] "_law_feed" (defScope (top 28)) f cdv A outer s H E).nox) (v_listof Z.list_ (pvs_cons (v_slSc (vn 0) vo_none (vo_some pv_int)) pvs_nil))
    refine ⟨T,p,kk (vr_start sm (fun _ z=>by cases z) r ao) _ ?_ fin⟩
    simp_arith only [len_ok]
    exact ⟨ns.take 63,by rw [show (63:Int) = ((63:Nat):Int) from rfl,cutS],by rw [List.length_take]; omega⟩
def p__law_draw:List W -> (PyData -> Prop) -> Prop:=fun ws Q=>∃ (m:Int),ws = [.reel,.d (.int m)] /\ ((0 < m) /\ (m < 2 ^ 60)) /\ ∀ k:Int,(0 <= k /\ k < m) -> Q (.int k)
theorem p__law_draw.mono:∀ ws (Q Q':PyData -> Prop),(∀ d,Q d -> Q' d) -> p__law_draw ws Q -> p__law_draw ws Q':=fun _ _ _ h_ ⟨m,e_,p_,q_⟩=>⟨m,e_,p_,fun o_ ho_=>h_ _ (q_ o_ ho_)⟩
theorem p__law_draw.len:∀ ws (Q:PyData -> Prop),p__law_draw ws Q -> ws.length = 2:=fun _ _ ⟨_,e_,_⟩=>by subst e_; rfl
theorem p__law_draw.eq (m:Int) (hm : 0 < m) (hb:m < 2 ^ 60):p__law_draw [.reel,.d (.int m)] = bnd (anyM fun k:Int=>0 <= k /\ k < m) fun k=>VL.ret (.int k:PyData):=by
  refine mo_ext fun Q=>⟨?_,fun q_=>⟨m,rfl,⟨hm,hb⟩,q_⟩⟩
  rintro ⟨m',e_,_,q_⟩
  simp_arith only [and_true] at e_
  obtain rfl:=e_
  exact q_
theorem sc__law_draw:FnScope ["_law_feed_here", "_law_many", "_law_found", "_law_at_here", "_law_cells", "_law_cell", "_law_number_here"] ["_law_feed_here", "_law_many"] (defScope (top 29)):=⟨rfl,rfl,rfl,by decide +kernel,rfl,by decide +kernel,by decide +kernel⟩
theorem d__law_draw (Fn:FnIn K mg "_law_draw" (top 29) ["_law_feed_here", "_law_many"]) (Z:Bz mg)    : DfnC P w K mg base al 1 "_law_draw" ["_law_feed_here", "_law_many"] 1 p__law_draw:=by
  have sc:=sc__law_draw
  refine DfnC.of Fn sc (p__law_draw.mono) (p__law_draw.len) (fun cdv A outer s H E hr=>(cs_cons (cs fun _=>(vs_if (vb_cmp op_gt vo_gt (nomark _) (v_rget (i:=0) (hr.mono (Nat.zero_le _))) pv_int) (vs_cons (vs_setZ 2 sc.nd (v_mod (v_rget (i:=0) (hr.mono (Nat.zero_le _))) (vn 1)))
      (vs_cons (vs_rput (i:=0) (hr.mono (Nat.zero_le _)) (v_div (v_rget (i:=0) (hr.mono (Nat.zero_le _))) (vn 1)))
      (vs_one (vs_ret (vn 2))))) vs_nil))
      (cs_bump 3 0 (hr.mono (Nat.zero_le _)) sc.nd (by decide) (cs_cons (cs fun _=>(vs_setZ 4 sc.nd (v_rcells (i:=0) (hr.mono (Nat.zero_le _)))))
      (cs_cons (cs fun _=>(vs_setZ 5 sc.nd (v_ifExp (vb_cmp (op_neD hr.units) vo_eqD (nomark _) (vn 4) (v_lst pvs_nil)) (v_ix (vn 4) (v_mod (vn 3) (v_len Z.len_ (pvs_cons (vn 4) pvs_nil)))) (v_mul (vn 3) (vn 3)))))
      (cs_cons (cs fun _=>(vs_if (PBW.pb (vb_and (vb_cmp op_ge vo_ge (nomark _) (vn 5) (v_pow pv_int pv_int)) (vb_and1 (vb_cmp op_lt vo_lt (nomark _) (vn 3) (v_len Z.len_ (pvs_cons (vn 4) pvs_nil)))))) (vs_cons (vs_rput (i:=0) (hr.mono (Nat.zero_le _)) (v_div (vn 5) (vn 1)))
      (vs_one (vs_ret (v_mod (vn 5) (vn 1))))) vs_nil))
      (cs_cons (cs fun _=>(vs_setZ 6 sc.nd (v_mod (v_mul (v_add (v_mod (vn 5) pv_int) pv_int) (v_add pv_int (v_mul pv_int (vn 3)))) pv_int)))
      (cs_one (cs fun _=>(vs_ret (v_mod (v_div (v_mod (v_add (v_mul (vn 6) pv_int) (v_mul (v_mul (vn 3) (vn 3)) pv_int)) pv_int) pv_int) (vn 1)))))))))))) (by decide) ?_
  rintro ws Q ⟨m,rfl,⟨hm,hb⟩,hQ⟩
  have hm0:m ≠ 0:=by omega
  have hmd:∀ i:Int,CDivB i m:=fun i=>CDivB.of hm0 (by omega)
  have fm:∀ i:Int,0 <= i.fmod m /\ i.fmod m < m:=fun i=>⟨Int.fmod_nonneg_of_pos _ hm,Int.fmod_lt_of_pos _ hm⟩
  refine read_of ?_
  simp_arith only [grd_t,len_ok,m_vRN,m_vRC,s_rput,s_bump,asR_r,s_forC,m_compC,rangeD_length]
  (with_reducible (first | refine any_step fun l hl=>?_ | refine sqb_any fun l hl=>?_))
  try rw [sq_ite]
  refine ite_step (fun _=>?_) fun _=>?_
  · simp_arith only [grd_t,len_ok,m_vRN,m_vRC,s_rput,s_bump,asR_r,s_forC,m_compC,rangeD_length]
    (with_reducible (first | refine any_step fun l2 hl2=>?_ | refine sqb_any fun l2 hl2=>?_))
    try simp_arith only [grd_t,len_ok,m_vRN,m_vRC,s_rput,s_bump,asR_r,s_forC,m_compC,rangeD_length]
    (with_reducible (first | refine any_step fun l3 hl3=>?_ | refine sqb_any fun l3 hl3=>?_))
    have h0:=Int.fdiv_nonneg hl3 (show 0 <= m by omega)
    try simp_arith only [grd_t,len_ok,m_vRN,m_vRC,s_rput,s_bump,asR_r,s_forC,m_compC,rangeD_length]
    exact grd_step (hmd _) (rt_end (hQ _ (fm _)))
  · simp_arith only [grd_t,len_ok,m_vRN,m_vRC,s_rput,s_bump,asR_r,s_forC,m_compC,rangeD_length]
    refine any_step fun n hn=>?_
    have h59:n.natAbs < 2 ^ 59990:=by
      have h1:=hn.2
      rw [<- Int.natAbs_of_nonneg hn.1] at h1
      exact_mod_cast h1
    have bn:Big n:=Nat.lt_of_lt_of_le h59 (Nat.pow_le_pow_right (by decide) (by decide))
    have c2:CMulB n n:=.bb bn bn
    have c3:CMulB 7919 n:=.lt (by decide)
    have c4:∀ z:Int,CMulB z 69621:=fun z=>.rt (by decide)
    have c5:∀ z:Int,CMulB z 40692:=fun z=>.rt (by decide)
    have d5:∀ z:Int,CDivB z 5:=fun z=>CDivB.of (by decide) (by decide)
    have cq:∀ z y:Int,CMulB (z.fmod 2147483629 + 1) y:=fun z y=>.lt (by
      have h1:=Int.fmod_nonneg_of_pos z (show (0:Int) < 2147483629 by decide)
      have h2:=Int.fmod_lt_of_pos z (show (0:Int) < 2147483629 by decide)
      omega)
    (with_reducible (first | refine any_step fun ns hl=>?_ | refine sqb_any fun ns hl=>?_))
    try simp_arith only [grd_t,len_ok,m_vRN,m_vRC,s_rput,s_bump,asR_r,s_forC,m_compC,rangeD_length,List.length_map]
    refine grd_step (shaped_ints ns) (ite_step (fun he=>?_) fun he=>?_)
    · have hz:(0:Int) < (ns.length:Int):=by
        cases ns with
        | nil=>exact absurd he (by decide)
        | cons a l=>simp only [List.length_cons]; omega
      obtain ⟨z,ez,_⟩:=at_in (xs:=ns) (Int.fmod_nonneg_of_pos n hz) (Int.fmod_lt_of_pos n hz)
      have ea:atI (ns.map PyData.int) (n.fmod (ns.length:Int)) = some (.int z):=by rw [L2.VL.atI_map,ez]; rfl
      refine grd_step (by omega) ?_
      simp_arith only [grd_t,len_ok,m_vRN,m_vRC,s_rput,s_bump,asR_r,s_forC,m_compC,rangeD_length,ea,List.length_map,cq,c3,c4,c5,c2,d5]
      refine grd_step (show CPow 10 18 from ⟨by decide,by decide,by decide⟩) (ite_step (fun h=>?_) fun _=>rt_end (hQ _ (fm _)))
      rw [Bool.and_eq_true] at h
      have z0 : 0 <= z:=Int.le_trans (by decide) (of_decide_eq_true h.1)
      exact grd_step (hmd _) (grd_step (Int.fdiv_nonneg z0 (by omega)) (rt_end (hQ _ (fm _))))
    · simp_arith only [grd_t,len_ok,m_vRN,m_vRC,s_rput,s_bump,asR_r,s_forC,m_compC,rangeD_length,List.length_map,cq,c3,c4,c5,c2,d5]
      refine grd_step (show CPow 10 18 from ⟨by decide,by decide,by decide⟩) (ite_step (fun h=>?_) fun _=>rt_end (hQ _ (fm _)))
      rw [Bool.and_eq_true] at h
      have z0 : 0 <= n * n:=Int.le_trans (by decide) (of_decide_eq_true h.1)
      exact grd_step (hmd _) (grd_step (Int.fdiv_nonneg z0 (by omega)) (rt_end (hQ _ (fm _))))
def p_common_divisor:List W -> (PyData -> Prop) -> Prop:=fun ws Q=>∃ (i j:Int),ws = [.d (.int i),.d (.int j)] /\ (True) /\ Q (.int (Int.gcd i j:Nat))
theorem p_common_divisor.mono:∀ ws (Q Q':PyData -> Prop),(∀ d,Q d -> Q' d) -> p_common_divisor ws Q -> p_common_divisor ws Q':=fun _ _ _ h_ ⟨i,j,e_,p_,q_⟩=>⟨i,j,e_,p_,h_ _ q_⟩
theorem p_common_divisor.len:∀ ws (Q:PyData -> Prop),p_common_divisor ws Q -> ws.length = 2:=fun _ _ ⟨_,_,e_,_⟩=>by subst e_; rfl
theorem p_common_divisor.eq (i j:Int)  : p_common_divisor [.d (.int i),.d (.int j)] = VL.ret (.int (Int.gcd i j:Nat):PyData):=by
  refine mo_ext fun Q=>⟨?_,fun q_=>⟨i,j,rfl,trivial,q_⟩⟩
  rintro ⟨i',j',e_,_,q_⟩
  simp_arith only [and_true] at e_
  obtain ⟨rfl,rfl⟩:=e_
  exact q_
theorem sc_common_divisor:FnScope ["one", "other"] ["one", "other"] (defScope (top 6)):=⟨rfl,rfl,rfl,by decide +kernel,rfl,by decide +kernel,by decide +kernel⟩
theorem d_common_divisor (Fn:FnIn K mg "common_divisor" (top 6) ["one", "other"]) (Z:Bz mg)    : Dfn P w K mg base rl "common_divisor" ["one", "other"] 1 p_common_divisor:=by
  have sc:=sc_common_divisor
  refine Dfn.of Fn sc (p_common_divisor.mono) (p_common_divisor.len) (fun cdv A outer s H E hr=>(vs_cons (vs_whileF [] PassesOwn.never (vb_cmp (op_neD hr.units) vo_eqD (nomark _) (vn 1) pv_int) (vs_one (vs_par 0 1 rfl sc.nd (pvs_cons (vn 1) (pvs_cons (v_mod (vn 0) (vn 1)) pvs_nil)))))
      (vs_one (vs_ret (v_abs Z.abs_ (pvs_cons (vn 0) pvs_nil)))))) ?_
  rintro ws Q ⟨i,j,rfl,_,hQ⟩
  refine read_of ?_
  simp_arith only [len_ok]
  refine while_go (σ:=Int × Int) (fun s=>[some (.d (.int s.1)),some (.d (.int s.2))]) (fun s=>!(s.2 == 0)) (fun s=>(s.2,s.1.fmod s.2)) (fun s=>s.2.natAbs) (fun s=>Int.gcd s.1 s.2 = Int.gcd i j) (i,j) rfl rfl ?_ ?_ ?_
  · intro s _
    simp_arith only [len_ok]
  · intro s e c
    have hc:s.2 ≠ 0:=by simpa using c
    refine ⟨by rw [gcd_fmod]; exact e,fmod_abs_lt hc,_,?_,rfl⟩
    simp_arith only [grd_t,len_ok]
  · intro s e c
    have hc:s.2 = 0:=by simpa using c
    simp_arith only [len_ok]
    rw [hc,Int.gcd_zero_right] at e
    refine rt_end ?_
    have:(if s.1 < 0 then -s.1 else s.1) = ((Int.gcd i j:Nat):Int):=by rw [<- e]; split <;> omega
    rw [this]
    exact hQ
def p_fraction:List W -> (PyData -> Prop) -> Prop:=fun ws Q=>∃ (a b:Int),ws = [.d (.int a),.d (.int b)] /\ ((b ≠ 0) /\ (b.natAbs < 2 ^ 8000)) /\ Q (fr (qd a b))
theorem p_fraction.mono:∀ ws (Q Q':PyData -> Prop),(∀ d,Q d -> Q' d) -> p_fraction ws Q -> p_fraction ws Q':=fun _ _ _ h_ ⟨a,b,e_,p_,q_⟩=>⟨a,b,e_,p_,h_ _ q_⟩
theorem p_fraction.len:∀ ws (Q:PyData -> Prop),p_fraction ws Q -> ws.length = 2:=fun _ _ ⟨_,_,e_,_⟩=>by subst e_; rfl
theorem p_fraction.eq (a b:Int) (hb:b ≠ 0) (hz:b.natAbs < 2 ^ 8000):p_fraction [.d (.int a),.d (.int b)] = VL.ret (fr (qd a b):PyData):=by
  refine mo_ext fun Q=>⟨?_,fun q_=>⟨a,b,rfl,⟨hb,hz⟩,q_⟩⟩
  rintro ⟨a',b',e_,_,q_⟩
  simp_arith only [fr_i,sdD_i,ptD_i,boxD_i,ptsQ_i,frs_i] at e_
  obtain ⟨rfl,rfl⟩:=e_
  exact q_
theorem sc_fraction:FnScope ["top", "bottom", "divisor"] ["top", "bottom"] (defScope (top 7)):=⟨rfl,rfl,rfl,by decide +kernel,rfl,by decide +kernel,by decide +kernel⟩
theorem d_fraction (Fn:FnIn K mg "fraction" (top 7) ["top", "bottom"]) (Z:Bz mg) (d_common_divisor:∀ rl,Dfn P w K mg base rl "common_divisor" ["one", "other"] 1 p_common_divisor)   : Dfn P w K mg base rl "fraction" ["top", "bottom"] 2 p_fraction:=by
  have sc:=sc_fraction
  refine Dfn.of Fn sc (p_fraction.mono) (p_fraction.len) (fun cdv A outer s H E hr=>(vs_cons (vs_if (vb_cmp (op_eqD hr.units) vo_eqD (nomark _) (vn 1) pv_int) (vs_one vs_never) vs_nil)
      (vs_cons (vs_setZ 2 sc.nd (v_call (d_common_divisor _) (hr.mono (by decide)) (pvs_cons (vn 0) (pvs_cons (vn 1) pvs_nil))))
      (vs_cons (vs_if (vb_cmp op_lt vo_lt (nomark _) (vn 1) pv_int) (vs_one (vs_setZ 2 sc.nd (v_neg (vn 2)))) vs_nil)
      (vs_one (vs_ret (v_tup (pvs_cons (v_div (vn 0) (vn 2)) (pvs_cons (v_div (vn 1) (vn 2)) pvs_nil))))))))) ?_
  rintro ws Q ⟨a,b,rfl,⟨hb,hz⟩,hQ⟩
  refine read_of ?_
  have h0:(b == 0) = false:=by simp; omega
  have g0:(Int.gcd a b:Int) ≠ 0:=by have:=Int.gcd_ne_zero_right (a:=a) hb; omega
  have gz:((Int.gcd a b:Int)).natAbs < 2 ^ 9000:=by
    rw [Int.natAbs_natCast]
    have h1:Int.gcd a b <= b.natAbs:=Nat.le_of_dvd (by omega) (Int.gcd_dvd_natAbs_right ..)
    exact Nat.lt_of_le_of_lt h1 (Nat.lt_of_lt_of_le hz (Nat.pow_le_pow_right (by decide) (by decide)))
  have c1:CDivB a (Int.gcd a b:Int):=⟨g0,gz⟩
  have c2:CDivB b (Int.gcd a b:Int):=⟨g0,gz⟩
  have c3:CDivB a (-(Int.gcd a b:Int)):=⟨by omega,by rw [Int.natAbs_neg]; exact gz⟩
  have c4:CDivB b (-(Int.gcd a b:Int)):=⟨by omega,by rw [Int.natAbs_neg]; exact gz⟩
  by_cases hn:b < 0
  · have h1:decide (b < 0) = true:=by simpa using hn
    simp_arith only [grd_t,len_ok,p_common_divisor.eq,h0,h1]
    rw [low_qdn hn]
    exact rt_end hQ
  · have h1:decide (b < 0) = false:=by simpa using hn
    simp_arith only [grd_t,len_ok,p_common_divisor.eq,h0,h1]
    rw [low_qd (by omega)]
    exact rt_end hQ
def p_less:List W -> (PyData -> Prop) -> Prop:=fun ws Q=>∃ (q r:Rat),ws = [.d (fr q),.d (fr r)] /\ ((qSm 2000 q) /\ (qSm 2000 r)) /\ Q (fr (q - r))
theorem p_less.mono:∀ ws (Q Q':PyData -> Prop),(∀ d,Q d -> Q' d) -> p_less ws Q -> p_less ws Q':=fun _ _ _ h_ ⟨q,r,e_,p_,q_⟩=>⟨q,r,e_,p_,h_ _ q_⟩
theorem p_less.len:∀ ws (Q:PyData -> Prop),p_less ws Q -> ws.length = 2:=fun _ _ ⟨_,_,e_,_⟩=>by subst e_; rfl
theorem p_less.eq (q r:Rat) (h1:qSm 2000 q) (h2:qSm 2000 r):p_less [.d (fr q),.d (fr r)] = VL.ret (fr (q - r):PyData):=by
  refine mo_ext fun Q=>⟨?_,fun q_=>⟨q,r,rfl,⟨h1,h2⟩,q_⟩⟩
  rintro ⟨q',r',e_,_,q_⟩
  simp_arith only [fr_i,sdD_i,ptD_i,boxD_i,ptsQ_i,frs_i] at e_
  obtain ⟨rfl,rfl⟩:=e_
  exact q_
theorem sc_less:FnScope ["one", "other"] ["one", "other"] (defScope (top 8)):=⟨rfl,rfl,rfl,by decide +kernel,rfl,by decide +kernel,by decide +kernel⟩
theorem d_less (Fn:FnIn K mg "less" (top 8) ["one", "other"]) (Z:Bz mg) (d_fraction:∀ rl,Dfn P w K mg base rl "fraction" ["top", "bottom"] 2 p_fraction)   : Dfn P w K mg base rl "less" ["one", "other"] 3 p_less:=by
  have sc:=sc_less
  refine Dfn.of Fn sc (p_less.mono) (p_less.len) (fun cdv A outer s H E hr=>(vs_one (vs_ret (v_call (d_fraction _) (hr.mono (by decide)) (pvs_cons (v_sub (v_mul (v_ix (vn 0) pv_int) (v_ix (vn 1) pv_int)) (v_mul (v_ix (vn 1) pv_int) (v_ix (vn 0) pv_int))) (pvs_cons (v_mul (v_ix (vn 0) pv_int) (v_ix (vn 1) pv_int)) pvs_nil)))))) ?_
  rintro ws Q ⟨q,r,rfl,⟨h1,h2⟩,hQ⟩
  refine read_of ?_
  have m1:CMulB q.num r.den:=.bb h1.bn h2.bd
  have m2:CMulB r.num q.den:=.bb h2.bn h1.bd
  have m3:CMulB q.den r.den:=.bb h1.bd h2.bd
  have m4:CMulB q.num r.num:=.bb h1.bn h2.bn
  have d1:(q.den:Int) * r.den ≠ 0:=by have:=den_pos q r; omega
  have d2:=den_small h1 h2
  simp_arith only [grd_t,len_ok,p_fraction.eq,BFR,qd_sub]
  exact rt_end hQ
def p_times:List W -> (PyData -> Prop) -> Prop:=fun ws Q=>∃ (q r:Rat),ws = [.d (fr q),.d (fr r)] /\ ((qSm 2000 q) /\ (qSm 2000 r)) /\ Q (fr (q * r))
theorem p_times.mono:∀ ws (Q Q':PyData -> Prop),(∀ d,Q d -> Q' d) -> p_times ws Q -> p_times ws Q':=fun _ _ _ h_ ⟨q,r,e_,p_,q_⟩=>⟨q,r,e_,p_,h_ _ q_⟩
theorem p_times.len:∀ ws (Q:PyData -> Prop),p_times ws Q -> ws.length = 2:=fun _ _ ⟨_,_,e_,_⟩=>by subst e_; rfl
theorem p_times.eq (q r:Rat) (h1:qSm 2000 q) (h2:qSm 2000 r):p_times [.d (fr q),.d (fr r)] = VL.ret (fr (q * r):PyData):=by
  refine mo_ext fun Q=>⟨?_,fun q_=>⟨q,r,rfl,⟨h1,h2⟩,q_⟩⟩
  rintro ⟨q',r',e_,_,q_⟩
  simp_arith only [fr_i,sdD_i,ptD_i,boxD_i,ptsQ_i,frs_i] at e_
  obtain ⟨rfl,rfl⟩:=e_
  exact q_
theorem sc_times:FnScope ["one", "other"] ["one", "other"] (defScope (top 9)):=⟨rfl,rfl,rfl,by decide +kernel,rfl,by decide +kernel,by decide +kernel⟩
theorem d_times (Fn:FnIn K mg "times" (top 9) ["one", "other"]) (Z:Bz mg) (d_fraction:∀ rl,Dfn P w K mg base rl "fraction" ["top", "bottom"] 2 p_fraction)   : Dfn P w K mg base rl "times" ["one", "other"] 3 p_times:=by
  have sc:=sc_times
  refine Dfn.of Fn sc (p_times.mono) (p_times.len) (fun cdv A outer s H E hr=>(vs_one (vs_ret (v_call (d_fraction _) (hr.mono (by decide)) (pvs_cons (v_mul (v_ix (vn 0) pv_int) (v_ix (vn 1) pv_int)) (pvs_cons (v_mul (v_ix (vn 0) pv_int) (v_ix (vn 1) pv_int)) pvs_nil)))))) ?_
  rintro ws Q ⟨q,r,rfl,⟨h1,h2⟩,hQ⟩
  refine read_of ?_
  have m1:CMulB q.num r.den:=.bb h1.bn h2.bd
  have m2:CMulB r.num q.den:=.bb h2.bn h1.bd
  have m3:CMulB q.den r.den:=.bb h1.bd h2.bd
  have m4:CMulB q.num r.num:=.bb h1.bn h2.bn
  have d1:(q.den:Int) * r.den ≠ 0:=by have:=den_pos q r; omega
  have d2:=den_small h1 h2
  simp_arith only [grd_t,len_ok,p_fraction.eq,BFR,qd_mul]
  exact rt_end hQ
def p_sum_of:List W -> (PyData -> Prop) -> Prop:=fun ws Q=>∃ (n:Nat) (qs:List Rat),ws = [.d (.list (qs.map fr))] /\ ((n * qs.length <= 1900) /\ (qs.length <= 60) /\ (n <= 2000) /\ (∀ q ∈ qs,qSm n q)) /\ Q (fr (sumQ qs))
theorem p_sum_of.mono:∀ ws (Q Q':PyData -> Prop),(∀ d,Q d -> Q' d) -> p_sum_of ws Q -> p_sum_of ws Q':=fun _ _ _ h_ ⟨n,qs,e_,p_,q_⟩=>⟨n,qs,e_,p_,h_ _ q_⟩
theorem p_sum_of.len:∀ ws (Q:PyData -> Prop),p_sum_of ws Q -> ws.length = 1:=fun _ _ ⟨_,_,e_,_⟩=>by subst e_; rfl
theorem p_sum_of.eq (n:Nat) (qs:List Rat) (hn:n * qs.length <= 1900) (h1:qs.length <= 60) (n2:n <= 2000) (hq:∀ q ∈ qs,qSm n q):p_sum_of [.d (.list (qs.map fr))] = VL.ret (fr (sumQ qs):PyData):=by
  refine mo_ext fun Q=>⟨?_,fun q_=>⟨n,qs,rfl,⟨hn,h1,n2,hq⟩,q_⟩⟩
  rintro ⟨n',qs',e_,_,q_⟩
  simp_arith only [fr_i,sdD_i,ptD_i,boxD_i,ptsQ_i,frs_i,shD_i,lsts_i] at e_
  obtain ⟨rfl,rfl⟩:=e_
  exact q_
theorem sc_sum_of:FnScope ["some", "bottom", "one"] ["some"] (defScope (top 10)):=⟨rfl,rfl,rfl,by decide +kernel,rfl,by decide +kernel,by decide +kernel⟩
theorem d_sum_of (Fn:FnIn K mg "sum_of" (top 10) ["some"]) (Z:Bz mg) (d_fraction:∀ rl,Dfn P w K mg base rl "fraction" ["top", "bottom"] 2 p_fraction) (d_common_divisor:∀ rl,Dfn P w K mg base rl "common_divisor" ["one", "other"] 1 p_common_divisor)   : Dfn P w K mg base rl "sum_of" ["some"] 3 p_sum_of:=by
  have sc:=sc_sum_of
  refine Dfn.of Fn sc (p_sum_of.mono) (p_sum_of.len) (fun cdv A outer s H E hr=>(vs_cons (vs_setZ 1 sc.nd pv_int)
      (vs_cons (vs_forF [2] PassesOwn.never rfl (vi_list (vn 0)) (vg_name 2 sc.nd) (vs_one (vs_aug 1 sc.nd ip_mulC (v_div (v_ix (vn 2) pv_int) (v_call (d_common_divisor _) (hr.mono (by decide)) (pvs_cons (vn 1) (pvs_cons (v_ix (vn 2) pv_int) pvs_nil)))))))
      (vs_one (vs_ret (v_call (d_fraction _) (hr.mono (by decide)) (pvs_cons (v_sum Z.sum_ (pvs_cons (v_lcompR ["one", "bottom"] [none,some 1] rfl (vi_list (vn 0)) (fun _=>(vg_name 0 (show List.Nodup (["one", "bottom"]:List Str) by decide +kernel))) (fun _=>vt_nil) (fun _=>(v_mul (v_ix (vn 0) pv_int) (v_div (vn 1) (v_ix (vn 0) pv_int))))) pvs_nil)) (pvs_cons (vn 1) pvs_nil)))))))) ?_
  rintro ws Q ⟨n,qs,rfl,⟨hn,h1,n2,hq⟩,hQ⟩
  refine read_of ?_
  have sz:=PySem.sizeLine_eq
  simp_arith only [grd_t,len_ok,p_fraction.eq,p_common_divisor.eq,BFR]
  refine inv_go (xs:=qs) (enc:=fr) (fun i ρ=>∃ B:Int,LcmI n (qs.take i) B /\ ρ = [some (.d (.list (qs.map fr))),some (.d (.int B)),none]) rfl ⟨1,LcmI.nil n,rfl⟩ ?_ ?_
  · rintro i hi ρ ⟨B,hB,rfl⟩ K hK
    have sq:=hq _ (List.getElem_mem hi)
    have s2:qSm 2000 qs[i]:=sq.mono n2
    have st:=hB.step sq
    have dp:=den_p qs[i]
    have gp:(0:Int) < (Int.gcd B qs[i].den:Int):=by have:=Int.gcd_pos_of_ne_zero_right B (show (qs[i].den:Int) ≠ 0 by omega); omega
    have gl:(Int.gcd B qs[i].den:Int) <= qs[i].den:=Int.le_of_dvd dp (Int.gcd_dvd_right ..)
    have bl : B < 2 ^ 2000 := Int.lt_of_lt_of_le hB.z (pow_le_pow (by decide) (by have : n * (qs.take i).length <= n * qs.length := Nat.mul_le_mul_left n (by rw [List.length_take]; omega)
                                                                                  omega))
    have bp:=hB.p
    have db:(qs[i].den:Int) < 2 ^ 2000:=by have:=s2.2; exact_mod_cast this
    have cd:CDivB (qs[i].den:Int) (Int.gcd B qs[i].den:Int):=cdiv_b (k:=2000) (by omega) (abs_lt (by omega) (by omega)) (by decide)
    have ef:(qs[i].den:Int).fdiv (Int.gcd B qs[i].den:Int) = (qs[i].den:Int) / (Int.gcd B qs[i].den:Int):=Int.fdiv_eq_ediv_of_nonneg _ (by omega)
    have q0 : 0 <= (qs[i].den:Int) / (Int.gcd B qs[i].den:Int):=Int.ediv_nonneg (by omega) (by omega)
    have q1:(qs[i].den:Int) / (Int.gcd B qs[i].den:Int) <= qs[i].den:=Int.ediv_le_self _ (by omega)
    have cm:CMulB B ((qs[i].den:Int) / (Int.gcd B qs[i].den:Int)):=.bb (big_of (abs_lt (by omega) bl) (by decide)) (big_of (k:=2000) (abs_lt q0 (by omega)) (by decide))
    simp_arith only [grd_t,len_ok,p_fraction.eq,p_common_divisor.eq,BFR,ef]
    exact hK _ (lpS_nx ⟨_,by rw [List.take_succ_eq_append_getElem hi]; exact st,rfl⟩)
  · rintro ρ ⟨B,hB,rfl⟩
    rw [List.take_of_length_le (Nat.le_refl _)] at hB
    have bl:B < 2 ^ 2000:=Int.lt_of_lt_of_le hB.z (pow_le_pow (by decide) (by omega))
    have bp:=hB.p
    have b0:B ≠ 0:=by omega
    have bz:B.natAbs < 2 ^ 8000:=abs_lt (by omega) (Int.lt_of_lt_of_le bl (pow_le_pow (by decide) (by decide)))
    simp_arith only [grd_t,len_ok,BFR]
    refine cmap_go (xs:=qs) (enc:=fr) (fun q=>.int (q.num * (B / q.den))) rfl ?_ (by omega) ?_
    · intro q mq
      have s2:qSm 2000 q:=(hq q mq).mono n2
      have dp:=den_p q
      have db:(q.den:Int) < 2 ^ 2000:=by have:=s2.2; exact_mod_cast this
      have cd:CDivB B (q.den:Int):=cdiv_b (k:=2000) (by omega) (abs_lt (by omega) (by omega)) (by decide)
      have ef:B.fdiv (q.den:Int) = B / (q.den:Int):=Int.fdiv_eq_ediv_of_nonneg _ (by omega)
      have q0 : 0 <= B / (q.den:Int):=Int.ediv_nonneg (by omega) (by omega)
      have q1:B / (q.den:Int) <= B:=Int.ediv_le_self _ (by omega)
      have cm:CMulB q.num (B / (q.den:Int)):=.bb s2.bn (big_of (k:=2000) (abs_lt q0 (by omega)) (by decide))
      simp_arith only [grd_t,len_ok,itM,BFR,ef]
    · have e:=sum_qd hB.p qs hB.d
      rw [map_ints]
      simp_arith only [grd_t,len_ok,BSM,p_fraction.eq,p_common_divisor.eq,e]
      exact rt_end hQ
def p_is_below:List W -> (PyData -> Prop) -> Prop:=fun ws Q=>∃ (q r:Rat),ws = [.d (fr q),.d (fr r)] /\ ((qSm 2000 q) /\ (qSm 2000 r)) /\ Q (.bool (decide (q < r)))
theorem p_is_below.mono:∀ ws (Q Q':PyData -> Prop),(∀ d,Q d -> Q' d) -> p_is_below ws Q -> p_is_below ws Q':=fun _ _ _ h_ ⟨q,r,e_,p_,q_⟩=>⟨q,r,e_,p_,h_ _ q_⟩
theorem p_is_below.len:∀ ws (Q:PyData -> Prop),p_is_below ws Q -> ws.length = 2:=fun _ _ ⟨_,_,e_,_⟩=>by subst e_; rfl
theorem p_is_below.eq (q r:Rat) (h1:qSm 2000 q) (h2:qSm 2000 r):p_is_below [.d (fr q),.d (fr r)] = VL.ret (.bool (decide (q < r)):PyData):=by
  refine mo_ext fun Q=>⟨?_,fun q_=>⟨q,r,rfl,⟨h1,h2⟩,q_⟩⟩
  rintro ⟨q',r',e_,_,q_⟩
  simp_arith only [fr_i,sdD_i,ptD_i,boxD_i,ptsQ_i,frs_i] at e_
  obtain ⟨rfl,rfl⟩:=e_
  exact q_
theorem sc_is_below:FnScope ["one", "other"] ["one", "other"] (defScope (top 13)):=⟨rfl,rfl,rfl,by decide +kernel,rfl,by decide +kernel,by decide +kernel⟩
theorem d_is_below (Fn:FnIn K mg "is_below" (top 13) ["one", "other"]) (Z:Bz mg)    : Dfn P w K mg base rl "is_below" ["one", "other"] 1 p_is_below:=by
  have sc:=sc_is_below
  refine Dfn.of Fn sc (p_is_below.mono) (p_is_below.len) (fun cdv A outer s H E hr=>(vs_one (vs_ret (v_cmp op_lt vo_lt (nomark _) (v_mul (v_ix (vn 0) pv_int) (v_ix (vn 1) pv_int)) (v_mul (v_ix (vn 1) pv_int) (v_ix (vn 0) pv_int)))))) ?_
  rintro ws Q ⟨q,r,rfl,⟨h1,h2⟩,hQ⟩
  refine read_of ?_
  have m1:CMulB q.num r.den:=.bb h1.bn h2.bd
  have m2:CMulB r.num q.den:=.bb h2.bn h1.bd
  simp_arith only [grd_t,len_ok,BFR,fr_lt]
  exact rt_end hQ
def p_choices:List W -> (PyData -> Prop) -> Prop:=fun ws Q=>∃ (rows:List (List Int)),ws = [.d (.list (rows.map lstI))] /\ ((rows.length <= 2) /\ (∀ r ∈ rows,r.length <= 7)) /\ Q (.list ((chI rows).map tupI))
theorem p_choices.mono:∀ ws (Q Q':PyData -> Prop),(∀ d,Q d -> Q' d) -> p_choices ws Q -> p_choices ws Q':=fun _ _ _ h_ ⟨rows,e_,p_,q_⟩=>⟨rows,e_,p_,h_ _ q_⟩
theorem p_choices.len:∀ ws (Q:PyData -> Prop),p_choices ws Q -> ws.length = 1:=fun _ _ ⟨_,e_,_⟩=>by subst e_; rfl
theorem p_choices.eq (rows:List (List Int)) (h4:rows.length <= 2) (h3:∀ r ∈ rows,r.length <= 7):p_choices [.d (.list (rows.map lstI))] = VL.ret (.list ((chI rows).map tupI):PyData):=by
  refine mo_ext fun Q=>⟨?_,fun q_=>⟨rows,rfl,⟨h4,h3⟩,q_⟩⟩
  rintro ⟨rows',e_,_,q_⟩
  simp_arith only [fr_i,sdD_i,ptD_i,boxD_i,ptsQ_i,frs_i,shD_i,lsts_i] at e_
  obtain rfl:=e_
  exact q_
theorem sc_choices:FnScope ["rows", "chosen", "row"] ["rows"] (defScope (top 15)):=⟨rfl,rfl,rfl,by decide +kernel,rfl,by decide +kernel,by decide +kernel⟩
theorem d_choices (Fn:FnIn K mg "choices" (top 15) ["rows"]) (Z:Bz mg)    : Dfn P w K mg base rl "choices" ["rows"] 1 p_choices:=by
  have sc:=sc_choices
  refine Dfn.of Fn sc (p_choices.mono) (p_choices.len) (fun cdv A outer s H E hr=>(vs_cons (vs_setZ 1 sc.nd (v_lst (pvs_cons (v_tup pvs_nil) pvs_nil)))
      (vs_cons (vs_forF [2] PassesOwn.never rfl (vi_list (vn 0)) (vg_name 2 sc.nd) (vs_one (vs_setcomp2 1 sc.nd ["begun", "thing", "row"] [none,none,some 2] rfl (vi_list (vn 1)) (fun _=>(vg_name 0 (show List.Nodup (["begun", "thing", "row"]:List Str) by decide +kernel))) (fun _=>vt_nil) (fun _=>(vi_list (vn 2))) (fun _=>(vg_name 1 (show List.Nodup (["begun", "thing", "row"]:List Str) by decide +kernel))) (fun _=>vt_nil) (fun _=>(v_catA (vn 0) (v_tup (pvs_cons (vn 1) pvs_nil)))))))
      (vs_one (vs_ret (vn 1)))))) ?_
  rintro ws Q ⟨rows,rfl,⟨h4,h3⟩,hQ⟩
  refine read_of ?_
  have sz:=PySem.sizeLine_eq
  simp_arith only [grd_t,len_ok]
  refine inv_go (xs:=rows) (enc:=lstI) (fun i ρ=>∃ ch:List (List Int),ch = chI (rows.take i) /\ ch.length <= 7 ^ i /\ (∀ b ∈ ch,b.length <= i) /\ ρ = [some (.d (.list (rows.map lstI))),some (.d (.list (ch.map tupI))),none]) rfl ⟨[[]],rfl,by simp,by simp,rfl⟩ ?_ ?_
  · rintro i hi ρ ⟨ch,hch,hl,hbl,rfl⟩ K hK
    have hr:=h3 _ (List.getElem_mem hi)
    have p1 : 7 ^ i <= 7 ^ 1:=Nat.pow_le_pow_right (by decide) (by omega)
    generalize hrr:rows[i] = r at hr
    simp_arith only [grd_t,len_ok,BC2,lstI]
    have hlen:(ch.flatMap fun b=>r.map fun t=>tupI (b ++ [t])).length <= 7 ^ i * 7:=by
      rw [List.length_flatMap]
      have:∀ (l:List (List Int)),(l.map fun b=>(r.map fun t=>tupI (b ++ [t])).length).sum <= l.length * 7:=fun l=>by
        induction l with
        | nil=>simp
        | cons b l ih=>rw [List.map_cons,List.sum_cons,List.length_map,List.length_cons]; omega
      exact Nat.le_trans (this ch) (Nat.mul_le_mul_right 7 hl)
    refine c2_go (xs:=ch) (enc:=tupI) (fun b=>r.map fun t=>tupI (b ++ [t])) rfl ?_ (by omega) ?_
    · intro b mb acc ha
      rw [List.length_map] at ha
      simp_arith only [grd_t,len_ok,itM2,lstI,tupI]
      rw [compM_acc (enc:=PyData.int) (fun t=>some (tupI (b ++ [t]))) r acc ?_ ha,List.filterMap_eq_map']
      · rfl
      intro t mt
      have hb1:=hbl b mb
      have hb2:b.length + 1 <= sizeLine:=by omega
      simp_arith only [grd_t,len_ok,itM]
      simp [tupI]
    · try simp_arith only [grd_t,len_ok]
      refine hK _ (lpS_nx ⟨ch.flatMap fun b=>r.map fun t=>b ++ [t],?_,?_,?_,?_⟩)
      · rw [List.take_succ_eq_append_getElem hi,hrr]
        unfold chI
        rw [List.foldl_append]
        show _ = List.flatMap _ _
        rw [hch]; rfl
      · rw [Nat.pow_succ]
        refine Nat.le_trans (Nat.le_of_eq ?_) hlen
        rw [List.length_flatMap,List.length_flatMap]
        simp
      · intro b mb
        obtain ⟨b',mb',hb'⟩:=List.mem_flatMap.mp mb
        obtain ⟨x,_,rfl⟩:=List.mem_map.mp hb'
        have:=hbl b' mb'
        simp; omega
      · simp [fo,List.map_flatMap]
        rfl
  · rintro ρ ⟨ch,hch,hl,_,rfl⟩
    rw [List.take_of_length_le (Nat.le_refl _)] at hch
    subst hch
    simp_arith only [grd_t,len_ok]
    exact rt_end hQ
def p_stretch_of:List W -> (PyData -> Prop) -> Prop:=fun ws Q=>∃ (x:Rat) (c:List Rat),ws = [.d (fr x),.d (ptD c)] /\ ((qSm 60 x) /\ (c.length <= 60) /\ (∀ q ∈ c,qSm 60 q)) /\ Q (.int (stN x c))
theorem p_stretch_of.mono:∀ ws (Q Q':PyData -> Prop),(∀ d,Q d -> Q' d) -> p_stretch_of ws Q -> p_stretch_of ws Q':=fun _ _ _ h_ ⟨x,c,e_,p_,q_⟩=>⟨x,c,e_,p_,h_ _ q_⟩
theorem p_stretch_of.len:∀ ws (Q:PyData -> Prop),p_stretch_of ws Q -> ws.length = 2:=fun _ _ ⟨_,_,e_,_⟩=>by subst e_; rfl
theorem p_stretch_of.eq (x:Rat) (c:List Rat) (hx:qSm 60 x) (hl:c.length <= 60) (hc:∀ q ∈ c,qSm 60 q):p_stretch_of [.d (fr x),.d (ptD c)] = VL.ret (.int (stN x c):PyData):=by
  refine mo_ext fun Q=>⟨?_,fun q_=>⟨x,c,rfl,⟨hx,hl,hc⟩,q_⟩⟩
  rintro ⟨x',c',e_,_,q_⟩
  simp_arith only [fr_i,sdD_i,ptD_i,boxD_i,ptsQ_i,frs_i,shD_i,lsts_i] at e_
  obtain ⟨rfl,rfl⟩:=e_
  exact q_
theorem sc_stretch_of:FnScope ["x", "ends"] ["x", "ends"] (defScope (top 17)):=⟨rfl,rfl,rfl,by decide +kernel,rfl,by decide +kernel,by decide +kernel⟩
theorem d_stretch_of (Fn:FnIn K mg "stretch_of" (top 17) ["x", "ends"]) (Z:Bz mg) (d_is_below:∀ rl,Dfn P w K mg base rl "is_below" ["one", "other"] 1 p_is_below)   : Dfn P w K mg base rl "stretch_of" ["x", "ends"] 2 p_stretch_of:=by
  have sc:=sc_stretch_of
  refine Dfn.of Fn sc (p_stretch_of.mono) (p_stretch_of.len) (fun cdv A outer s H E hr=>(vs_one (vs_ret (v_len Z.len_ (pvs_cons (v_lcompR ["end", "x"] [none,some 0] rfl (vi_tup (vn 1)) (fun _=>(vg_name 0 (show List.Nodup (["end", "x"]:List Str) by decide +kernel))) (fun _=>vt_one (vb_not (vb_val (v_call (d_is_below _) (hr.mono (by decide)) (pvs_cons (vn 1) (pvs_cons (vn 0) pvs_nil)))))) (fun _=>(vn 0))) pvs_nil))))) ?_
  rintro ws Q ⟨x,c,rfl,⟨hx,hl,hc⟩,hQ⟩
  refine read_of ?_
  have sz:=PySem.sizeLine_eq
  have x2:=hx.up
  simp_arith only [grd_t,len_ok,BFR]
  refine cfm_go (xs:=c) (enc:=fr) (fun e=>if (!decide (x < e)) = true then some (fr e) else none) rfl ?_ (by omega) ?_
  · intro e me
    have e2:=(hc e me).up
    simp_arith only [grd_t,len_ok,itM,p_is_below.eq]
    try rfl
    try (split <;> rfl)
  · try simp_arith only [grd_t,len_ok]
    rw [fm_len (fun e=>!decide (x < e))]
    exact rt_end hQ
def p_patch_of:List W -> (PyData -> Prop) -> Prop:=fun ws Q=>∃ (p:List Rat) (cs:List (List Rat)),ws = [.d (ptD p),.d (ptsQ cs)] /\ ((∀ x ∈ p,qSm 60 x) /\ (p.length <= 60) /\ (∀ c ∈ cs,c.length <= 60 /\ ∀ q ∈ c,qSm 60 q)) /\ Q (tupI (ptc p cs))
theorem p_patch_of.mono:∀ ws (Q Q':PyData -> Prop),(∀ d,Q d -> Q' d) -> p_patch_of ws Q -> p_patch_of ws Q':=fun _ _ _ h_ ⟨p,cs,e_,p_,q_⟩=>⟨p,cs,e_,p_,h_ _ q_⟩
theorem p_patch_of.len:∀ ws (Q:PyData -> Prop),p_patch_of ws Q -> ws.length = 2:=fun _ _ ⟨_,_,e_,_⟩=>by subst e_; rfl
theorem p_patch_of.eq (p:List Rat) (cs:List (List Rat)) (hp:∀ x ∈ p,qSm 60 x) (hl:p.length <= 60) (hc:∀ c ∈ cs,c.length <= 60 /\ ∀ q ∈ c,qSm 60 q):p_patch_of [.d (ptD p),.d (ptsQ cs)] = VL.ret (tupI (ptc p cs):PyData):=by
  refine mo_ext fun Q=>⟨?_,fun q_=>⟨p,cs,rfl,⟨hp,hl,hc⟩,q_⟩⟩
  rintro ⟨p',cs',e_,_,q_⟩
  simp_arith only [fr_i,sdD_i,ptD_i,boxD_i,ptsQ_i,frs_i,shD_i,lsts_i] at e_
  obtain ⟨rfl,rfl⟩:=e_
  exact q_
theorem sc_patch_of:FnScope ["point", "cuts"] ["point", "cuts"] (defScope (top 18)):=⟨rfl,rfl,rfl,by decide +kernel,rfl,by decide +kernel,by decide +kernel⟩
theorem d_patch_of (Fn:FnIn K mg "patch_of" (top 18) ["point", "cuts"]) (Z:Bz mg) (d_stretch_of:∀ rl,Dfn P w K mg base rl "stretch_of" ["x", "ends"] 2 p_stretch_of)   : Dfn P w K mg base rl "patch_of" ["point", "cuts"] 3 p_patch_of:=by
  have sc:=sc_patch_of
  refine Dfn.of Fn sc (p_patch_of.mono) (p_patch_of.len) (fun cdv A outer s H E hr=>(vs_one (vs_ret (v_tuple Z.tuple_ (pvs_cons (v_lcompR ["x", "ends"] [none,none] rfl (vi_zipTT Z.zip_ (pvs_cons (vn 0) (pvs_cons (vn 1) pvs_nil))) (fun _=>(vg_tup (n:=2) rfl (vgs_cons (vg_name 0 (show List.Nodup (["x", "ends"]:List Str) by decide +kernel)) (vgs_cons (vg_name 1 (show List.Nodup (["x", "ends"]:List Str) by decide +kernel)) vgs_nil)))) (fun _=>vt_nil) (fun _=>(v_call (d_stretch_of _) (hr.mono (by decide)) (pvs_cons (vn 0) (pvs_cons (vn 1) pvs_nil))))) pvs_nil))))) ?_
  rintro ws Q ⟨p,cs,rfl,⟨hp,hl,hc⟩,hQ⟩
  refine read_of ?_
  have sz:=PySem.sizeLine_eq
  simp_arith only [grd_t,len_ok,BFR]
  rw [zipD_map]
  refine cmap_go (xs:=p.zip cs) (enc:=fun z=>PyData.tuple [fr z.1,ptD z.2]) (fun z=>.int (stN z.1 z.2:Int)) rfl ?_ (by rw [List.length_zip]; omega) ?_
  · rintro ⟨x,c⟩ hm
    obtain ⟨mx,mc⟩:=List.of_mem_zip hm
    have h1:=hp x mx
    obtain ⟨h2,h3⟩:=hc c mc
    simp_arith only [grd_t,len_ok,itM,p_stretch_of.eq]
  · rw [map_ints]
    simp_arith only [grd_t,len_ok,tup_of]
    exact rt_end hQ
def p_patches_of:List W -> (PyData -> Prop) -> Prop:=fun ws Q=>∃ (cs:List (List Rat)),ws = [.d (ptsQ cs)] /\ ((cs.length <= 2) /\ (∀ c ∈ cs,c.length <= 6)) /\ Q (.list ((pch cs).map tupI))
theorem p_patches_of.mono:∀ ws (Q Q':PyData -> Prop),(∀ d,Q d -> Q' d) -> p_patches_of ws Q -> p_patches_of ws Q':=fun _ _ _ h_ ⟨cs,e_,p_,q_⟩=>⟨cs,e_,p_,h_ _ q_⟩
theorem p_patches_of.len:∀ ws (Q:PyData -> Prop),p_patches_of ws Q -> ws.length = 1:=fun _ _ ⟨_,e_,_⟩=>by subst e_; rfl
theorem p_patches_of.eq (cs:List (List Rat)) (hl:cs.length <= 2) (hc:∀ c ∈ cs,c.length <= 6):p_patches_of [.d (ptsQ cs)] = VL.ret (.list ((pch cs).map tupI):PyData):=by
  refine mo_ext fun Q=>⟨?_,fun q_=>⟨cs,rfl,⟨hl,hc⟩,q_⟩⟩
  rintro ⟨cs',e_,_,q_⟩
  simp_arith only [fr_i,sdD_i,ptD_i,boxD_i,ptsQ_i,frs_i,shD_i,lsts_i] at e_
  obtain rfl:=e_
  exact q_
theorem sc_patches_of:FnScope ["cuts"] ["cuts"] (defScope (top 19)):=⟨rfl,rfl,rfl,by decide +kernel,rfl,by decide +kernel,by decide +kernel⟩
theorem d_patches_of (Fn:FnIn K mg "patches_of" (top 19) ["cuts"]) (Z:Bz mg) (d_choices:∀ rl,Dfn P w K mg base rl "choices" ["rows"] 1 p_choices)   : Dfn P w K mg base rl "patches_of" ["cuts"] 2 p_patches_of:=by
  have sc:=sc_patches_of
  refine Dfn.of Fn sc (p_patches_of.mono) (p_patches_of.len) (fun cdv A outer s H E hr=>(vs_one (vs_ret (v_call (d_choices _) (hr.mono (by decide)) (pvs_cons (v_lcompR ["ends"] [none] rfl (vi_tup (vn 0)) (fun _=>(vg_name 0 (show List.Nodup (["ends"]:List Str) by decide +kernel))) (fun _=>vt_nil) (fun _=>(v_lrange1 Z.list_ Z.range_ (pvs_cons (v_add (v_len Z.len_ (pvs_cons (vn 0) pvs_nil)) pv_int) pvs_nil)))) pvs_nil))))) ?_
  rintro ws Q ⟨cs,rfl,⟨hl,hc⟩,hQ⟩
  refine read_of ?_
  have sz:=PySem.sizeLine_eq
  have l2:(cs.map fun c=>intR 0 (c.length + 1)).length <= 2:=by rw [List.length_map]; exact hl
  have l7:∀ r ∈ cs.map (fun c=>intR 0 (c.length + 1)),r.length <= 7:=fun r hr=>by
    obtain ⟨c,mc,rfl⟩:=List.mem_map.mp hr
    have:=hc c mc
    rw [intR_length]; omega
  simp_arith only [grd_t,len_ok,BFR]
  refine cmap_go (xs:=cs) (enc:=ptD) (fun c=>lstI (intR 0 (c.length + 1))) rfl ?_ (by omega) ?_
  · intro c mc
    have:=hc c mc
    have g1 : -(2 ^ 62) <= ((c.length:Int) + 1) /\ ((c.length:Int) + 1) < 2 ^ 62:=by omega
    have e1:((c.length:Int) + 1).toNat = c.length + 1:=by omega
    simp_arith only [grd_t,len_ok,itM,BFR]
    rw [e1,rangeD_ints]; rfl
  · rw [map_lsts]
    simp_arith only [grd_t,len_ok,p_choices.eq]
    exact rt_end hQ
def p_value_in:List W -> (PyData -> Prop) -> Prop:=fun ws Q=>∃ (s:Sh) (p:List Int),ws = [.d (shD s),.d (tupI p)] /\ ((s.Ok) /\ (PaOk s.cuts p)) /\ Q (fr (s.at p))
theorem p_value_in.mono:∀ ws (Q Q':PyData -> Prop),(∀ d,Q d -> Q' d) -> p_value_in ws Q -> p_value_in ws Q':=fun _ _ _ h_ ⟨s,p,e_,p_,q_⟩=>⟨s,p,e_,p_,h_ _ q_⟩
theorem p_value_in.len:∀ ws (Q:PyData -> Prop),p_value_in ws Q -> ws.length = 2:=fun _ _ ⟨_,_,e_,_⟩=>by subst e_; rfl
theorem p_value_in.eq (s:Sh) (p:List Int) (hs:s.Ok) (hp:PaOk s.cuts p):p_value_in [.d (shD s),.d (tupI p)] = VL.ret (fr (s.at p):PyData):=by
  refine mo_ext fun Q=>⟨?_,fun q_=>⟨s,p,rfl,⟨hs,hp⟩,q_⟩⟩
  rintro ⟨s',p',e_,_,q_⟩
  simp_arith only [fr_i,sdD_i,ptD_i,boxD_i,ptsQ_i,frs_i,shD_i,lsts_i] at e_
  obtain ⟨rfl,rfl⟩:=e_
  exact q_
theorem sc_value_in:FnScope ["sheet", "patch", "value", "stretch"] ["sheet", "patch"] (defScope (top 21)):=⟨rfl,rfl,rfl,by decide +kernel,rfl,by decide +kernel,by decide +kernel⟩
theorem d_value_in (Fn:FnIn K mg "value_in" (top 21) ["sheet", "patch"]) (Z:Bz mg)    : Dfn P w K mg base rl "value_in" ["sheet", "patch"] 1 p_value_in:=by
  have sc:=sc_value_in
  refine Dfn.of Fn sc (p_value_in.mono) (p_value_in.len) (fun cdv A outer s H E hr=>(vs_cons (vs_setZ 2 sc.nd (v_ix (vn 0) pv_int))
      (vs_cons (vs_forF [3] PassesOwn.never rfl (vi_tup (vn 1)) (vg_name 3 sc.nd) (vs_one (vs_setZ 2 sc.nd (v_ix (vn 2) (vn 3)))))
      (vs_one (vs_ret (vn 2)))))) ?_
  rintro ws Q ⟨s,p,rfl,⟨hs,hp⟩,hQ⟩
  refine read_of ?_
  cases s with
  | one c v =>
    obtain ⟨k,rfl,k0,k1⟩:=PaOk.one hp
    have hl:v.length = c.length + 1:=hs.2.1
    have e:=atI_getD (xs:=v) 0 k0 (by omega)
    simp_arith only [grd_t,len_ok,BSH,BFR,loop_nil,loop_cons,Sh.vD,e]
    exact rt_end hQ
  | two c d vs =>
    obtain ⟨k,j,rfl,⟨k0,k1⟩,j0,j1⟩:=PaOk.two hp
    obtain ⟨_,_,hl,hv⟩:=hs
    have e:=atI_getD (xs:=vs) [] k0 (by omega)
    have hv:=(hv _ (getD_mem (d:=[]) (show k.toNat < vs.length by omega))).1
    have e2:=atI_getD (xs:=vs.getD k.toNat []) 0 j0 (by omega)
    simp_arith only [grd_t,len_ok,BSH,BFR,loop_nil,loop_cons,Sh.vD,e,e2]
    exact rt_end hQ
def p_value_at:List W -> (PyData -> Prop) -> Prop:=fun ws Q=>∃ (s:Sh) (p:List Rat),ws = [.d (shD s),.d (ptD p)] /\ ((s.Ok) /\ (∀ x ∈ p,qSm 60 x) /\ (p.length = s.cuts.length)) /\ Q (fr (s.at (ptc p s.cuts)))
theorem p_value_at.mono:∀ ws (Q Q':PyData -> Prop),(∀ d,Q d -> Q' d) -> p_value_at ws Q -> p_value_at ws Q':=fun _ _ _ h_ ⟨s,p,e_,p_,q_⟩=>⟨s,p,e_,p_,h_ _ q_⟩
theorem p_value_at.len:∀ ws (Q:PyData -> Prop),p_value_at ws Q -> ws.length = 2:=fun _ _ ⟨_,_,e_,_⟩=>by subst e_; rfl
theorem p_value_at.eq (s:Sh) (p:List Rat) (hs:s.Ok) (hp:∀ x ∈ p,qSm 60 x) (hl:p.length = s.cuts.length):p_value_at [.d (shD s),.d (ptD p)] = VL.ret (fr (s.at (ptc p s.cuts)):PyData):=by
  refine mo_ext fun Q=>⟨?_,fun q_=>⟨s,p,rfl,⟨hs,hp,hl⟩,q_⟩⟩
  rintro ⟨s',p',e_,_,q_⟩
  simp_arith only [fr_i,sdD_i,ptD_i,boxD_i,ptsQ_i,frs_i,shD_i,lsts_i] at e_
  obtain ⟨rfl,rfl⟩:=e_
  exact q_
theorem sc_value_at:FnScope ["sheet", "point"] ["sheet", "point"] (defScope (top 22)):=⟨rfl,rfl,rfl,by decide +kernel,rfl,by decide +kernel,by decide +kernel⟩
theorem d_value_at (Fn:FnIn K mg "value_at" (top 22) ["sheet", "point"]) (Z:Bz mg) (d_value_in:∀ rl,Dfn P w K mg base rl "value_in" ["sheet", "patch"] 1 p_value_in) (d_patch_of:∀ rl,Dfn P w K mg base rl "patch_of" ["point", "cuts"] 3 p_patch_of)   : Dfn P w K mg base rl "value_at" ["sheet", "point"] 4 p_value_at:=by
  have sc:=sc_value_at
  refine Dfn.of Fn sc (p_value_at.mono) (p_value_at.len) (fun cdv A outer s H E hr=>(vs_one (vs_ret (v_call (d_value_in _) (hr.mono (by decide)) (pvs_cons (vn 0) (pvs_cons (v_call (d_patch_of _) (hr.mono (by decide)) (pvs_cons (vn 1) (pvs_cons (v_ix (vn 0) pv_int) pvs_nil))) pvs_nil)))))) ?_
  rintro ws Q ⟨s,p,rfl,⟨hs,hp,hl⟩,hQ⟩
  refine read_of ?_
  have h60:=Sh.cut60 hs
  have c2:=s.cl
  have l60:p.length <= 60:=by omega
  have pk:=ptc_ok hl
  simp_arith only [grd_t,len_ok,BSH,p_value_in.eq,p_patch_of.eq]
  exact rt_end hQ
theorem num_nz {r:Rat} (h:r ≠ 0):r.num ≠ 0:=fun z=>h (Rat.num_eq_zero.mp z)
theorem qd_over {q r:Rat} (h:r ≠ 0):qd (q.num * r.den) (q.den * r.num) = q / r:=by
  have e1:=qd_self q
  have e2:=qd_self r
  have n1:=num_nz h
  have d1:=den_p q
  have d2:=den_p r
  unfold qd at *
  have a1:(r.num:Rat) ≠ 0:=by intro z; exact n1 (by exact_mod_cast z)
  have a2 : ((q.den : Int) : Rat) ≠ 0 := by intro z; have : (q.den : Int) = 0 := by exact_mod_cast z
                                            omega
  have a3 : ((r.den : Int) : Rat) ≠ 0 := by intro z; have : (r.den : Int) = 0 := by exact_mod_cast z
                                            omega
  rw [Rat.intCast_mul,Rat.intCast_mul]
  generalize (q.num:Rat) = x at *
  generalize (r.num:Rat) = y at *
  generalize ((q.den:Int):Rat) = u at *
  generalize ((r.den:Int):Rat) = v at *
  subst e1 e2
  grind
def p_over:List W -> (PyData -> Prop) -> Prop:=fun ws Q=>∃ (q r:Rat),ws = [.d (fr q),.d (fr r)] /\ ((qSm 2000 q) /\ (qSm 2000 r) /\ (r ≠ 0)) /\ Q (fr (q / r))
theorem p_over.mono:∀ ws (Q Q':PyData -> Prop),(∀ d,Q d -> Q' d) -> p_over ws Q -> p_over ws Q':=fun _ _ _ h_ ⟨q,r,e_,p_,q_⟩=>⟨q,r,e_,p_,h_ _ q_⟩
theorem p_over.len:∀ ws (Q:PyData -> Prop),p_over ws Q -> ws.length = 2:=fun _ _ ⟨_,_,e_,_⟩=>by subst e_; rfl
theorem p_over.eq (q r:Rat) (h1:qSm 2000 q) (h2:qSm 2000 r) (hr:r ≠ 0):p_over [.d (fr q),.d (fr r)] = VL.ret (fr (q / r):PyData):=by
  refine mo_ext fun Q=>⟨?_,fun q_=>⟨q,r,rfl,⟨h1,h2,hr⟩,q_⟩⟩
  rintro ⟨q',r',e_,_,q_⟩
  simp_arith only [fr_i,sdD_i,ptD_i,boxD_i,ptsQ_i,frs_i] at e_
  obtain ⟨rfl,rfl⟩:=e_
  exact q_
theorem sc_over:FnScope ["one", "other"] ["one", "other"] (defScope (top 12)):=⟨rfl,rfl,rfl,by decide +kernel,rfl,by decide +kernel,by decide +kernel⟩
theorem d_over (Fn:FnIn K mg "over" (top 12) ["one", "other"]) (Z:Bz mg) (d_fraction:∀ rl,Dfn P w K mg base rl "fraction" ["top", "bottom"] 2 p_fraction)   : Dfn P w K mg base rl "over" ["one", "other"] 3 p_over:=by
  have sc:=sc_over
  refine Dfn.of Fn sc (p_over.mono) (p_over.len) (fun cdv A outer s H E hr=>(vs_cons (vs_if (vb_cmp (op_eqD hr.units) vo_eqD (nomark _) (v_ix (vn 1) pv_int) pv_int) (vs_one vs_never) vs_nil)
      (vs_one (vs_ret (v_call (d_fraction _) (hr.mono (by decide)) (pvs_cons (v_mul (v_ix (vn 0) pv_int) (v_ix (vn 1) pv_int)) (pvs_cons (v_mul (v_ix (vn 0) pv_int) (v_ix (vn 1) pv_int)) pvs_nil))))))) ?_
  rintro ws Q ⟨q,r,rfl,⟨h1,h2,hr⟩,hQ⟩
  refine read_of ?_
  have n1:=num_nz hr
  have n0:(r.num == 0) = false:=by simpa using n1
  have m1:CMulB q.num r.den:=.bb h1.bn h2.bd
  have m2:CMulB q.den r.num:=.bb h1.bd h2.bn
  have d1:(q.den:Int) * r.num ≠ 0:=Int.mul_ne_zero (by have:=den_p q; omega) n1
  have d2:((q.den:Int) * r.num).natAbs < 2 ^ 8000:=by
    rw [Int.natAbs_mul,Int.natAbs_natCast]
    exact Nat.lt_of_lt_of_le (Nat.mul_lt_mul'' h1.2 h2.1) (by rw [<- Nat.pow_add]; exact Nat.pow_le_pow_right (by decide) (by decide))
  have e:=qd_over (q:=q) hr
  simp_arith only [grd_t,len_ok,p_fraction.eq,BFR,n0,e]
  exact rt_end hQ
def p_mean_of:List W -> (PyData -> Prop) -> Prop:=fun ws Q=>∃ (s:Sh) (ps:List (List Rat)),ws = [.d (shD s),.d (ptsQ ps)] /\ ((s.Ok) /\ (1 <= ps.length) /\ (ps.length <= 60) /\ (∀ p ∈ ps,p.length = s.cuts.length /\ ∀ x ∈ p,qSm 60 x)) /\ Q (fr (sumQ (ps.map fun p=>s.at (ptc p s.cuts)) / qd ps.length 1))
theorem p_mean_of.mono:∀ ws (Q Q':PyData -> Prop),(∀ d,Q d -> Q' d) -> p_mean_of ws Q -> p_mean_of ws Q':=fun _ _ _ h_ ⟨s,ps,e_,p_,q_⟩=>⟨s,ps,e_,p_,h_ _ q_⟩
theorem p_mean_of.len:∀ ws (Q:PyData -> Prop),p_mean_of ws Q -> ws.length = 2:=fun _ _ ⟨_,_,e_,_⟩=>by subst e_; rfl
theorem p_mean_of.eq (s:Sh) (ps:List (List Rat)) (hs:s.Ok) (h1 : 1 <= ps.length) (h8:ps.length <= 60) (hp:∀ p ∈ ps,p.length = s.cuts.length /\ ∀ x ∈ p,qSm 60 x):p_mean_of [.d (shD s),.d (ptsQ ps)] = VL.ret (fr (sumQ (ps.map fun p=>s.at (ptc p s.cuts)) / qd ps.length 1):PyData):=by
  refine mo_ext fun Q=>⟨?_,fun q_=>⟨s,ps,rfl,⟨hs,h1,h8,hp⟩,q_⟩⟩
  rintro ⟨s',ps',e_,_,q_⟩
  simp_arith only [fr_i,sdD_i,ptD_i,boxD_i,ptsQ_i,frs_i,shD_i,lsts_i] at e_
  obtain ⟨rfl,rfl⟩:=e_
  exact q_
theorem sc_mean_of:FnScope ["sheet", "points"] ["sheet", "points"] (defScope (top 23)):=⟨rfl,rfl,rfl,by decide +kernel,rfl,by decide +kernel,by decide +kernel⟩
theorem d_mean_of (Fn:FnIn K mg "mean_of" (top 23) ["sheet", "points"]) (Z:Bz mg) (d_over:∀ rl,Dfn P w K mg base rl "over" ["one", "other"] 3 p_over) (d_sum_of:∀ rl,Dfn P w K mg base rl "sum_of" ["some"] 3 p_sum_of) (d_value_at:∀ rl,Dfn P w K mg base rl "value_at" ["sheet", "point"] 4 p_value_at)   : Dfn P w K mg base rl "mean_of" ["sheet", "points"] 5 p_mean_of:=by
  have sc:=sc_mean_of
  refine Dfn.of Fn sc (p_mean_of.mono) (p_mean_of.len) (fun cdv A outer s H E hr=>(vs_one (vs_ret (v_call (d_over _) (hr.mono (by decide)) (pvs_cons (v_call (d_sum_of _) (hr.mono (by decide)) (pvs_cons (v_lcompR ["point", "sheet"] [none,some 0] rfl (vi_tup (vn 1)) (fun _=>(vg_name 0 (show List.Nodup (["point", "sheet"]:List Str) by decide +kernel))) (fun _=>vt_nil) (fun _=>(v_call (d_value_at _) (hr.mono (by decide)) (pvs_cons (vn 1) (pvs_cons (vn 0) pvs_nil))))) pvs_nil)) (pvs_cons (v_tup (pvs_cons (v_len Z.len_ (pvs_cons (vn 1) pvs_nil)) (pvs_cons pv_int pvs_nil))) pvs_nil)))))) ?_
  rintro ws Q ⟨s,ps,rfl,⟨hs,h1,h8,hp⟩,hQ⟩
  refine read_of ?_
  have sz:=PySem.sizeLine_eq
  simp_arith only [grd_t,len_ok,BFR]
  refine cmap_go (xs:=ps) (enc:=ptD) (fun p=>fr (s.at (ptc p s.cuts))) rfl ?_ (by omega) ?_
  · intro p mp
    obtain ⟨e1,e2⟩:=hp p mp
    simp_arith only [grd_t,len_ok,itM,p_over.eq,p_sum_of.eq,p_value_at.eq]
  · rw [map_frs]
    have hq:∀ q ∈ ps.map (fun p=>s.at (ptc p s.cuts)),qSm 20 q:=fun q mq=>by
      obtain ⟨p,mp,rfl⟩:=List.mem_map.mp mq
      exact Sh.at_sm hs (ptc_ok (hp p mp).1)
    have ll:(ps.map fun p=>s.at (ptc p s.cuts)).length = ps.length:=List.length_map ..
    have ps_:p_sum_of [.d (.list ((ps.map fun p=>s.at (ptc p s.cuts)).map fr))] = VL.ret (fr (sumQ (ps.map fun p=>s.at (ptc p s.cuts)))):=p_sum_of.eq 20 _ (by rw [ll]; omega) (by rw [ll]; omega) (by decide) hq
    have s1:qSm 2000 (sumQ (ps.map fun p=>s.at (ptc p s.cuts))):=(sumQ_sm hq).mono (by rw [ll]; omega)
    have s2:qSm 2000 (qd ps.length 1):=(qd_sm (k:=60) (by decide) (by omega) (by decide)).up
    have nz:qd ps.length 1 ≠ 0:=by
      intro z
      have:(0:Rat) = qd 0 1:=(qd_z (by decide)).symm
      rw [this] at z
      have h:=congrArg fr z
      rw [<- fr_int,<- fr_int] at h
      injection h with h
      injection h with h
      injection h with h
      omega
    simp_arith only [grd_t,len_ok,BFR,ps_,fr_int,p_over.eq]
    exact rt_end hQ
def p_stretch_length:List W -> (PyData -> Prop) -> Prop:=fun ws Q=>∃ (c:List Rat) (j:Int),ws = [.d (ptD c),.d (.int j)] /\ ((∀ q ∈ lim c,qSm 60 q) /\ (c.length <= 60) /\ (0 <= j) /\ (j <= (c.length:Int))) /\ Q (fr (lenQ c j))
theorem p_stretch_length.mono:∀ ws (Q Q':PyData -> Prop),(∀ d,Q d -> Q' d) -> p_stretch_length ws Q -> p_stretch_length ws Q':=fun _ _ _ h_ ⟨c,j,e_,p_,q_⟩=>⟨c,j,e_,p_,h_ _ q_⟩
theorem p_stretch_length.len:∀ ws (Q:PyData -> Prop),p_stretch_length ws Q -> ws.length = 2:=fun _ _ ⟨_,_,e_,_⟩=>by subst e_; rfl
theorem p_stretch_length.eq (c:List Rat) (j:Int) (hc:∀ q ∈ lim c,qSm 60 q) (hl:c.length <= 60) (j0 : 0 <= j) (j1:j <= (c.length:Int)):p_stretch_length [.d (ptD c),.d (.int j)] = VL.ret (fr (lenQ c j):PyData):=by
  refine mo_ext fun Q=>⟨?_,fun q_=>⟨c,j,rfl,⟨hc,hl,j0,j1⟩,q_⟩⟩
  rintro ⟨c',j',e_,_,q_⟩
  simp_arith only [fr_i,sdD_i,ptD_i,boxD_i,ptsQ_i,frs_i,shD_i,lsts_i] at e_
  obtain ⟨rfl,rfl⟩:=e_
  exact q_
theorem sc_stretch_length:FnScope ["ends", "stretch", "limits"] ["ends", "stretch"] (defScope (top 24)):=⟨rfl,rfl,rfl,by decide +kernel,rfl,by decide +kernel,by decide +kernel⟩
theorem d_stretch_length (Fn:FnIn K mg "stretch_length" (top 24) ["ends", "stretch"]) (Z:Bz mg) (d_less:∀ rl,Dfn P w K mg base rl "less" ["one", "other"] 3 p_less) (gl_ONE:GlD K mg "ONE" (pr 1 1)) (gl_ZERO:GlD K mg "ZERO" (pr 0 1))  : Dfn P w K mg base rl "stretch_length" ["ends", "stretch"] 4 p_stretch_length:=by
  have sc:=sc_stretch_length
  refine Dfn.of Fn sc (p_stretch_length.mono) (p_stretch_length.len) (fun cdv A outer s H E hr=>(vs_cons (vs_setZ 2 sc.nd (v_catA (v_catA (v_tup (pvs_cons (v_glob gl_ZERO) pvs_nil)) (vn 0)) (v_tup (pvs_cons (v_glob gl_ONE) pvs_nil))))
      (vs_one (vs_ret (v_call (d_less _) (hr.mono (by decide)) (pvs_cons (v_ix (vn 2) (v_add (vn 1) pv_int)) (pvs_cons (v_ix (vn 2) (vn 1)) pvs_nil))))))) ?_
  rintro ws Q ⟨c,j,rfl,⟨hc,hl,j0,j1⟩,hQ⟩
  refine read_of ?_
  have sz:=PySem.sizeLine_eq
  have l2:=lim_len c
  have e1:=atI_getD (xs:=lim c) 0 j0 (by omega)
  have e2:=atI_getD (xs:=lim c) 0 (show 0 <= j + 1 by omega) (by omega)
  have et:(j + 1).toNat = j.toNat + 1:=by omega
  rw [et] at e2
  have s1:qSm 2000 ((lim c).getD j.toNat 0):=(hc _ (getD_mem (by omega))).up
  have s2:qSm 2000 ((lim c).getD (j.toNat + 1) 0):=(hc _ (getD_mem (by omega))).up
  have eq1:∀ i:Int,atI (([pr 0 1] ++ c.map fr) ++ [pr 1 1]) i = (atI (lim c) i).map fr:=fun i=>by
    rw [<- atI_map]
    congr 1
    unfold lim
    rw [List.map_cons,List.map_append,List.cons_append,List.nil_append]; rfl
  have eq2:∀ i:Int,atI (fr 0 :: (c.map fr ++ [fr 1])) i = (atI (lim c) i).map fr:=fun i=>by rw [<- eq1]; rfl
  have g1 : 1 + c.length <= sizeLine:=by omega
  have g2:c.length + 1 <= sizeLine:=by omega
  have g3:c.length + 1 + 1 <= sizeLine:=by omega
  simp_arith only [grd_t,len_ok,BFR,p_less.eq,eq1,eq2,e1,e2]
  exact rt_end hQ
def p_product_of:List W -> (PyData -> Prop) -> Prop:=fun ws Q=>∃ (qs:List Rat),ws = [.d (.list (qs.map fr))] /\ ((qs.length <= 4) /\ (∀ q ∈ qs,qSm 190 q)) /\ Q (fr (prodQ qs))
theorem p_product_of.mono:∀ ws (Q Q':PyData -> Prop),(∀ d,Q d -> Q' d) -> p_product_of ws Q -> p_product_of ws Q':=fun _ _ _ h_ ⟨qs,e_,p_,q_⟩=>⟨qs,e_,p_,h_ _ q_⟩
theorem p_product_of.len:∀ ws (Q:PyData -> Prop),p_product_of ws Q -> ws.length = 1:=fun _ _ ⟨_,e_,_⟩=>by subst e_; rfl
theorem p_product_of.eq (qs:List Rat) (h4:qs.length <= 4) (hq:∀ q ∈ qs,qSm 190 q):p_product_of [.d (.list (qs.map fr))] = VL.ret (fr (prodQ qs):PyData):=by
  refine mo_ext fun Q=>⟨?_,fun q_=>⟨qs,rfl,⟨h4,hq⟩,q_⟩⟩
  rintro ⟨qs',e_,_,q_⟩
  simp_arith only [fr_i,sdD_i,ptD_i,boxD_i,ptsQ_i,frs_i] at e_
  obtain rfl:=e_
  exact q_
theorem sc_product_of:FnScope ["some", "product", "one"] ["some"] (defScope (top 11)):=⟨rfl,rfl,rfl,by decide +kernel,rfl,by decide +kernel,by decide +kernel⟩
theorem d_product_of (Fn:FnIn K mg "product_of" (top 11) ["some"]) (Z:Bz mg) (d_times:∀ rl,Dfn P w K mg base rl "times" ["one", "other"] 3 p_times) (gl_ONE:GlD K mg "ONE" (pr 1 1))  : Dfn P w K mg base rl "product_of" ["some"] 4 p_product_of:=by
  have sc:=sc_product_of
  refine Dfn.of Fn sc (p_product_of.mono) (p_product_of.len) (fun cdv A outer s H E hr=>(vs_cons (vs_setZ 1 sc.nd (v_glob gl_ONE))
      (vs_cons (vs_forF [2] PassesOwn.never rfl (vi_list (vn 0)) (vg_name 2 sc.nd) (vs_one (vs_setZ 1 sc.nd (v_call (d_times _) (hr.mono (by decide)) (pvs_cons (vn 1) (pvs_cons (vn 2) pvs_nil))))))
      (vs_one (vs_ret (vn 1)))))) ?_
  rintro ws Q ⟨qs,rfl,⟨h4,hq⟩,hQ⟩
  refine read_of ?_
  simp_arith only [grd_t,len_ok,p_times.eq,BFR]
  refine inv_go (xs:=qs) (fun i ρ=>ρ = [some (.d (.list (qs.map fr))),some (.d (fr ((qs.take i).foldl (· * ·) 1))),none]) rfl rfl ?_ ?_
  · rintro i hi ρ rfl K hK
    have hs:=prod_sm2 (qs.take i) 60 1 qSm1 fun r hr=>hq r (List.mem_of_mem_take hr)
    have hl:(qs.take i).length <= 4:=by rw [List.length_take]; omega
    have s1:qSm 2000 ((qs.take i).foldl (· * ·) 1):=hs.mono (by omega)
    have s2:qSm 2000 qs[i]:=(hq _ (List.getElem_mem hi)).mono (by decide)
    simp_arith only [grd_t,len_ok,p_times.eq,BFR]
    refine hK _ (lpS_nx ?_)
    simp_arith only [len_ok]
    rw [foldl_succ hi]
  · rintro ρ rfl
    simp_arith only [len_ok]
    rw [List.take_of_length_le (Nat.le_refl _)]
    exact rt_end hQ
def p_patch_size:List W -> (PyData -> Prop) -> Prop:=fun ws Q=>∃ (cs:List (List Rat)) (p:List Int),ws = [.d (ptsQ cs),.d (tupI p)] /\ ((cs.length <= 2) /\ (∀ c ∈ cs,CutOk 6 c) /\ (PaOk cs p)) /\ Q (fr (sizeP cs p))
theorem p_patch_size.mono:∀ ws (Q Q':PyData -> Prop),(∀ d,Q d -> Q' d) -> p_patch_size ws Q -> p_patch_size ws Q':=fun _ _ _ h_ ⟨cs,p,e_,p_,q_⟩=>⟨cs,p,e_,p_,h_ _ q_⟩
theorem p_patch_size.len:∀ ws (Q:PyData -> Prop),p_patch_size ws Q -> ws.length = 2:=fun _ _ ⟨_,_,e_,_⟩=>by subst e_; rfl
theorem p_patch_size.eq (cs:List (List Rat)) (p:List Int) (hl:cs.length <= 2) (hc:∀ c ∈ cs,CutOk 6 c) (hp:PaOk cs p):p_patch_size [.d (ptsQ cs),.d (tupI p)] = VL.ret (fr (sizeP cs p):PyData):=by
  refine mo_ext fun Q=>⟨?_,fun q_=>⟨cs,p,rfl,⟨hl,hc,hp⟩,q_⟩⟩
  rintro ⟨cs',p',e_,_,q_⟩
  simp_arith only [fr_i,sdD_i,ptD_i,boxD_i,ptsQ_i,frs_i,shD_i,lsts_i] at e_
  obtain ⟨rfl,rfl⟩:=e_
  exact q_
theorem sc_patch_size:FnScope ["cuts", "patch"] ["cuts", "patch"] (defScope (top 25)):=⟨rfl,rfl,rfl,by decide +kernel,rfl,by decide +kernel,by decide +kernel⟩
theorem d_patch_size (Fn:FnIn K mg "patch_size" (top 25) ["cuts", "patch"]) (Z:Bz mg) (d_product_of:∀ rl,Dfn P w K mg base rl "product_of" ["some"] 4 p_product_of) (d_stretch_length:∀ rl,Dfn P w K mg base rl "stretch_length" ["ends", "stretch"] 4 p_stretch_length)   : Dfn P w K mg base rl "patch_size" ["cuts", "patch"] 5 p_patch_size:=by
  have sc:=sc_patch_size
  refine Dfn.of Fn sc (p_patch_size.mono) (p_patch_size.len) (fun cdv A outer s H E hr=>(vs_one (vs_ret (v_call (d_product_of _) (hr.mono (by decide)) (pvs_cons (v_lcompR ["ends", "stretch"] [none,none] rfl (vi_zipTT Z.zip_ (pvs_cons (vn 0) (pvs_cons (vn 1) pvs_nil))) (fun _=>(vg_tup (n:=2) rfl (vgs_cons (vg_name 0 (show List.Nodup (["ends", "stretch"]:List Str) by decide +kernel)) (vgs_cons (vg_name 1 (show List.Nodup (["ends", "stretch"]:List Str) by decide +kernel)) vgs_nil)))) (fun _=>vt_nil) (fun _=>(v_call (d_stretch_length _) (hr.mono (by decide)) (pvs_cons (vn 0) (pvs_cons (vn 1) pvs_nil))))) pvs_nil))))) ?_
  rintro ws Q ⟨cs,p,rfl,⟨hl,hc,hp⟩,hQ⟩
  refine read_of ?_
  have sz:=PySem.sizeLine_eq
  simp_arith only [grd_t,len_ok,BFR,BSH]
  rw [zipD_map]
  refine cmap_go (xs:=cs.zip p) (enc:=fun z=>PyData.tuple [ptD z.1,.int z.2]) (fun z=>fr (lenQ z.1 z.2)) rfl ?_ (by rw [List.length_zip]; omega) ?_
  · rintro ⟨c,j⟩ hm
    obtain ⟨mc,mj⟩:=List.of_mem_zip hm
    obtain ⟨j0,j1⟩:=hp.2 _ hm
    have ck:=hc c mc
    have h3:∀ q ∈ lim c,qSm 60 q:=fun q hq=>(lim_sm ck q hq).mono (by decide)
    have h4:c.length <= 60:=by have:=ck.len; omega
    simp_arith only [grd_t,len_ok,itM,p_product_of.eq,p_stretch_length.eq]
  · have l4:((cs.zip p).map fun z=>lenQ z.1 z.2).length <= 4:=by rw [List.length_map,List.length_zip]; omega
    have hq:∀ q ∈ (cs.zip p).map (fun z=>lenQ z.1 z.2),qSm 190 q:=fun q mq=>by
      obtain ⟨z,mz,rfl⟩:=List.mem_map.mp mq
      exact (len_sm (hc _ (List.of_mem_zip mz).1) (hp.2 z mz).1 (hp.2 z mz).2).mono (by decide)
    rw [map_frs]
    simp_arith only [grd_t,len_ok,p_product_of.eq,p_stretch_length.eq]
    exact rt_end hQ
def p_whole_of:List W -> (PyData -> Prop) -> Prop:=fun ws Q=>∃ (s:Sh),ws = [.d (shD s)] /\ ((s.Ok)) /\ Q (fr (wholeQ s))
theorem p_whole_of.mono:∀ ws (Q Q':PyData -> Prop),(∀ d,Q d -> Q' d) -> p_whole_of ws Q -> p_whole_of ws Q':=fun _ _ _ h_ ⟨s,e_,p_,q_⟩=>⟨s,e_,p_,h_ _ q_⟩
theorem p_whole_of.len:∀ ws (Q:PyData -> Prop),p_whole_of ws Q -> ws.length = 1:=fun _ _ ⟨_,e_,_⟩=>by subst e_; rfl
theorem p_whole_of.eq (s:Sh) (hs:s.Ok):p_whole_of [.d (shD s)] = VL.ret (fr (wholeQ s):PyData):=by
  refine mo_ext fun Q=>⟨?_,fun q_=>⟨s,rfl,hs,q_⟩⟩
  rintro ⟨s',e_,_,q_⟩
  simp_arith only [fr_i,sdD_i,ptD_i,boxD_i,ptsQ_i,frs_i,shD_i,lsts_i] at e_
  obtain rfl:=e_
  exact q_
theorem sc_whole_of:FnScope ["sheet", "cuts"] ["sheet"] (defScope (top 26)):=⟨rfl,rfl,rfl,by decide +kernel,rfl,by decide +kernel,by decide +kernel⟩
theorem d_whole_of (Fn:FnIn K mg "whole_of" (top 26) ["sheet"]) (Z:Bz mg) (d_sum_of:∀ rl,Dfn P w K mg base rl "sum_of" ["some"] 3 p_sum_of) (d_times:∀ rl,Dfn P w K mg base rl "times" ["one", "other"] 3 p_times) (d_value_in:∀ rl,Dfn P w K mg base rl "value_in" ["sheet", "patch"] 1 p_value_in) (d_patch_size:∀ rl,Dfn P w K mg base rl "patch_size" ["cuts", "patch"] 5 p_patch_size) (d_patches_of:∀ rl,Dfn P w K mg base rl "patches_of" ["cuts"] 2 p_patches_of)   : Dfn P w K mg base rl "whole_of" ["sheet"] 6 p_whole_of:=by
  have sc:=sc_whole_of
  refine Dfn.of Fn sc (p_whole_of.mono) (p_whole_of.len) (fun cdv A outer s H E hr=>(vs_cons (vs_setZ 1 sc.nd (v_ix (vn 0) pv_int))
      (vs_one (vs_ret (v_call (d_sum_of _) (hr.mono (by decide)) (pvs_cons (v_lcompR ["patch", "sheet", "cuts"] [none,some 0,some 1] rfl (vi_list (v_call (d_patches_of _) (hr.mono (by decide)) (pvs_cons (vn 1) pvs_nil))) (fun _=>(vg_name 0 (show List.Nodup (["patch", "sheet", "cuts"]:List Str) by decide +kernel))) (fun _=>vt_nil) (fun _=>(v_call (d_times _) (hr.mono (by decide)) (pvs_cons (v_call (d_value_in _) (hr.mono (by decide)) (pvs_cons (vn 1) (pvs_cons (vn 0) pvs_nil))) (pvs_cons (v_call (d_patch_size _) (hr.mono (by decide)) (pvs_cons (vn 2) (pvs_cons (vn 0) pvs_nil))) pvs_nil))))) pvs_nil)))))) ?_
  rintro ws Q ⟨s,rfl,hs,hQ⟩
  refine read_of ?_
  have sz:=PySem.sizeLine_eq
  have c2:=s.cl
  have c6:=s.cut6 hs
  have cl6:∀ c ∈ s.cuts,c.length <= 6:=fun c mc=>(c6 c mc).len
  have pl:=pch_len hs
  simp_arith only [grd_t,len_ok,BSH,p_sum_of.eq,p_times.eq,p_value_in.eq,p_patch_size.eq,p_patches_of.eq]
  refine cmap_go (xs:=pch s.cuts) (enc:=tupI) (fun p=>fr (trm s p)) rfl ?_ (by omega) ?_
  · intro p mp
    have pk:=s.pch_ok p mp
    have s1:qSm 2000 (s.at p):=(s.at_sm hs pk).mono (by decide)
    have s2:qSm 2000 (sizeP s.cuts p):=(sizeP_sm c2 c6 pk).mono (by decide)
    simp_arith only [grd_t,len_ok,itM,p_sum_of.eq,p_times.eq,p_value_in.eq,p_patch_size.eq,p_patches_of.eq]
    rfl
  · rw [map_frs]
    have hm:∀ q ∈ (pch s.cuts).map (trm s),qSm 60 q:=fun q mq=>by
      obtain ⟨p,mp,rfl⟩:=List.mem_map.mp mq
      exact trm_sm hs (s.pch_ok p mp)
    have ll:((pch s.cuts).map (trm s)).length <= 16:=by rw [List.length_map]; exact pl
    have ps_:p_sum_of [.d (.list (((pch s.cuts).map (trm s)).map fr))] = VL.ret (fr (wholeQ s)):=p_sum_of.eq 60 _ (by omega) (by omega) (by decide) hm
    simp_arith only [grd_t,len_ok,ps_]
    exact rt_end hQ
def p__law_frac:List W -> (PyData -> Prop) -> Prop:=fun ws Q=>∃ (a b:Int),ws = [.d (.int a),.d (.int b)] /\ ((0 < b) /\ (b.natAbs < 2 ^ 8000)) /\ Q (fr (qd a b))
theorem p__law_frac.mono:∀ ws (Q Q':PyData -> Prop),(∀ d,Q d -> Q' d) -> p__law_frac ws Q -> p__law_frac ws Q':=fun _ _ _ h_ ⟨a,b,e_,p_,q_⟩=>⟨a,b,e_,p_,h_ _ q_⟩
theorem p__law_frac.len:∀ ws (Q:PyData -> Prop),p__law_frac ws Q -> ws.length = 2:=fun _ _ ⟨_,_,e_,_⟩=>by subst e_; rfl
theorem p__law_frac.eq (a b:Int) (hb : 0 < b) (hz:b.natAbs < 2 ^ 8000):p__law_frac [.d (.int a),.d (.int b)] = VL.ret (fr (qd a b):PyData):=by
  refine mo_ext fun Q=>⟨?_,fun q_=>⟨a,b,rfl,⟨hb,hz⟩,q_⟩⟩
  rintro ⟨a',b',e_,_,q_⟩
  simp_arith only [fr_i,sdD_i,ptD_i,boxD_i,ptsQ_i,frs_i] at e_
  obtain ⟨rfl,rfl⟩:=e_
  exact q_
theorem sc__law_frac:FnScope ["_law_n", "_law_d", "_law_one", "_law_other"] ["_law_n", "_law_d"] (defScope (top 30)):=⟨rfl,rfl,rfl,by decide +kernel,rfl,by decide +kernel,by decide +kernel⟩
theorem d__law_frac (Fn:FnIn K mg "_law_frac" (top 30) ["_law_n", "_law_d"]) (Z:Bz mg)    : Dfn P w K mg base rl "_law_frac" ["_law_n", "_law_d"] 1 p__law_frac:=by
  have sc:=sc__law_frac
  refine Dfn.of Fn sc (p__law_frac.mono) (p__law_frac.len) (fun cdv A outer s H E hr=>(vs_cons (vs_setZ 2 sc.nd (v_abs Z.abs_ (pvs_cons (vn 0) pvs_nil)))
      (vs_cons (vs_setZ 3 sc.nd (vn 1))
      (vs_cons (vs_whileF [] PassesOwn.never (vb_cmp op_gt vo_gt (nomark _) (vn 3) pv_int) (vs_one (vs_par 2 3 rfl sc.nd (pvs_cons (vn 3) (pvs_cons (v_mod (vn 2) (vn 3)) pvs_nil)))))
      (vs_one (vs_ret (v_tup (pvs_cons (v_div (vn 0) (vn 2)) (pvs_cons (v_div (vn 1) (vn 2)) pvs_nil))))))))) ?_
  rintro ws Q ⟨a,b,rfl,⟨hb,hz⟩,hQ⟩
  refine read_of ?_
  have e:Int.gcd (if a < 0 then -a else a) b = Int.gcd a b:=by split <;> simp [Int.gcd]
  simp_arith only [len_ok]
  refine while_go (σ:=Int × Int) (fun s=>[some (.d (.int a)),some (.d (.int b)),some (.d (.int s.1)),some (.d (.int s.2))]) (fun s=>decide (0 < s.2)) (fun s=>(s.2,s.1.fmod s.2)) (fun s=>s.2.natAbs) (fun s=>0 <= s.1 /\ 0 <= s.2 /\ Int.gcd s.1 s.2 = Int.gcd a b) (if a < 0 then -a else a,b) rfl ⟨by dsimp only; split <;> omega,by dsimp only; omega,e⟩ ?_ ?_ ?_
  · intro s _
    simp_arith only [len_ok]
  · rintro s ⟨h1,h2,e⟩ c
    have hc : 0 < s.2:=by simpa using c
    have hc':s.2 ≠ 0:=by omega
    refine ⟨⟨h2,Int.fmod_nonneg_of_pos _ hc,by rw [gcd_fmod]; exact e⟩,fmod_abs_lt hc',_,?_,rfl⟩
    simp_arith only [grd_t,len_ok]
  · rintro s ⟨h1,h2,e⟩ c
    have hc:¬ 0 < s.2:=by simpa using c
    have hc:s.2 = 0:=by omega
    rw [hc,Int.gcd_zero_right] at e
    have ex:s.1 = (Int.gcd a b:Int):=by omega
    have c1:CDivB a (Int.gcd a b:Int):=gcd_div hb hz _
    have c2:CDivB b (Int.gcd a b:Int):=gcd_div hb hz _
    simp_arith only [grd_t,len_ok,ex]
    rw [low_qd hb]
    exact rt_end hQ
def p__law_below:List W -> (PyData -> Prop) -> Prop:=fun ws Q=>∃ (q r:Rat),ws = [.d (fr q),.d (fr r)] /\ ((qSm 2000 q) /\ (qSm 2000 r)) /\ Q (.bool (decide (q < r)))
theorem p__law_below.mono:∀ ws (Q Q':PyData -> Prop),(∀ d,Q d -> Q' d) -> p__law_below ws Q -> p__law_below ws Q':=fun _ _ _ h_ ⟨q,r,e_,p_,q_⟩=>⟨q,r,e_,p_,h_ _ q_⟩
theorem p__law_below.len:∀ ws (Q:PyData -> Prop),p__law_below ws Q -> ws.length = 2:=fun _ _ ⟨_,_,e_,_⟩=>by subst e_; rfl
theorem p__law_below.eq (q r:Rat) (h1:qSm 2000 q) (h2:qSm 2000 r):p__law_below [.d (fr q),.d (fr r)] = VL.ret (.bool (decide (q < r)):PyData):=by
  refine mo_ext fun Q=>⟨?_,fun q_=>⟨q,r,rfl,⟨h1,h2⟩,q_⟩⟩
  rintro ⟨q',r',e_,_,q_⟩
  simp_arith only [fr_i,sdD_i,ptD_i,boxD_i,ptsQ_i,frs_i] at e_
  obtain ⟨rfl,rfl⟩:=e_
  exact q_
theorem sc__law_below:FnScope ["_law_one", "_law_other"] ["_law_one", "_law_other"] (defScope (top 31)):=⟨rfl,rfl,rfl,by decide +kernel,rfl,by decide +kernel,by decide +kernel⟩
theorem d__law_below (Fn:FnIn K mg "_law_below" (top 31) ["_law_one", "_law_other"]) (Z:Bz mg)    : Dfn P w K mg base rl "_law_below" ["_law_one", "_law_other"] 1 p__law_below:=by
  have sc:=sc__law_below
  refine Dfn.of Fn sc (p__law_below.mono) (p__law_below.len) (fun cdv A outer s H E hr=>(vs_one (vs_ret (v_cmp op_lt vo_lt (nomark _) (v_mul (v_ix (vn 0) pv_int) (v_ix (vn 1) pv_int)) (v_mul (v_ix (vn 1) pv_int) (v_ix (vn 0) pv_int)))))) ?_
  rintro ws Q ⟨q,r,rfl,⟨h1,h2⟩,hQ⟩
  refine read_of ?_
  have m1:CMulB q.num r.den:=.bb h1.bn h2.bd
  have m2:CMulB r.num q.den:=.bb h2.bn h1.bd
  simp_arith only [grd_t,len_ok,BFR,fr_lt]
  exact rt_end hQ
def p__law_number:List W -> (PyData -> Prop) -> Prop:=fun ws Q=>ws = [.reel] /\ (True) /\ ∀ r:Rat,(qSm 20 r /\ 0 <= r /\ r < 1) -> Q (fr r)
theorem p__law_number.mono:∀ ws (Q Q':PyData -> Prop),(∀ d,Q d -> Q' d) -> p__law_number ws Q -> p__law_number ws Q':=fun _ _ _ h_ ⟨e_,p_,q_⟩=>⟨e_,p_,fun o_ ho_=>h_ _ (q_ o_ ho_)⟩
theorem p__law_number.len:∀ ws (Q:PyData -> Prop),p__law_number ws Q -> ws.length = 1:=fun _ _ ⟨e_,_⟩=>by subst e_; rfl
theorem p__law_number.eq   : p__law_number [.reel] = bnd (anyM fun r:Rat=>qSm 20 r /\ 0 <= r /\ r < 1) fun r=>VL.ret (fr r:PyData):=by
  refine mo_ext fun Q=>⟨?_,fun q_=>⟨rfl,trivial,q_⟩⟩
  rintro ⟨e_,_,q_⟩
  simp_arith only [fr_i,sdD_i,ptD_i,boxD_i,ptsQ_i,frs_i] at e_
  
  exact q_
theorem sc__law_number:FnScope ["_law_feed_here", "_law_d"] ["_law_feed_here"] (defScope (top 32)):=⟨rfl,rfl,rfl,by decide +kernel,rfl,by decide +kernel,by decide +kernel⟩
theorem d__law_number (Fn:FnIn K mg "_law_number" (top 32) ["_law_feed_here"]) (Z:Bz mg) (d__law_frac:∀ rl,Dfn P w K mg base rl "_law_frac" ["_law_n", "_law_d"] 1 p__law_frac) (d__law_draw:∀ al,DfnC P w K mg base al 1 "_law_draw" ["_law_feed_here", "_law_many"] 1 p__law_draw)   : DfnC P w K mg base al 2 "_law_number" ["_law_feed_here"] 2 p__law_number:=by
  have sc:=sc__law_number
  refine DfnC.of Fn sc (p__law_number.mono) (p__law_number.len) (fun cdv A outer s H E hr=>(cs_cons (cs_setZ 1 sc.nd (c_ix (cv fun _=>(v_lst (pvs_cons pv_int (pvs_cons pv_int (pvs_cons pv_int (pvs_cons pv_int (pvs_cons pv_int (pvs_cons pv_int (pvs_cons pv_int (pvs_cons pv_int pvs_nil)))))))))) (c_call (d__law_draw _) (hr.mono (by decide)) (cvs_cons (cv fun _=>(vn 0)) (cvs_cons (cv fun _=>pv_int) cvs_nil)))))
      (cs_one (cs_ret (c_callN (fun n=>d__law_frac _) (hr.mono (by decide)) (cvs_cons (c_call (d__law_draw _) (hr.mono (by decide)) (cvs_cons (cv fun _=>(vn 0)) (cvs_cons (cv fun _=>(vn 1)) cvs_nil))) (cvs_cons (cv fun _=>(vn 1)) cvs_nil))))))) (by decide) ?_
  rintro ws Q ⟨rfl,_,hQ⟩
  refine read_of ?_
  simp_arith only [grd_t,len_ok,m_vRN,m_vRC,s_rput,s_bump,asR_r,s_forC,m_compC,rangeD_length,p__law_draw.eq]
  (with_reducible (first | refine any_step fun k hk=>?_ | refine sqb_any fun k hk=>?_))
  refine sqo (menuA_step (xs:=[2,3,4,5,6,8,12,1000003]) (enc:=PyData.int) (fun m=>2 <= m /\ m <= 1000003) rfl hk.1 (by show k < 8; omega) (by decide) fun m hm=>?_)
  have m0 : 0 < m:=by omega
  have mb:m < 2 ^ 60:=by omega
  have mz:m.natAbs < 2 ^ 8000:=Nat.lt_of_lt_of_le (show m.natAbs < 2 ^ 60 by omega) (Nat.pow_le_pow_right (by decide) (by decide))
  simp_arith only [grd_t,len_ok,m_vRN,m_vRC,s_rput,s_bump,asR_r,s_forC,m_compC,rangeD_length,p__law_draw.eq]
  (with_reducible (first | refine any_step fun x hx=>?_ | refine sqb_any fun x hx=>?_))
  simp_arith only [grd_t,len_ok,m_vRN,m_vRC,s_rput,s_bump,asR_r,s_forC,m_compC,rangeD_length,p__law_frac.eq]
  exact rt_end (hQ _ ⟨qd_sm m0 (by omega) (by omega),qd_nn m0 hx.1,qd_lt1 m0 hx.2⟩)
def Pts (s:Nat) (ps:List (List Rat)):Prop:=∀ p ∈ ps,p.length = s /\ ∀ q ∈ p,qSm 20 q /\ 0 <= q /\ q < 1
def p__law_points:List W -> (PyData -> Prop) -> Prop:=fun ws Q=>∃ (s m:Int),ws = [.reel,.d (.int s),.d (.int m)] /\ ((1 <= s) /\ (s <= 4) /\ (1 <= m) /\ (m <= 40)) /\ ∀ ps:List (List Rat),(Pts s.toNat ps /\ ps.length = m.toNat) -> Q (ptsQ ps)
theorem p__law_points.mono:∀ ws (Q Q':PyData -> Prop),(∀ d,Q d -> Q' d) -> p__law_points ws Q -> p__law_points ws Q':=fun _ _ _ h_ ⟨s,m,e_,p_,q_⟩=>⟨s,m,e_,p_,fun o_ ho_=>h_ _ (q_ o_ ho_)⟩
theorem p__law_points.len:∀ ws (Q:PyData -> Prop),p__law_points ws Q -> ws.length = 3:=fun _ _ ⟨_,_,e_,_⟩=>by subst e_; rfl
theorem p__law_points.eq (s m:Int) (s1 : 1 <= s) (s4:s <= 4) (m1 : 1 <= m) (m40:m <= 40):p__law_points [.reel,.d (.int s),.d (.int m)] = bnd (anyM fun ps:List (List Rat)=>Pts s.toNat ps /\ ps.length = m.toNat) fun ps=>VL.ret (ptsQ ps:PyData):=by
  refine mo_ext fun Q=>⟨?_,fun q_=>⟨s,m,rfl,⟨s1,s4,m1,m40⟩,q_⟩⟩
  rintro ⟨s',m',e_,_,q_⟩
  simp_arith only [fr_i,sdD_i,ptD_i,boxD_i,ptsQ_i,frs_i] at e_
  obtain ⟨rfl,rfl⟩:=e_
  exact q_
theorem sc__law_points:FnScope ["_law_feed_here", "_law_s", "_law_many", "_law_found", "_law_k", "_law_point"] ["_law_feed_here", "_law_s", "_law_many"] (defScope (top 33)):=⟨rfl,rfl,rfl,by decide +kernel,rfl,by decide +kernel,by decide +kernel⟩
theorem d__law_points (Fn:FnIn K mg "_law_points" (top 33) ["_law_feed_here", "_law_s", "_law_many"]) (Z:Bz mg) (d__law_number:∀ al,DfnC P w K mg base al 2 "_law_number" ["_law_feed_here"] 2 p__law_number) (d__law_draw:∀ al,DfnC P w K mg base al 1 "_law_draw" ["_law_feed_here", "_law_many"] 1 p__law_draw)   : DfnC P w K mg base al 8320 "_law_points" ["_law_feed_here", "_law_s", "_law_many"] 3 p__law_points:=by
  have sc:=sc__law_points
  refine DfnC.of Fn sc (p__law_points.mono) (p__law_points.len) (fun cdv A outer s H E hr=>(cs_cons (cs fun _=>(vs_set 3 sc.nd (v_lst pvs_nil)))
      (cs_cons (cs_for 64 [4,5] PassesOwn.never rfl (ci fun _=>(vi_range1 Z.range_ (pvs_cons (vn 2) pvs_nil))) (fun _=>(vg_name 4 sc.nd)) (cs_cons (cs_setZ 5 sc.nd (c_tuple Z.tuple_ (cvs_cons (c_lcomp 64 ["_law_side", "_law_feed_here"] [none,some 0] rfl (ci fun _=>(vi_range1 Z.range_ (pvs_cons (vn 1) pvs_nil))) (fun _ _=>(vg_name 0 (show List.Nodup (["_law_side", "_law_feed_here"]:List Str) by decide +kernel))) (fun _=>ct_nil) (fun _=>(c_call (d__law_number _) (hr.mono (by decide)) (cvs_cons (cv fun _=>(vn 1)) cvs_nil)))) cvs_nil)))
      (cs_cons (cs_if (CBW.cb (cb_and (cb fun _=>(vb_cmp (op_neD hr.units) vo_eqD (nomark _) (vn 3) (v_lst pvs_nil))) (cb_one1 (cb_cmp (op_eqD hr.units) (fun _=>vo_eqD) (nomark _) (c_call (d__law_draw _) (hr.mono (by decide)) (cvs_cons (cv fun _=>(vn 0)) (cvs_cons (cv fun _=>pv_int) cvs_nil))) (cv fun _=>pv_int))))) (cs_one (cs_setZ 5 sc.nd (c_ix (cv fun _=>(vn 3)) (c_call (d__law_draw _) (hr.mono (by decide)) (cvs_cons (cv fun _=>(vn 0)) (cvs_cons (cv fun _=>(v_len Z.len_ (pvs_cons (vn 3) pvs_nil))) cvs_nil)))))) cs_nil)
      (cs_one (cs fun _=>(vs_app 3 (pvs_cons (vn 5) pvs_nil)))))))
      (cs_one (cs fun _=>(vs_ret (v_tuple Z.tuple_ (pvs_cons (vn 3) pvs_nil)))))))) (by decide) ?_
  rintro ws Q ⟨s,m,rfl,⟨s1,s4,m1,m40⟩,hQ⟩
  refine read_of ?_
  have sz:=PySem.sizeLine_eq
  have gs : -(2 ^ 62) <= s /\ s < 2 ^ 62:=by omega
  have gm : -(2 ^ 62) <= m /\ m < 2 ^ 62:=by omega
  simp_arith only [grd_t,len_ok,m_vRN,m_vRC,s_rput,s_bump,asR_r,s_forC,m_compC,rangeD_length]
  refine invR_go (fun i ρ=>∃ ps:List (List Rat),ps.length = i /\ Pts s.toNat ps /\ ρ = [some .reel,some (.d (.int s)),some (.d (.int m)),some (.ml (ps.map ptD)),none,none]) ⟨[],rfl,by simp [Pts],rfl⟩ ?_ ?_
  · rintro i hi ρ ⟨ps,hl,hp,rfl⟩ K hK
    simp_arith only [grd_t,len_ok,m_vRN,m_vRC,s_rput,s_bump,asR_r,s_forC,m_compC,rangeD_length]
    refine sqb (canyR_go (fun d=>∃ r:Rat,(qSm 20 r /\ 0 <= r /\ r < 1) /\ d = fr r) ?_ (by omega) ?_)
    · intro j hj K2 hK2
      simp_arith only [grd_t,len_ok,itM,p__law_number.eq]
      (with_reducible (first | refine any_step fun x hx=>?_ | refine sqb_any fun x hx=>?_))
      exact hK2 _ ⟨x,hx,rfl⟩
    intro ds dl hds
    obtain ⟨qs,rfl,ql,hqs⟩:=dec_list hds
    have qlen:qs.length = s.toNat:=by omega
    have qz:(qs.map fr).length <= sizeLine:=by rw [List.length_map]; omega
    have pz:ps.length < sizeLine:=by omega
    have fin:∀ p:List Rat,(p.length = s.toNat /\ ∀ q ∈ p,qSm 20 q /\ 0 <= q /\ q < 1) -> ∀ o o',K (.nx [some .reel,some (.d (.int s)),some (.d (.int m)),some (.ml (ps.map ptD ++ [ptD p])),o,o']):=fun p hpp o o' =>
      hK _ (lpS_nx ⟨ps ++ [p],by rw [List.length_append,hl]; rfl,fun z mz=>by
        rcases List.mem_append.mp mz with h | h
        · exact hp z h
        · rw [List.mem_singleton.mp h]; exact hpp,by simp [fo,List.map_append]⟩)
    have sh:=shaped_pts ps
    have e0:SeqAt.shaped (.list []) = true:=by decide
    simp_arith only [grd_t,len_ok,m_vRN,m_vRC,s_rput,s_bump,asR_r,s_forC,m_compC,rangeD_length,BSH,sh,e0,eqv_nil,p__law_draw.eq]
    refine ite_step (fun hne=>?_) fun _=>fin qs ⟨qlen,hqs⟩ _ _
    (with_reducible (first | refine any_step fun a ha=>?_ | refine sqb_any fun a ha=>?_))
    try rw [sq_ite]
    refine ite_step (fun _=>?_) fun _=>?_
    · have pn : 0 < ps.length:=by
        cases ps with
        | nil=>exact absurd hne (by decide)
        | cons x l=>simp
      have p1:(0:Int) < (ps.length:Int):=by omega
      have p2:(ps.length:Int) < 2 ^ 60:=by omega
      simp_arith only [grd_t,len_ok,m_vRN,m_vRC,s_rput,s_bump,asR_r,s_forC,m_compC,rangeD_length,p__law_draw.eq]
      (with_reducible (first | refine any_step fun k hk=>?_ | refine sqb_any fun k hk=>?_))
      refine sqo (menuA_step (xs:=ps) (enc:=ptD) (fun p:List Rat=>p.length = s.toNat /\ ∀ q ∈ p,qSm 20 q /\ 0 <= q /\ q < 1) rfl hk.1 hk.2 hp fun p hpp=>?_)
      simp_arith only [grd_t,len_ok,m_vRN,m_vRC,s_rput,s_bump,asR_r,s_forC,m_compC,rangeD_length]
      exact fin p hpp _ _
    · simp_arith only [grd_t,len_ok,m_vRN,m_vRC,s_rput,s_bump,asR_r,s_forC,m_compC,rangeD_length]
      exact fin qs ⟨qlen,hqs⟩ _ _
  · rintro ρ ⟨ps,hl,hp,rfl⟩
    simp_arith only [grd_t,len_ok,m_vRN,m_vRC,s_rput,s_bump,asR_r,s_forC,m_compC,rangeD_length]
    exact rt_end (hQ ps ⟨hp,hl⟩)
def p__law_cuts:List W -> (PyData -> Prop) -> Prop:=fun ws Q=>∃ (s:Int),ws = [.reel,.d (.int s)] /\ ((1 <= s) /\ (s <= 2)) /\ ∀ cs:List (List Rat),(cs.length = s.toNat /\ ∀ c ∈ cs,CutOk (if s = 1 then 6 else 3) c) -> Q (ptsQ cs)
theorem p__law_cuts.mono:∀ ws (Q Q':PyData -> Prop),(∀ d,Q d -> Q' d) -> p__law_cuts ws Q -> p__law_cuts ws Q':=fun _ _ _ h_ ⟨s,e_,p_,q_⟩=>⟨s,e_,p_,fun o_ ho_=>h_ _ (q_ o_ ho_)⟩
theorem p__law_cuts.len:∀ ws (Q:PyData -> Prop),p__law_cuts ws Q -> ws.length = 2:=fun _ _ ⟨_,e_,_⟩=>by subst e_; rfl
theorem p__law_cuts.eq (s:Int) (s1 : 1 <= s) (s2:s <= 2):p__law_cuts [.reel,.d (.int s)] = bnd (anyM fun cs:List (List Rat)=>cs.length = s.toNat /\ ∀ c ∈ cs,CutOk (if s = 1 then 6 else 3) c) fun cs=>VL.ret (ptsQ cs:PyData):=by
  refine mo_ext fun Q=>⟨?_,fun q_=>⟨s,rfl,⟨s1,s2⟩,q_⟩⟩
  rintro ⟨s',e_,_,q_⟩
  simp_arith only [fr_i,sdD_i,ptD_i,boxD_i,ptsQ_i,frs_i] at e_
  obtain rfl:=e_
  exact q_
theorem sc__law_cuts:FnScope ["_law_feed_here", "_law_s", "_law_found", "_law_side", "_law_d", "_law_some", "_law_at_here", "_law_k"] ["_law_feed_here", "_law_s"] (defScope (top 34)):=⟨rfl,rfl,rfl,by decide +kernel,rfl,by decide +kernel,by decide +kernel⟩
theorem d__law_cuts (Fn:FnIn K mg "_law_cuts" (top 34) ["_law_feed_here", "_law_s"]) (Z:Bz mg) (d__law_draw:∀ al,DfnC P w K mg base al 1 "_law_draw" ["_law_feed_here", "_law_many"] 1 p__law_draw) (d__law_frac:∀ rl,Dfn P w K mg base rl "_law_frac" ["_law_n", "_law_d"] 1 p__law_frac)   : DfnC P w K mg base al 4224 "_law_cuts" ["_law_feed_here", "_law_s"] 2 p__law_cuts:=by
  have sc:=sc__law_cuts
  refine DfnC.of Fn sc (p__law_cuts.mono) (p__law_cuts.len) (fun cdv A outer s H E hr=>(cs_cons (cs fun _=>(vs_set 2 sc.nd (v_lst pvs_nil)))
      (cs_cons (cs_for 64 [3,4,5,6,7] PassesOwn.never rfl (ci fun _=>(vi_range1 Z.range_ (pvs_cons (vn 1) pvs_nil))) (fun _=>(vg_name 3 sc.nd)) (cs_cons (cs_setZ 4 sc.nd (c_ix (cv fun _=>(v_lst (pvs_cons pv_int (pvs_cons pv_int (pvs_cons pv_int (pvs_cons pv_int pvs_nil)))))) (c_call (d__law_draw _) (hr.mono (by decide)) (cvs_cons (cv fun _=>(vn 0)) (cvs_cons (cv fun _=>pv_int) cvs_nil)))))
      (cs_cons (cs fun _=>(vs_set 5 sc.nd (v_lst pvs_nil)))
      (cs_cons (cs fun _=>(vs_setZ 6 sc.nd pv_int))
      (cs_cons (cs_for 64 [7] PassesOwn.never rfl (ci_range1 Z.range_ (cvs_cons (c_call (d__law_draw _) (hr.mono (by decide)) (cvs_cons (cv fun _=>(vn 0)) (cvs_cons (cv fun _=>(v_ix (v_lst (pvs_cons pv_int (pvs_cons pv_int pvs_nil))) (v_sub (vn 1) pv_int))) cvs_nil))) cvs_nil)) (fun _=>(vg_name 7 sc.nd)) (cs_one (cs_if (cb fun _=>(vb_cmp op_lt vo_lt (nomark _) (v_add (vn 6) pv_int) (vn 4))) (cs_cons (cs_setZ 6 sc.nd (c_add (cv fun _=>(v_add (vn 6) pv_int)) (c_call (d__law_draw _) (hr.mono (by decide)) (cvs_cons (cv fun _=>(vn 0)) (cvs_cons (cv fun _=>(v_min2 Z.min_ (pvs_cons pv_int (pvs_cons (v_sub (v_sub (vn 4) (vn 6)) pv_int) pvs_nil)))) cvs_nil)))))
      (cs_one (cs fun _=>(vs_app 5 (pvs_cons (v_call (d__law_frac _) (hr.mono (by decide)) (pvs_cons (vn 6) (pvs_cons (vn 4) pvs_nil))) pvs_nil))))) cs_nil)))
      (cs_one (cs fun _=>(vs_app 2 (pvs_cons (v_tuple Z.tuple_ (pvs_cons (vn 5) pvs_nil)) pvs_nil)))))))))
      (cs_one (cs fun _=>(vs_ret (v_tuple Z.tuple_ (pvs_cons (vn 2) pvs_nil)))))))) (by decide) ?_
  rintro ws Q ⟨s,rfl,⟨s1,s2⟩,hQ⟩
  refine read_of ?_
  have sz:=PySem.sizeLine_eq
  have gs : -(2 ^ 62) <= s /\ s < 2 ^ 62:=by omega
  simp_arith only [grd_t,len_ok,m_vRN,m_vRC,s_rput,s_bump,asR_r,s_forC,m_compC,rangeD_length]
  refine invR_go (fun i ρ=>∃ cs:List (List Rat),cs.length = i /\ (∀ c ∈ cs,CutOk (if s = 1 then 6 else 3) c) /\ ρ = [some .reel,some (.d (.int s)),some (.ml (cs.map ptD)),none,none,none,none,none]) ⟨[],rfl,by simp [Pts],rfl⟩ ?_ ?_
  · rintro i hi ρ ⟨cs,hl,hc,rfl⟩ K hK
    simp_arith only [grd_t,len_ok,m_vRN,m_vRC,s_rput,s_bump,asR_r,s_forC,m_compC,rangeD_length,p__law_draw.eq]
    (with_reducible (first | refine any_step fun k hk=>?_ | refine sqb_any fun k hk=>?_))
    refine sqo (menuA_step (xs:=[8,9,12,1000003]) (enc:=PyData.int) (fun m=>8 <= m /\ m <= 1000003) rfl hk.1 (by show k < 4; omega) (by decide) fun d hd=>?_)
    have d0 : 0 < d:=by omega
    have dz:d.natAbs < 2 ^ 8000:=Nat.lt_of_lt_of_le (show d.natAbs < 2 ^ 60 by omega) (Nat.pow_le_pow_right (by decide) (by decide))
    have e7:atI [PyData.int 7,.int 4] (s - 1) = some (.int (if s = 1 then 7 else 4)):=by
      rcases (show s = 1 \/ s = 2 by omega) with rfl | rfl <;> rfl
    have r7 : 0 < (if s = 1 then (7:Int) else 4) /\ (if s = 1 then (7:Int) else 4) < 2 ^ 60:=by split <;> omega
    obtain ⟨r70,r71⟩:=r7
    simp_arith only [grd_t,len_ok,m_vRN,m_vRC,s_rput,s_bump,asR_r,s_forC,m_compC,rangeD_length,p__law_draw.eq,e7]
    (with_reducible (first | refine any_step fun n hn=>?_ | refine sqb_any fun n hn=>?_))
    have gn : -(2 ^ 62) <= n /\ n < 2 ^ 62:=by omega
    have n7:n.toNat <= (if s = 1 then 6 else 3):=by have:=hn.2; split at this <;> simp_all <;> omega
    have n64:n.toNat <= 64:=by split at n7 <;> omega
    simp_arith only [grd_t,len_ok,m_vRN,m_vRC,s_rput,s_bump,asR_r,s_forC,m_compC,rangeD_length]
    refine invR_go (fun j ρ=>∃ (as:List Int) (a:Int),as.length <= j /\ (∀ x ∈ as,0 < x /\ x <= a) /\ as.Pairwise (· < ·) /\ 0 <= a /\ a < d /\ ρ = [some .reel,some (.d (.int s)),some (.ml (cs.map ptD)),some (.d (.int (0 + i))),some (.d (.int d)),some (.ml ((as.map fun a=>qd a d).map fr)),some (.d (.int a)),none]) ⟨[],0,Nat.le_refl _,by simp,.nil,Int.le_refl _,d0,rfl⟩ ?_ ?_
    · rintro j hj ρ ⟨as,a,al,ha,hpw,a0,a1,rfl⟩ K2 hK2
      simp_arith only [grd_t,len_ok,m_vRN,m_vRC,s_rput,s_bump,asR_r,s_forC,m_compC,rangeD_length,p__law_draw.eq]
      refine ite_step (fun hlt=>?_) fun _=>hK2 _ (lpS_nx ⟨as,a,by omega,ha,hpw,a0,a1,rfl⟩)
      have hlt:=of_decide_eq_true hlt
      have m0 : 0 < min 4 (d - a - 1):=by omega
      have m1:min 4 (d - a - 1) < 2 ^ 60:=by omega
      simp_arith only [grd_t,len_ok,m_vRN,m_vRC,s_rput,s_bump,asR_r,s_forC,m_compC,rangeD_length,p__law_draw.eq]
      (with_reducible (first | refine any_step fun x hx=>?_ | refine sqb_any fun x hx=>?_))
      have az:as.length < sizeLine:=by split at n7 <;> omega
      have xd:a + 1 + x < d:=by have:=hx.2; omega
      have x0:=hx.1
      generalize hy:a + 1 + x = y at xd
      simp_arith only [grd_t,len_ok,m_vRN,m_vRC,s_rput,s_bump,asR_r,s_forC,m_compC,rangeD_length,p__law_frac.eq]
      refine hK2 _ (lpS_nx ⟨as ++ [y],y,by rw [List.length_append]; simp; omega,fun z mz=>?_,?_,by omega,xd,by simp [fo,List.map_append]⟩)
      · rcases List.mem_append.mp mz with h | h
        · have:=ha z h; omega
        · rw [List.mem_singleton.mp h]; omega
      · rw [List.pairwise_append]
        refine ⟨hpw,List.pairwise_singleton _ _,fun u mu v mv=>?_⟩
        rw [List.mem_singleton.mp mv]
        have:=ha u mu
        omega
    · rintro ρ ⟨as,a,al,ha,hpw,a0,a1,rfl⟩
      have cz:cs.length < sizeLine:=by omega
      have az:as.length <= sizeLine:=by split at n7 <;> omega
      simp_arith only [grd_t,len_ok,m_vRN,m_vRC,s_rput,s_bump,asR_r,s_forC,m_compC,rangeD_length]
      refine hK _ (lpS_nx ⟨cs ++ [as.map fun a=>qd a d],by rw [List.length_append,hl]; rfl,fun c mc=>?_,by simp [fo,List.map_append,ptD]⟩)
      rcases List.mem_append.mp mc with h | h
      · exact hc c h
      · rw [List.mem_singleton.mp h]
        exact ⟨d,as,d0,by omega,Nat.le_trans al n7,rfl,fun x mx=>by have:=ha x mx; omega,hpw⟩
  · rintro ρ ⟨cs,hl,hc,rfl⟩
    simp_arith only [grd_t,len_ok,m_vRN,m_vRC,s_rput,s_bump,asR_r,s_forC,m_compC,rangeD_length]
    exact rt_end (hQ cs ⟨hl,hc⟩)
def p__law_value:List W -> (PyData -> Prop) -> Prop:=fun ws Q=>ws = [.reel] /\ (True) /\ ∀ r:Rat,(qSm 20 r) -> Q (fr r)
theorem p__law_value.mono:∀ ws (Q Q':PyData -> Prop),(∀ d,Q d -> Q' d) -> p__law_value ws Q -> p__law_value ws Q':=fun _ _ _ h_ ⟨e_,p_,q_⟩=>⟨e_,p_,fun o_ ho_=>h_ _ (q_ o_ ho_)⟩
theorem p__law_value.len:∀ ws (Q:PyData -> Prop),p__law_value ws Q -> ws.length = 1:=fun _ _ ⟨e_,_⟩=>by subst e_; rfl
theorem p__law_value.eq   : p__law_value [.reel] = bnd (anyM fun r:Rat=>qSm 20 r) fun r=>VL.ret (fr r:PyData):=by
  refine mo_ext fun Q=>⟨?_,fun q_=>⟨rfl,trivial,q_⟩⟩
  rintro ⟨e_,_,q_⟩
  simp_arith only [fr_i,sdD_i,ptD_i,boxD_i,ptsQ_i,frs_i] at e_
  
  exact q_
theorem sc__law_value:FnScope ["_law_feed_here"] ["_law_feed_here"] (defScope (top 35)):=⟨rfl,rfl,rfl,by decide +kernel,rfl,by decide +kernel,by decide +kernel⟩
theorem d__law_value (Fn:FnIn K mg "_law_value" (top 35) ["_law_feed_here"]) (Z:Bz mg) (d__law_frac:∀ rl,Dfn P w K mg base rl "_law_frac" ["_law_n", "_law_d"] 1 p__law_frac) (d__law_draw:∀ al,DfnC P w K mg base al 1 "_law_draw" ["_law_feed_here", "_law_many"] 1 p__law_draw)   : DfnC P w K mg base al 2 "_law_value" ["_law_feed_here"] 2 p__law_value:=by
  have sc:=sc__law_value
  refine DfnC.of Fn sc (p__law_value.mono) (p__law_value.len) (fun cdv A outer s H E hr=>(cs_one (cs_ret (c_callN (fun n=>d__law_frac _) (hr.mono (by decide)) (cvs_cons (c_sub (c_call (d__law_draw _) (hr.mono (by decide)) (cvs_cons (cv fun _=>(vn 0)) (cvs_cons (cv fun _=>pv_int) cvs_nil))) (cv fun _=>pv_int)) (cvs_cons (c_ix (cv fun _=>(v_lst (pvs_cons pv_int (pvs_cons pv_int (pvs_cons pv_int (pvs_cons pv_int (pvs_cons pv_int (pvs_cons pv_int pvs_nil)))))))) (c_call (d__law_draw _) (hr.mono (by decide)) (cvs_cons (cv fun _=>(vn 0)) (cvs_cons (cv fun _=>pv_int) cvs_nil)))) cvs_nil)))))) (by decide) ?_
  rintro ws Q ⟨rfl,_,hQ⟩
  refine read_of ?_
  simp_arith only [grd_t,len_ok,m_vRN,m_vRC,s_rput,s_bump,asR_r,s_forC,m_compC,rangeD_length,p__law_draw.eq]
  (with_reducible (first | refine any_step fun a ha=>?_ | refine sqb_any fun a ha=>?_))
  try simp_arith only [grd_t,len_ok,m_vRN,m_vRC,s_rput,s_bump,asR_r,s_forC,m_compC,rangeD_length,p__law_draw.eq]
  (with_reducible (first | refine any_step fun k hk=>?_ | refine sqb_any fun k hk=>?_))
  try simp_arith only [grd_t,len_ok,m_vRN,m_vRC,s_rput,s_bump,asR_r,s_forC,m_compC,rangeD_length,p__law_draw.eq]
  refine (menuA_step (xs:=[1,1,2,3,7,999983]) (enc:=PyData.int) (fun m=>1 <= m /\ m <= 999983) rfl hk.1 (by show k < 6; omega) (by decide) fun m hm=>?_)
  have m0 : 0 < m:=by omega
  have mz:m.natAbs < 2 ^ 8000:=Nat.lt_of_lt_of_le (show m.natAbs < 2 ^ 60 by omega) (Nat.pow_le_pow_right (by decide) (by decide))
  simp_arith only [grd_t,len_ok,m_vRN,m_vRC,s_rput,s_bump,asR_r,s_forC,m_compC,rangeD_length,p__law_frac.eq]
  exact rt_end (hQ _ (qd_sm m0 (by omega) (by omega)))
def p__law_sheet:List W -> (PyData -> Prop) -> Prop:=fun ws Q=>∃ (s:Int),ws = [.reel,.d (.int s)] /\ ((1 <= s) /\ (s <= 2)) /\ ∀ h:Sh,(h.Ok /\ h.cuts.length = s.toNat) -> Q (shD h)
theorem p__law_sheet.mono:∀ ws (Q Q':PyData -> Prop),(∀ d,Q d -> Q' d) -> p__law_sheet ws Q -> p__law_sheet ws Q':=fun _ _ _ h_ ⟨s,e_,p_,q_⟩=>⟨s,e_,p_,fun o_ ho_=>h_ _ (q_ o_ ho_)⟩
theorem p__law_sheet.len:∀ ws (Q:PyData -> Prop),p__law_sheet ws Q -> ws.length = 2:=fun _ _ ⟨_,e_,_⟩=>by subst e_; rfl
theorem p__law_sheet.eq (s:Int) (s1 : 1 <= s) (s2:s <= 2):p__law_sheet [.reel,.d (.int s)] = bnd (anyM fun h:Sh=>h.Ok /\ h.cuts.length = s.toNat) fun h=>VL.ret (shD h:PyData):=by
  refine mo_ext fun Q=>⟨?_,fun q_=>⟨s,rfl,⟨s1,s2⟩,q_⟩⟩
  rintro ⟨s',e_,_,q_⟩
  simp_arith only [fr_i,sdD_i,ptD_i,boxD_i,ptsQ_i,frs_i,shD_i,lsts_i] at e_
  obtain rfl:=e_
  exact q_
theorem sc__law_sheet:FnScope ["_law_feed_here", "_law_s", "_law_cuts_here", "_law_rows", "_law_k"] ["_law_feed_here", "_law_s"] (defScope (top 36)):=⟨rfl,rfl,rfl,by decide +kernel,rfl,by decide +kernel,by decide +kernel⟩
theorem d__law_sheet (Fn:FnIn K mg "_law_sheet" (top 36) ["_law_feed_here", "_law_s"]) (Z:Bz mg) (d__law_cuts:∀ al,DfnC P w K mg base al 4224 "_law_cuts" ["_law_feed_here", "_law_s"] 2 p__law_cuts) (d__law_value:∀ al,DfnC P w K mg base al 2 "_law_value" ["_law_feed_here"] 2 p__law_value)   : DfnC P w K mg base al 12544 "_law_sheet" ["_law_feed_here", "_law_s"] 3 p__law_sheet:=by
  have sc:=sc__law_sheet
  refine DfnC.of Fn sc (p__law_sheet.mono) (p__law_sheet.len) (fun cdv A outer s H E hr=>(cs_cons (cs_setZ 2 sc.nd (c_call (d__law_cuts _) (hr.mono (by decide)) (cvs_cons (cv fun _=>(vn 0)) (cvs_cons (cv fun _=>(vn 1)) cvs_nil))))
      (cs_cons (cs_if (cb fun _=>(vb_cmp (op_eqD hr.units) vo_eqD (nomark _) (vn 1) pv_int)) (cs_one (cs_ret (c_tup (cvs_cons (cv fun _=>(vn 2)) (cvs_cons (c_tuple Z.tuple_ (cvs_cons (c_lcomp 64 ["_law_k", "_law_feed_here"] [none,some 0] rfl (ci fun _=>(vi_range1 Z.range_ (pvs_cons (v_add (v_len Z.len_ (pvs_cons (v_ix (vn 2) pv_int) pvs_nil)) pv_int) pvs_nil))) (fun _ _=>(vg_name 0 (show List.Nodup (["_law_k", "_law_feed_here"]:List Str) by decide +kernel))) (fun _=>ct_nil) (fun _=>(c_call (d__law_value _) (hr.mono (by decide)) (cvs_cons (cv fun _=>(vn 1)) cvs_nil)))) cvs_nil)) cvs_nil))))) cs_nil)
      (cs_cons (cs fun _=>(vs_set 3 sc.nd (v_lst pvs_nil)))
      (cs_cons (cs_for 64 [4] PassesOwn.never rfl (ci fun _=>(vi_range1 Z.range_ (pvs_cons (v_add (v_len Z.len_ (pvs_cons (v_ix (vn 2) pv_int) pvs_nil)) pv_int) pvs_nil))) (fun _=>(vg_name 4 sc.nd)) (cs_one (cs_app 3 (cvs_cons (c_tuple Z.tuple_ (cvs_cons (c_lcomp 64 ["_law_j", "_law_feed_here"] [none,some 0] rfl (ci fun _=>(vi_range1 Z.range_ (pvs_cons (v_add (v_len Z.len_ (pvs_cons (v_ix (vn 2) pv_int) pvs_nil)) pv_int) pvs_nil))) (fun _ _=>(vg_name 0 (show List.Nodup (["_law_j", "_law_feed_here"]:List Str) by decide +kernel))) (fun _=>ct_nil) (fun _=>(c_call (d__law_value _) (hr.mono (by decide)) (cvs_cons (cv fun _=>(vn 1)) cvs_nil)))) cvs_nil)) cvs_nil))))
      (cs_one (cs fun _=>(vs_ret (v_tup (pvs_cons (vn 2) (pvs_cons (v_tuple Z.tuple_ (pvs_cons (vn 3) pvs_nil)) pvs_nil))))))))))) (by decide) ?_
  rintro ws Q ⟨s,rfl,⟨s1,s2⟩,hQ⟩
  refine read_of ?_
  have sz:=PySem.sizeLine_eq
  simp_arith only [grd_t,len_ok,m_vRN,m_vRC,s_rput,s_bump,asR_r,s_forC,m_compC,rangeD_length,p__law_cuts.eq]
  (with_reducible (first | refine any_step fun cs hcs=>?_ | refine sqb_any fun cs hcs=>?_))
  obtain ⟨cl,hc⟩:=hcs
  rcases (show s = 1 \/ s = 2 by omega) with rfl | rfl
  · obtain ⟨c,rfl⟩:∃ c,cs = [c]:=by
      match cs,cl with
      | [c],_=>exact ⟨c,rfl⟩
    have ck:CutOk 6 c:=hc c List.mem_cons_self
    have c6:=ck.len
    have gc : -(2 ^ 62) <= ((c.length:Int) + 1) /\ ((c.length:Int) + 1) < 2 ^ 62:=by omega
    have e1:((c.length:Int) + 1).toNat = c.length + 1:=by omega
    have t64:((c.length:Int) + 1).toNat <= 64:=by omega
    simp_arith only [grd_t,len_ok,m_vRN,m_vRC,s_rput,s_bump,asR_r,s_forC,m_compC,rangeD_length,BFR]
    refine sqb (canyR_go (fun d=>∃ r:Rat,qSm 20 r /\ d = fr r) ?_ (by omega) ?_)
    · intro j hj K2 hK2
      simp_arith only [grd_t,len_ok,itM,p__law_value.eq]
      (with_reducible (first | refine any_step fun x hx=>?_ | refine sqb_any fun x hx=>?_))
      exact hK2 _ ⟨x,hx,rfl⟩
    intro ds dl hds
    obtain ⟨qs,rfl,ql,hqs⟩:=dec_list hds
    have qz:(qs.map fr).length <= sizeLine:=by omega
    simp_arith only [grd_t,len_ok,m_vRN,m_vRC,s_rput,s_bump,asR_r,s_forC,m_compC,rangeD_length,BSH]
    exact rt_end (hQ (.one c qs) ⟨⟨ck,by omega,hqs⟩,rfl⟩)
  · obtain ⟨c,d,rfl⟩:∃ c d,cs = [c,d]:=by
      match cs,cl with
      | [c,d],_=>exact ⟨c,d,rfl⟩
    have ck:CutOk 3 c:=hc c List.mem_cons_self
    have dk:CutOk 3 d:=hc d (List.mem_cons_of_mem _ List.mem_cons_self)
    have c6:=ck.len
    have d6:=dk.len
    have gc : -(2 ^ 62) <= ((c.length:Int) + 1) /\ ((c.length:Int) + 1) < 2 ^ 62:=by omega
    have gd : -(2 ^ 62) <= ((d.length:Int) + 1) /\ ((d.length:Int) + 1) < 2 ^ 62:=by omega
    have e1:((c.length:Int) + 1).toNat = c.length + 1:=by omega
    have e2:((d.length:Int) + 1).toNat = d.length + 1:=by omega
    simp_arith only [grd_t,len_ok,m_vRN,m_vRC,s_rput,s_bump,asR_r,s_forC,m_compC,rangeD_length,BFR,e1,e2]
    refine invR_go (fun i ρ=>∃ vs:List (List Rat),vs.length = i /\ (∀ v ∈ vs,v.length = d.length + 1 /\ ∀ q ∈ v,qSm 20 q) /\ ρ = [some .reel,some (.d (.int 2)),some (.d (ptsQ [c,d])),some (.ml (vs.map ptD)),none]) ⟨[],rfl,by simp,rfl⟩ ?_ ?_
    · rintro i hi ρ ⟨vs,hl,hv,rfl⟩ K hK
      simp_arith only [grd_t,len_ok,m_vRN,m_vRC,s_rput,s_bump,asR_r,s_forC,m_compC,rangeD_length,BFR,e2]
      refine (canyR_go (fun d=>∃ r:Rat,qSm 20 r /\ d = fr r) ?_ (by omega) ?_)
      · intro j hj K2 hK2
        simp_arith only [grd_t,len_ok,itM,p__law_value.eq]
        (with_reducible (first | refine any_step fun x hx=>?_ | refine sqb_any fun x hx=>?_))
        exact hK2 _ ⟨x,hx,rfl⟩
      intro ds dl hds
      obtain ⟨qs,rfl,ql,hqs⟩:=dec_list hds
      have qz:(qs.map fr).length <= sizeLine:=by omega
      have vz:vs.length < sizeLine:=by omega
      simp_arith only [grd_t,len_ok,m_vRN,m_vRC,s_rput,s_bump,asR_r,s_forC,m_compC,rangeD_length,BSH]
      refine hK _ (lpS_nx ⟨vs ++ [qs],by rw [List.length_append,hl]; rfl,fun v mv=>?_,by simp [fo,List.map_append]⟩)
      rcases List.mem_append.mp mv with h | h
      · exact hv v h
      · rw [List.mem_singleton.mp h]; exact ⟨by omega,hqs⟩
    · rintro ρ ⟨vs,hl,hv,rfl⟩
      have vz:vs.length <= sizeLine:=by omega
      simp_arith only [grd_t,len_ok,m_vRN,m_vRC,s_rput,s_bump,asR_r,s_forC,m_compC,rangeD_length]
      exact rt_end (hQ (.two c d vs) ⟨⟨ck,dk,hl,hv⟩,rfl⟩)
def p__law_plus:List W -> (PyData -> Prop) -> Prop:=fun ws Q=>∃ (q r:Rat),ws = [.d (fr q),.d (fr r)] /\ ((qSm 2000 q) /\ (qSm 2000 r)) /\ Q (fr (q + r))
theorem p__law_plus.mono:∀ ws (Q Q':PyData -> Prop),(∀ d,Q d -> Q' d) -> p__law_plus ws Q -> p__law_plus ws Q':=fun _ _ _ h_ ⟨q,r,e_,p_,q_⟩=>⟨q,r,e_,p_,h_ _ q_⟩
theorem p__law_plus.len:∀ ws (Q:PyData -> Prop),p__law_plus ws Q -> ws.length = 2:=fun _ _ ⟨_,_,e_,_⟩=>by subst e_; rfl
theorem p__law_plus.eq (q r:Rat) (h1:qSm 2000 q) (h2:qSm 2000 r):p__law_plus [.d (fr q),.d (fr r)] = VL.ret (fr (q + r):PyData):=by
  refine mo_ext fun Q=>⟨?_,fun q_=>⟨q,r,rfl,⟨h1,h2⟩,q_⟩⟩
  rintro ⟨q',r',e_,_,q_⟩
  simp_arith only [fr_i,sdD_i,ptD_i,boxD_i,ptsQ_i,frs_i] at e_
  obtain ⟨rfl,rfl⟩:=e_
  exact q_
theorem sc__law_plus:FnScope ["_law_one", "_law_other"] ["_law_one", "_law_other"] (defScope (top 37)):=⟨rfl,rfl,rfl,by decide +kernel,rfl,by decide +kernel,by decide +kernel⟩
theorem d__law_plus (Fn:FnIn K mg "_law_plus" (top 37) ["_law_one", "_law_other"]) (Z:Bz mg) (d__law_frac:∀ rl,Dfn P w K mg base rl "_law_frac" ["_law_n", "_law_d"] 1 p__law_frac)   : Dfn P w K mg base rl "_law_plus" ["_law_one", "_law_other"] 2 p__law_plus:=by
  have sc:=sc__law_plus
  refine Dfn.of Fn sc (p__law_plus.mono) (p__law_plus.len) (fun cdv A outer s H E hr=>(vs_one (vs_ret (v_call (d__law_frac _) (hr.mono (by decide)) (pvs_cons (v_add (v_mul (v_ix (vn 0) pv_int) (v_ix (vn 1) pv_int)) (v_mul (v_ix (vn 1) pv_int) (v_ix (vn 0) pv_int))) (pvs_cons (v_mul (v_ix (vn 0) pv_int) (v_ix (vn 1) pv_int)) pvs_nil)))))) ?_
  rintro ws Q ⟨q,r,rfl,⟨h1,h2⟩,hQ⟩
  refine read_of ?_
  have m1:CMulB q.num r.den:=.bb h1.bn h2.bd
  have m2:CMulB r.num q.den:=.bb h2.bn h1.bd
  have m3:CMulB q.den r.den:=.bb h1.bd h2.bd
  have m4:CMulB q.num r.num:=.bb h1.bn h2.bn
  have d1:=den_pos q r
  have d2:=den_small h1 h2
  simp_arith only [grd_t,len_ok,p__law_frac.eq,BFR,qd_add]
  exact rt_end hQ
def p__law_times:List W -> (PyData -> Prop) -> Prop:=fun ws Q=>∃ (q r:Rat),ws = [.d (fr q),.d (fr r)] /\ ((qSm 2000 q) /\ (qSm 2000 r)) /\ Q (fr (q * r))
theorem p__law_times.mono:∀ ws (Q Q':PyData -> Prop),(∀ d,Q d -> Q' d) -> p__law_times ws Q -> p__law_times ws Q':=fun _ _ _ h_ ⟨q,r,e_,p_,q_⟩=>⟨q,r,e_,p_,h_ _ q_⟩
theorem p__law_times.len:∀ ws (Q:PyData -> Prop),p__law_times ws Q -> ws.length = 2:=fun _ _ ⟨_,_,e_,_⟩=>by subst e_; rfl
theorem p__law_times.eq (q r:Rat) (h1:qSm 2000 q) (h2:qSm 2000 r):p__law_times [.d (fr q),.d (fr r)] = VL.ret (fr (q * r):PyData):=by
  refine mo_ext fun Q=>⟨?_,fun q_=>⟨q,r,rfl,⟨h1,h2⟩,q_⟩⟩
  rintro ⟨q',r',e_,_,q_⟩
  simp_arith only [fr_i,sdD_i,ptD_i,boxD_i,ptsQ_i,frs_i] at e_
  obtain ⟨rfl,rfl⟩:=e_
  exact q_
theorem sc__law_times:FnScope ["_law_one", "_law_other"] ["_law_one", "_law_other"] (defScope (top 38)):=⟨rfl,rfl,rfl,by decide +kernel,rfl,by decide +kernel,by decide +kernel⟩
theorem d__law_times (Fn:FnIn K mg "_law_times" (top 38) ["_law_one", "_law_other"]) (Z:Bz mg) (d__law_frac:∀ rl,Dfn P w K mg base rl "_law_frac" ["_law_n", "_law_d"] 1 p__law_frac)   : Dfn P w K mg base rl "_law_times" ["_law_one", "_law_other"] 2 p__law_times:=by
  have sc:=sc__law_times
  refine Dfn.of Fn sc (p__law_times.mono) (p__law_times.len) (fun cdv A outer s H E hr=>(vs_one (vs_ret (v_call (d__law_frac _) (hr.mono (by decide)) (pvs_cons (v_mul (v_ix (vn 0) pv_int) (v_ix (vn 1) pv_int)) (pvs_cons (v_mul (v_ix (vn 0) pv_int) (v_ix (vn 1) pv_int)) pvs_nil)))))) ?_
  rintro ws Q ⟨q,r,rfl,⟨h1,h2⟩,hQ⟩
  refine read_of ?_
  have m1:CMulB q.num r.den:=.bb h1.bn h2.bd
  have m2:CMulB r.num q.den:=.bb h2.bn h1.bd
  have m3:CMulB q.den r.den:=.bb h1.bd h2.bd
  have m4:CMulB q.num r.num:=.bb h1.bn h2.bn
  have d1:=den_pos q r
  have d2:=den_small h1 h2
  simp_arith only [grd_t,len_ok,p__law_frac.eq,BFR,qd_mul]
  exact rt_end hQ
def p__law_patches:List W -> (PyData -> Prop) -> Prop:=fun ws Q=>∃ (cs:List (List Rat)),ws = [.d (ptsQ cs)] /\ ((1 <= cs.length) /\ (cs.length <= 2) /\ (∀ c ∈ cs,c.length <= 6)) /\ Q (.list ((pch cs).map tupI))
theorem p__law_patches.mono:∀ ws (Q Q':PyData -> Prop),(∀ d,Q d -> Q' d) -> p__law_patches ws Q -> p__law_patches ws Q':=fun _ _ _ h_ ⟨cs,e_,p_,q_⟩=>⟨cs,e_,p_,h_ _ q_⟩
theorem p__law_patches.len:∀ ws (Q:PyData -> Prop),p__law_patches ws Q -> ws.length = 1:=fun _ _ ⟨_,e_,_⟩=>by subst e_; rfl
theorem p__law_patches.eq (cs:List (List Rat)) (l1 : 1 <= cs.length) (l2:cs.length <= 2) (hc:∀ c ∈ cs,c.length <= 6):p__law_patches [.d (ptsQ cs)] = VL.ret (.list ((pch cs).map tupI):PyData):=by
  refine mo_ext fun Q=>⟨?_,fun q_=>⟨cs,rfl,⟨l1,l2,hc⟩,q_⟩⟩
  rintro ⟨cs',e_,_,q_⟩
  simp_arith only [fr_i,sdD_i,ptD_i,boxD_i,ptsQ_i,frs_i,shD_i,lsts_i] at e_
  obtain rfl:=e_
  exact q_
theorem sc__law_patches:FnScope ["_law_cuts_here", "_law_found", "_law_k"] ["_law_cuts_here"] (defScope (top 39)):=⟨rfl,rfl,rfl,by decide +kernel,rfl,by decide +kernel,by decide +kernel⟩
theorem d__law_patches (Fn:FnIn K mg "_law_patches" (top 39) ["_law_cuts_here"]) (Z:Bz mg)    : Dfn P w K mg base rl "_law_patches" ["_law_cuts_here"] 1 p__law_patches:=by
  have sc:=sc__law_patches
  refine Dfn.of Fn sc (p__law_patches.mono) (p__law_patches.len) (fun cdv A outer s H E hr=>(vs_cons (vs_if (vb_cmp (op_eqD hr.units) vo_eqD (nomark _) (v_len Z.len_ (pvs_cons (vn 0) pvs_nil)) pv_int) (vs_one (vs_ret (v_lcompR ["_law_k"] [none] rfl (vi_range1 Z.range_ (pvs_cons (v_add (v_len Z.len_ (pvs_cons (v_ix (vn 0) pv_int) pvs_nil)) pv_int) pvs_nil)) (fun _=>(vg_name 0 (show List.Nodup (["_law_k"]:List Str) by decide +kernel))) (fun _=>vt_nil) (fun _=>(v_tup (pvs_cons (vn 0) pvs_nil)))))) vs_nil)
      (vs_cons (vs_setZ 1 sc.nd (v_lst pvs_nil))
      (vs_cons (vs_forF [2] PassesOwn.never rfl (vi_range1 Z.range_ (pvs_cons (v_add (v_len Z.len_ (pvs_cons (v_ix (vn 0) pv_int) pvs_nil)) pv_int) pvs_nil)) (vg_name 2 sc.nd) (vs_one (vs_setZ 1 sc.nd (v_catD (vn 1) (v_lcompR ["_law_j", "_law_k"] [none,some 2] rfl (vi_range1 Z.range_ (pvs_cons (v_add (v_len Z.len_ (pvs_cons (v_ix (vn 0) pv_int) pvs_nil)) pv_int) pvs_nil)) (fun _=>(vg_name 0 (show List.Nodup (["_law_j", "_law_k"]:List Str) by decide +kernel))) (fun _=>vt_nil) (fun _=>(v_tup (pvs_cons (vn 1) (pvs_cons (vn 0) pvs_nil)))))))))
      (vs_one (vs_ret (vn 1))))))) ?_
  rintro ws Q ⟨cs,rfl,⟨l1,l2,hc⟩,hQ⟩
  refine read_of ?_
  have sz:=PySem.sizeLine_eq
  match cs,l1,l2,hc,hQ with
  | [c],_,_,hc,hQ =>
    have c6:=hc c List.mem_cons_self
    have gc : -(2 ^ 62) <= ((c.length:Int) + 1) /\ ((c.length:Int) + 1) < 2 ^ 62:=by omega
    have e1:((c.length:Int) + 1).toNat = c.length + 1:=by omega
    simp_arith only [grd_t,len_ok,BFR,e1]
    refine cmapR_go (fun k=>tupI [(k:Int)]) ?_ (by omega) ?_
    · intro k hk
      simp_arith only [grd_t,len_ok,itM]
      simp [tupI]
    · have e:(List.range (c.length + 1)).map (fun k:Nat=>tupI [(k:Int)]) = (pch [c]).map tupI:=by
        unfold pch
        rw [List.map_cons,List.map_nil,chI1]
        unfold intR
        rw [List.map_map,List.map_map]
        refine List.map_congr_left fun k _=>?_
        show _ = tupI [0 + (k:Int)]
        rw [Int.zero_add]
      rw [e]
      simp_arith only [grd_t,len_ok]
      exact rt_end hQ
  | [c,d],_,_,hc,hQ =>
    have c6:=hc c List.mem_cons_self
    have d6:=hc d (List.mem_cons_of_mem _ List.mem_cons_self)
    have gc : -(2 ^ 62) <= ((c.length:Int) + 1) /\ ((c.length:Int) + 1) < 2 ^ 62:=by omega
    have gd : -(2 ^ 62) <= ((d.length:Int) + 1) /\ ((d.length:Int) + 1) < 2 ^ 62:=by omega
    have e1:((c.length:Int) + 1).toNat = c.length + 1:=by omega
    have e2:((d.length:Int) + 1).toNat = d.length + 1:=by omega
    have cut:∀ i,(((intR 0 i).flatMap fun a=>(intR 0 (d.length + 1)).map fun b=>[a,b])).length = i * (d.length + 1):=fun i=>by
      rw [List.length_flatMap]
      simp only [List.length_map,intR_length,List.map_const',List.sum_replicate_nat]
    simp_arith only [grd_t,len_ok,BFR,e1,e2]
    refine invR_go (fun i ρ=>ρ = [some (.d (ptsQ [c,d])),some (.d (.list (((intR 0 i).flatMap fun a=>(intR 0 (d.length + 1)).map fun b=>[a,b]).map tupI))),none]) rfl ?_ ?_
    · rintro i hi ρ rfl K hK
      simp_arith only [grd_t,len_ok,BFR,e2]
      refine cmapR_go (fun k=>tupI [(0:Int) + i,(k:Int)]) ?_ (by omega) ?_
      · intro k hk
        simp_arith only [grd_t,len_ok,itM]
        simp [tupI]
      · have ci:=cut i
        have hz:i * (d.length + 1) <= 7 * 7:=Nat.mul_le_mul (by omega) (by omega)
        have ll:(((intR 0 i).flatMap fun a=>(intR 0 (d.length + 1)).map fun b=>[a,b])).length + (d.length + 1) <= sizeLine:=by omega
        have lr:((List.range (d.length + 1)).map fun k:Nat=>tupI [(0:Int) + i,(k:Int)]).length = d.length + 1:=by simp
        generalize hX:((intR 0 i).flatMap fun a=>(intR 0 (d.length + 1)).map fun b=>[a,b]) = X at *
        simp_arith only [grd_t,len_ok,List.length_range]
        refine hK _ (lpS_nx ?_)
        rw [show intR 0 (i + 1) = intR 0 i ++ [0 + (i:Int)] by unfold intR; rw [List.range_succ,List.map_append]; rfl,List.flatMap_append,hX,List.map_append]
        have e:(List.range (d.length + 1)).map (fun k:Nat=>tupI [(0:Int) + i,(k:Int)]) = ([(0:Int) + i].flatMap fun a=>(intR 0 (d.length + 1)).map fun b=>[a,b]).map tupI:=by
          rw [List.flatMap_singleton]
          unfold intR
          rw [List.map_map,List.map_map]
          refine List.map_congr_left fun k _=>?_
          show _ = tupI [_,0 + (k:Int)]
          rw [Int.zero_add (k:Int)]
        rw [e]
        rfl
    · rintro ρ rfl
      have e:(pch [c,d]) = (intR 0 (c.length + 1)).flatMap fun a=>(intR 0 (d.length + 1)).map fun b=>[a,b]:=by
        unfold pch
        rw [List.map_cons,List.map_cons,List.map_nil,chI2]
      rw [e] at hQ
      simp_arith only [grd_t,len_ok]
      exact rt_end hQ
def p__law_at:List W -> (PyData -> Prop) -> Prop:=fun ws Q=>∃ (s:Sh) (p:List Int),ws = [.d (shD s),.d (tupI p)] /\ ((s.Ok) /\ (PaOk s.cuts p)) /\ Q (fr (s.at p))
theorem p__law_at.mono:∀ ws (Q Q':PyData -> Prop),(∀ d,Q d -> Q' d) -> p__law_at ws Q -> p__law_at ws Q':=fun _ _ _ h_ ⟨s,p,e_,p_,q_⟩=>⟨s,p,e_,p_,h_ _ q_⟩
theorem p__law_at.len:∀ ws (Q:PyData -> Prop),p__law_at ws Q -> ws.length = 2:=fun _ _ ⟨_,_,e_,_⟩=>by subst e_; rfl
theorem p__law_at.eq (s:Sh) (p:List Int) (hs:s.Ok) (hp:PaOk s.cuts p):p__law_at [.d (shD s),.d (tupI p)] = VL.ret (fr (s.at p):PyData):=by
  refine mo_ext fun Q=>⟨?_,fun q_=>⟨s,p,rfl,⟨hs,hp⟩,q_⟩⟩
  rintro ⟨s',p',e_,_,q_⟩
  simp_arith only [fr_i,sdD_i,ptD_i,boxD_i,ptsQ_i,frs_i,shD_i,lsts_i] at e_
  obtain ⟨rfl,rfl⟩:=e_
  exact q_
theorem sc__law_at:FnScope ["_law_sheet_here", "_law_patch", "_law_found"] ["_law_sheet_here", "_law_patch"] (defScope (top 40)):=⟨rfl,rfl,rfl,by decide +kernel,rfl,by decide +kernel,by decide +kernel⟩
theorem d__law_at (Fn:FnIn K mg "_law_at" (top 40) ["_law_sheet_here", "_law_patch"]) (Z:Bz mg)    : Dfn P w K mg base rl "_law_at" ["_law_sheet_here", "_law_patch"] 1 p__law_at:=by
  have sc:=sc__law_at
  refine Dfn.of Fn sc (p__law_at.mono) (p__law_at.len) (fun cdv A outer s H E hr=>(vs_cons (vs_setZ 2 sc.nd (v_ix (v_ix (vn 0) pv_int) (v_ix (vn 1) pv_int)))
      (vs_one (vs_ret (v_ifExp (vb_cmp (op_eqD hr.units) vo_eqD (nomark _) (v_len Z.len_ (pvs_cons (vn 1) pvs_nil)) pv_int) (vn 2) (v_ix (vn 2) (v_ix (vn 1) pv_int))))))) ?_
  rintro ws Q ⟨s,p,rfl,⟨hs,hp⟩,hQ⟩
  refine read_of ?_
  cases s with
  | one c v =>
    obtain ⟨k,rfl,k0,k1⟩:=PaOk.one hp
    have hl:v.length = c.length + 1:=hs.2.1
    have e:=atI_getD (xs:=v) 0 k0 (by omega)
    simp_arith only [grd_t,len_ok,BSH,BFR,Sh.vD,e]
    exact rt_end hQ
  | two c d vs =>
    obtain ⟨k,j,rfl,⟨k0,k1⟩,j0,j1⟩:=PaOk.two hp
    obtain ⟨_,_,hl,hv⟩:=hs
    have e:=atI_getD (xs:=vs) [] k0 (by omega)
    have hv:=(hv _ (getD_mem (d:=[]) (show k.toNat < vs.length by omega))).1
    have e2:=atI_getD (xs:=vs.getD k.toNat []) 0 j0 (by omega)
    simp_arith only [grd_t,len_ok,BSH,BFR,Sh.vD,e,e2]
    exact rt_end hQ
def p__law_on_cuts:List W -> (PyData -> Prop) -> Prop:=fun ws Q=>∃ (cs:List (List Rat)) (p:List Rat),ws = [.reel,.d (ptsQ cs),.d (ptD p)] /\ ((p.length = cs.length) /\ (cs.length <= 2) /\ (∀ c ∈ cs,CutOk 6 c) /\ (∀ q ∈ p,qSm 20 q /\ 0 <= q /\ q < 1)) /\ ∀ r:List Rat,(r.length = cs.length /\ ∀ q ∈ r,qSm 20 q /\ 0 <= q /\ q < 1) -> Q (ptD r)
theorem p__law_on_cuts.mono:∀ ws (Q Q':PyData -> Prop),(∀ d,Q d -> Q' d) -> p__law_on_cuts ws Q -> p__law_on_cuts ws Q':=fun _ _ _ h_ ⟨cs,p,e_,p_,q_⟩=>⟨cs,p,e_,p_,fun o_ ho_=>h_ _ (q_ o_ ho_)⟩
theorem p__law_on_cuts.len:∀ ws (Q:PyData -> Prop),p__law_on_cuts ws Q -> ws.length = 3:=fun _ _ ⟨_,_,e_,_⟩=>by subst e_; rfl
theorem p__law_on_cuts.eq (cs:List (List Rat)) (p:List Rat) (hl:p.length = cs.length) (h2:cs.length <= 2) (hc:∀ c ∈ cs,CutOk 6 c) (hp:∀ q ∈ p,qSm 20 q /\ 0 <= q /\ q < 1):p__law_on_cuts [.reel,.d (ptsQ cs),.d (ptD p)] = bnd (anyM fun r:List Rat=>r.length = cs.length /\ ∀ q ∈ r,qSm 20 q /\ 0 <= q /\ q < 1) fun r=>VL.ret (ptD r:PyData):=by
  refine mo_ext fun Q=>⟨?_,fun q_=>⟨cs,p,rfl,⟨hl,h2,hc,hp⟩,q_⟩⟩
  rintro ⟨cs',p',e_,_,q_⟩
  simp_arith only [fr_i,sdD_i,ptD_i,boxD_i,ptsQ_i,frs_i,shD_i,lsts_i] at e_
  obtain ⟨rfl,rfl⟩:=e_
  exact q_
theorem sc__law_on_cuts:FnScope ["_law_feed_here", "_law_cuts_here", "_law_point", "_law_found", "_law_side", "_law_some"] ["_law_feed_here", "_law_cuts_here", "_law_point"] (defScope (top 41)):=⟨rfl,rfl,rfl,by decide +kernel,rfl,by decide +kernel,by decide +kernel⟩
theorem d__law_on_cuts (Fn:FnIn K mg "_law_on_cuts" (top 41) ["_law_feed_here", "_law_cuts_here", "_law_point"]) (Z:Bz mg) (d__law_draw:∀ al,DfnC P w K mg base al 1 "_law_draw" ["_law_feed_here", "_law_many"] 1 p__law_draw)   : DfnC P w K mg base al 64 "_law_on_cuts" ["_law_feed_here", "_law_cuts_here", "_law_point"] 2 p__law_on_cuts:=by
  have sc:=sc__law_on_cuts
  refine DfnC.of Fn sc (p__law_on_cuts.mono) (p__law_on_cuts.len) (fun cdv A outer s H E hr=>(cs_cons (cs fun _=>(vs_set 3 sc.nd (v_lst pvs_nil)))
      (cs_cons (cs_for 64 [4,5] PassesOwn.never rfl (ci fun _=>(vi_range1 Z.range_ (pvs_cons (v_len Z.len_ (pvs_cons (vn 2) pvs_nil)) pvs_nil))) (fun _=>(vg_name 4 sc.nd)) (cs_cons (cs fun _=>(vs_setZ 5 sc.nd (v_catD (v_catD (v_lst (pvs_cons (v_ix (vn 2) (vn 4)) pvs_nil)) (v_listof Z.list_ (pvs_cons (v_ix (vn 1) (vn 4)) pvs_nil))) (v_lst (pvs_cons (v_tup (pvs_cons pv_int (pvs_cons pv_int pvs_nil))) pvs_nil)))))
      (cs_one (cs_app 3 (cvs_cons (c_ix (cv fun _=>(vn 5)) (c_call (d__law_draw _) (hr.mono (by decide)) (cvs_cons (cv fun _=>(vn 0)) (cvs_cons (cv fun _=>(v_len Z.len_ (pvs_cons (vn 5) pvs_nil))) cvs_nil)))) cvs_nil)))))
      (cs_one (cs fun _=>(vs_ret (v_tuple Z.tuple_ (pvs_cons (vn 3) pvs_nil)))))))) (by decide) ?_
  rintro ws Q ⟨cs,p,rfl,⟨hl,h2,hc,hp⟩,hQ⟩
  refine read_of ?_
  have sz:=PySem.sizeLine_eq
  have gp : -(2 ^ 62) <= (p.length:Int) /\ (p.length:Int) < 2 ^ 62:=by omega
  simp_arith only [grd_t,len_ok,m_vRN,m_vRC,s_rput,s_bump,asR_r,s_forC,m_compC,rangeD_length,BFR]
  refine invR_go (fun i ρ=>∃ r:List Rat,r.length = i /\ (∀ q ∈ r,qSm 20 q /\ 0 <= q /\ q < 1) /\ ρ = [some .reel,some (.d (ptsQ cs)),some (.d (ptD p)),some (.ml (r.map fr)),none,none]) ⟨[],rfl,by simp,rfl⟩ ?_ ?_
  · rintro i hi ρ ⟨r,rl_,hr,rfl⟩ K hK
    have i1:(i:Int) < (p.length:Int):=by omega
    have e1:atI p (0 + (i:Int)) = some p[i]:=by rw [Int.zero_add]; exact atI_nat (List.getElem?_eq_getElem hi)
    have hi2:i < cs.length:=by omega
    have e2:atI cs (0 + (i:Int)) = some cs[i]:=by rw [Int.zero_add]; exact atI_nat (List.getElem?_eq_getElem hi2)
    have ck:=hc _ (List.getElem_mem hi2)
    have hq:=hp _ (List.getElem_mem hi)
    generalize cs[i] = c at e2 ck
    generalize p[i] = x at e1 hq
    have c6:=ck.len
    have g1 : 1 + c.length <= sizeLine:=by omega
    have g2:c.length <= sizeLine:=by omega
    have g3:c.length + 1 + 1 <= sizeLine:=by omega
    have rz:r.length < sizeLine:=by omega
    have el:(c.map fr ++ [PyData.tuple [PyData.int 0,PyData.int 1]]).length + 1 = c.length + 2:=by simp
    have m0:(0:Int) < ((c.length + 2:Nat):Int):=by omega
    have m1:((c.length + 2:Nat):Int) < 2 ^ 60:=by omega
    have em:fr x :: (c.map fr ++ [PyData.tuple [PyData.int 0,PyData.int 1]]) = (x :: (c ++ [0])).map fr:=by rw [List.map_cons,List.map_append]; rfl
    simp_arith only [grd_t,len_ok,m_vRN,m_vRC,s_rput,s_bump,asR_r,s_forC,m_compC,rangeD_length,BFR,e1,e2,el,p__law_draw.eq]
    (with_reducible (first | refine any_step fun k hk=>?_ | refine sqb_any fun k hk=>?_))
    refine (menuA_step (xs:=x :: (c ++ [0])) (enc:=fr) (fun q:Rat=>qSm 20 q /\ 0 <= q /\ q < 1) em hk.1 (by simp; have:=hk.2; omega) ?_ fun q hqq=>?_)
    · intro z mz
      rcases List.mem_cons.mp mz with rfl | mz
      · exact hq
      rcases List.mem_append.mp mz with mz | mz
      · exact ⟨ck.sm z mz,ck.in01 z mz⟩
      · rw [List.mem_singleton.mp mz]; exact ⟨q0s.mono (by decide),by decide,by decide⟩
    · try simp_arith only [grd_t,len_ok,m_vRN,m_vRC,s_rput,s_bump,asR_r,s_forC,m_compC,rangeD_length]
      refine hK _ (lpS_nx ⟨r ++ [q],by rw [List.length_append,rl_]; rfl,fun z mz=>?_,by simp [fo,List.map_append]⟩)
      rcases List.mem_append.mp mz with h | h
      · exact hr z h
      · rw [List.mem_singleton.mp h]; exact hqq
  · rintro ρ ⟨r,rl_,hr,rfl⟩
    have rz:r.length <= sizeLine:=by omega
    simp_arith only [grd_t,len_ok,m_vRN,m_vRC,s_rput,s_bump,asR_r,s_forC,m_compC,rangeD_length,BSH]
    exact rt_end (hQ r ⟨by omega,hr⟩)
def p__law_whole:List W -> (PyData -> Prop) -> Prop:=fun ws Q=>∃ (s:Sh),ws = [.d (shD s)] /\ ((s.Ok)) /\ Q (fr (wholeQ s))
theorem p__law_whole.mono:∀ ws (Q Q':PyData -> Prop),(∀ d,Q d -> Q' d) -> p__law_whole ws Q -> p__law_whole ws Q':=fun _ _ _ h_ ⟨s,e_,p_,q_⟩=>⟨s,e_,p_,h_ _ q_⟩
theorem p__law_whole.len:∀ ws (Q:PyData -> Prop),p__law_whole ws Q -> ws.length = 1:=fun _ _ ⟨_,e_,_⟩=>by subst e_; rfl
theorem p__law_whole.eq (s:Sh) (hs:s.Ok):p__law_whole [.d (shD s)] = VL.ret (fr (wholeQ s):PyData):=by
  refine mo_ext fun Q=>⟨?_,fun q_=>⟨s,rfl,hs,q_⟩⟩
  rintro ⟨s',e_,_,q_⟩
  simp_arith only [fr_i,sdD_i,ptD_i,boxD_i,ptsQ_i,frs_i,shD_i,lsts_i] at e_
  obtain rfl:=e_
  exact q_
theorem sc__law_whole:FnScope ["_law_sheet_here", "_law_found", "_law_patch", "_law_here", "_law_side", "_law_ends", "_law_low"] ["_law_sheet_here"] (defScope (top 42)):=⟨rfl,rfl,rfl,by decide +kernel,rfl,by decide +kernel,by decide +kernel⟩
theorem d__law_whole (Fn:FnIn K mg "_law_whole" (top 42) ["_law_sheet_here"]) (Z:Bz mg) (d__law_patches:∀ rl,Dfn P w K mg base rl "_law_patches" ["_law_cuts_here"] 1 p__law_patches) (d__law_at:∀ rl,Dfn P w K mg base rl "_law_at" ["_law_sheet_here", "_law_patch"] 1 p__law_at) (d__law_plus:∀ rl,Dfn P w K mg base rl "_law_plus" ["_law_one", "_law_other"] 2 p__law_plus) (d__law_times:∀ rl,Dfn P w K mg base rl "_law_times" ["_law_one", "_law_other"] 2 p__law_times)   : Dfn P w K mg base rl "_law_whole" ["_law_sheet_here"] 3 p__law_whole:=by
  have sc:=sc__law_whole
  refine Dfn.of Fn sc (p__law_whole.mono) (p__law_whole.len) (fun cdv A outer s H E hr=>(vs_cons (vs_setZ 1 sc.nd (v_tup (pvs_cons pv_int (pvs_cons pv_int pvs_nil))))
      (vs_cons (vs_forF [2,3,4,5,6] PassesOwn.never rfl (vi_list (v_call (d__law_patches _) (hr.mono (by decide)) (pvs_cons (v_ix (vn 0) pv_int) pvs_nil))) (vg_name 2 sc.nd) (vs_cons (vs_setZ 3 sc.nd (v_call (d__law_at _) (hr.mono (by decide)) (pvs_cons (vn 0) (pvs_cons (vn 2) pvs_nil))))
      (vs_cons (vs_forF [4,5,6] PassesOwn.never rfl (vi_range1 Z.range_ (pvs_cons (v_len Z.len_ (pvs_cons (vn 2) pvs_nil)) pvs_nil)) (vg_name 4 sc.nd) (vs_cons (vs_setZ 5 sc.nd (v_catA (v_catA (v_tup (pvs_cons (v_tup (pvs_cons pv_int (pvs_cons pv_int pvs_nil))) pvs_nil)) (v_ix (v_ix (vn 0) pv_int) (vn 4))) (v_tup (pvs_cons (v_tup (pvs_cons pv_int (pvs_cons pv_int pvs_nil))) pvs_nil))))
      (vs_cons (vs_setZ 6 sc.nd (v_ix (vn 5) (v_ix (vn 2) (vn 4))))
      (vs_one (vs_setZ 3 sc.nd (v_call (d__law_times _) (hr.mono (by decide)) (pvs_cons (vn 3) (pvs_cons (v_call (d__law_plus _) (hr.mono (by decide)) (pvs_cons (v_ix (vn 5) (v_add (v_ix (vn 2) (vn 4)) pv_int)) (pvs_cons (v_tup (pvs_cons (v_sub pv_int (v_ix (vn 6) pv_int)) (pvs_cons (v_ix (vn 6) pv_int) pvs_nil))) pvs_nil))) pvs_nil))))))))
      (vs_one (vs_setZ 1 sc.nd (v_call (d__law_plus _) (hr.mono (by decide)) (pvs_cons (vn 1) (pvs_cons (vn 3) pvs_nil))))))))
      (vs_one (vs_ret (vn 1)))))) ?_
  rintro ws Q ⟨s,rfl,hs,hQ⟩
  refine read_of ?_
  have sz:=PySem.sizeLine_eq
  have c2:=s.cl
  have c6:=s.cut6 hs
  have cl6:∀ c ∈ s.cuts,c.length <= 6:=fun c mc=>(c6 c mc).len
  have c1 : 1 <= s.cuts.length:=by cases s <;> simp [Sh.cuts]
  have pl:=pch_len hs
  have hm:∀ q ∈ (pch s.cuts).map (trm s),qSm 60 q:=fun q mq=>by
    obtain ⟨p,mp,rfl⟩:=List.mem_map.mp mq
    exact trm_sm hs (s.pch_ok p mp)
  simp_arith only [grd_t,len_ok,BSH,p__law_patches.eq,p__law_at.eq,p__law_plus.eq,p__law_times.eq]
  refine inv_go (xs:=pch s.cuts) (enc:=tupI) (fun i ρ=>ρ = [some (.d (shD s)),some (.d (fr (sumQ (((pch s.cuts).map (trm s)).take i)))),none,none,none,none,none]) rfl rfl ?_ ?_
  · rintro i hi ρ rfl K hK
    have pk:=s.pch_ok _ (List.getElem_mem hi)
    have hil:i < ((pch s.cuts).map (trm s)).length:=by rw [List.length_map]; exact hi
    have sm1:qSm 2000 (sumQ (((pch s.cuts).map (trm s)).take i)):=(sumQ_sm fun q mq=>hm q (List.mem_of_mem_take mq)).mono (by rw [List.length_take]; omega)
    have nx:sumQ (((pch s.cuts).map (trm s)).take (i + 1)) = sumQ (((pch s.cuts).map (trm s)).take i) + trm s (pch s.cuts)[i]:=by
      rw [List.take_succ_eq_append_getElem hil,sumQ_snoc,List.getElem_map]
    have sm3:qSm 2000 (trm s (pch s.cuts)[i]):=(trm_sm hs pk).up
    have sm0:qSm 20 (s.at (pch s.cuts)[i]):=s.at_sm hs pk
    generalize (pch s.cuts)[i] = p at *
    generalize sumQ (((pch s.cuts).map (trm s)).take i) = S at *
    have gp : -(2 ^ 62) <= (p.length:Int) /\ (p.length:Int) < 2 ^ 62:=by have:=pk.1; omega
    simp_arith only [grd_t,len_ok,BSH,p__law_patches.eq,p__law_at.eq,p__law_plus.eq,p__law_times.eq,BFR]
    refine invR_go (fun j ρ=>ρ = [some (.d (shD s)),some (.d (fr S)),some (.d (tupI p)),some (.d (fr (s.at p * prodQ (((s.cuts.zip p).map fun z=>lenQ z.1 z.2).take j)))),none,none,none]) ?_ ?_ ?_
    · simp [prodQ,Rat.mul_one]
    · rintro j hj ρ rfl K2 hK2
      have hj2:j < s.cuts.length:=by have:=pk.1; omega
      have e1:atI p (0 + (j:Int)) = some p[j]:=by rw [Int.zero_add]; exact atI_nat (List.getElem?_eq_getElem hj)
      have e2:atI s.cuts (0 + (j:Int)) = some s.cuts[j]:=by rw [Int.zero_add]; exact atI_nat (List.getElem?_eq_getElem hj2)
      have hz:(s.cuts[j],p[j]) ∈ s.cuts.zip p:=by
        rw [<- List.getElem_zip (h:=by rw [List.length_zip]; omega)]; exact List.getElem_mem _
      obtain ⟨k0,k1⟩:=pk.2 _ hz
      have ck:=c6 _ (List.getElem_mem hj2)
      have hlz:j < ((s.cuts.zip p).map fun z=>lenQ z.1 z.2).length:=by rw [List.length_map,List.length_zip]; omega
      have px:prodQ (((s.cuts.zip p).map fun z=>lenQ z.1 z.2).take (j + 1)) = prodQ (((s.cuts.zip p).map fun z=>lenQ z.1 z.2).take j) * lenQ s.cuts[j] p[j]:=by
        rw [List.take_succ_eq_append_getElem hlz,List.getElem_map,List.getElem_zip]
        unfold prodQ
        rw [List.foldl_append]; rfl
      have pq:qSm 190 (prodQ (((s.cuts.zip p).map fun z=>lenQ z.1 z.2).take j)):=by
        exact prodl_sm (s.cuts.zip p) (by rw [List.length_zip]; omega) (fun z mz=>len_sm (c6 _ (List.of_mem_zip mz).1) (pk.2 z mz).1 (pk.2 z mz).2) j
      generalize hP:prodQ (((s.cuts.zip p).map fun z=>lenQ z.1 z.2).take j) = P at *
      generalize s.cuts[j] = c at *
      generalize p[j] = k at *
      have k0 : 0 <= k:=k0
      have k1:k <= (c.length:Int):=k1
      have l2:=lim_len c
      have a1:=atI_getD (xs:=lim c) 0 k0 (by omega)
      have a2:=atI_getD (xs:=lim c) 0 (show 0 <= k + 1 by omega) (by omega)
      have et:(k + 1).toNat = k.toNat + 1:=by omega
      rw [et] at a2
      have s1:qSm 60 ((lim c).getD k.toNat 0):=(lim_sm ck _ (getD_mem (by omega))).mono (by decide)
      have s2:qSm 60 ((lim c).getD (k.toNat + 1) 0):=(lim_sm ck _ (getD_mem (by omega))).mono (by decide)
      have eq1:∀ i:Int,atI (PyData.tuple [PyData.int 0,PyData.int 1] :: (c.map fr ++ [PyData.tuple [PyData.int 1,PyData.int 1]])) i = (atI (lim c) i).map fr:=fun i=>by
        rw [<- atI_map]
        congr 1
        unfold lim
        rw [List.map_cons,List.map_append]; rfl
      have cl6:=ck.len
      have g1 : 1 + c.length <= sizeLine:=by omega
      have g2:c.length + 1 <= sizeLine:=by omega
      have g3:c.length + 1 + 1 <= sizeLine:=by omega
      have eng:∀ q:Rat,PyData.tuple [PyData.int (0 - q.num),PyData.int q.den] = fr (-q):=fun q=>by rw [Int.zero_sub,fr_neg]
      have sa:=s2.up
      have sb:qSm 2000 (-(lim c).getD k.toNat 0):=(neg_sm s1).up
      have sc1:qSm 2000 (s.at p * P):=(mul_sm sm0 pq).mono (by decide)
      have sc2:qSm 2000 ((lim c).getD (k.toNat + 1) 0 + -(lim c).getD k.toNat 0):=(add_sm s2 (neg_sm s1)).mono (by decide)
      simp_arith only [grd_t,len_ok,BSH,BFR,e1,e2,eq1,a1,a2,eng,p__law_plus.eq,p__law_times.eq]
      refine hK2 _ (lpS_nx ?_)
      rw [px]
      have ee:s.at p * P * ((lim c).getD (k.toNat + 1) 0 + -(lim c).getD k.toNat 0) = s.at p * (P * lenQ c k):=by unfold lenQ; grind
      rw [ee]; rfl
    · rintro ρ rfl
      have lz:((s.cuts.zip p).map fun z=>lenQ z.1 z.2).length = p.length:=by rw [List.length_map,List.length_zip]; have:=pk.1; omega
      rw [<- lz,List.take_of_length_le (Nat.le_refl _)]
      have et:s.at p * prodQ ((s.cuts.zip p).map fun z=>lenQ z.1 z.2) = trm s p:=rfl
      rw [et]
      simp_arith only [grd_t,len_ok,p__law_plus.eq]
      refine hK _ (lpS_nx ?_)
      rw [nx]; rfl
  · rintro ρ rfl
    have ll:((pch s.cuts).map (trm s)).length = (pch s.cuts).length:=List.length_map ..
    rw [<- ll,List.take_of_length_le (Nat.le_refl _)]
    simp_arith only [grd_t,len_ok]
    exact rt_end hQ
theorem preF.eq {ns:List Int} (h:ns.length <= 63):preF [.sc ns] = True:=eq_true ⟨ns,rfl,h⟩
theorem un_nx (ρ:En):unR (.nx ρ) = VL.ret (.nx (nR ρ)):=rfl
theorem un_rt (x:PyData):unR (.rt (.d x)) = VL.ret (.rt (.d x)):=mo_ext fun Q=>⟨fun ⟨_,h⟩=>h,fun h=>⟨rfl,h⟩⟩
theorem kept_shw {s:Sh} {ps:List (List Rat)} (hs:s.Ok) (hl:ps.length <= 8) (hp:∀ p ∈ ps,p.length = s.cuts.length /\ ∀ q ∈ p,qSm 20 q /\ 0 <= q /\ q < 1):Shw (.tuple [shD s,ptsQ ps]):=by
  have f60:∀ q:Rat,qSm 20 q -> Sm 2 2 (fr q):=fun q h=>fr_Sm h (by decide)
  have pt:∀ (n:Nat) (p:List Rat),p.length <= n -> (∀ q ∈ p,qSm 20 q) -> Sm 4 (3 * n) (ptD p):=fun n p hl hq=>(Sm.seq (xs:=p.map fr) (dp:=2) (bk:=2) (n:=n) (fun d md=>by
    obtain ⟨q,mq,rfl⟩:=List.mem_map.mp md
    exact f60 q (hq q mq)) (by rw [List.length_map]; exact hl)).1
  have pts:∀ (n m:Nat) (ps:List (List Rat)),ps.length <= m -> (∀ p ∈ ps,p.length <= n /\ ∀ q ∈ p,qSm 20 q) -> Sm 6 ((3 * n + 1) * m) (ptsQ ps):=fun n m ps hl hq=>(Sm.seq (xs:=ps.map ptD) (dp:=4) (bk:=3 * n) (n:=m) (fun d md=>by
    obtain ⟨q,mq,rfl⟩:=List.mem_map.mp md
    exact pt n q (hq q mq).1 (hq q mq).2) (by rw [List.length_map]; exact hl)).1
  have c6:=s.cut6 hs
  have s1:Sm 6 100 (ptsQ s.cuts):=(pts 6 2 _ s.cl fun c mc=>⟨(c6 c mc).len,(c6 c mc).sm⟩).mono (by decide) (by decide)
  have s2:Sm 6 100 s.vD:=by
    cases s with
    | one c v=>exact (pt 7 v (by have:=hs.1.len; have:=hs.2.1; omega) hs.2.2).mono (by decide) (by decide)
    | two c d vs=>exact (pts 4 4 vs (by have:=hs.1.len; have:=hs.2.2.1; omega) fun v mv=>⟨by have:=hs.2.1.len; have:=(hs.2.2.2 v mv).1; omega,(hs.2.2.2 v mv).2⟩).mono (by decide) (by decide)
  have s3:Sm 8 202 (shD s):=(Sm.seq (xs:=[ptsQ s.cuts,s.vD]) (dp:=6) (bk:=100) (n:=2) (fun d md=>by
    rcases List.mem_cons.mp md with rfl | md
    · exact s1
    · rw [List.mem_singleton.mp md]; exact s2) (by simp)).1
  have cl:=s.cl
  have s4:Sm 8 202 (ptsQ ps):=(pts 2 8 ps hl fun p mp=>⟨by have:=(hp p mp).1; omega,fun q mq=>((hp p mp).2 q mq).1⟩).mono (by decide) (by decide)
  exact (Sm.seq (xs:=[shD s,ptsQ ps]) (dp:=8) (bk:=202) (n:=2) (fun d md=>by
    rcases List.mem_cons.mp md with rfl | md
    · exact s3
    · rw [List.mem_singleton.mp md]; exact s4) (by simp)).1.shw (by decide) (by decide)
theorem paired_all {α β:Type} {R : α -> β -> Prop} {P : β -> Prop} {xs:List α} {ys:List β} (h:Paired R xs ys) (k:∀ x y,x ∈ xs -> R x y -> P y):∀ y ∈ ys,P y:=by
  induction h with
  | nil=>intro y my; cases my
  | cons r h ih =>
    intro y my
    rcases List.mem_cons.mp my with rfl | my
    · exact k _ _ List.mem_cons_self r
    · exact ih (fun a b ma r=>k a b (List.mem_cons_of_mem _ ma) r) y my
theorem sc_law:FnScope ["_law_script", "_law_feed_here", "_law_turn", "_law_s", "_law_sheet_here", "_law_points_here", "_law_kept", "_law_due", "_law_point", "_law_patch", "_law_side", "_law_here"] ["_law_script"] (defScope (top 43)):=⟨rfl,rfl,rfl,by decide +kernel,rfl,by decide +kernel,by decide +kernel⟩
theorem law_body (Z:Bz mg) (d__law_feed:DfnR P w K mg base "_law_feed" ["_law_script"] 2 preF) (d__law_sheet:∀ al,DfnC P w K mg base al 12544 "_law_sheet" ["_law_feed_here", "_law_s"] 3 p__law_sheet) (d__law_points:∀ al,DfnC P w K mg base al 8320 "_law_points" ["_law_feed_here", "_law_s", "_law_many"] 3 p__law_points) (d__law_draw:∀ al,DfnC P w K mg base al 1 "_law_draw" ["_law_feed_here", "_law_many"] 1 p__law_draw) (d__law_at:∀ rl,Dfn P w K mg base rl "_law_at" ["_law_sheet_here", "_law_patch"] 1 p__law_at) (d__law_plus:∀ rl,Dfn P w K mg base rl "_law_plus" ["_law_one", "_law_other"] 2 p__law_plus) (d__law_on_cuts:∀ al,DfnC P w K mg base al 64 "_law_on_cuts" ["_law_feed_here", "_law_cuts_here", "_law_point"] 2 p__law_on_cuts) (d_mean_of:∀ rl,Dfn P w K mg base rl "mean_of" ["sheet", "points"] 5 p_mean_of) (d__law_frac:∀ rl,Dfn P w K mg base rl "_law_frac" ["_law_n", "_law_d"] 1 p__law_frac) (d_value_at:∀ rl,Dfn P w K mg base rl "value_at" ["sheet", "point"] 4 p_value_at) (d_whole_of:∀ rl,Dfn P w K mg base rl "whole_of" ["sheet"] 6 p_whole_of) (d__law_whole:∀ rl,Dfn P w K mg base rl "_law_whole" ["_law_sheet_here"] 3 p__law_whole) (d__law_below:∀ rl,Dfn P w K mg base rl "_law_below" ["_law_one", "_law_other"] 1 p__law_below)   {f:Addr} {fd:FuncData} (F:Fun K "law" "law" (top 43) f fd):FnOk P w K mg base CX0 8 f fd ["_law_script"] (spLaw2 K):=by
  have sc:=sc_law
  refine ok_law2 F sc (fun cdv A outer s H E hr=>(cs_newR 1 d__law_feed (hr.mono (by decide)) sc.nd (pvs_cons (vn 0) pvs_nil) (fun r=>(cs_cons (cs_for 64 [2,3,4,5,6,7,8,9,10,11] PassesOwn.never rfl (ci fun _=>(vi_range1 Z.range_ (pvs_cons pv_int pvs_nil))) (fun _=>(vg_name 2 sc.nd)) (cs_cons (cs_setZ 3 sc.nd (c_add (cv fun _=>pv_int) (c_call (d__law_draw _) (hr.mono (by decide)) (cvs_cons (cv fun _=>(vn 1)) (cvs_cons (cv fun _=>pv_int) cvs_nil)))))
      (cs_cons (cs_setZ 4 sc.nd (c_call (d__law_sheet _) (hr.mono (by decide)) (cvs_cons (cv fun _=>(vn 1)) (cvs_cons (cv fun _=>(vn 3)) cvs_nil))))
      (cs_cons (cs_setZ 5 sc.nd (c_call (d__law_points _) (hr.mono (by decide)) (cvs_cons (cv fun _=>(vn 1)) (cvs_cons (cv fun _=>(vn 3)) (cvs_cons (c_add (cv fun _=>pv_int) (c_call (d__law_draw _) (hr.mono (by decide)) (cvs_cons (cv fun _=>(vn 1)) (cvs_cons (cv fun _=>pv_int) cvs_nil)))) cvs_nil)))))
      (cs_cons (cs_setZ 5 sc.nd (c_tuple Z.tuple_ (cvs_cons (c_lcomp 64 ["_law_point", "_law_feed_here", "_law_sheet_here"] [none,some 1,some 4] rfl (ci fun _=>(vi_tup (vn 5))) (fun _ _=>(vg_name 0 (show List.Nodup (["_law_point", "_law_feed_here", "_law_sheet_here"]:List Str) by decide +kernel))) (fun _=>ct_nil) (fun _=>(c_call (d__law_on_cuts _) (hr.mono (by decide)) (cvs_cons (cv fun _=>(vn 1)) (cvs_cons (cv fun _=>(v_ix (vn 2) pv_int)) (cvs_cons (cv fun _=>(vn 0)) cvs_nil)))))) cvs_nil)))
      (cs_cons (cs fun _=>(vs_setZ 6 sc.nd (v_repr (hr.mono (Nat.zero_le _)) Z.repr_ (pvs_cons (v_tup (pvs_cons (vn 4) (pvs_cons (vn 5) pvs_nil))) pvs_nil))))
      (cs_cons (cs fun _=>(vs_setZ 7 sc.nd (v_tup (pvs_cons pv_int (pvs_cons pv_int pvs_nil)))))
      (cs_cons (cs fun _=>(vs_forF [8,9,10,11] PassesOwn.never rfl (vi_tup (vn 5)) (vg_name 8 sc.nd) (vs_cons (vs_set 9 sc.nd (v_lst pvs_nil))
      (vs_cons (vs_forF [10] PassesOwn.never rfl (vi_range1 Z.range_ (pvs_cons (vn 3) pvs_nil)) (vg_name 10 sc.nd) (vs_one (vs_app 9 (pvs_cons (v_len Z.len_ (pvs_cons (v_lcompR ["_law_cut", "_law_point", "_law_side"] [none,some 8,some 10] rfl (vi_tup (v_ix (v_ix (vn 4) pv_int) (vn 10))) (fun _=>(vg_name 0 (show List.Nodup (["_law_cut", "_law_point", "_law_side"]:List Str) by decide +kernel))) (fun _=>vt_one (vb_not (vb_val (v_call (d__law_below _) (hr.mono (by decide)) (pvs_cons (v_ix (vn 1) (vn 2)) (pvs_cons (vn 0) pvs_nil)))))) (fun _=>(vn 0))) pvs_nil)) pvs_nil))))
      (vs_cons (vs_setZ 11 sc.nd (v_call (d__law_at _) (hr.mono (by decide)) (pvs_cons (vn 4) (pvs_cons (v_tuple Z.tuple_ (pvs_cons (vn 9) pvs_nil)) pvs_nil))))
      (vs_cons (vs_if (vb_cmp op_ne vo_neS (nomark _) (v_repr (hr.mono (Nat.zero_le _)) Z.repr_ (pvs_cons (v_call (d_value_at _) (hr.mono (by decide)) (pvs_cons (vn 4) (pvs_cons (vn 8) pvs_nil))) pvs_nil)) (v_repr (hr.mono (Nat.zero_le _)) Z.repr_ (pvs_cons (vn 11) pvs_nil))) (vs_one (vs_ret pv_bl)) vs_nil)
      (vs_one (vs_setZ 7 sc.nd (v_call (d__law_plus _) (hr.mono (by decide)) (pvs_cons (vn 7) (pvs_cons (vn 11) pvs_nil)))))))))))
      (cs_cons (cs fun _=>(vs_if (vb_cmp op_ne vo_neS (nomark _) (v_repr (hr.mono (Nat.zero_le _)) Z.repr_ (pvs_cons (v_call (d_mean_of _) (hr.mono (by decide)) (pvs_cons (vn 4) (pvs_cons (vn 5) pvs_nil))) pvs_nil)) (v_repr (hr.mono (Nat.zero_le _)) Z.repr_ (pvs_cons (v_call (d__law_frac _) (hr.mono (by decide)) (pvs_cons (v_ix (vn 7) pv_int) (pvs_cons (v_mul (v_ix (vn 7) pv_int) (v_len Z.len_ (pvs_cons (vn 5) pvs_nil))) pvs_nil))) pvs_nil))) (vs_one (vs_ret pv_bl)) vs_nil))
      (cs_one (cs fun _=>(vs_if (PBW.pb (vb_or (vb_cmp op_ne vo_neS (nomark _) (v_repr (hr.mono (Nat.zero_le _)) Z.repr_ (pvs_cons (v_call (d_whole_of _) (hr.mono (by decide)) (pvs_cons (vn 4) pvs_nil)) pvs_nil)) (v_repr (hr.mono (Nat.zero_le _)) Z.repr_ (pvs_cons (v_call (d__law_whole _) (hr.mono (by decide)) (pvs_cons (vn 4) pvs_nil)) pvs_nil))) (vb_or1 (vb_cmp op_ne vo_neS (nomark _) (v_repr (hr.mono (Nat.zero_le _)) Z.repr_ (pvs_cons (v_tup (pvs_cons (vn 4) (pvs_cons (vn 5) pvs_nil))) pvs_nil)) (vn 6))))) (vs_one (vs_ret pv_bl)) vs_nil))))))))))))
      (cs_one (cs fun _=>(vs_ret pv_bl))))) (by decide +kernel))) ?_
  intro ns hn
  have sz:=PySem.sizeLine_eq
  have pf:=preF.eq hn
  simp_arith only [grd_t,len_ok,m_vRN,m_vRC,s_rput,s_bump,asR_r,s_forC,m_compC,rangeD_length,pf,un_nx,un_rt]
  refine eachR_go ?_ ?_
  · intro i hi K hK
    simp_arith only [grd_t,len_ok,m_vRN,m_vRC,s_rput,s_bump,asR_r,s_forC,m_compC,rangeD_length,p__law_draw.eq]
    (with_reducible (first | refine any_step fun s0 hs0=>?_ | refine sqb_any fun s0 hs0=>?_))
    have s1 : 1 <= 1 + s0:=by omega
    have s2 : 1 + s0 <= 2:=by omega
    generalize 1 + s0 = s at *
    simp_arith only [grd_t,len_ok,m_vRN,m_vRC,s_rput,s_bump,asR_r,s_forC,m_compC,rangeD_length,p__law_draw.eq,p__law_sheet.eq]
    (with_reducible (first | refine any_step fun h hh=>?_ | refine sqb_any fun h hh=>?_))
    obtain ⟨hs,hcl⟩:=hh
    try simp_arith only [grd_t,len_ok,m_vRN,m_vRC,s_rput,s_bump,asR_r,s_forC,m_compC,rangeD_length,p__law_draw.eq]
    (with_reducible (first | refine any_step fun m0 hm0=>?_ | refine sqb_any fun m0 hm0=>?_))
    have m1 : 1 <= 1 + m0:=by omega
    have m8 : 1 + m0 <= 8:=by omega
    have m40 : 1 + m0 <= 40:=by omega
    have s4:s <= 4:=by omega
    generalize 1 + m0 = m at *
    try simp_arith only [grd_t,len_ok,m_vRN,m_vRC,s_rput,s_bump,asR_r,s_forC,m_compC,rangeD_length,p__law_draw.eq,p__law_points.eq]
    (with_reducible (first | refine any_step fun ps hps=>?_ | refine sqb_any fun ps hps=>?_))
    obtain ⟨hps,pl⟩:=hps
    have p64:ps.length <= 64:=by omega
    simp_arith only [grd_t,len_ok,m_vRN,m_vRC,s_rput,s_bump,asR_r,s_forC,m_compC,rangeD_length,p__law_draw.eq,BFR]
    have c6:=h.cut6 hs
    have cl2:=h.cl
    refine sqb (cany_go (xs:=ps) (enc:=ptD) (fun _ d=>∃ r:List Rat,(r.length = h.cuts.length /\ ∀ q ∈ r,qSm 20 q /\ 0 <= q /\ q < 1) /\ d = ptD r) rfl ?_ (by omega) ?_)
    · intro p mp K2 hK2
      obtain ⟨e1,e2⟩:=hps p mp
      have e1:p.length = h.cuts.length:=by omega
      simp_arith only [grd_t,len_ok,itM,BSH,p__law_on_cuts.eq]
      (with_reducible (first | refine any_step fun r hr=>?_ | refine sqb_any fun r hr=>?_))
      exact hK2 _ ⟨r,hr,rfl⟩
    intro ds hds
    have dl:=Paired.length hds
    obtain ⟨rs,rfl,rl_,hrs⟩:=dec_list (paired_all hds fun _ _ _ z=>z)
    have rlen:rs.length = m.toNat:=by rw [List.length_map] at dl; omega
    have r8:rs.length <= 8:=by omega
    have r1 : 1 <= rs.length:=by omega
    have sw:=kept_shw hs r8 hrs
    have rz:(rs.map ptD).length <= sizeLine:=by rw [List.length_map]; omega
    simp_arith only [grd_t,len_ok,m_vRN,m_vRC,s_rput,s_bump,asR_r,s_forC,m_compC,rangeD_length,pts_of]
    have gs : -(2 ^ 62) <= s /\ s < 2 ^ 62:=by omega
    refine inv_go (xs:=rs) (enc:=ptD) (fun i' ρ=>ρ = [some (.sc ns),some .reel,some (.d (.int (0 + (i:Int)))),some (.d (.int s)),some (.d (shD h)),some (.d (ptsQ rs)),some (.d (.str (PyData.tuple [shD h,ptsQ rs]).shown)),some (.d (fr (sumQ ((rs.map fun p=>h.at (ptc p h.cuts)).take i')))),none,none,none,none]) rfl ?_ ?_ ?_
    · rfl
    · rintro j hj ρ rfl K2 hK2
      obtain ⟨el,hq⟩:=hrs _ (List.getElem_mem hj)
      have hjm:j < (rs.map fun p=>h.at (ptc p h.cuts)).length:=by rw [List.length_map]; exact hj
      have sm20:∀ q ∈ rs.map (fun p=>h.at (ptc p h.cuts)),qSm 20 q:=fun q mq=>by
        obtain ⟨p,mp,rfl⟩:=List.mem_map.mp mq
        exact h.at_sm hs (ptc_ok (hrs p mp).1)
      have nx:sumQ ((rs.map fun p=>h.at (ptc p h.cuts)).take (j + 1)) = sumQ ((rs.map fun p=>h.at (ptc p h.cuts)).take j) + h.at (ptc rs[j] h.cuts):=by
        rw [List.take_succ_eq_append_getElem hjm,sumQ_snoc,List.getElem_map]
      have smS:qSm 2000 (sumQ ((rs.map fun p=>h.at (ptc p h.cuts)).take j)):=(sumQ_sm fun q mq=>sm20 q (List.mem_of_mem_take mq)).mono (by rw [List.length_take]; omega)
      generalize rs[j] = p at *
      have pk:=ptc_ok el
      have smA:=h.at_sm hs pk
      have smA2:qSm 2000 (h.at (ptc p h.cuts)):=smA.mono (by decide)
      have swA:Shw (fr (h.at (ptc p h.cuts))):=fr_shw smA (by decide)
      have hq60:∀ x ∈ p,qSm 60 x:=fun x mx=>(hq x mx).1.mono (by decide)
      generalize sumQ ((rs.map fun p=>h.at (ptc p h.cuts)).take j) = S at *
      simp_arith only [grd_t,len_ok,m_vRN,m_vRC,s_rput,s_bump,asR_r,s_forC,m_compC,rangeD_length]
      refine invR_go (fun k ρ=>ρ = [some (.sc ns),some .reel,some (.d (.int (0 + (i:Int)))),some (.d (.int s)),some (.d (shD h)),some (.d (ptsQ rs)),some (.d (.str (PyData.tuple [shD h,ptsQ rs]).shown)),some (.d (fr S)),some (.d (ptD p)),some (.ml (((ptc p h.cuts).take k).map .int)),none,none]) rfl ?_ ?_
      · rintro k hk ρ rfl K3 hK3
        have hk1:k < p.length:=by omega
        have hk2:k < h.cuts.length:=by omega
        have e1:atI p (0 + (k:Int)) = some p[k]:=by rw [Int.zero_add]; exact atI_nat (List.getElem?_eq_getElem hk1)
        have e2:atI h.cuts (0 + (k:Int)) = some h.cuts[k]:=by rw [Int.zero_add]; exact atI_nat (List.getElem?_eq_getElem hk2)
        have hkp:k < (ptc p h.cuts).length:=by rw [pk.1]; exact hk2
        have px:(ptc p h.cuts).take (k + 1) = (ptc p h.cuts).take k ++ [(stN p[k] h.cuts[k]:Int)]:=by
          rw [List.take_succ_eq_append_getElem hkp]
          congr 2
          simp [ptc]
        have x2:=(hq60 _ (List.getElem_mem hk1)).up
        have ck:=c6 _ (List.getElem_mem hk2)
        have cl:=ck.len
        generalize p[k] = x at *
        generalize h.cuts[k] = c at *
        have tl:((ptc p h.cuts).take k).length < sizeLine:=by rw [List.length_take,pk.1]; omega
        simp_arith only [grd_t,len_ok,BSH,BFR,e1,e2]
        refine cfm_go (xs:=c) (enc:=fr) (fun e=>if (!decide (x < e)) = true then some (fr e) else none) rfl ?_ (by omega) ?_
        · intro e me
          have em:qSm 2000 e:=(ck.sm e me).mono (by decide)
          simp_arith only [grd_t,len_ok,itM,BFR,e1,p__law_below.eq]
          try rfl
          try (split <;> rfl)
        · try simp_arith only [grd_t,len_ok]
          rw [fm_len (fun e=>!decide (x < e))]
          refine hK3 _ (lpS_nx ?_)
          rw [px,List.map_append]; rfl
      · rintro ρ rfl
        have lz:(ptc p h.cuts).length = s.toNat:=by rw [pk.1]; exact hcl
        rw [<- lz,List.take_of_length_le (Nat.le_refl _)]
        have tz:(ptc p h.cuts).length <= sizeLine:=by omega
        simp_arith only [grd_t,len_ok,BSH,p__law_at.eq,p_value_at.eq,p__law_plus.eq]
        refine hK2 _ (lpS_nx ?_)
        rw [nx]; rfl
    · rintro ρ rfl
      have ll:(rs.map fun p=>h.at (ptc p h.cuts)).length = rs.length:=List.length_map ..
      rw [<- ll,List.take_of_length_le (Nat.le_refl _)]
      have sm20:∀ q ∈ rs.map (fun p=>h.at (ptc p h.cuts)),qSm 20 q:=fun q mq=>by
        obtain ⟨p,mp,rfl⟩:=List.mem_map.mp mq
        exact h.at_sm hs (ptc_ok (hrs p mp).1)
      have smS:qSm 200 (sumQ (rs.map fun p=>h.at (ptc p h.cuts))):=(sumQ_sm sm20).mono (by omega)
      have n0:(0:Int) < (rs.length:Int):=by omega
      have dv:=qd_div (sumQ (rs.map fun p=>h.at (ptc p h.cuts))) n0
      have smD:qSm 260 (sumQ (rs.map fun p=>h.at (ptc p h.cuts)) / qd rs.length 1):=by
        rw [<- dv]
        have dp:=den_p (sumQ (rs.map fun p=>h.at (ptc p h.cuts)))
        refine qd_sm (Int.mul_pos dp n0) (Nat.lt_of_lt_of_le smS.1 (Nat.pow_le_pow_right (by decide) (by decide))) ?_
        rw [Int.natAbs_mul,Int.natAbs_natCast]
        exact Nat.lt_of_lt_of_le (Nat.mul_lt_mul'' smS.2 (show (rs.length:Int).natAbs < 2 ^ 60 by omega)) (by rw [<- Nat.pow_add]; exact Nat.le_refl _)
      have swD:Shw (fr (sumQ (rs.map fun p=>h.at (ptc p h.cuts)) / qd rs.length 1)):=fr_shw smD (by decide)
      have swW:Shw (fr (wholeQ h)):=fr_shw (whole_sm hs) (by decide)
      have hr60:∀ p ∈ rs,p.length = h.cuts.length /\ ∀ x ∈ p,qSm 60 x:=fun p mp=>⟨(hrs p mp).1,fun x mx=>((hrs p mp).2 x mx).1.mono (by decide)⟩
      have r60:rs.length <= 60:=by omega
      generalize hS:sumQ (rs.map fun p=>h.at (ptc p h.cuts)) = S at *
      have pm:p_mean_of [.d (shD h),.d (ptsQ rs)] = VL.ret (fr (S / qd rs.length 1)):=by rw [<- hS]; exact p_mean_of.eq h rs hs r1 r60 hr60
      have cm:CMulB (S.den:Int) (rs.length:Int):=.rt (by omega)
      have dp:=den_p S
      have b0 : 0 < (S.den:Int) * (rs.length:Int):=Int.mul_pos dp n0
      have bz:((S.den:Int) * (rs.length:Int)).natAbs < 2 ^ 8000:=by
        rw [Int.natAbs_mul,Int.natAbs_natCast]
        exact Nat.lt_of_lt_of_le (Nat.mul_lt_mul'' smS.2 (show (rs.length:Int).natAbs < 2 ^ 60 by omega)) (by rw [<- Nat.pow_add]; exact Nat.pow_le_pow_right (by decide) (by decide))
      simp_arith only [grd_t,len_ok,BFR,pm,p__law_frac.eq,p_whole_of.eq,p__law_whole.eq,dv]
      exact hK _ (lpS_nx rfl)
  · simp_arith only [grd_t,len_ok,m_vRN,m_vRC,s_rput,s_bump,asR_r,s_forC,m_compC,rangeD_length]
    exact law_end
structure Txt (K:PySem.W.Frag) (mg:Str -> Option Value):Prop where
  bz:Bz mg
  f__law_feed:FnIn K mg "_law_feed" (top 28) ["_law_script"]
  f__law_draw:FnIn K mg "_law_draw" (top 29) ["_law_feed_here", "_law_many"]
  f_common_divisor:FnIn K mg "common_divisor" (top 6) ["one", "other"]
  f_fraction:FnIn K mg "fraction" (top 7) ["top", "bottom"]
  f_less:FnIn K mg "less" (top 8) ["one", "other"]
  f_times:FnIn K mg "times" (top 9) ["one", "other"]
  f_sum_of:FnIn K mg "sum_of" (top 10) ["some"]
  f_is_below:FnIn K mg "is_below" (top 13) ["one", "other"]
  f_choices:FnIn K mg "choices" (top 15) ["rows"]
  f_stretch_of:FnIn K mg "stretch_of" (top 17) ["x", "ends"]
  f_patch_of:FnIn K mg "patch_of" (top 18) ["point", "cuts"]
  f_patches_of:FnIn K mg "patches_of" (top 19) ["cuts"]
  f_value_in:FnIn K mg "value_in" (top 21) ["sheet", "patch"]
  f_value_at:FnIn K mg "value_at" (top 22) ["sheet", "point"]
  f_over:FnIn K mg "over" (top 12) ["one", "other"]
  f_mean_of:FnIn K mg "mean_of" (top 23) ["sheet", "points"]
  f_stretch_length:FnIn K mg "stretch_length" (top 24) ["ends", "stretch"]
  f_product_of:FnIn K mg "product_of" (top 11) ["some"]
  f_patch_size:FnIn K mg "patch_size" (top 25) ["cuts", "patch"]
  f_whole_of:FnIn K mg "whole_of" (top 26) ["sheet"]
  f__law_frac:FnIn K mg "_law_frac" (top 30) ["_law_n", "_law_d"]
  f__law_below:FnIn K mg "_law_below" (top 31) ["_law_one", "_law_other"]
  f__law_number:FnIn K mg "_law_number" (top 32) ["_law_feed_here"]
  f__law_points:FnIn K mg "_law_points" (top 33) ["_law_feed_here", "_law_s", "_law_many"]
  f__law_cuts:FnIn K mg "_law_cuts" (top 34) ["_law_feed_here", "_law_s"]
  f__law_value:FnIn K mg "_law_value" (top 35) ["_law_feed_here"]
  f__law_sheet:FnIn K mg "_law_sheet" (top 36) ["_law_feed_here", "_law_s"]
  f__law_plus:FnIn K mg "_law_plus" (top 37) ["_law_one", "_law_other"]
  f__law_times:FnIn K mg "_law_times" (top 38) ["_law_one", "_law_other"]
  f__law_patches:FnIn K mg "_law_patches" (top 39) ["_law_cuts_here"]
  f__law_at:FnIn K mg "_law_at" (top 40) ["_law_sheet_here", "_law_patch"]
  f__law_on_cuts:FnIn K mg "_law_on_cuts" (top 41) ["_law_feed_here", "_law_cuts_here", "_law_point"]
  f__law_whole:FnIn K mg "_law_whole" (top 42) ["_law_sheet_here"]
  g_ZERO:GlD K mg "ZERO" (pr 0 1)
  g_ONE:GlD K mg "ONE" (pr 1 1)

theorem ok_law {f:Addr} {fd:FuncData} (F:Fun K "law" "law" (top 43) f fd) (T:Txt K mg)  : FnOk P w K mg base CX0 8 f fd ["_law_script"] (spLaw2 K):=by
  have d__law_feed:DfnR P w K mg base "_law_feed" ["_law_script"] 2 preF:=K86.d__law_feed T.f__law_feed T.bz   
  have d__law_draw:∀ al,DfnC P w K mg base al 1 "_law_draw" ["_law_feed_here", "_law_many"] 1 p__law_draw:=fun rl=>K86.d__law_draw T.f__law_draw T.bz   
  have d_common_divisor:∀ rl,Dfn P w K mg base rl "common_divisor" ["one", "other"] 1 p_common_divisor:=fun rl=>K86.d_common_divisor T.f_common_divisor T.bz   
  have d_fraction:∀ rl,Dfn P w K mg base rl "fraction" ["top", "bottom"] 2 p_fraction:=fun rl=>K86.d_fraction T.f_fraction T.bz d_common_divisor  
  have d_less:∀ rl,Dfn P w K mg base rl "less" ["one", "other"] 3 p_less:=fun rl=>K86.d_less T.f_less T.bz d_fraction  
  have d_times:∀ rl,Dfn P w K mg base rl "times" ["one", "other"] 3 p_times:=fun rl=>K86.d_times T.f_times T.bz d_fraction  
  have d_sum_of:∀ rl,Dfn P w K mg base rl "sum_of" ["some"] 3 p_sum_of:=fun rl=>K86.d_sum_of T.f_sum_of T.bz d_fraction d_common_divisor  
  have d_is_below:∀ rl,Dfn P w K mg base rl "is_below" ["one", "other"] 1 p_is_below:=fun rl=>K86.d_is_below T.f_is_below T.bz   
  have d_choices:∀ rl,Dfn P w K mg base rl "choices" ["rows"] 1 p_choices:=fun rl=>K86.d_choices T.f_choices T.bz   
  have d_stretch_of:∀ rl,Dfn P w K mg base rl "stretch_of" ["x", "ends"] 2 p_stretch_of:=fun rl=>K86.d_stretch_of T.f_stretch_of T.bz d_is_below  
  have d_patch_of:∀ rl,Dfn P w K mg base rl "patch_of" ["point", "cuts"] 3 p_patch_of:=fun rl=>K86.d_patch_of T.f_patch_of T.bz d_stretch_of  
  have d_patches_of:∀ rl,Dfn P w K mg base rl "patches_of" ["cuts"] 2 p_patches_of:=fun rl=>K86.d_patches_of T.f_patches_of T.bz d_choices  
  have d_value_in:∀ rl,Dfn P w K mg base rl "value_in" ["sheet", "patch"] 1 p_value_in:=fun rl=>K86.d_value_in T.f_value_in T.bz   
  have d_value_at:∀ rl,Dfn P w K mg base rl "value_at" ["sheet", "point"] 4 p_value_at:=fun rl=>K86.d_value_at T.f_value_at T.bz d_value_in d_patch_of  
  have d_over:∀ rl,Dfn P w K mg base rl "over" ["one", "other"] 3 p_over:=fun rl=>K86.d_over T.f_over T.bz d_fraction  
  have d_mean_of:∀ rl,Dfn P w K mg base rl "mean_of" ["sheet", "points"] 5 p_mean_of:=fun rl=>K86.d_mean_of T.f_mean_of T.bz d_over d_sum_of d_value_at  
  have d_stretch_length:∀ rl,Dfn P w K mg base rl "stretch_length" ["ends", "stretch"] 4 p_stretch_length:=fun rl=>K86.d_stretch_length T.f_stretch_length T.bz d_less T.g_ONE T.g_ZERO 
  have d_product_of:∀ rl,Dfn P w K mg base rl "product_of" ["some"] 4 p_product_of:=fun rl=>K86.d_product_of T.f_product_of T.bz d_times T.g_ONE 
  have d_patch_size:∀ rl,Dfn P w K mg base rl "patch_size" ["cuts", "patch"] 5 p_patch_size:=fun rl=>K86.d_patch_size T.f_patch_size T.bz d_product_of d_stretch_length  
  have d_whole_of:∀ rl,Dfn P w K mg base rl "whole_of" ["sheet"] 6 p_whole_of:=fun rl=>K86.d_whole_of T.f_whole_of T.bz d_sum_of d_times d_value_in d_patch_size d_patches_of  
  have d__law_frac:∀ rl,Dfn P w K mg base rl "_law_frac" ["_law_n", "_law_d"] 1 p__law_frac:=fun rl=>K86.d__law_frac T.f__law_frac T.bz   
  have d__law_below:∀ rl,Dfn P w K mg base rl "_law_below" ["_law_one", "_law_other"] 1 p__law_below:=fun rl=>K86.d__law_below T.f__law_below T.bz   
  have d__law_number:∀ al,DfnC P w K mg base al 2 "_law_number" ["_law_feed_here"] 2 p__law_number:=fun rl=>K86.d__law_number T.f__law_number T.bz d__law_frac d__law_draw  
  have d__law_points:∀ al,DfnC P w K mg base al 8320 "_law_points" ["_law_feed_here", "_law_s", "_law_many"] 3 p__law_points:=fun rl=>K86.d__law_points T.f__law_points T.bz d__law_number d__law_draw  
  have d__law_cuts:∀ al,DfnC P w K mg base al 4224 "_law_cuts" ["_law_feed_here", "_law_s"] 2 p__law_cuts:=fun rl=>K86.d__law_cuts T.f__law_cuts T.bz d__law_draw d__law_frac  
  have d__law_value:∀ al,DfnC P w K mg base al 2 "_law_value" ["_law_feed_here"] 2 p__law_value:=fun rl=>K86.d__law_value T.f__law_value T.bz d__law_frac d__law_draw  
  have d__law_sheet:∀ al,DfnC P w K mg base al 12544 "_law_sheet" ["_law_feed_here", "_law_s"] 3 p__law_sheet:=fun rl=>K86.d__law_sheet T.f__law_sheet T.bz d__law_cuts d__law_value  
  have d__law_plus:∀ rl,Dfn P w K mg base rl "_law_plus" ["_law_one", "_law_other"] 2 p__law_plus:=fun rl=>K86.d__law_plus T.f__law_plus T.bz d__law_frac  
  have d__law_times:∀ rl,Dfn P w K mg base rl "_law_times" ["_law_one", "_law_other"] 2 p__law_times:=fun rl=>K86.d__law_times T.f__law_times T.bz d__law_frac  
  have d__law_patches:∀ rl,Dfn P w K mg base rl "_law_patches" ["_law_cuts_here"] 1 p__law_patches:=fun rl=>K86.d__law_patches T.f__law_patches T.bz   
  have d__law_at:∀ rl,Dfn P w K mg base rl "_law_at" ["_law_sheet_here", "_law_patch"] 1 p__law_at:=fun rl=>K86.d__law_at T.f__law_at T.bz   
  have d__law_on_cuts:∀ al,DfnC P w K mg base al 64 "_law_on_cuts" ["_law_feed_here", "_law_cuts_here", "_law_point"] 2 p__law_on_cuts:=fun rl=>K86.d__law_on_cuts T.f__law_on_cuts T.bz d__law_draw  
  have d__law_whole:∀ rl,Dfn P w K mg base rl "_law_whole" ["_law_sheet_here"] 3 p__law_whole:=fun rl=>K86.d__law_whole T.f__law_whole T.bz d__law_patches d__law_at d__law_plus d__law_times  
  exact law_body T.bz d__law_feed d__law_sheet d__law_points d__law_draw d__law_at d__law_plus d__law_on_cuts d_mean_of d__law_frac d_value_at d_whole_of d__law_whole d__law_below   F
end
theorem fin_mk {K:PySem.W.Frag} {h:Heap} {mg:Str -> Option Value} (X:K.In h) (G:h.Ns mainGlobals mg) {x:Str} {st:Stmt} {ps:List Str} {f:Addr} {oc kV dc pm cd ct:Value} {od an:Option Addr} {sl:Array (Option Value)} (a:PySem.W.nsIn K mainGlobals x = some (some (.ref f))) (l:K.lookup f = some ⟨oc,od,.func (PySem.W.fnOf x x (defArgs st) (defBody st) (defScope st) .none kV dc pm an cd ct),sl⟩) (c:PySem.W.codeIn K cd x = true) (k:PySem.W.keepIn K (.ref f) = true) (hb:∀ (kV doc pm:Value) (an:Option Addr) (cdv ct:Value) (us:List Value),us.length = ps.length -> bindArgs (PySem.W.fnOf x x (defArgs st) (defBody st) (defScope st) .none kV doc pm an cdv ct) ⟨us,[]⟩ = pure (ps.zip us)):FnIn K mg x st ps:=⟨⟨f,_,PySem.W.mg_of X G a,fun_mk l c k,(fun_mk l c k).binds hb⟩⟩
abbrev NI (K:PySem.W.Frag) (x:Str) (f:Addr):Prop:=PySem.W.nsIn K mainGlobals x = some (some (.ref f))
abbrev NZ (K:PySem.W.Frag) (x:Str):Prop:=PySem.W.nsIn K mainGlobals x = some none
abbrev LK (K:PySem.W.Frag) (x:Str) (st:Stmt) (f:Addr) (oc:Value) (od:Option Addr) (kV dc pm:Value) (an:Option Addr) (cd ct:Value) (sl:Array (Option Value)):Prop:=K.lookup f = some ⟨oc,od,.func (PySem.W.fnOf x x (defArgs st) (defBody st) (defScope st) .none kV dc pm an cd ct),sl⟩
theorem all_mk {l:PySem.W.OpenLaw} {w:World} {K:PySem.W.Frag} {h:Heap} {mg:Str -> Option Value} {fa:Addr} (X:K.In h) (G:h.Ns mainGlobals mg) (hfa:mg "law" = some (.ref fa))
    {f1 f2 f3 f4 f5 f6 f7 f8 f9 f10 f11 f12 f13 f14 f15 f16 f17 f18 f19 f20 f21 f22 f23 f24 f25 f26 f27 f28 f29 f30 f31 f32 f33 f34:Addr} {od1 an1 od2 an2 od3 an3 od4 an4 od5 an5 od6 an6 od7 an7 od8 an8 od9 an9 od10 an10 od11 an11 od12 an12 od13 an13 od14 an14 od15 an15 od16 an16 od17 an17 od18 an18 od19 an19 od20 an20 od21 an21 od22 an22 od23 an23 od24 an24 od25 an25 od26 an26 od27 an27 od28 an28 od29 an29 od30 an30 od31 an31 od32 an32 od33 an33 od34 an34:Option Addr} {sl1 sl2 sl3 sl4 sl5 sl6 sl7 sl8 sl9 sl10 sl11 sl12 sl13 sl14 sl15 sl16 sl17 sl18 sl19 sl20 sl21 sl22 sl23 sl24 sl25 sl26 sl27 sl28 sl29 sl30 sl31 sl32 sl33 sl34:Array (Option Value)} {oc1 kV1 dc1 pm1 cd1 ct1 oc2 kV2 dc2 pm2 cd2 ct2 oc3 kV3 dc3 pm3 cd3 ct3 oc4 kV4 dc4 pm4 cd4 ct4 oc5 kV5 dc5 pm5 cd5 ct5 oc6 kV6 dc6 pm6 cd6 ct6 oc7 kV7 dc7 pm7 cd7 ct7 oc8 kV8 dc8 pm8 cd8 ct8 oc9 kV9 dc9 pm9 cd9 ct9 oc10 kV10 dc10 pm10 cd10 ct10 oc11 kV11 dc11 pm11 cd11 ct11 oc12 kV12 dc12 pm12 cd12 ct12 oc13 kV13 dc13 pm13 cd13 ct13 oc14 kV14 dc14 pm14 cd14 ct14 oc15 kV15 dc15 pm15 cd15 ct15 oc16 kV16 dc16 pm16 cd16 ct16 oc17 kV17 dc17 pm17 cd17 ct17 oc18 kV18 dc18 pm18 cd18 ct18 oc19 kV19 dc19 pm19 cd19 ct19 oc20 kV20 dc20 pm20 cd20 ct20 oc21 kV21 dc21 pm21 cd21 ct21 oc22 kV22 dc22 pm22 cd22 ct22 oc23 kV23 dc23 pm23 cd23 ct23 oc24 kV24 dc24 pm24 cd24 ct24 oc25 kV25 dc25 pm25 cd25 ct25 oc26 kV26 dc26 pm26 cd26 ct26 oc27 kV27 dc27 pm27 cd27 ct27 oc28 kV28 dc28 pm28 cd28 ct28 oc29 kV29 dc29 pm29 cd29 ct29 oc30 kV30 dc30 pm30 cd30 ct30 oc31 kV31 dc31 pm31 cd31 ct31 oc32 kV32 dc32 pm32 cd32 ct32 oc33 kV33 dc33 pm33 cd33 ct33 oc34 kV34 dc34 pm34 cd34 ct34:Value}
    (a1:NI K "_law_feed" f1) (l1:LK K "_law_feed" (top 28) f1 oc1 od1 kV1 dc1 pm1 an1 cd1 ct1 sl1) (c1:PySem.W.codeIn K cd1 "_law_feed" = true) (k1:PySem.W.keepIn K (.ref f1) = true) (a2:NI K "_law_draw" f2) (l2:LK K "_law_draw" (top 29) f2 oc2 od2 kV2 dc2 pm2 an2 cd2 ct2 sl2) (c2:PySem.W.codeIn K cd2 "_law_draw" = true) (k2:PySem.W.keepIn K (.ref f2) = true) (a3:NI K "common_divisor" f3) (l3:LK K "common_divisor" (top 6) f3 oc3 od3 kV3 dc3 pm3 an3 cd3 ct3 sl3) (c3:PySem.W.codeIn K cd3 "common_divisor" = true) (k3:PySem.W.keepIn K (.ref f3) = true) (a4:NI K "fraction" f4) (l4:LK K "fraction" (top 7) f4 oc4 od4 kV4 dc4 pm4 an4 cd4 ct4 sl4) (c4:PySem.W.codeIn K cd4 "fraction" = true) (k4:PySem.W.keepIn K (.ref f4) = true) (a5:NI K "less" f5) (l5:LK K "less" (top 8) f5 oc5 od5 kV5 dc5 pm5 an5 cd5 ct5 sl5) (c5:PySem.W.codeIn K cd5 "less" = true) (k5:PySem.W.keepIn K (.ref f5) = true) (a6:NI K "times" f6) (l6:LK K "times" (top 9) f6 oc6 od6 kV6 dc6 pm6 an6 cd6 ct6 sl6) (c6:PySem.W.codeIn K cd6 "times" = true) (k6:PySem.W.keepIn K (.ref f6) = true) (a7:NI K "sum_of" f7) (l7:LK K "sum_of" (top 10) f7 oc7 od7 kV7 dc7 pm7 an7 cd7 ct7 sl7) (c7:PySem.W.codeIn K cd7 "sum_of" = true) (k7:PySem.W.keepIn K (.ref f7) = true) (a8:NI K "is_below" f8) (l8:LK K "is_below" (top 13) f8 oc8 od8 kV8 dc8 pm8 an8 cd8 ct8 sl8) (c8:PySem.W.codeIn K cd8 "is_below" = true) (k8:PySem.W.keepIn K (.ref f8) = true) (a9:NI K "choices" f9) (l9:LK K "choices" (top 15) f9 oc9 od9 kV9 dc9 pm9 an9 cd9 ct9 sl9) (c9:PySem.W.codeIn K cd9 "choices" = true) (k9:PySem.W.keepIn K (.ref f9) = true) (a10:NI K "stretch_of" f10) (l10:LK K "stretch_of" (top 17) f10 oc10 od10 kV10 dc10 pm10 an10 cd10 ct10 sl10) (c10:PySem.W.codeIn K cd10 "stretch_of" = true) (k10:PySem.W.keepIn K (.ref f10) = true) (a11:NI K "patch_of" f11) (l11:LK K "patch_of" (top 18) f11 oc11 od11 kV11 dc11 pm11 an11 cd11 ct11 sl11) (c11:PySem.W.codeIn K cd11 "patch_of" = true) (k11:PySem.W.keepIn K (.ref f11) = true) (a12:NI K "patches_of" f12) (l12:LK K "patches_of" (top 19) f12 oc12 od12 kV12 dc12 pm12 an12 cd12 ct12 sl12) (c12:PySem.W.codeIn K cd12 "patches_of" = true) (k12:PySem.W.keepIn K (.ref f12) = true) (a13:NI K "value_in" f13) (l13:LK K "value_in" (top 21) f13 oc13 od13 kV13 dc13 pm13 an13 cd13 ct13 sl13) (c13:PySem.W.codeIn K cd13 "value_in" = true) (k13:PySem.W.keepIn K (.ref f13) = true) (a14:NI K "value_at" f14) (l14:LK K "value_at" (top 22) f14 oc14 od14 kV14 dc14 pm14 an14 cd14 ct14 sl14) (c14:PySem.W.codeIn K cd14 "value_at" = true) (k14:PySem.W.keepIn K (.ref f14) = true) (a15:NI K "over" f15) (l15:LK K "over" (top 12) f15 oc15 od15 kV15 dc15 pm15 an15 cd15 ct15 sl15) (c15:PySem.W.codeIn K cd15 "over" = true) (k15:PySem.W.keepIn K (.ref f15) = true) (a16:NI K "mean_of" f16) (l16:LK K "mean_of" (top 23) f16 oc16 od16 kV16 dc16 pm16 an16 cd16 ct16 sl16) (c16:PySem.W.codeIn K cd16 "mean_of" = true) (k16:PySem.W.keepIn K (.ref f16) = true) (a17:NI K "stretch_length" f17) (l17:LK K "stretch_length" (top 24) f17 oc17 od17 kV17 dc17 pm17 an17 cd17 ct17 sl17) (c17:PySem.W.codeIn K cd17 "stretch_length" = true) (k17:PySem.W.keepIn K (.ref f17) = true) (a18:NI K "product_of" f18) (l18:LK K "product_of" (top 11) f18 oc18 od18 kV18 dc18 pm18 an18 cd18 ct18 sl18) (c18:PySem.W.codeIn K cd18 "product_of" = true) (k18:PySem.W.keepIn K (.ref f18) = true) (a19:NI K "patch_size" f19) (l19:LK K "patch_size" (top 25) f19 oc19 od19 kV19 dc19 pm19 an19 cd19 ct19 sl19) (c19:PySem.W.codeIn K cd19 "patch_size" = true) (k19:PySem.W.keepIn K (.ref f19) = true) (a20:NI K "whole_of" f20) (l20:LK K "whole_of" (top 26) f20 oc20 od20 kV20 dc20 pm20 an20 cd20 ct20 sl20) (c20:PySem.W.codeIn K cd20 "whole_of" = true) (k20:PySem.W.keepIn K (.ref f20) = true) (a21:NI K "_law_frac" f21) (l21:LK K "_law_frac" (top 30) f21 oc21 od21 kV21 dc21 pm21 an21 cd21 ct21 sl21) (c21:PySem.W.codeIn K cd21 "_law_frac" = true) (k21:PySem.W.keepIn K (.ref f21) = true) (a22:NI K "_law_below" f22) (l22:LK K "_law_below" (top 31) f22 oc22 od22 kV22 dc22 pm22 an22 cd22 ct22 sl22) (c22:PySem.W.codeIn K cd22 "_law_below" = true) (k22:PySem.W.keepIn K (.ref f22) = true) (a23:NI K "_law_number" f23) (l23:LK K "_law_number" (top 32) f23 oc23 od23 kV23 dc23 pm23 an23 cd23 ct23 sl23) (c23:PySem.W.codeIn K cd23 "_law_number" = true) (k23:PySem.W.keepIn K (.ref f23) = true) (a24:NI K "_law_points" f24) (l24:LK K "_law_points" (top 33) f24 oc24 od24 kV24 dc24 pm24 an24 cd24 ct24 sl24) (c24:PySem.W.codeIn K cd24 "_law_points" = true) (k24:PySem.W.keepIn K (.ref f24) = true) (a25:NI K "_law_cuts" f25) (l25:LK K "_law_cuts" (top 34) f25 oc25 od25 kV25 dc25 pm25 an25 cd25 ct25 sl25) (c25:PySem.W.codeIn K cd25 "_law_cuts" = true) (k25:PySem.W.keepIn K (.ref f25) = true) (a26:NI K "_law_value" f26) (l26:LK K "_law_value" (top 35) f26 oc26 od26 kV26 dc26 pm26 an26 cd26 ct26 sl26) (c26:PySem.W.codeIn K cd26 "_law_value" = true) (k26:PySem.W.keepIn K (.ref f26) = true) (a27:NI K "_law_sheet" f27) (l27:LK K "_law_sheet" (top 36) f27 oc27 od27 kV27 dc27 pm27 an27 cd27 ct27 sl27) (c27:PySem.W.codeIn K cd27 "_law_sheet" = true) (k27:PySem.W.keepIn K (.ref f27) = true) (a28:NI K "_law_plus" f28) (l28:LK K "_law_plus" (top 37) f28 oc28 od28 kV28 dc28 pm28 an28 cd28 ct28 sl28) (c28:PySem.W.codeIn K cd28 "_law_plus" = true) (k28:PySem.W.keepIn K (.ref f28) = true) (a29:NI K "_law_times" f29) (l29:LK K "_law_times" (top 38) f29 oc29 od29 kV29 dc29 pm29 an29 cd29 ct29 sl29) (c29:PySem.W.codeIn K cd29 "_law_times" = true) (k29:PySem.W.keepIn K (.ref f29) = true) (a30:NI K "_law_patches" f30) (l30:LK K "_law_patches" (top 39) f30 oc30 od30 kV30 dc30 pm30 an30 cd30 ct30 sl30) (c30:PySem.W.codeIn K cd30 "_law_patches" = true) (k30:PySem.W.keepIn K (.ref f30) = true) (a31:NI K "_law_at" f31) (l31:LK K "_law_at" (top 40) f31 oc31 od31 kV31 dc31 pm31 an31 cd31 ct31 sl31) (c31:PySem.W.codeIn K cd31 "_law_at" = true) (k31:PySem.W.keepIn K (.ref f31) = true) (a32:NI K "_law_on_cuts" f32) (l32:LK K "_law_on_cuts" (top 41) f32 oc32 od32 kV32 dc32 pm32 an32 cd32 ct32 sl32) (c32:PySem.W.codeIn K cd32 "_law_on_cuts" = true) (k32:PySem.W.keepIn K (.ref f32) = true) (a33:NI K "_law_whole" f33) (l33:LK K "_law_whole" (top 42) f33 oc33 od33 kV33 dc33 pm33 an33 cd33 ct33 sl33) (c33:PySem.W.codeIn K cd33 "_law_whole" = true) (k33:PySem.W.keepIn K (.ref f33) = true) (a34:NI K "law" f34) (l34:LK K "law" (top 43) f34 oc34 od34 kV34 dc34 pm34 an34 cd34 ct34 sl34) (c34:PySem.W.codeIn K cd34 "law" = true) (k34:PySem.W.keepIn K (.ref f34) = true)
    (z_int:NZ K "int") (z_bool:NZ K "bool") (z_str:NZ K "str") (z_list:NZ K "list") (z_tuple:NZ K "tuple") (z_dict:NZ K "dict") (z_isinstance:NZ K "isinstance") (z_len:NZ K "len") (z_abs:NZ K "abs") (z_repr:NZ K "repr") (z_range:NZ K "range") (z_all:NZ K "all") (z_any:NZ K "any") (z_sum:NZ K "sum") (z_min:NZ K "min") (z_max:NZ K "max") (z_sorted:NZ K "sorted") (z_zip:NZ K "zip") (z_enumerate:NZ K "enumerate") (z_reversed:NZ K "reversed") (z_divmod:NZ K "divmod") (z_set:NZ K "set") (g_ZERO:GlK K "ZERO" (pr 0 1)) (g_ONE:GlK K "ONE" (pr 1 1))  :
    ∃ fd:FuncData,(∀ (s:Shared) (v:Value),BindsTo s fd ⟨[v],[]⟩ [("_law_script", v)]) /\ ∀ base:Heap,K.In base -> base.Ns mainGlobals mg -> FnOk l.prog w K mg base CX0 8 fa fd ["_law_script"] (spLaw2 K):=by
  have e:=hfa.symm.trans (PySem.W.mg_of X G a34)
  cases e
  have B:Bz mg:=⟨PySem.W.mg_none_of X G z_int,PySem.W.mg_none_of X G z_bool,PySem.W.mg_none_of X G z_str,PySem.W.mg_none_of X G z_list,PySem.W.mg_none_of X G z_tuple,PySem.W.mg_none_of X G z_dict,PySem.W.mg_none_of X G z_isinstance,PySem.W.mg_none_of X G z_len,PySem.W.mg_none_of X G z_abs,PySem.W.mg_none_of X G z_repr,PySem.W.mg_none_of X G z_range,PySem.W.mg_none_of X G z_all,PySem.W.mg_none_of X G z_any,PySem.W.mg_none_of X G z_sum,PySem.W.mg_none_of X G z_min,PySem.W.mg_none_of X G z_max,PySem.W.mg_none_of X G z_sorted,PySem.W.mg_none_of X G z_zip,PySem.W.mg_none_of X G z_enumerate,PySem.W.mg_none_of X G z_reversed,PySem.W.mg_none_of X G z_divmod,PySem.W.mg_none_of X G z_set⟩
  have T:Txt K mg:=⟨B,(fin_mk X G a1 l1 c1 k1 fun _ _ _ _ _ _ us hl=>match us,hl with | [_],_=>rfl),(fin_mk X G a2 l2 c2 k2 fun _ _ _ _ _ _ us hl=>match us,hl with | [_,_],_=>rfl),(fin_mk X G a3 l3 c3 k3 fun _ _ _ _ _ _ us hl=>match us,hl with | [_,_],_=>rfl),(fin_mk X G a4 l4 c4 k4 fun _ _ _ _ _ _ us hl=>match us,hl with | [_,_],_=>rfl),(fin_mk X G a5 l5 c5 k5 fun _ _ _ _ _ _ us hl=>match us,hl with | [_,_],_=>rfl),(fin_mk X G a6 l6 c6 k6 fun _ _ _ _ _ _ us hl=>match us,hl with | [_,_],_=>rfl),(fin_mk X G a7 l7 c7 k7 fun _ _ _ _ _ _ us hl=>match us,hl with | [_],_=>rfl),(fin_mk X G a8 l8 c8 k8 fun _ _ _ _ _ _ us hl=>match us,hl with | [_,_],_=>rfl),(fin_mk X G a9 l9 c9 k9 fun _ _ _ _ _ _ us hl=>match us,hl with | [_],_=>rfl),(fin_mk X G a10 l10 c10 k10 fun _ _ _ _ _ _ us hl=>match us,hl with | [_,_],_=>rfl),(fin_mk X G a11 l11 c11 k11 fun _ _ _ _ _ _ us hl=>match us,hl with | [_,_],_=>rfl),(fin_mk X G a12 l12 c12 k12 fun _ _ _ _ _ _ us hl=>match us,hl with | [_],_=>rfl),(fin_mk X G a13 l13 c13 k13 fun _ _ _ _ _ _ us hl=>match us,hl with | [_,_],_=>rfl),(fin_mk X G a14 l14 c14 k14 fun _ _ _ _ _ _ us hl=>match us,hl with | [_,_],_=>rfl),(fin_mk X G a15 l15 c15 k15 fun _ _ _ _ _ _ us hl=>match us,hl with | [_,_],_=>rfl),(fin_mk X G a16 l16 c16 k16 fun _ _ _ _ _ _ us hl=>match us,hl with | [_,_],_=>rfl),(fin_mk X G a17 l17 c17 k17 fun _ _ _ _ _ _ us hl=>match us,hl with | [_,_],_=>rfl),(fin_mk X G a18 l18 c18 k18 fun _ _ _ _ _ _ us hl=>match us,hl with | [_],_=>rfl),(fin_mk X G a19 l19 c19 k19 fun _ _ _ _ _ _ us hl=>match us,hl with | [_,_],_=>rfl),(fin_mk X G a20 l20 c20 k20 fun _ _ _ _ _ _ us hl=>match us,hl with | [_],_=>rfl),(fin_mk X G a21 l21 c21 k21 fun _ _ _ _ _ _ us hl=>match us,hl with | [_,_],_=>rfl),(fin_mk X G a22 l22 c22 k22 fun _ _ _ _ _ _ us hl=>match us,hl with | [_,_],_=>rfl),(fin_mk X G a23 l23 c23 k23 fun _ _ _ _ _ _ us hl=>match us,hl with | [_],_=>rfl),(fin_mk X G a24 l24 c24 k24 fun _ _ _ _ _ _ us hl=>match us,hl with | [_,_,_],_=>rfl),(fin_mk X G a25 l25 c25 k25 fun _ _ _ _ _ _ us hl=>match us,hl with | [_,_],_=>rfl),(fin_mk X G a26 l26 c26 k26 fun _ _ _ _ _ _ us hl=>match us,hl with | [_],_=>rfl),(fin_mk X G a27 l27 c27 k27 fun _ _ _ _ _ _ us hl=>match us,hl with | [_,_],_=>rfl),(fin_mk X G a28 l28 c28 k28 fun _ _ _ _ _ _ us hl=>match us,hl with | [_,_],_=>rfl),(fin_mk X G a29 l29 c29 k29 fun _ _ _ _ _ _ us hl=>match us,hl with | [_,_],_=>rfl),(fin_mk X G a30 l30 c30 k30 fun _ _ _ _ _ _ us hl=>match us,hl with | [_],_=>rfl),(fin_mk X G a31 l31 c31 k31 fun _ _ _ _ _ _ us hl=>match us,hl with | [_,_],_=>rfl),(fin_mk X G a32 l32 c32 k32 fun _ _ _ _ _ _ us hl=>match us,hl with | [_,_,_],_=>rfl),(fin_mk X G a33 l33 c33 k33 fun _ _ _ _ _ _ us hl=>match us,hl with | [_],_=>rfl),g_ZERO.of X G,g_ONE.of X G⟩
  have FL:=fun_mk (st:=top 43) l34 c34 k34
  exact ⟨_,fun s v=>.of_eq rfl,fun base _ _=>ok_law FL T ⟩
theorem walk {l:PySem.W.OpenLaw} {q:Program} {loose:List Str} {XP:(Str -> Option Value) -> Heap -> Prop} {YP:World -> Heap -> Prop} {d:DefRec} {K:Params -> PySem.W.Frag} (hn:l.most = some 63) (hdf:d.params.defaults = [])
    (hY:∀ (w:World) (h:Heap),YP w h -> (K w.params).In h)
    (F:∀ (w:World) (mg:Str -> Option Value) (fa:Addr) (h:Heap),(K w.params).In h -> h.Ns mainGlobals mg -> mg d.name = some (.ref fa) ->
      ∃ fd:FuncData,(∀ (s:Shared) (u:Value),BindsTo s fd ⟨[u],[]⟩ [("_law_script", u)]) /\ ∀ base:Heap,(K w.params).In base -> base.Ns mainGlobals mg -> FnOk l.prog w (K w.params) mg base CX0 8 fa fd ["_law_script"] (spLaw2 (K w.params))) :
    PySem.W.WalkO q loose XP YP l.row.toRowW d [] (fun f vs=>PySem.call f vs) :=
  L2.walk_of (n:=63) (k:=8) (x := "_law_script") (CX:=fun _=>CX0) (sp:=fun w=>spLaw2 (K w.params)) hn (by decide) hdf ⟨rfl,by decide,by decide,rfl⟩ hY F (fun _ _ a ns hl _ hS=>⟨a,ns,rfl,hS,hl,fun _=>rfl⟩) fun _ _ _ _ _ z=>z
end K86
def PySem.W.Fast.tw9352508502310187758:PySem.Params -> PySem.W.Frag:=K86.heapK
theorem PySem.W.Fast.te9352508502310187758:K86.heapK = PySem.W.Fast.tw9352508502310187758:=rfl
open PySem PySem.W PyProof.Rows
set_option maxRecDepth 100000 in
set_option maxHeartbeats 0 in
theorem PySem.Challenge.cw_evenpoints_k86_sheets_over_points_holds : PySem.Challenge.rw_evenpoints_k86_sheets_over_points.Holds := by
  refine (congrArg PySem.W.OpenLaw.Holds K86.rw_eq).mpr ?_
  w_on; o_law
  refine holds_open (loose:=[]) (XP:=XL K86.zview []) (YP:=Hook.says (kHook K86.heapK K86.heapA K86.heapE)) K86.zleft
    (Hook.of _) (Hook.keeps _) (fun s e=>xl_of s (Bool.and_eq_true_iff.mp e).1)
    XL.keeps (by rfl) (by rfl) (by rfl) (fun s e=>recFacts_of (Bool.and_eq_true_iff.mp e).2) (by rfl)
    (by first | assumption | decide +kernel) (by decide +kernel) ⟨rfl,rfl,rfl,rfl,rfl,by decide +kernel⟩ ?hw ?hc
  (case hw=>w_witness2)
  k_fill
  refine K86.walk (l:=K86.rwN) rfl rfl (fun w h Y=>PySem.W.kIn_of (as:=K86.heapA) (e:=K86.heapE) Y) ?F
  case F =>
    intro w mg fa h KX G hmg
    refine' K86.all_mk KX G hmg ?a1 ?l1 ?c1 ?k1 ?a2 ?l2 ?c2 ?k2 ?a3 ?l3 ?c3 ?k3 ?a4 ?l4 ?c4 ?k4 ?a5 ?l5 ?c5 ?k5 ?a6 ?l6 ?c6 ?k6 ?a7 ?l7 ?c7 ?k7 ?a8 ?l8 ?c8 ?k8 ?a9 ?l9 ?c9 ?k9 ?a10 ?l10 ?c10 ?k10 ?a11 ?l11 ?c11 ?k11 ?a12 ?l12 ?c12 ?k12 ?a13 ?l13 ?c13 ?k13 ?a14 ?l14 ?c14 ?k14 ?a15 ?l15 ?c15 ?k15 ?a16 ?l16 ?c16 ?k16 ?a17 ?l17 ?c17 ?k17 ?a18 ?l18 ?c18 ?k18 ?a19 ?l19 ?c19 ?k19 ?a20 ?l20 ?c20 ?k20 ?a21 ?l21 ?c21 ?k21 ?a22 ?l22 ?c22 ?k22 ?a23 ?l23 ?c23 ?k23 ?a24 ?l24 ?c24 ?k24 ?a25 ?l25 ?c25 ?k25 ?a26 ?l26 ?c26 ?k26 ?a27 ?l27 ?c27 ?k27 ?a28 ?l28 ?c28 ?k28 ?a29 ?l29 ?c29 ?k29 ?a30 ?l30 ?c30 ?k30 ?a31 ?l31 ?c31 ?k31 ?a32 ?l32 ?c32 ?k32 ?a33 ?l33 ?c33 ?k33 ?a34 ?l34 ?c34 ?k34 ?zint ?zbool ?zstr ?zlist ?ztuple ?zdict ?zisinstance ?zlen ?zabs ?zrepr ?zrange ?zall ?zany ?zsum ?zmin ?zmax ?zsorted ?zzip ?zenumerate ?zreversed ?zdivmod ?zset ?gZERO ?gONE 
    all_goals (try change _ = _)
    (case a1=>k_is); (case l1=>k_is); (case c1=>k_is); (case k1=>k_is)
    (case a2=>k_is); (case l2=>k_is); (case c2=>k_is); (case k2=>k_is)
    (case a3=>k_is); (case l3=>k_is); (case c3=>k_is); (case k3=>k_is)
    (case a4=>k_is); (case l4=>k_is); (case c4=>k_is); (case k4=>k_is)
    (case a5=>k_is); (case l5=>k_is); (case c5=>k_is); (case k5=>k_is)
    (case a6=>k_is); (case l6=>k_is); (case c6=>k_is); (case k6=>k_is)
    (case a7=>k_is); (case l7=>k_is); (case c7=>k_is); (case k7=>k_is)
    (case a8=>k_is); (case l8=>k_is); (case c8=>k_is); (case k8=>k_is)
    (case a9=>k_is); (case l9=>k_is); (case c9=>k_is); (case k9=>k_is)
    (case a10=>k_is); (case l10=>k_is); (case c10=>k_is); (case k10=>k_is)
    (case a11=>k_is); (case l11=>k_is); (case c11=>k_is); (case k11=>k_is)
    (case a12=>k_is); (case l12=>k_is); (case c12=>k_is); (case k12=>k_is)
    (case a13=>k_is); (case l13=>k_is); (case c13=>k_is); (case k13=>k_is)
    (case a14=>k_is); (case l14=>k_is); (case c14=>k_is); (case k14=>k_is)
    (case a15=>k_is); (case l15=>k_is); (case c15=>k_is); (case k15=>k_is)
    (case a16=>k_is); (case l16=>k_is); (case c16=>k_is); (case k16=>k_is)
    (case a17=>k_is); (case l17=>k_is); (case c17=>k_is); (case k17=>k_is)
    (case a18=>k_is); (case l18=>k_is); (case c18=>k_is); (case k18=>k_is)
    (case a19=>k_is); (case l19=>k_is); (case c19=>k_is); (case k19=>k_is)
    (case a20=>k_is); (case l20=>k_is); (case c20=>k_is); (case k20=>k_is)
    (case a21=>k_is); (case l21=>k_is); (case c21=>k_is); (case k21=>k_is)
    (case a22=>k_is); (case l22=>k_is); (case c22=>k_is); (case k22=>k_is)
    (case a23=>k_is); (case l23=>k_is); (case c23=>k_is); (case k23=>k_is)
    (case a24=>k_is); (case l24=>k_is); (case c24=>k_is); (case k24=>k_is)
    (case a25=>k_is); (case l25=>k_is); (case c25=>k_is); (case k25=>k_is)
    (case a26=>k_is); (case l26=>k_is); (case c26=>k_is); (case k26=>k_is)
    (case a27=>k_is); (case l27=>k_is); (case c27=>k_is); (case k27=>k_is)
    (case a28=>k_is); (case l28=>k_is); (case c28=>k_is); (case k28=>k_is)
    (case a29=>k_is); (case l29=>k_is); (case c29=>k_is); (case k29=>k_is)
    (case a30=>k_is); (case l30=>k_is); (case c30=>k_is); (case k30=>k_is)
    (case a31=>k_is); (case l31=>k_is); (case c31=>k_is); (case k31=>k_is)
    (case a32=>k_is); (case l32=>k_is); (case c32=>k_is); (case k32=>k_is)
    (case a33=>k_is); (case l33=>k_is); (case c33=>k_is); (case k33=>k_is)
    (case a34=>k_is); (case l34=>k_is); (case c34=>k_is); (case k34=>k_is)
    (case zint=>k_is)
    (case zbool=>k_is)
    (case zstr=>k_is)
    (case zlist=>k_is)
    (case ztuple=>k_is)
    (case zdict=>k_is)
    (case zisinstance=>k_is)
    (case zlen=>k_is)
    (case zabs=>k_is)
    (case zrepr=>k_is)
    (case zrange=>k_is)
    (case zall=>k_is)
    (case zany=>k_is)
    (case zsum=>k_is)
    (case zmin=>k_is)
    (case zmax=>k_is)
    (case zsorted=>k_is)
    (case zzip=>k_is)
    (case zenumerate=>k_is)
    (case zreversed=>k_is)
    (case zdivmod=>k_is)
    (case zset=>k_is)
    (case gZERO=>refine' L2.VL.GlK.pair ?h1 ?h2; (case h1=>k_is); (case h2=>k_is))
    (case gONE=>refine' L2.VL.GlK.pair ?h1 ?h2; (case h1=>k_is); (case h2=>k_is))

