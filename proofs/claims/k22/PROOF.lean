import PyProof.Rows.All
import Wide.All
import OpenK.AllK
import Wide.FinOn
import Lean
import PyProof.EqAt
import PyProof.EqKinds
import PyProof.TupleCall
import KE.KDictSum
import KE.KMinKey
import PyProof.Rows.CallKwBuiltin
import PyProof.SumWalkG
import PyProof.WalksMore
import PyProof.AutoSeq1
import PySem.Challenge.RW_evenpoints_k22_looks_too_many
set_option Elab.async false
set_option linter.all false
set_option maxRecDepth 100000
set_option maxHeartbeats 4000000
noncomputable section
namespace L2
open PySem
noncomputable def inClass (s:Stmt) (j:Nat):Stmt:=match s with
  | .ClassDef _ _ _ body _ _ _ _ _ _ _=>body.getD j (.Pass ⟨0,0,0,0⟩)
  | _=>.Pass ⟨0,0,0,0⟩
noncomputable def defArgs (s:Stmt):Arguments:=match s with
  | .FunctionDef _ a _ _ _ _ _ _ _ _=>a
  | _=>{ posonlyargs:=[],args:=[],vararg:=none,kwonlyargs:=[],kw_defaults:=[],kwarg:=none,defaults:=[] }
noncomputable def defBody (s:Stmt):List Stmt:=match s with
  | .FunctionDef _ _ b _ _ _ _ _ _ _=>b
  | _=>[]
noncomputable def defScope (s:Stmt):Scope:=match s with
  | .FunctionDef _ _ _ _ _ _ sc _ _ _=>sc
  | _=>{ kind:=.function,names:=[],isGenerator:=false,isCoroutine:=false }
end L2
namespace L2.TT
open PySem PySem.W
noncomputable def goT (tb:String -> Option Builtin) (p:Program) (w:World) (m:Nat) (ann:Option Value):Nat -> SharedT -> Thread -> Option SharedT
  | 0,_,_=>none
  | n + 1,s,t=>match through t with
    | true=>some s
    | false=>match stepOk m ann t with
      | false=>none
      | true=>match stepT (denote tb) p w s t with
        | some r=>goT tb p w m ann n r.1 r.2
        | none=>none
theorem goT_of {tb:String -> Option Builtin} {p:Program} {w:World} {m:Nat} {ann:Option Value}:∀ {n:Nat} {s s':SharedT} {t:Thread},goT tb p w m ann n s t = some s' -> topRun tb p w m ann n s.abs t = some s'.abs
  | 0,_,_,_,h=>by cases h
  | n + 1,s,s',t,h=>by
    unfold goT at h
    unfold topRun
    cases he:through t with
    | true=>rw [he] at h; cases h; rfl
    | false =>
      rw [he] at h
      cases hk:stepOk m ann t with
      | false=>rw [hk] at h; cases h
      | true =>
        rw [hk] at h
        cases hs:stepT (denote tb) p w s t with
        | none=>rw [hs] at h; cases h
        | some r=>rw [hs] at h; rw [stepT_spec hs]; exact goT_of h
noncomputable def bt (os:List Obj):Nat -> Nat -> Nat -> BT
  | 0,_,_=>.nil
  | f + 1,a,b=>match os[b]? with
    | some o=>.node o (bt os f (2 * a) (a + b)) (bt os f (2 * a) (2 * a + b))
    | none=>.nil
theorem boot_abs (P:Params):absHeap (bt (boot_heap P).objs.toList 12 1 0) (boot_heap P).objs.size (boot_heap P).life = boot_heap P:=by kernel_rfl
abbrev looks (p q:Program) (loose:List Str) (Xt:Shared -> Bool) {α:Type} (Yf:Shared -> α) (h₀:Heap) (s:Shared) :=
  (staticsOk (importedModules p.main.body) h₀ s.heap && namesBound p s.heap && gensDone s && laidKept h₀ s.heap,openSeen q loose (importedModules p.main.body) Xt true s,Yf s)
theorem left_of {p q:Program} {loose:List Str} {Xt:Shared -> Bool} {α:Type} {Yf:Shared -> α} {Ya:World -> α} {N m M:Nat} {ann:Option Value}
    (e:opening p = plainProg p.main.scope.names) (hN:Nat.ble 600 N = true) (f:∀ s,fenceModules? p s = some s) (le:Nat.ble M N = true)
    (size:∀ w:World,((boot_heap w.params).isNs mainGlobals,(boot_heap w.params).objs.size,(boot_heap w.params).nsMap mainGlobals "__annotations__") = (true,m,ann))
    (run:∀ (w:World) (os:OsState),(goT treeTable p w m ann M ⟨bt (boot_heap w.params).objs.toList 12 1 0,(boot_heap w.params).objs.size,(boot_heap w.params).life,Array.mk [],boot_drawn,boot_toks,os⟩ (topStub p)).map (fun s=>looks p q loose Xt Yf (boot_heap w.params) s.abs) = some (true,openGood q loose,Ya w)) :
    LeftO p q loose Xt Yf Ya N:=fun w=>by
  obtain ⟨⟨h,gs,d,k,os⟩,eo,e'⟩:=Option.map_eq_some_iff.mp (boot_open e hN f w)
  obtain ⟨rfl,rfl,rfl,rfl⟩:h = boot_heap w.params /\ gs = Array.mk [] /\ d = boot_drawn /\ k = boot_toks:=by simpa using e'
  obtain ⟨z1,z2,z3⟩:_ /\ _ /\ _:=by simpa only [Prod.mk.injEq] using size w
  obtain ⟨s',r,l⟩:=Option.map_eq_some_iff.mp (run w os)
  obtain ⟨l1,l2,l3⟩:_ /\ _ /\ _:=by simpa only [looks,Prod.mk.injEq] using l
  have r:=goT_of r
  have hb:SharedT.abs ⟨bt (boot_heap w.params).objs.toList 12 1 0,(boot_heap w.params).objs.size,(boot_heap w.params).life,Array.mk [],boot_drawn,boot_toks,os⟩ = ⟨boot_heap w.params,Array.mk [],boot_drawn,boot_toks,os⟩:=by
    show Shared.mk (absHeap _ _ _) _ _ _ _ = _
    rw [boot_abs]
  rw [hb] at r
  have r:=topRun_mono (N - M) _ _ _ _ r
  rw [show M + (N - M) = N by have:=Nat.le_of_ble_eq_true le; omega] at r
  have t:topFrom treeTable p w N ⟨boot_heap w.params,Array.mk [],boot_drawn,boot_toks,os⟩ = some s'.abs:=by
    unfold topFrom
    dsimp only
    rw [z1,z2,z3,r]
    show (match staticsOk (importedModules p.main.body) (boot_heap w.params) s'.abs.heap && namesBound p s'.abs.heap && gensDone s'.abs && laidKept (boot_heap w.params) s'.abs.heap with | true=>_ | false=>_) = _
    rw [l1]
  unfold openEnds
  rw [eo]
  show (topFrom treeTable p w N _).map _ = _
  rw [t]
  exact congrArg some (Prod.ext l2 l3)
end L2.TT
namespace L2.TT
open PySem PySem.W PySem.Calls PyProof.Rows
noncomputable abbrev runOf (p:Program) (m:Nat) (ann:Option Value) (M:Nat) (w:World) (os:OsState):Option SharedT:=goT treeTable p w m ann M ⟨bt (boot_heap w.params).objs.toList 12 1 0,(boot_heap w.params).objs.size,(boot_heap w.params).life,Array.mk [],boot_drawn,boot_toks,os⟩ (topStub p)
section
variable (p q:Program) (loose:List Str)
abbrev seen1 {α:Type} (Yf:Shared -> α) (h₀:Heap) (s:Shared):=(staticsOk (importedModules p.main.body) h₀ s.heap && namesBound p s.heap && gensDone s && laidKept h₀ s.heap,s.heap.bltView,clsSeenW q loose s,Yf s)
abbrev good1 {α:Type} (Y : α):=(true,bltViewBooted,clsGoodW q loose,Y)
abbrev seen5 (s:Shared):=(tabsOk q s,pinSeenD q (drecsOf q) s)
abbrev good5:=(true,pinGoodD (drecsOf q))
abbrev seen6 (s:Shared):=(plainSeenE q (looseW q loose) s,plainSeenD q loose s)
abbrev good6:=(plainGoodE q (looseW q loose),plainGoodD q loose)
abbrev seen2 (s:Shared):=seen ((recsOf q).map (·.name)) (ownsOf q) [] { s with gens:=#[] }
abbrev seen3 (Xt:Shared -> Bool) (s:Shared):=s.heap.keysOk (looseW q loose) ((recsOf q).map (·.name)) ((litsOf q).map (·.1)) ((clssOf q (looseW q loose)).map (·.name)) && s.heap.accountedOkI (importedModules p.main.body) && s.heap.isNs mainGlobals && s.heap.isNs builtinsNs && tablesOk q s.heap && Xt s && (if true then s.gens.size == 0 else !leftWithCleanup s.gens)
theorem run6 {p q:Program} {loose:List Str} {Xt:Shared -> Bool} {α:Type} {Yf:Shared -> α} {Y : α} {h₀:Heap} {o:Option SharedT} (g1:o.map (fun s=>seen1 p q loose Yf h₀ s.abs) = some (good1 q loose Y)) (g2:o.map (fun s=>seen2 q s.abs) = some (expectedOf q))
    (g3:o.map (fun s=>seen3 p q loose Xt s.abs) = some true) (g4:o.map (fun s=>wideSeen q s.abs) = some (wideGood q)) (g5:o.map (fun s=>seen5 q s.abs) = some (good5 q)) (g6:o.map (fun s=>seen6 q loose s.abs) = some (good6 q loose)) :
    o.map (fun s=>looks p q loose Xt Yf h₀ s.abs) = some (true,openGood q loose,Y):=by
  cases o with
  | none=>cases g2
  | some s =>
    have g1:=Option.some.inj g1
    have g2:=Option.some.inj g2
    have g3:=Option.some.inj g3
    have g4:=Option.some.inj g4
    have g5:=Option.some.inj g5
    have g6:=Option.some.inj g6
    simp only [Prod.mk.injEq] at g1 g5 g6
    obtain ⟨a1,a2,a3,a4⟩:=g1
    obtain ⟨a5,a6⟩:=g5
    obtain ⟨a7,a8⟩:=g6
    have e:openSeen q loose (importedModules p.main.body) Xt true s.abs = (seen2 q s.abs,s.abs.heap.bltView,seen3 p q loose Xt s.abs,tabsOk q s.abs,pinSeenD q (drecsOf q) s.abs,plainSeenE q (looseW q loose) s.abs,plainSeenD q loose s.abs,wideSeen q s.abs,clsSeenW q loose s.abs):=rfl
    show some (_,openSeen q loose (importedModules p.main.body) Xt true s.abs,_) = _
    dsimp only at g2 g3 g4
    rw [e,a1,a2,a3,a4,a5,a6,a7,a8,g2,g3,g4]
    rfl
end
end L2.TT
namespace K22
open PySem
def top (i:Nat):Stmt:=PySem.Challenge.pw_evenpoints_k22_looks_too_many.main.body.getD i (.Pass ⟨0,0,0,0⟩)
end K22
noncomputable def PySem.W.Fast.tw1850542092942482091:PySem.Program:=PySem.Challenge.pw_evenpoints_k22_looks_too_many
theorem PySem.W.Fast.te1850542092942482091:PySem.Challenge.pw_evenpoints_k22_looks_too_many = PySem.W.Fast.tw1850542092942482091:=rfl
namespace K22
open PySem PySem.W L2
def zs0:Stmt:=top 0
def zs1:Stmt:=top 1
def zs2:Stmt:=top 2
def zs3:Stmt:=top 3
def zs4:Stmt:=top 4
def zs5:Stmt:=top 5
def zs6:Stmt:=top 6
def zs7:Stmt:=top 7
def zs8:Stmt:=top 8
def zs9:Stmt:=top 9
def zs10:Stmt:=top 10
def zs11:Stmt:=top 11
def zs12:Stmt:=top 12
def zs13:Stmt:=top 13
def zs14:Stmt:=top 14
def zs15:Stmt:=top 15
def zs16:Stmt:=top 16
def zs17:Stmt:=top 17
def zs18:Stmt:=top 18
def zs19:Stmt:=top 19
def zs20:Stmt:=top 20
def zs21:Stmt:=top 21
def zs22:Stmt:=top 22
def zs23:Stmt:=top 23
def zs24:Stmt:=top 24
def zs25:Stmt:=top 25
def zs26:Stmt:=top 26
def zs27:Stmt:=top 27
def zs28:Stmt:=top 28
def zs29:Stmt:=top 29
def zs30:Stmt:=top 30
def zs31:Stmt:=top 31
def zs32:Stmt:=top 32
def zs33:Stmt:=top 33
def zs34:Stmt:=top 34
def zs35:Stmt:=top 35
def zs36:Stmt:=top 36
def zs37:Stmt:=top 37
def zs38:Stmt:=top 38
def zs39:Stmt:=top 39
def zs40:Stmt:=top 40
def zs41:Stmt:=top 41
def zs42:Stmt:=top 42
def zs43:Stmt:=top 43
def zs44:Stmt:=top 44
def zs45:Stmt:=top 45
def zs46:Stmt:=top 46
def zs47:Stmt:=top 47
def zs48:Stmt:=top 48
def zs49:Stmt:=top 49
def zs50:Stmt:=top 50
def zs51:Stmt:=top 51
def zs52:Stmt:=top 52
def zs53:Stmt:=top 53
def zs54:Stmt:=top 54
def zs55:Stmt:=top 55
def zs56:Stmt:=top 56
def zs57:Stmt:=top 57
def zs58:Stmt:=top 58
def zs59:Stmt:=top 59
def zs60:Stmt:=top 60
def zs61:Stmt:=top 61
def zs62:Stmt:=top 62
def zs63:Stmt:=top 63
def zs64:Stmt:=top 64
def zs65:Stmt:=top 65
def zs66:Stmt:=top 66
def zs67:Stmt:=top 67
def zs68:Stmt:=top 68
def zs69:Stmt:=top 69
def zs70:Stmt:=top 70
def zs71:Stmt:=top 71
def zs72:Stmt:=top 72
def zs73:Stmt:=top 73
def zs74:Stmt:=top 74
def zs75:Stmt:=top 75
def zs76:Stmt:=top 76
def zs77:Stmt:=top 77
def zs78:Stmt:=top 78
def zs79:Stmt:=top 79
def pwN:Program:={ PySem.Challenge.pw_evenpoints_k22_looks_too_many with main:={ PySem.Challenge.pw_evenpoints_k22_looks_too_many.main with body:=[zs0,zs1,zs2,zs3,zs4,zs5,zs6,zs7,zs8,zs9,zs10,zs11,zs12,zs13,zs14,zs15,zs16,zs17,zs18,zs19,zs20,zs21,zs22,zs23,zs24,zs25,zs26,zs27,zs28,zs29,zs30,zs31,zs32,zs33,zs34,zs35,zs36,zs37,zs38,zs39,zs40,zs41,zs42,zs43,zs44,zs45,zs46,zs47,zs48,zs49,zs50,zs51,zs52,zs53,zs54,zs55,zs56,zs57,zs58,zs59,zs60,zs61,zs62,zs63,zs64,zs65,zs66,zs67,zs68,zs69,zs70,zs71,zs72,zs73,zs74,zs75,zs76,zs77,zs78,zs79] } }
def rwN:OpenLaw:={ PySem.Challenge.rw_evenpoints_k22_looks_too_many with prog:=pwN }
noncomputable def zview:Program:={ PySem.Challenge.pw_evenpoints_k22_looks_too_many with main:={ PySem.Challenge.pw_evenpoints_k22_looks_too_many.main with body:=[zs1,zs2,zs3,zs4,zs5,zs6,zs7,zs8,zs9,zs10,zs12,zs13,zs14,zs15,zs16,zs17,zs18,zs19,zs20,zs21,zs22,zs23,zs25,zs26,zs27,zs28,zs29,zs30,zs32,zs34,zs35,zs37,zs38,zs39,zs40,zs41,zs42,zs43,zs44,zs45,zs46,zs47,zs48,zs49,zs50,zs51,zs53,zs54,zs55,zs56,zs57,zs58,zs59,zs60,zs61,zs62,zs64,zs65,zs67,zs68,zs69,zs70,zs72,zs73,zs74,zs75,zs76,zs77,zs78,zs79] } }
theorem rw_eq:PySem.Challenge.rw_evenpoints_k22_looks_too_many = rwN:=rfl
noncomputable def zen (P:Params) (x:Str) (t:Nat) (v:Value):DictEntry:=⟨PyData.keyHash P x,.str x t,v⟩
noncomputable def zfo (n q:Str) (s:Stmt) (pm cd:Value):Obj:=⟨.type "function", none,.func (fnOf n q (defArgs s) (defBody s) (defScope s) .none .none .none pm none cd .none),#[]⟩
noncomputable def zco (n q:Str) (a b c:Nat) (l x y:Int) (r:Nat) (z:Int) (r2:Nat) (v1 v2 v3:Value) (r3:Nat) (u:Int) (c2:Nat):Obj:=⟨.type "code", none,.fields #[.str n a,.str q b,.str "/claim/cut.py" c,.int l 0,.int x 0,.int 0 0,.int 0 0,.int y 0,.ref r,.bool true,.int z 0,.ref r2,v1,v2,v3,.ref r3,.int u 0,.int l 0,.str "/claim/cut.py" c2],#[]⟩
noncomputable def zm0:Value:=.str "evenpoints.errors" 187
noncomputable def zm1:Value:=.str "evenpoints.fractions" 436
noncomputable def zm2:Value:=.str "evenpoints.boxes" 524
noncomputable def zm3:Value:=.str "evenpoints.choices" 573
noncomputable def zm4:Value:=.str "evenpoints.points" 581
noncomputable def zm5:Value:=.str "evenpoints.looks" 596
noncomputable def zm6:Value:=.str "evenpoints.cells" 706
noncomputable def zm7:Value:=.str "evenpoints.evenchecker" 797
noncomputable def zm8:Value:=.str "evenpoints.evenpapers" 813
noncomputable def zm9:Value:=.str "law_evenpoints_k22_looks_too_many" 839
abbrev zfp (n:Str):=zfo n n
abbrev zcp (n:Str):=zco n n
noncomputable def heapK (P:Params):Frag :=
  (nat_lit 2,(.mk .none none (.dict #[] 0) #[])) ::
  (nat_lit 3,(.mk (.type "dict") none (.dict #[zen P "__name__" 165 (.str "law_evenpoints_k22_looks_too_many" 839),zen P "__doc__" 166 .none,zen P "__package__" 167 .none,zen P "__loader__" 168 (.builtin "__main__.__loader__#opaque"),zen P "__spec__" 169 .none,zen P "__annotations__" 170 (.ref 6),zen P "__builtins__" 171 (.ref 4),zen P "__file__" 173 (.str "/claim/cut.py" 172),zen P "__cached__" 174 .none,zen P "EvenError" 206 (.ref 24),zen P "Nought" 231 (.ref 44),zen P "NoRoom" 256 (.ref 63),zen P "TooMany" 281 (.ref 82),zen P "NoText" 306 (.ref 101),zen P "NoPaper" 333 (.ref 120),zen P "NoNet" 360 (.ref 139),zen P "NoUpper" 385 (.ref 158),zen P "NoDeed" 410 (.ref 177),zen P "NoRow" 435 (.ref 196),zen P "ZERO" 440 (.ref 199),zen P "ONE" 443 (.ref 200),zen P "common_divisor" 451 (.ref 207),zen P "fraction" 460 (.ref 214),zen P "plus" 468 (.ref 221),zen P "less" 476 (.ref 228),zen P "times" 484 (.ref 235),zen P "product_of" 493 (.ref 242),zen P "is_below" 501 (.ref 249),zen P "lesser" 509 (.ref 256),zen P "greater" 517 (.ref 263),zen P "in_size" 523 (.ref 268),zen P "side_size" 534 (.ref 275),zen P "size_of" 540 (.ref 280),zen P "goes_ahead" 549 (.ref 287),zen P "lies" 560 (.ref 294),zen P "lies_in" 566 (.ref 299),zen P "inside" 572 (.ref 304),zen P "choices" 580 (.ref 309),zen P "sides_of" 589 (.ref 316),zen P "numbers_at" 595 (.ref 321),zen P "MOST_LOOKS" 599 (.int 3000 598),zen P "BELOW_ALL" 603 (.ref 322),zen P "side_looks" 609 (.ref 327),zen P "many_side_looks" 618 (.ref 334),zen P "many_looks" 628 (.ref 341),zen P "looks_by_side" 634 (.ref 346),zen P "looks" 642 (.ref 353),zen P "marked" 648 (.ref 358),zen P "widened" 654 (.ref 363),zen P "counted_looks" 660 (.ref 368),zen P "misses" 674 (.ref 375),zen P "first_greatest" 683 (.ref 382),zen P "worst" 691 (.ref 389),zen P "unevenness" 699 (.ref 396),zen P "all_worst" 705 (.ref 401),zen P "WIDEST" 713 (.ref 404),zen P "FIRST_WORDS" 722 (.ref 405),zen P "least_side" 730 (.ref 412),zen P "most_side" 738 (.ref 419),zen P "cell_told" 744 (.ref 424),zen P "first_cell" 753 (.ref 431),zen P "exchanged_side" 762 (.ref 438),zen P "worded" 771 (.ref 445),zen P "ranged" 783 (.ref 452),zen P "cells_below" 796 (.ref 459),zen P "is_within" 806 (.ref 466),zen P "leaf_fault" 812 (.ref 471),zen P "even_paper" 820 (.ref 476),zen P "grown" 826 (.ref 481),zen P "next_way" 832 (.ref 486),zen P "next_cut" 838 (.ref 491),zen P "_law_feed" 847 (.ref 498),zen P "_law_draw" 859 (.ref 505),zen P "_law_frac" 869 (.ref 512),zen P "_law_sizes_told" 877 (.ref 519),zen P "_law_points_so" 883 (.ref 524),zen P "_law_refused" 895 (.ref 531),zen P "_law_far_right" 901 (.ref 536),zen P "law" 907 (.ref 541)] 79) #[])) ::
  (nat_lit 6,(.mk (.type "dict") none (.dict #[] 0) #[])) ::
  (nat_lit 15,(.mk (.type "tuple") none (.seq #[(.type "ValueError")] 0) #[])) ::
  (nat_lit 22,(.mk (.type "tuple") none (.seq #[] 0) #[])) ::
  (nat_lit 23,(.mk (.type "dict") none (.dict #[zen P "__module__" 196 (.str "evenpoints.errors" 187),zen P "__firstlineno__" 200 (.int 2 199),zen P "__static_attributes__" 201 (.ref 22),zen P "__weakref__" 203 (.ref 25),zen P "__doc__" 204 .none] 3) #[])) ::
  (nat_lit 24,(.mk (.type "type") none (.cls (.mk "EvenError" [(.type "ValueError")] [(.ref 24),(.type "ValueError"),(.type "Exception"),(.type "BaseException"),(.type "object")] 23 "EvenError" true [] [(.ref 44),(.ref 63),(.ref 82),(.ref 101),(.ref 120),(.ref 139),(.ref 158),(.ref 177),(.ref 196)] false none false)) #[(some (.ref 15)),none,(some (.str "EvenError" 189)),(some (.str "EvenError" 197)),(some (.builtin "ValueError.__new__")),(some (.bool true))])) ::
  (nat_lit 25,(.mk (.type "getset_descriptor") none (.fields #[(.str "__weakref__" 202),(.ref 24),(.builtin "ExceptionGroup.__weakref__"),.none]) #[])) ::
  (nat_lit 28,(.mk (.type "tuple") none (.seq #[(.ref 24)] 0) #[])) ::
  (nat_lit 40,zco "__init__" "Nought.__init__" 219 220 221 6 2 3 35 181 36 .none (.ref 37) (.ref 38) 39 224 225) ::
  (nat_lit 41,zfo "__init__" "Nought.__init__" (inClass (top 2) 0) zm0 (.ref 40)) ::
  (nat_lit 42,(.mk (.type "tuple") none (.seq #[(.str "word" 227)] 0) #[])) ::
  (nat_lit 43,(.mk (.type "dict") none (.dict #[zen P "__module__" 214 (.str "evenpoints.errors" 187),zen P "__firstlineno__" 218 (.int 4 217),zen P "__init__" 226 (.ref 41),zen P "__static_attributes__" 228 (.ref 42),zen P "__doc__" 229 .none] 2) #[])) ::
  (nat_lit 44,(.mk (.type "type") none (.cls (.mk "Nought" [(.ref 24)] [(.ref 44),(.ref 24),(.type "ValueError"),(.type "Exception"),(.type "BaseException"),(.type "object")] 43 "Nought" true [] [] false none false)) #[(some (.ref 28)),none,(some (.str "Nought" 207)),(some (.str "Nought" 215)),(some (.builtin "ValueError.__new__")),(some (.bool true))])) ::
  (nat_lit 47,(.mk (.type "tuple") none (.seq #[(.ref 24)] 0) #[])) ::
  (nat_lit 59,zco "__init__" "NoRoom.__init__" 244 245 246 10 2 3 54 181 55 .none (.ref 56) (.ref 57) 58 249 250) ::
  (nat_lit 60,zfo "__init__" "NoRoom.__init__" (inClass (top 3) 0) zm0 (.ref 59)) ::
  (nat_lit 61,(.mk (.type "tuple") none (.seq #[(.str "word" 252)] 0) #[])) ::
  (nat_lit 62,(.mk (.type "dict") none (.dict #[zen P "__module__" 239 (.str "evenpoints.errors" 187),zen P "__firstlineno__" 243 (.int 8 242),zen P "__init__" 251 (.ref 60),zen P "__static_attributes__" 253 (.ref 61),zen P "__doc__" 254 .none] 2) #[])) ::
  (nat_lit 63,(.mk (.type "type") none (.cls (.mk "NoRoom" [(.ref 24)] [(.ref 63),(.ref 24),(.type "ValueError"),(.type "Exception"),(.type "BaseException"),(.type "object")] 62 "NoRoom" true [] [] false none false)) #[(some (.ref 47)),none,(some (.str "NoRoom" 232)),(some (.str "NoRoom" 240)),(some (.builtin "ValueError.__new__")),(some (.bool true))])) ::
  (nat_lit 66,(.mk (.type "tuple") none (.seq #[(.ref 24)] 0) #[])) ::
  (nat_lit 78,zco "__init__" "TooMany.__init__" 269 270 271 14 2 3 73 181 74 .none (.ref 75) (.ref 76) 77 274 275) ::
  (nat_lit 79,zfo "__init__" "TooMany.__init__" (inClass (top 4) 0) zm0 (.ref 78)) ::
  (nat_lit 80,(.mk (.type "tuple") none (.seq #[(.str "word" 277)] 0) #[])) ::
  (nat_lit 81,(.mk (.type "dict") none (.dict #[zen P "__module__" 264 (.str "evenpoints.errors" 187),zen P "__firstlineno__" 268 (.int 12 267),zen P "__init__" 276 (.ref 79),zen P "__static_attributes__" 278 (.ref 80),zen P "__doc__" 279 .none] 2) #[])) ::
  (nat_lit 82,(.mk (.type "type") none (.cls (.mk "TooMany" [(.ref 24)] [(.ref 82),(.ref 24),(.type "ValueError"),(.type "Exception"),(.type "BaseException"),(.type "object")] 81 "TooMany" true [] [] false none false)) #[(some (.ref 66)),none,(some (.str "TooMany" 257)),(some (.str "TooMany" 265)),(some (.builtin "ValueError.__new__")),(some (.bool true))])) ::
  (nat_lit 85,(.mk (.type "tuple") none (.seq #[(.ref 24)] 0) #[])) ::
  (nat_lit 97,zco "__init__" "NoText.__init__" 294 295 296 18 2 3 92 181 93 .none (.ref 94) (.ref 95) 96 299 300) ::
  (nat_lit 98,zfo "__init__" "NoText.__init__" (inClass (top 5) 0) zm0 (.ref 97)) ::
  (nat_lit 99,(.mk (.type "tuple") none (.seq #[(.str "place" 302)] 0) #[])) ::
  (nat_lit 100,(.mk (.type "dict") none (.dict #[zen P "__module__" 289 (.str "evenpoints.errors" 187),zen P "__firstlineno__" 293 (.int 16 292),zen P "__init__" 301 (.ref 98),zen P "__static_attributes__" 303 (.ref 99),zen P "__doc__" 304 .none] 2) #[])) ::
  (nat_lit 101,(.mk (.type "type") none (.cls (.mk "NoText" [(.ref 24)] [(.ref 101),(.ref 24),(.type "ValueError"),(.type "Exception"),(.type "BaseException"),(.type "object")] 100 "NoText" true [] [] false none false)) #[(some (.ref 85)),none,(some (.str "NoText" 282)),(some (.str "NoText" 290)),(some (.builtin "ValueError.__new__")),(some (.bool true))])) ::
  (nat_lit 104,(.mk (.type "tuple") none (.seq #[(.ref 24)] 0) #[])) ::
  (nat_lit 116,zco "__init__" "NoPaper.__init__" 319 320 321 22 3 3 111 181 112 .none (.ref 113) (.ref 114) 115 325 326) ::
  (nat_lit 117,zfo "__init__" "NoPaper.__init__" (inClass (top 6) 0) zm0 (.ref 116)) ::
  (nat_lit 118,(.mk (.type "tuple") none (.seq #[(.str "path" 328),(.str "word" 329)] 0) #[])) ::
  (nat_lit 119,(.mk (.type "dict") none (.dict #[zen P "__module__" 314 (.str "evenpoints.errors" 187),zen P "__firstlineno__" 318 (.int 20 317),zen P "__init__" 327 (.ref 117),zen P "__static_attributes__" 330 (.ref 118),zen P "__doc__" 331 .none] 2) #[])) ::
  (nat_lit 120,(.mk (.type "type") none (.cls (.mk "NoPaper" [(.ref 24)] [(.ref 120),(.ref 24),(.type "ValueError"),(.type "Exception"),(.type "BaseException"),(.type "object")] 119 "NoPaper" true [] [] false none false)) #[(some (.ref 104)),none,(some (.str "NoPaper" 307)),(some (.str "NoPaper" 315)),(some (.builtin "ValueError.__new__")),(some (.bool true))])) ::
  (nat_lit 123,(.mk (.type "tuple") none (.seq #[(.ref 24)] 0) #[])) ::
  (nat_lit 135,zco "__init__" "NoNet.__init__" 346 347 348 27 3 3 130 181 131 .none (.ref 132) (.ref 133) 134 352 353) ::
  (nat_lit 136,zfo "__init__" "NoNet.__init__" (inClass (top 7) 0) zm0 (.ref 135)) ::
  (nat_lit 137,(.mk (.type "tuple") none (.seq #[(.str "number" 355),(.str "word" 356)] 0) #[])) ::
  (nat_lit 138,(.mk (.type "dict") none (.dict #[zen P "__module__" 341 (.str "evenpoints.errors" 187),zen P "__firstlineno__" 345 (.int 25 344),zen P "__init__" 354 (.ref 136),zen P "__static_attributes__" 357 (.ref 137),zen P "__doc__" 358 .none] 2) #[])) ::
  (nat_lit 139,(.mk (.type "type") none (.cls (.mk "NoNet" [(.ref 24)] [(.ref 139),(.ref 24),(.type "ValueError"),(.type "Exception"),(.type "BaseException"),(.type "object")] 138 "NoNet" true [] [] false none false)) #[(some (.ref 123)),none,(some (.str "NoNet" 334)),(some (.str "NoNet" 342)),(some (.builtin "ValueError.__new__")),(some (.bool true))])) ::
  (nat_lit 142,(.mk (.type "tuple") none (.seq #[(.ref 24)] 0) #[])) ::
  (nat_lit 154,zco "__init__" "NoUpper.__init__" 373 374 375 32 2 3 149 181 150 .none (.ref 151) (.ref 152) 153 378 379) ::
  (nat_lit 155,zfo "__init__" "NoUpper.__init__" (inClass (top 8) 0) zm0 (.ref 154)) ::
  (nat_lit 156,(.mk (.type "tuple") none (.seq #[(.str "number" 381)] 0) #[])) ::
  (nat_lit 157,(.mk (.type "dict") none (.dict #[zen P "__module__" 368 (.str "evenpoints.errors" 187),zen P "__firstlineno__" 372 (.int 30 371),zen P "__init__" 380 (.ref 155),zen P "__static_attributes__" 382 (.ref 156),zen P "__doc__" 383 .none] 2) #[])) ::
  (nat_lit 158,(.mk (.type "type") none (.cls (.mk "NoUpper" [(.ref 24)] [(.ref 158),(.ref 24),(.type "ValueError"),(.type "Exception"),(.type "BaseException"),(.type "object")] 157 "NoUpper" true [] [] false none false)) #[(some (.ref 142)),none,(some (.str "NoUpper" 361)),(some (.str "NoUpper" 369)),(some (.builtin "ValueError.__new__")),(some (.bool true))])) ::
  (nat_lit 161,(.mk (.type "tuple") none (.seq #[(.ref 24)] 0) #[])) ::
  (nat_lit 173,zco "__init__" "NoDeed.__init__" 398 399 400 36 2 3 168 181 169 .none (.ref 170) (.ref 171) 172 403 404) ::
  (nat_lit 174,zfo "__init__" "NoDeed.__init__" (inClass (top 9) 0) zm0 (.ref 173)) ::
  (nat_lit 175,(.mk (.type "tuple") none (.seq #[(.str "word" 406)] 0) #[])) ::
  (nat_lit 176,(.mk (.type "dict") none (.dict #[zen P "__module__" 393 (.str "evenpoints.errors" 187),zen P "__firstlineno__" 397 (.int 34 396),zen P "__init__" 405 (.ref 174),zen P "__static_attributes__" 407 (.ref 175),zen P "__doc__" 408 .none] 2) #[])) ::
  (nat_lit 177,(.mk (.type "type") none (.cls (.mk "NoDeed" [(.ref 24)] [(.ref 177),(.ref 24),(.type "ValueError"),(.type "Exception"),(.type "BaseException"),(.type "object")] 176 "NoDeed" true [] [] false none false)) #[(some (.ref 161)),none,(some (.str "NoDeed" 386)),(some (.str "NoDeed" 394)),(some (.builtin "ValueError.__new__")),(some (.bool true))])) ::
  (nat_lit 180,(.mk (.type "tuple") none (.seq #[(.ref 24)] 0) #[])) ::
  (nat_lit 192,zco "__init__" "NoRow.__init__" 423 424 425 40 2 3 187 181 188 .none (.ref 189) (.ref 190) 191 428 429) ::
  (nat_lit 193,zfo "__init__" "NoRow.__init__" (inClass (top 10) 0) zm0 (.ref 192)) ::
  (nat_lit 194,(.mk (.type "tuple") none (.seq #[(.str "row" 431)] 0) #[])) ::
  (nat_lit 195,(.mk (.type "dict") none (.dict #[zen P "__module__" 418 (.str "evenpoints.errors" 187),zen P "__firstlineno__" 422 (.int 38 421),zen P "__init__" 430 (.ref 193),zen P "__static_attributes__" 432 (.ref 194),zen P "__doc__" 433 .none] 2) #[])) ::
  (nat_lit 196,(.mk (.type "type") none (.cls (.mk "NoRow" [(.ref 24)] [(.ref 196),(.ref 24),(.type "ValueError"),(.type "Exception"),(.type "BaseException"),(.type "object")] 195 "NoRow" true [] [] false none false)) #[(some (.ref 180)),none,(some (.str "NoRow" 411)),(some (.str "NoRow" 419)),(some (.builtin "ValueError.__new__")),(some (.bool true))])) ::
  (nat_lit 199,(.mk (.type "tuple") none (.seq #[(.int 0 438),(.int 1 439)] 0) #[])) ::
  (nat_lit 200,(.mk (.type "tuple") none (.seq #[(.int 1 441),(.int 1 442)] 0) #[])) ::
  (nat_lit 206,zcp "common_divisor" 444 445 446 45 2 3 201 181 202 .none (.ref 203) (.ref 204) 205 449 450) ::
  (nat_lit 207,zfp "common_divisor" (top 14) zm1 (.ref 206)) ::
  (nat_lit 213,zcp "fraction" 452 453 454 49 2 3 208 181 209 .none (.ref 210) (.ref 211) 212 458 459) ::
  (nat_lit 214,zfp "fraction" (top 15) zm1 (.ref 213)) ::
  (nat_lit 220,zcp "plus" 461 462 463 56 2 3 215 181 216 .none (.ref 217) (.ref 218) 219 466 467) ::
  (nat_lit 221,zfp "plus" (top 16) zm1 (.ref 220)) ::
  (nat_lit 227,zcp "less" 469 470 471 58 2 3 222 181 223 .none (.ref 224) (.ref 225) 226 474 475) ::
  (nat_lit 228,zfp "less" (top 17) zm1 (.ref 227)) ::
  (nat_lit 234,zcp "times" 477 478 479 60 2 3 229 181 230 .none (.ref 231) (.ref 232) 233 482 483) ::
  (nat_lit 235,zfp "times" (top 18) zm1 (.ref 234)) ::
  (nat_lit 241,zcp "product_of" 485 486 487 62 1 3 236 181 237 .none (.ref 238) (.ref 239) 240 491 492) ::
  (nat_lit 242,zfp "product_of" (top 19) zm1 (.ref 241)) ::
  (nat_lit 248,zcp "is_below" 494 495 496 67 2 3 243 181 244 .none (.ref 245) (.ref 246) 247 499 500) ::
  (nat_lit 249,zfp "is_below" (top 20) zm1 (.ref 248)) ::
  (nat_lit 255,zcp "lesser" 502 503 504 69 2 3 250 181 251 .none (.ref 252) (.ref 253) 254 507 508) ::
  (nat_lit 256,zfp "lesser" (top 21) zm1 (.ref 255)) ::
  (nat_lit 262,zcp "greater" 510 511 512 71 2 3 257 181 258 .none (.ref 259) (.ref 260) 261 515 516) ::
  (nat_lit 263,zfp "greater" (top 22) zm1 (.ref 262)) ::
  (nat_lit 267,zcp "in_size" 518 519 520 73 1 3 264 181 265 .none .none .none 266 521 522) ::
  (nat_lit 268,zfp "in_size" (top 23) zm1 (.ref 267)) ::
  (nat_lit 274,zcp "side_size" 526 527 528 79 1 3 269 181 270 .none (.ref 271) (.ref 272) 273 532 533) ::
  (nat_lit 275,zfp "side_size" (top 25) zm2 (.ref 274)) ::
  (nat_lit 279,zcp "size_of" 535 536 537 87 1 3 276 181 277 .none .none .none 278 538 539) ::
  (nat_lit 280,zfp "size_of" (top 26) zm2 (.ref 279)) ::
  (nat_lit 286,zcp "goes_ahead" 541 542 543 89 3 3 281 181 282 .none (.ref 283) (.ref 284) 285 547 548) ::
  (nat_lit 287,zfp "goes_ahead" (top 27) zm2 (.ref 286)) ::
  (nat_lit 293,zcp "lies" 550 551 552 93 3 3 288 181 289 .none (.ref 290) (.ref 291) 292 558 559) ::
  (nat_lit 294,zfp "lies" (top 28) zm2 (.ref 293)) ::
  (nat_lit 298,zcp "lies_in" 561 562 563 101 3 3 295 181 296 .none .none .none 297 564 565) ::
  (nat_lit 299,zfp "lies_in" (top 29) zm2 (.ref 298)) ::
  (nat_lit 303,zcp "inside" 567 568 569 103 3 3 300 181 301 .none .none .none 302 570 571) ::
  (nat_lit 304,zfp "inside" (top 30) zm2 (.ref 303)) ::
  (nat_lit 308,zcp "choices" 575 576 577 106 1 3 305 181 306 .none .none .none 307 578 579) ::
  (nat_lit 309,zfp "choices" (top 32) zm3 (.ref 308)) ::
  (nat_lit 315,zcp "sides_of" 583 584 585 112 1 3 310 181 311 .none (.ref 312) (.ref 313) 314 587 588) ::
  (nat_lit 316,zfp "sides_of" (top 34) zm4 (.ref 315)) ::
  (nat_lit 320,zcp "numbers_at" 590 591 592 114 2 3 317 181 318 .none .none .none 319 593 594) ::
  (nat_lit 321,zfp "numbers_at" (top 35) zm4 (.ref 320)) ::
  (nat_lit 322,(.mk (.type "tuple") none (.seq #[(.int (Neg.neg 1) 601),(.int 1 602)] 0) #[])) ::
  (nat_lit 326,zcp "side_looks" 604 605 606 119 2 3 323 181 324 .none .none .none 325 607 608) ::
  (nat_lit 327,zfp "side_looks" (top 39) zm5 (.ref 326)) ::
  (nat_lit 333,zcp "many_side_looks" 610 611 612 128 2 3 328 181 329 .none (.ref 330) (.ref 331) 332 616 617) ::
  (nat_lit 334,zfp "many_side_looks" (top 40) zm5 (.ref 333)) ::
  (nat_lit 340,zcp "many_looks" 619 620 621 133 2 3 335 181 336 .none (.ref 337) (.ref 338) 339 626 627) ::
  (nat_lit 341,zfp "many_looks" (top 41) zm5 (.ref 340)) ::
  (nat_lit 345,zcp "looks_by_side" 629 630 631 138 2 3 342 181 343 .none .none .none 344 632 633) ::
  (nat_lit 346,zfp "looks_by_side" (top 42) zm5 (.ref 345)) ::
  (nat_lit 352,zcp "looks" 635 636 637 142 2 3 347 181 348 .none (.ref 349) (.ref 350) 351 640 641) ::
  (nat_lit 353,zfp "looks" (top 43) zm5 (.ref 352)) ::
  (nat_lit 357,zcp "marked" 643 644 645 144 2 3 354 181 355 .none .none .none 356 646 647) ::
  (nat_lit 358,zfp "marked" (top 44) zm5 (.ref 357)) ::
  (nat_lit 362,zcp "widened" 649 650 651 148 2 3 359 181 360 .none .none .none 361 652 653) ::
  (nat_lit 363,zfp "widened" (top 45) zm5 (.ref 362)) ::
  (nat_lit 367,zcp "counted_looks" 655 656 657 152 2 3 364 181 365 .none .none .none 366 658 659) ::
  (nat_lit 368,zfp "counted_looks" (top 46) zm5 (.ref 367)) ::
  (nat_lit 374,zcp "misses" 661 662 663 160 2 3 369 181 370 .none (.ref 371) (.ref 372) 373 672 673) ::
  (nat_lit 375,zfp "misses" (top 47) zm5 (.ref 374)) ::
  (nat_lit 381,zcp "first_greatest" 675 676 677 167 1 3 376 181 377 .none (.ref 378) (.ref 379) 380 681 682) ::
  (nat_lit 382,zfp "first_greatest" (top 48) zm5 (.ref 381)) ::
  (nat_lit 388,zcp "worst" 684 685 686 173 2 3 383 181 384 .none (.ref 385) (.ref 386) 387 689 690) ::
  (nat_lit 389,zfp "worst" (top 49) zm5 (.ref 388)) ::
  (nat_lit 395,zcp "unevenness" 692 693 694 175 2 3 390 181 391 .none (.ref 392) (.ref 393) 394 697 698) ::
  (nat_lit 396,zfp "unevenness" (top 50) zm5 (.ref 395)) ::
  (nat_lit 400,zcp "all_worst" 700 701 702 177 2 3 397 181 398 .none .none .none 399 703 704) ::
  (nat_lit 401,zfp "all_worst" (top 51) zm5 (.ref 400)) ::
  (nat_lit 402,(.mk (.type "tuple") none (.seq #[(.int (Neg.neg 1) 709),(.int 1 710)] 0) #[])) ::
  (nat_lit 403,(.mk (.type "tuple") none (.seq #[(.int 1 711),(.int 1 712)] 0) #[])) ::
  (nat_lit 404,(.mk (.type "tuple") none (.seq #[(.ref 402),(.ref 403)] 0) #[])) ::
  (nat_lit 405,(.mk (.type "dict") none (.dict #[zen P "corner" 714 (.str "to" 715),zen P "inner" 716 (.str "from" 717),zen P "round" 718 .none] 3) #[])) ::
  (nat_lit 411,zcp "least_side" 723 724 725 184 2 3 406 181 407 .none (.ref 408) (.ref 409) 410 728 729) ::
  (nat_lit 412,zfp "least_side" (top 55) zm6 (.ref 411)) ::
  (nat_lit 418,zcp "most_side" 731 732 733 188 2 3 413 181 414 .none (.ref 415) (.ref 416) 417 736 737) ::
  (nat_lit 419,zfp "most_side" (top 56) zm6 (.ref 418)) ::
  (nat_lit 423,zcp "cell_told" 739 740 741 192 2 3 420 181 421 .none .none .none 422 742 743) ::
  (nat_lit 424,zfp "cell_told" (top 57) zm6 (.ref 423)) ::
  (nat_lit 430,zcp "first_cell" 745 746 747 198 2 3 425 181 426 .none (.ref 427) (.ref 428) 429 751 752) ::
  (nat_lit 431,zfp "first_cell" (top 58) zm6 (.ref 430)) ::
  (nat_lit 437,zcp "exchanged_side" 754 755 756 201 3 3 432 181 433 .none (.ref 434) (.ref 435) 436 760 761) ::
  (nat_lit 438,zfp "exchanged_side" (top 59) zm6 (.ref 437)) ::
  (nat_lit 444,zcp "worded" 763 764 765 203 3 3 439 181 440 .none (.ref 441) (.ref 442) 443 769 770) ::
  (nat_lit 445,zfp "worded" (top 60) zm6 (.ref 444)) ::
  (nat_lit 451,zcp "ranged" 772 773 774 205 4 3 446 181 447 .none (.ref 448) (.ref 449) 450 781 782) ::
  (nat_lit 452,zfp "ranged" (top 61) zm6 (.ref 451)) ::
  (nat_lit 458,zcp "cells_below" 784 785 786 208 2 3 453 181 454 .none (.ref 455) (.ref 456) 457 794 795) ::
  (nat_lit 459,zfp "cells_below" (top 62) zm6 (.ref 458)) ::
  (nat_lit 465,zcp "is_within" 799 800 801 215 2 3 460 181 461 .none (.ref 462) (.ref 463) 464 804 805) ::
  (nat_lit 466,zfp "is_within" (top 64) zm7 (.ref 465)) ::
  (nat_lit 470,zcp "leaf_fault" 807 808 809 217 3 3 467 181 468 .none .none .none 469 810 811) ::
  (nat_lit 471,zfp "leaf_fault" (top 65) zm7 (.ref 470)) ::
  (nat_lit 475,zcp "even_paper" 815 816 817 228 3 3 472 181 473 .none .none .none 474 818 819) ::
  (nat_lit 476,zfp "even_paper" (top 67) zm8 (.ref 475)) ::
  (nat_lit 480,zcp "grown" 821 822 823 234 4 3 477 181 478 .none .none .none 479 824 825) ::
  (nat_lit 481,zfp "grown" (top 68) zm8 (.ref 480)) ::
  (nat_lit 485,zcp "next_way" 827 828 829 240 1 3 482 181 483 .none .none .none 484 830 831) ::
  (nat_lit 486,zfp "next_way" (top 69) zm8 (.ref 485)) ::
  (nat_lit 490,zcp "next_cut" 833 834 835 242 2 3 487 181 488 .none .none .none 489 836 837) ::
  (nat_lit 491,zfp "next_cut" (top 70) zm8 (.ref 490)) ::
  (nat_lit 497,zcp "_law_feed" 841 842 843 253 1 3 492 181 493 .none (.ref 494) (.ref 495) 496 845 846) ::
  (nat_lit 498,zfp "_law_feed" (top 72) zm9 (.ref 497)) ::
  (nat_lit 504,zcp "_law_draw" 848 849 850 255 2 3 499 181 500 .none (.ref 501) (.ref 502) 503 857 858) ::
  (nat_lit 505,zfp "_law_draw" (top 73) zm9 (.ref 504)) ::
  (nat_lit 511,zcp "_law_frac" 860 861 862 272 2 3 506 181 507 .none (.ref 508) (.ref 509) 510 867 868) ::
  (nat_lit 512,zfp "_law_frac" (top 74) zm9 (.ref 511)) ::
  (nat_lit 518,zcp "_law_sizes_told" 870 871 872 277 1 3 513 181 514 .none (.ref 515) (.ref 516) 517 875 876) ::
  (nat_lit 519,zfp "_law_sizes_told" (top 75) zm9 (.ref 518)) ::
  (nat_lit 523,zcp "_law_points_so" 878 879 880 285 2 3 520 181 521 .none .none .none 522 881 882) ::
  (nat_lit 524,zfp "_law_points_so" (top 76) zm9 (.ref 523)) ::
  (nat_lit 530,zcp "_law_refused" 884 885 886 292 3 3 525 181 526 .none (.ref 527) (.ref 528) 529 893 894) ::
  (nat_lit 531,zfp "_law_refused" (top 77) zm9 (.ref 530)) ::
  (nat_lit 535,zcp "_law_far_right" 896 897 898 311 1 3 532 181 533 .none .none .none 534 899 900) ::
  (nat_lit 536,zfp "_law_far_right" (top 78) zm9 (.ref 535)) ::
  (nat_lit 540,zcp "law" 902 903 904 319 1 3 537 181 538 .none .none .none 539 905 906) ::
  (nat_lit 541,zfp "law" (top 79) zm9 (.ref 540)) :: []
noncomputable def heapA:List Addr:=nat_lit 2 :: nat_lit 3 :: nat_lit 6 :: nat_lit 15 :: nat_lit 22 :: nat_lit 23 :: nat_lit 24 :: nat_lit 25 :: nat_lit 28 :: nat_lit 40 :: nat_lit 41 :: nat_lit 42 :: nat_lit 43 :: nat_lit 44 :: nat_lit 47 :: nat_lit 59 :: nat_lit 60 :: nat_lit 61 :: nat_lit 62 :: nat_lit 63 :: nat_lit 66 :: nat_lit 78 :: nat_lit 79 :: nat_lit 80 :: nat_lit 81 :: nat_lit 82 :: nat_lit 85 :: nat_lit 97 :: nat_lit 98 :: nat_lit 99 :: nat_lit 100 :: nat_lit 101 :: nat_lit 104 :: nat_lit 116 :: nat_lit 117 :: nat_lit 118 :: nat_lit 119 :: nat_lit 120 :: nat_lit 123 :: nat_lit 135 :: nat_lit 136 :: nat_lit 137 :: nat_lit 138 :: nat_lit 139 :: nat_lit 142 :: nat_lit 154 :: nat_lit 155 :: nat_lit 156 :: nat_lit 157 :: nat_lit 158 :: nat_lit 161 :: nat_lit 173 :: nat_lit 174 :: nat_lit 175 :: nat_lit 176 :: nat_lit 177 :: nat_lit 180 :: nat_lit 192 :: nat_lit 193 :: nat_lit 194 :: nat_lit 195 :: nat_lit 196 :: nat_lit 199 :: nat_lit 200 :: nat_lit 206 :: nat_lit 207 :: nat_lit 213 :: nat_lit 214 :: nat_lit 220 :: nat_lit 221 :: nat_lit 227 :: nat_lit 228 :: nat_lit 234 :: nat_lit 235 :: nat_lit 241 :: nat_lit 242 :: nat_lit 248 :: nat_lit 249 :: nat_lit 255 :: nat_lit 256 :: nat_lit 262 :: nat_lit 263 :: nat_lit 267 :: nat_lit 268 :: nat_lit 274 :: nat_lit 275 :: nat_lit 279 :: nat_lit 280 :: nat_lit 286 :: nat_lit 287 :: nat_lit 293 :: nat_lit 294 :: nat_lit 298 :: nat_lit 299 :: nat_lit 303 :: nat_lit 304 :: nat_lit 308 :: nat_lit 309 :: nat_lit 315 :: nat_lit 316 :: nat_lit 320 :: nat_lit 321 :: nat_lit 322 :: nat_lit 326 :: nat_lit 327 :: nat_lit 333 :: nat_lit 334 :: nat_lit 340 :: nat_lit 341 :: nat_lit 345 :: nat_lit 346 :: nat_lit 352 :: nat_lit 353 :: nat_lit 357 :: nat_lit 358 :: nat_lit 362 :: nat_lit 363 :: nat_lit 367 :: nat_lit 368 :: nat_lit 374 :: nat_lit 375 :: nat_lit 381 :: nat_lit 382 :: nat_lit 388 :: nat_lit 389 :: nat_lit 395 :: nat_lit 396 :: nat_lit 400 :: nat_lit 401 :: nat_lit 402 :: nat_lit 403 :: nat_lit 404 :: nat_lit 405 :: nat_lit 411 :: nat_lit 412 :: nat_lit 418 :: nat_lit 419 :: nat_lit 423 :: nat_lit 424 :: nat_lit 430 :: nat_lit 431 :: nat_lit 437 :: nat_lit 438 :: nat_lit 444 :: nat_lit 445 :: nat_lit 451 :: nat_lit 452 :: nat_lit 458 :: nat_lit 459 :: nat_lit 465 :: nat_lit 466 :: nat_lit 470 :: nat_lit 471 :: nat_lit 475 :: nat_lit 476 :: nat_lit 480 :: nat_lit 481 :: nat_lit 485 :: nat_lit 486 :: nat_lit 490 :: nat_lit 491 :: nat_lit 497 :: nat_lit 498 :: nat_lit 504 :: nat_lit 505 :: nat_lit 511 :: nat_lit 512 :: nat_lit 518 :: nat_lit 519 :: nat_lit 523 :: nat_lit 524 :: nat_lit 530 :: nat_lit 531 :: nat_lit 535 :: nat_lit 536 :: nat_lit 540 :: nat_lit 541 :: []
theorem heapE:∀ P,heapA = (heapK P).map (·.1):=fun _=>rfl
theorem zsize:∀ w:World,((boot_heap w.params).isNs mainGlobals,(boot_heap w.params).objs.size,(boot_heap w.params).nsMap mainGlobals "__annotations__") = (true,11,some (.ref 6)):=fun w=>by kernel_rfl
noncomputable def zG1 (w:World):Prop:=∀ os:OsState,(L2.TT.runOf pwN 11 (some (.ref 6)) 9096 w os).map (fun s=>L2.TT.seen1 pwN zview ["FIRST_WORDS"] (Hook.obs (kHook heapK heapA heapE)) (boot_heap w.params) s.abs) = some (L2.TT.good1 zview ["FIRST_WORDS"] ((Hook.val (kHook heapK heapA heapE)) w))
set_option maxHeartbeats 0 in
theorem z1f:∀ w:World,zG1 (w.withFollow "special-get-raises" false):=fun w os=>by kernel_rfl
set_option maxHeartbeats 0 in
theorem z1t:∀ w:World,zG1 (w.withFollow "special-get-raises" true):=fun w os=>by kernel_rfl
theorem zr1:∀ w:World,zG1 w:=byRow2 "special-get-raises" z1f z1t
noncomputable def zG2 (w:World):Prop:=∀ os:OsState,(L2.TT.runOf pwN 11 (some (.ref 6)) 9096 w os).map (fun s=>L2.TT.seen2 zview s.abs) = some (PyProof.Rows.expectedOf zview)
set_option maxHeartbeats 0 in
theorem z2f:∀ w:World,zG2 (w.withFollow "special-get-raises" false):=fun w os=>by kernel_rfl
set_option maxHeartbeats 0 in
theorem z2t:∀ w:World,zG2 (w.withFollow "special-get-raises" true):=fun w os=>by kernel_rfl
theorem zr2:∀ w:World,zG2 w:=byRow2 "special-get-raises" z2f z2t
noncomputable def zG3 (w:World):Prop:=∀ os:OsState,(L2.TT.runOf pwN 11 (some (.ref 6)) 9096 w os).map (fun s=>L2.TT.seen3 pwN zview ["FIRST_WORDS"] (fun s=>xlAt zview [] s && recOk (RowW.records rwN.row.toRowW) s) s.abs) = some (true)
set_option maxHeartbeats 0 in
theorem z3f:∀ w:World,zG3 (w.withFollow "special-get-raises" false):=fun w os=>by kernel_rfl
set_option maxHeartbeats 0 in
theorem z3t:∀ w:World,zG3 (w.withFollow "special-get-raises" true):=fun w os=>by kernel_rfl
theorem zr3:∀ w:World,zG3 w:=byRow2 "special-get-raises" z3f z3t
noncomputable def zG4 (w:World):Prop:=∀ os:OsState,(L2.TT.runOf pwN 11 (some (.ref 6)) 9096 w os).map (fun s=>wideSeen zview s.abs) = some (wideGood zview)
set_option maxHeartbeats 0 in
theorem z4f:∀ w:World,zG4 (w.withFollow "special-get-raises" false):=fun w os=>by kernel_rfl
set_option maxHeartbeats 0 in
theorem z4t:∀ w:World,zG4 (w.withFollow "special-get-raises" true):=fun w os=>by kernel_rfl
theorem zr4:∀ w:World,zG4 w:=byRow2 "special-get-raises" z4f z4t
noncomputable def zG5 (w:World):Prop:=∀ os:OsState,(L2.TT.runOf pwN 11 (some (.ref 6)) 9096 w os).map (fun s=>L2.TT.seen5 zview s.abs) = some (L2.TT.good5 zview)
set_option maxHeartbeats 0 in
theorem z5f:∀ w:World,zG5 (w.withFollow "special-get-raises" false):=fun w os=>by kernel_rfl
set_option maxHeartbeats 0 in
theorem z5t:∀ w:World,zG5 (w.withFollow "special-get-raises" true):=fun w os=>by kernel_rfl
theorem zr5:∀ w:World,zG5 w:=byRow2 "special-get-raises" z5f z5t
noncomputable def zG6 (w:World):Prop:=∀ os:OsState,(L2.TT.runOf pwN 11 (some (.ref 6)) 9096 w os).map (fun s=>L2.TT.seen6 zview ["FIRST_WORDS"] s.abs) = some (L2.TT.good6 zview ["FIRST_WORDS"])
set_option maxHeartbeats 0 in
theorem z6f:∀ w:World,zG6 (w.withFollow "special-get-raises" false):=fun w os=>by kernel_rfl
set_option maxHeartbeats 0 in
theorem z6t:∀ w:World,zG6 (w.withFollow "special-get-raises" true):=fun w os=>by kernel_rfl
theorem zr6:∀ w:World,zG6 w:=byRow2 "special-get-raises" z6f z6t
set_option maxHeartbeats 0 in
theorem zleft:LeftO pwN zview ["FIRST_WORDS"] (fun s=>xlAt zview [] s && recOk (RowW.records rwN.row.toRowW) s) (Hook.obs (kHook heapK heapA heapE)) (Hook.val (kHook heapK heapA heapE)) 9096 :=
  L2.TT.left_of (M:=9096) (by kernel_rfl) rfl (fun s=>by kernel_rfl) rfl zsize fun w os=>L2.TT.run6 (zr1 w os) (zr2 w os) (zr3 w os) (zr4 w os) (zr5 w os) (zr6 w os)
end K22
namespace L2
open PySem PySem.Spec PyProof.Rows

abbrev Key:=Sum Int Str
noncomputable def keyIs:Key -> Value -> Bool
  | .inl k,v=>Value.isInt k v
  | .inr x,v=>Value.isStrOf x v
noncomputable def keyH (w:World):Key -> Int
  | .inl k=>hashInt k
  | .inr x=>hashStr w x
theorem keyIs_shape:∀ {k:Key} {v:Value},keyIs k v = true -> (∃ i t,k = Sum.inl i /\ v = Value.int i t) \/ (∃ x t,k = Sum.inr x /\ v = Value.str x t)
  | .inl i,v,h=>by
    obtain ⟨t,e⟩:=Value.isInt_shape (k:=i) (v:=v) h
    exact .inl ⟨i,t,rfl,e⟩
  | .inr x,v,h=>by
    obtain ⟨t,e⟩:=Value.isStrOf_shape (x:=x) (v:=v) h
    exact .inr ⟨x,t,rfl,e⟩
theorem keyIs_int (i:Int) (t:Tok):keyIs (.inl i) (.int i t) = true:=by simp [keyIs,Value.isInt]
theorem keyIs_str (x:Str) (t:Tok):keyIs (.inr x) (.str x t) = true:=by simp [keyIs,Value.isStrOf]
theorem key_ll (a b:Int):decide ((Sum.inl a:Key) = Sum.inl b) = (a == b):=by
  by_cases e:a = b
  · subst e; simp
  · have h:¬ (Sum.inl a:Key) = Sum.inl b:=fun q=>e (Sum.inl.inj q)
    rw [decide_eq_false h]
    exact (beq_eq_false_iff_ne.mpr e).symm
theorem key_rr (a b:Str):decide ((Sum.inr a:Key) = Sum.inr b) = decide (a = b):=by
  by_cases e:a = b
  · subst e; simp
  · have h:¬ (Sum.inr a:Key) = Sum.inr b:=fun q=>e (Sum.inr.inj q)
    rw [decide_eq_false h,decide_eq_false e]
theorem key_lr (a:Int) (b:Str):decide ((Sum.inl a:Key) = Sum.inr b) = false:=decide_eq_false (fun q=>nomatch q)
theorem key_rl (a:Str) (b:Int):decide ((Sum.inr a:Key) = Sum.inl b) = false:=decide_eq_false (fun q=>nomatch q)

noncomputable def mixKind (prog:Program) (w:World):PySem.KeyKind prog w Key where
  is:=keyIs
  hash:=keyH w
  inj := fun v a b ha hb => by
    rcases keyIs_shape ha with ⟨i,t,rfl,rfl⟩ | ⟨x,t,rfl,rfl⟩
    · rcases keyIs_shape hb with ⟨j,u,rfl,e⟩ | ⟨y,u,rfl,e⟩
      · injection e with e1 _; rw [e1]
      · exact nomatch e
    · rcases keyIs_shape hb with ⟨j,u,rfl,e⟩ | ⟨y,u,rfl,e⟩
      · exact nomatch e
      · injection e with e1 _; rw [e1]
  byValue:=fun k v h=>by
    rcases keyIs_shape h with ⟨i,t,rfl,rfl⟩ | ⟨x,t,rfl,rfl⟩ <;> rfl
  pyHash:=fun hv h=>by
    rcases keyIs_shape hv with ⟨i,t,rfl,rfl⟩ | ⟨x,t,rfl,rfl⟩
    · exact wpAny_pyHash_int h
    · exact wpAny_pyHash_str h
  eqBool:=fun hu hv h=>by
    rcases keyIs_shape hu with ⟨i,t,rfl,rfl⟩ | ⟨x,t,rfl,rfl⟩
    · rcases keyIs_shape hv with ⟨j,u,rfl,rfl⟩ | ⟨y,u,rfl,rfl⟩
      · rw [key_ll] at h; exact wpAny_eqBool_int h
      · rw [key_lr] at h; exact SeqAt.EqAt.int_str i t y u _ _ _ _ h
    · rcases keyIs_shape hv with ⟨j,u,rfl,rfl⟩ | ⟨y,u,rfl,rfl⟩
      · rw [key_rl] at h; exact SeqAt.EqAt.str_int x t j u _ _ _ _ h
      · rw [key_rr] at h; exact wpAny_eqBool_str h
  «strs»:=fun k x t v h=>by
    rcases keyIs_shape h with ⟨i,u,rfl,e⟩ | ⟨y,u,rfl,e⟩
    · exact nomatch e
    · injection e with e1 _
      subst e1
      cases v <;> rfl

theorem mixKind_int (prog:Program) (w:World) (i:Int) (t:Tok):(mixKind prog w).is (.inl i) (.int i t) = true:=keyIs_int i t
theorem mixKind_str (prog:Program) (w:World) (x:Str) (t:Tok):(mixKind prog w).is (.inr x) (.str x t) = true:=keyIs_str x t
end L2

namespace L2
open PySem PySem.Spec PyProof.Rows

inductive V where
  | non | bl (b:Bool) | int (i:Int) | str (x:Str) | byt (b:Array UInt8) | flt (b:UInt64) | ref (a:Addr) | ty (n:String)
  deriving DecidableEq

noncomputable def RelV:V -> Value -> Prop
  | .non,u=>u = Value.none
  | .bl b,u=>u = Value.bool b
  | .int i,u=>∃ t,u = Value.int i t
  | .str x,u=>∃ t,u = Value.str x t
  | .byt b,u=>∃ t,u = Value.bytes b t
  | .flt b,u=>∃ t,u = Value.float b t
  | .ref a,u=>u = Value.ref a
  | .ty n,u=>u = Value.type n

abbrev Vals:List V -> List Value -> Prop:=Paired RelV
theorem Vals.length {xs:List V} {us:List Value} (r:Vals xs us):xs.length = us.length:=Paired.length r
theorem Vals.get:∀ {xs:List V} {us:List Value} {i:Nat} {x:V},Vals xs us -> xs[i]? = some x -> ∃ u,us[i]? = some u /\ RelV x u
  | _,_,_,_,.nil,e=>by simp at e
  | _,_,0,_,.cons r _,e=>by simp at e; subst e; exact ⟨_,rfl,r⟩
  | _,_,i + 1,x,.cons _ t,e=>by
    obtain ⟨u,h1,h2⟩:=Vals.get (i:=i) (x:=x) t (by simpa using e)
    exact ⟨u,by simpa using h1,h2⟩
theorem Vals.append:∀ {xs ys:List V} {us ws:List Value},Vals xs us -> Vals ys ws -> Vals (xs ++ ys) (us ++ ws)
  | _,_,_,_,.nil,s=>s
  | _,_,_,_,.cons r t,s=>.cons r (Vals.append t s)
theorem Vals.take:∀ {xs:List V} {us:List Value} (n:Nat),Vals xs us -> Vals (xs.take n) (us.take n)
  | _,_,0,_=>.nil
  | _,_,_ + 1,.nil=>.nil
  | _,_,n + 1,.cons r t=>.cons r (Vals.take n t)
theorem Vals.drop:∀ {xs:List V} {us:List Value} (n:Nat),Vals xs us -> Vals (xs.drop n) (us.drop n)
  | _,_,0,r=>r
  | _,_,_ + 1,.nil=>.nil
  | _,_,n + 1,.cons _ t=>Vals.drop n t
noncomputable def RelO:Option V -> Option Value -> Prop
  | some v,some u=>RelV v u
  | none,none=>True
  | _,_=>False
noncomputable def KV {κ:Type}:List (κ × V) -> List (κ × Value) -> Prop:=Paired fun (p : κ × V) (q : κ × Value)=>p.1 = q.1 /\ RelV p.2 q.2

noncomputable def kV:Key -> V
  | .inl i=>.int i
  | .inr x=>.str x

inductive HO where
  
  | lst (xs:List V)
  
  | tup (xs:List V)
  
  | dK (kvs:List (Key × V)) | dT (kvs:List (List Key × V))
  
  | set (S:Int -> Bool) (n:Nat)
  
  | ins (C dx:Addr) (fs:List (Str × V))
  
  | own (x:Addr)
  
  | xd (fs:List (Str × V))
  
  | met (f x:Addr)
  
  | rng (lo hi:Int)
  
  | frz (o:Obj) (u:HO)
  
  | tbl (ps:Array Value)
  
  | ext (φ:Heap -> Prop)

abbrev Hp:=Addr -> Option HO
noncomputable def upd (H:Hp) (a:Addr) (o:HO):Hp:=fun b=>if b = a then some o else H b
theorem upd_same {H:Hp} {a:Addr} {o:HO}:upd H a o a = some o:=by unfold upd; rw [if_pos rfl]
theorem upd_ne {H:Hp} {a b:Addr} {o:HO} (h:b ≠ a):upd H a o b = H b:=by unfold upd; rw [if_neg h]
theorem upd_upd {H:Hp} {a:Addr} {o u:HO}:upd (upd H a o) a u = upd H a u:=by
  funext b; unfold upd; split <;> rfl
theorem ne_of {H:Hp} {a b:Addr} {o u:HO} (h:H a = some o) (h':H b = some u) (d:o ≠ u):a ≠ b:=by
  intro e; subst e; rw [h] at h'; exact d (Option.some.inj h')
theorem ne_of_none {H:Hp} {a b:Addr} {o:HO} (h:H a = some o) (h':H b = none):a ≠ b:=by
  intro e; subst e; rw [h] at h'; cases h'

section
variable (P:Program) (w:World)
noncomputable def IsTupD (h:Heap) (a:Addr) (items:Array Value):Prop:=∃ o,h.get? a = some o /\ o.cls = .type "tuple" /\ (∃ n,o.data = .seq items n) /\ o.dict = none
theorem IsTupD.tup {h:Heap} {a:Addr} {items:Array Value} (x:IsTupD h a items):IsTup h a items:=let ⟨o,e1,e2,e3,_⟩:=x; ⟨o,e1,e2,e3⟩
theorem IsTupD.new (h:Heap) (items:Array Value):IsTupD (h.push { cls:=.type "tuple", data:=.seq items }) h.objs.size items:=⟨_,Heap.get?_push_size _ rfl,rfl,⟨_,rfl⟩,rfl⟩
noncomputable def ObjOk (H:Hp) (h:Heap) (a:Addr):HO -> Prop
  | .lst xs=>xs.length <= sizeLine /\ ∃ (its:List Value) (n:Nat),Vals xs its /\ h.get? a = some { cls:=.type "list", data:=.seq its.toArray n }
  | .tup xs=>xs.length <= sizeLine /\ ∃ its:List Value,Vals xs its /\ IsTupD h a its.toArray
  | .dK kvs=>kvs.length <= sizeLine /\ (a == sysModules) = false /\ ∃ vs,KV kvs vs /\ h.DictOf (mixKind P w) a vs
  | .dT kvs=>kvs.length <= sizeLine /\ (a == sysModules) = false /\ ∃ xs:List (List Key × Addr × Value),
      Paired (fun (p:List Key × V) (q:List Key × Addr × Value)=>p.1 = q.1 /\ H q.2.1 = some (.tup (p.1.map kV)) /\ RelV p.2 q.2.2) kvs xs /\
      ∃ o es ep,h.get? a = some o /\ o.ExactDict /\ o.data = .dict es ep /\ es.toList = xs.map (entryOfKey (tupleKind (mixKind P w))) /\ (xs.map (·.1)).Nodup
  | .set S n=>h.SetOf (intKind P w) a S n
  | .ins C dx fs=>H dx = some (.own a) /\ fs.length <= 1000 /\ dx ≠ a /\ h.get? a = some (W.instObj C dx) /\
      ∃ mA,h.Ns1 dx mA /\ (∀ f,RelO (fs.lookup f) (mA f)) /\ PySem.Within mA (fs.map (·.1))
  | .own _=>∃ o,h.get? a = some o
  | .xd fs=>∃ mA,h.Ns1 a mA /\ ∀ f,RelO (fs.lookup f) (mA f)
  | .rng lo hi=>∃ t u v,h.get? a = some { cls:=.type "range", data:=.fields #[.int lo t,.int hi u,.int 1 v] }
  | .frz o u=>h.get? a = some o /\ ObjOk H h a u
  | .tbl ps=>h.get? a = some { cls:=.none,data:=.fields ps }
  | .met f x=>h.get? a = some (W.methodObj (.ref f) (.ref x))
  | .ext φ=>φ h /\ (∃ o,h.get? a = some o) /\ ∀ h1 h2:Heap,φ h1 -> (∀ o,h1.get? a = some o -> h2.get? a = some o) -> φ h2
noncomputable def HOk (H:Hp) (h:Heap):Prop:=∀ a o,H a = some o -> ObjOk P w H h a o
end

section
variable {P:Program} {w:World} {H H':Hp} {h h':Heap} {a:Addr} {o:HO}
theorem ObjOk.lt (x:ObjOk P w H h a o):a < h.objs.size:=by
  cases o with
  | lst xs=>obtain ⟨_,_,_,_,e⟩:=x; exact Heap.lt_size e
  | tup xs=>obtain ⟨_,_,_,p⟩:=x; exact p.tup.lt
  | dK kvs=>obtain ⟨_,_,_,_,o,_,_,e,_⟩:=x; exact Heap.lt_size e
  | dT kvs=>obtain ⟨_,_,_,_,o,_,_,e,_⟩:=x; exact Heap.lt_size e
  | set S n=>obtain ⟨o,_,_,_,e,_⟩:=x; exact Heap.lt_size e
  | ins C dx fs=>obtain ⟨_,_,_,e,_⟩:=x; exact Heap.lt_size e
  | own y=>obtain ⟨_,e⟩:=x; exact Heap.lt_size e
  | xd fs=>obtain ⟨_,⟨_,_,_,e,_⟩,_⟩:=x; exact Heap.lt_size e
  | rng lo hi=>obtain ⟨_,_,_,e⟩:=x; exact Heap.lt_size e
  | frz ob u=>obtain ⟨e,_⟩:=x; exact Heap.lt_size e
  | tbl ps=>exact Heap.lt_size (show h.get? a = some _ from x)
  | met f y=>exact Heap.lt_size (show h.get? a = some _ from x)
  | ext φ=>obtain ⟨_,⟨_,e⟩,_⟩:=x; exact Heap.lt_size e
theorem Paired.mapP {α β:Type} {F G : α -> β -> Prop}:∀ {l₁:List α} {l₂:List β},Paired F l₁ l₂ -> (∀ a b,F a b -> G a b) -> Paired G l₁ l₂
  | _,_,.nil,_=>.nil
  | _,_,.cons r t,f=>.cons (f _ _ r) (Paired.mapP t f)
theorem ObjOk.stay (x:ObjOk P w H h a o) (k:∀ b u,(b = a \/ H b = some (.own a)) -> h.get? b = some u -> h'.get? b = some u)
    (ho:∀ b,H b = some (.own a) -> H' b = some (.own a)) (ht:∀ b xs,H b = some (.tup xs) -> H' b = some (.tup xs)):ObjOk P w H' h' a o:=by
  induction o with
  | lst xs=>obtain ⟨z,its,n,r,e⟩:=x; exact ⟨z,its,n,r,k _ _ (.inl rfl) e⟩
  | tup xs=>obtain ⟨z,its,r,ob,e,c⟩:=x; exact ⟨z,its,r,ob,k _ _ (.inl rfl) e,c⟩
  | dK kvs=>obtain ⟨z,y,vs,r,ob,es,ep,e,c⟩:=x; exact ⟨z,y,vs,r,ob,es,ep,k _ _ (.inl rfl) e,c⟩
  | dT kvs =>
    obtain ⟨z,y,xs,r,ob,es,ep,e,c⟩:=x
    exact ⟨z,y,xs,Paired.mapP r fun p q z=>⟨z.1,ht _ _ z.2.1,z.2.2⟩,ob,es,ep,k _ _ (.inl rfl) e,c⟩
  | set S n=>obtain ⟨ob,es,ep,t,e,c⟩:=x; exact ⟨ob,es,ep,t,k _ _ (.inl rfl) e,c⟩
  | ins C dx fs =>
    obtain ⟨d,z,ne,e,mA,⟨od,es,ep,e2,c⟩,r⟩:=x
    exact ⟨ho _ d,z,ne,k _ _ (.inl rfl) e,mA,⟨od,es,ep,k _ _ (.inr d) e2,c⟩,r⟩
  | own y=>obtain ⟨ob,e⟩:=x; exact ⟨ob,k _ _ (.inl rfl) e⟩
  | xd fs=>obtain ⟨mA,⟨od,es,ep,e,c⟩,r⟩:=x; exact ⟨mA,⟨od,es,ep,k _ _ (.inl rfl) e,c⟩,r⟩
  | rng lo hi=>obtain ⟨t,u,v,e⟩:=x; exact ⟨t,u,v,k _ _ (.inl rfl) e⟩
  | frz ob u ih=>obtain ⟨e,q⟩:=x; exact ⟨k _ _ (.inl rfl) e,ih q⟩
  | tbl ps =>
    have e:h.get? a = some { cls:=.none,data:=.fields ps }:=x
    show h'.get? a = some { cls:=.none,data:=.fields ps }
    exact k a _ (.inl rfl) e
  | met f y =>
    have e:h.get? a = some (W.methodObj (.ref f) (.ref y)):=x
    show h'.get? a = some (W.methodObj (.ref f) (.ref y))
    exact k a _ (.inl rfl) e
  | ext φ=>obtain ⟨p,⟨o,e⟩,st⟩:=x; exact ⟨st _ _ p fun o q=>k _ _ (.inl rfl) q,⟨o,k _ _ (.inl rfl) e⟩,st⟩
theorem HOk.lt (x:HOk P w H h) (e:H a = some o):a < h.objs.size:=(x a o e).lt
theorem HOk.fresh (x:HOk P w H h) (e:h.objs.size <= a):H a = none:=by
  cases q:H a with
  | none=>rfl
  | some u=>exact absurd (Nat.lt_of_lt_of_le (x.lt q) e) (Nat.lt_irrefl _)
theorem HOk.kept (x:HOk P w H h) (k:∀ b u,h.get? b = some u -> h'.get? b = some u):HOk P w H h':=fun a o e =>
  (x a o e).stay (fun b u _ q=>k b u q) (fun _ q=>q) fun _ _ q=>q
theorem HOk.laid (x:HOk P w H h) (k:∀ b u,h.get? b = some u -> h'.get? b = some u) (hp:h.objs.size <= a) (new:ObjOk P w (upd H a o) h' a o):HOk P w (upd H a o) h':=fun b u e=>by
  have hn:=x.fresh hp
  by_cases hb:b = a
  · subst hb; rw [upd_same] at e; cases e; exact new
  · rw [upd_ne hb] at e
    exact (x b u e).stay (fun c v _ q=>k c v q) (fun c q=>by rw [upd_ne (ne_of_none q hn)]; exact q) fun c xs q=>by rw [upd_ne (ne_of_none q hn)]; exact q
end

noncomputable def Rd (H:Hp) (a:Addr) (u:HO):Prop:=H a = some u \/ ∃ o,H a = some (.frz o u)
theorem Rd.ok {P:Program} {w:World} {H:Hp} {h:Heap} {a:Addr} {u:HO} (r:Rd H a u) (x:HOk P w H h):ObjOk P w H h a u:=by
  rcases r with r | ⟨o,r⟩
  · exact x a u r
  · obtain ⟨_,q⟩:=x a _ r
    exact q
noncomputable def Mut:Option HO -> Prop
  | some (.lst _)=>True
  | some (.dK _)=>True
  | some (.dT _)=>True
  | some (.set _ _)=>True
  | some (.ins _ _ _)=>True
  | some (.ext _)=>True
  | _=>False
section
variable {P:Program} {w:World} {H:Hp} {h h':Heap} {x e:Addr} {o':HO}
theorem HOk.write (ok:HOk P w H h) (mu:Mut (H x)) (he:e = x \/ H e = some (.own x)) (k:∀ b u,b ≠ e -> h.get? b = some u -> h'.get? b = some u) (heo:∃ u,h'.get? e = some u)
    (new:ObjOk P w (upd H x o') h' x o'):HOk P w (upd H x o') h':=fun b u q=>by
  have nown:∀ c y,H c = some (.own y) -> c ≠ x:=fun c y r z=>by subst z; rw [r] at mu; exact mu
  have ntup:∀ c xs,H c = some (.tup xs) -> c ≠ x:=fun c xs r z=>by subst z; rw [r] at mu; exact mu
  by_cases hb:b = x
  · subst hb; rw [upd_same] at q; cases q; exact new
  · rw [upd_ne hb] at q
    by_cases hbe:b = e
    · have q':H b = some (.own x):=by
        rcases he with z | z
        · exact absurd (hbe.trans z) hb
        · rw [hbe]; exact z
      rw [q] at q'; cases q'
      obtain ⟨v,hv⟩:=heo
      exact ⟨v,by rw [hbe]; exact hv⟩
    · refine (ok b u q).stay (fun c v hc r=>k c v ?_ r) (fun c r=>by rw [upd_ne (nown c b r)]; exact r) fun c xs r=>by rw [upd_ne (ntup c xs r)]; exact r
      rcases hc with rfl | hc
      · exact hbe
      · rintro rfl
        rcases he with z | z
        · exact nown c b hc z
        · rw [hc] at z; cases z; exact hb rfl
end

structure Un (fs ex:List Addr) (H H':Hp) (h h':Heap):Prop where
  keep:∀ b o,h.get? b = some o -> H b = none -> b ∉ fs -> b ∉ ex -> h'.get? b = some o
  slot:∀ b o,h.get? b = some o -> H b = none -> b ∈ fs -> b ∉ ex -> ∃ sl,h'.get? b = some { o with slots:=sl }
  free:∀ b o,h.get? b = some o -> H b = none -> b ∉ ex -> H' b = none
  there:∀ b o,h.get? b = some o -> b ∉ ex -> ∃ o',h'.get? b = some o'
  tups:∀ b xs,H b = some (.tup xs) -> H' b = some (.tup xs)
  frzs:∀ b o u,H b = some (.frz o u) -> H' b = some (.frz o u)
  tbls:∀ b ps,H b = some (.tbl ps) -> ∃ more,H' b = some (.tbl (ps ++ more))
section
variable {fs fs' ex ex':List Addr} {H H1 H2:Hp} {h h1 h2 h':Heap} {a x e:Addr} {o:HO}
theorem Un.any (u:Un fs ex H H1 h h1) {b:Addr} {ob:Obj} (q:h.get? b = some ob) (n:H b = none) (hx:b ∉ ex):∃ sl,h1.get? b = some { ob with slots:=sl }:=by
  by_cases hb:b ∈ fs
  · exact u.slot b ob q n hb hx
  · exact ⟨ob.slots,u.keep b ob q n hb hx⟩
theorem Un.kept (k:∀ b u,h.get? b = some u -> h'.get? b = some u):Un fs ex H H h h' :=
  ⟨fun b ob q _ _ _=>k b ob q,fun b ob q _ _ _=>⟨ob.slots,k b ob q⟩,fun _ _ _ n _=>n,fun b ob q _=>⟨ob,k b ob q⟩,fun _ _ q=>q,fun _ _ _ q=>q,fun _ ps q=>⟨#[],by rw [q]; simp⟩⟩
theorem Un.refl:Un fs ex H H h h:=Un.kept fun _ _ q=>q
theorem Un.laid (k:∀ b u,h.get? b = some u -> h'.get? b = some u) (hp:h.objs.size <= a) (hn:H a = none):Un fs ex H (upd H a o) h h' where
  keep:=fun b u q _ _ _=>k b u q
  slot:=fun b u q _ _ _=>⟨u.slots,k b u q⟩
  free:=fun b u q n _=>by rw [upd_ne (Nat.ne_of_lt (Nat.lt_of_lt_of_le (Heap.lt_size q) hp))]; exact n
  there:=fun b u q _=>⟨u,k b u q⟩
  tups:=fun b xs q=>by rw [upd_ne (ne_of_none q hn)]; exact q
  frzs:=fun b u xs q=>by rw [upd_ne (ne_of_none q hn)]; exact q
  tbls:=fun b ps q=>⟨#[],by rw [upd_ne (ne_of_none q hn),q]; simp⟩
theorem Un.write (mu:Mut (H x)) (he:e = x \/ H e = some (.own x)) (k:∀ b u,b ≠ e -> h.get? b = some u -> h'.get? b = some u) (heo:∃ u,h'.get? e = some u):Un fs ex H (upd H x o) h h':=by
  have hx:∀ b,H b = none -> b ≠ x:=fun b n z=>by subst z; rw [n] at mu; exact mu
  have hb:∀ b,H b = none -> b ≠ e:=fun b n z=>by
    subst z
    rcases he with r | r
    · exact hx b n r
    · rw [n] at r; cases r
  have hm:∀ b u,H b = some u -> ¬ Mut (some u) -> b ≠ x:=fun b u q nm z=>by subst z; rw [q] at mu; exact nm mu
  refine ⟨fun b u q n _ _=>k b u (hb b n) q,fun b u q n _ _=>⟨u.slots,k b u (hb b n) q⟩,fun b u q n _=>by rw [upd_ne (hx b n)]; exact n,fun b u q _=>?_,
    fun b xs q=>by rw [upd_ne (hm b _ q fun z=>z)]; exact q,fun b u xs q=>by rw [upd_ne (hm b _ q fun z=>z)]; exact q,fun b ps q=>⟨#[],by rw [upd_ne (hm b _ q fun z=>z),q]; simp⟩⟩
  by_cases hbe:b = e
  · subst hbe; exact heo
  · exact ⟨u,k b u hbe q⟩
end

noncomputable def trk (h:Heap) (H:Hp):List Addr:=(List.range h.objs.size).filter fun a=>(H a).isSome
noncomputable def hidT (h:Heap) (H:Hp):Heap:=W.hideAll h (trk h H)
theorem hidT_size (h:Heap) (H:Hp):(hidT h H).objs.size = h.objs.size:=W.hideAll_size _ _
theorem hidT_get {h:Heap} {H:Hp} {b:Addr} {o:Obj} (e:h.get? b = some o) (n:H b = none):(hidT h H).get? b = some o :=
  W.hideAll_get _ e fun hm=>by
    have q:(H b).isSome = true:=(List.mem_filter.mp hm).2
    rw [n] at q; simp at q
theorem of_hidT {h:Heap} {H:Hp} {b:Addr} {o:Obj} (e:(hidT h H).get? b = some o):h.get? b = some o /\ H b = none:=by
  have e':h.get? b = some o:=W.of_hideAll (trk h H) e
  refine ⟨e',?_⟩
  cases q:H b with
  | none=>rfl
  | some x =>
    have hm:b ∈ trk h H:=List.mem_filter.mpr ⟨List.mem_range.mpr (Heap.lt_size e'),by simp [q]⟩
    have z:(hidT h H).get? b = none:=W.hideAll_none (trk h H) hm
    rw [z] at e; cases e

noncomputable def allNews (g h:Heap) (L:Addr):List (Addr × Obj):=(List.range h.objs.size).filterMap fun a=>if a = L \/ (g.get? a).isSome = true then none else (h.get? a).map fun o=>(a,o)
noncomputable def rest (g h:Heap) (L d:Addr):List (Addr × Obj):=(allNews g h L).filter fun p=>decide (p.1 ≠ d)
end L2

namespace L2
open PySem PySem.Spec PyProof.Rows

structure Mod (K:W.Frag) (mg:Str -> Option Value) (base:Heap):Prop where
  kin:K.In base
  glob:base.Ns mainGlobals mg
  blt:∃ mb,base.Ns builtinsNs mb /\ ∀ x:Str,x ≠ "__name__" -> mb x = bootBuiltins x
  nolimit:base.NoLimit

structure Cx where
  prog:Program
  w:World
  K:W.Frag
  mg:Str -> Option Value
  base:Heap
  A:Around
  N:List Str
  s₀:Shared
  H₀:Hp
  env:Env
  outer:List Env
  stack:List Env
  ex:List Addr
  fn:Str -> Bool
  calm:Bool
  pn:List (Addr × Obj)
  xe:Value -> Shared -> Prop
noncomputable def frs (l:List Env):List Addr:=l.filterMap (·.frame)
abbrev Cx.fs (X:Cx):List Addr:=frs X.outer

noncomputable def Vis (sc:Scope) (x:Str):Prop:=sc.names.lookup x = some .local \/ sc.names.lookup x = some .cell \/ sc.names.lookup x = some .free
noncomputable def Loc (sc:Scope) (x:Str):Prop:=sc.names.lookup x = some .local \/ sc.names.lookup x = some .cell
noncomputable def Look (env:Env) (h:Heap) (m:Str -> Option Value) (x:Str) (u:Value):Prop :=
  (env.kindOf x = some .local /\ m x = some u) \/ ((env.kindOf x = some .cell \/ env.kindOf x = some .free) /\ ∃ c,env.cells.lookup x = some c /\ h.IsCell c (some u))

structure Cx.Ok (X:Cx):Prop where
  mod:Mod X.K X.mg X.base
  kind:X.env.scope.kind = .function
  glob:X.env.globals = mainGlobals
  blt:X.env.builtins = builtinsNs
  above:X.s₀.heap.objs.size <= X.env.locals
  inj:∀ x y c,X.env.cells.lookup x = some c -> X.env.cells.lookup y = some c -> x = y
  has:∀ x,(X.env.kindOf x = some .cell \/ X.env.kindOf x = some .free) -> ∃ c,X.env.cells.lookup x = some c
  cab:∀ x c,X.fn x = true -> X.env.cells.lookup x = some c -> X.s₀.heap.objs.size <= c
  hd:X.calm = true -> X.A.handled = none
  frames:X.A.frames = some X.stack
  stk:X.stack = X.outer \/ (X.stack = X.env :: X.outer /\ X.env.frame = some X.env.locals)
  exf:∀ b ∈ X.ex,b ≠ X.env.locals /\ ∀ x c,X.env.cells.lookup x = some c -> c ≠ b
  bs:∀ b o,X.base.get? b = some o -> X.s₀.heap.get? b = some o /\ X.H₀ b = none
  bsz:X.base.objs.size <= X.s₀.heap.objs.size
  noex:∀ b o,X.base.get? b = some o -> b ∉ X.ex
  exfs:∀ b ∈ X.ex,b ∉ X.fs
  funs:X.s₀.heap.FunFrames X.base X.outer
  frf:∀ b ∈ X.fs,X.H₀ b = none

structure Inv (X:Cx) (pins:List (Addr × Obj)) (σ:List (Option V)) (H:Hp) (s:Shared):Prop where
  ok:X.Ok
  os:s.os = X.s₀.os
  bare:AllBare s.gens
  base:Un X.fs X.ex X.H₀ H X.s₀.heap s.heap
  loc:∃ m,s.heap.Ns X.env.locals m /\ ∀ (i:Nat) (x:Str) (v:V),X.N[i]? = some x -> σ[i]? = some (some v) -> Vis X.env.scope x -> ∃ u,RelV v u /\ Look X.env s.heap m x u
  cell:∀ x c,X.env.cells.lookup x = some c -> ∃ v,s.heap.IsCell c v
  free:H X.env.locals = none
  freeC:∀ x c,X.env.cells.lookup x = some c -> H c = none
  pin:∀ p ∈ X.pn ++ pins,s.heap.get? p.1 = some p.2 /\ H p.1 = none /\ p.1 ≠ X.env.locals /\ p.1 ∉ X.fs /\ ∀ v,p.2.data ≠ .cell v
  hok:HOk X.prog X.w H s.heap
  len : σ.length = X.N.length

section
variable {X:Cx} {pins:List (Addr × Obj)} {σ:List (Option V)} {H H':Hp} {s:Shared} {h':Heap}

theorem Cx.Ok.nofr (ok:X.Ok) {b:Addr} {o:Obj} (e:X.base.get? b = some o):b ∉ X.fs:=fun hb=>by
  have:=(ok.funs.mem hb).1
  rw [e] at this; cases this
theorem Inv.bs (I:Inv X pins σ H s):∀ b o,X.base.get? b = some o -> s.heap.get? b = some o /\ H b = none:=fun b o e =>
  ⟨I.base.keep b o (I.ok.bs b o e).1 (I.ok.bs b o e).2 (I.ok.nofr e) (I.ok.noex b o e),I.base.free b o (I.ok.bs b o e).1 (I.ok.bs b o e).2 (I.ok.noex b o e)⟩
theorem Inv.bk (I:Inv X pins σ H s):∀ b o,X.base.get? b = some o -> s.heap.get? b = some o:=fun b o e=>(I.bs b o e).1
theorem Inv.mod (I:Inv X pins σ H s):Mod X.K X.mg X.base:=I.ok.mod
theorem Inv.kIn (I:Inv X pins σ H s):X.K.In s.heap:=I.ok.mod.kin.keeps I.bk
theorem Inv.fr (I:Inv X pins σ H s):∃ m,Fr X.base X.env.locals s.heap m :=
  let ⟨m,hn,_⟩:=I.loc
  ⟨m,hn,I.bk,Nat.le_trans I.ok.bsz I.ok.above⟩
theorem Inv.lt (I:Inv X pins σ H s):X.env.locals < s.heap.objs.size:=let ⟨_,hn,_⟩:=I.loc; hn.lt
theorem Inv.sz (I:Inv X pins σ H s):X.s₀.heap.objs.size <= s.heap.objs.size:=Nat.le_trans I.ok.above (Nat.le_of_lt I.lt)
theorem Inv.nofs (I:Inv X pins σ H s) {a:Addr} (h:s.heap.objs.size <= a):a ∉ X.fs:=fun hb=>by
  obtain ⟨_,o,ho,_⟩:=I.ok.funs.mem hb
  exact absurd (Nat.lt_of_lt_of_le (Heap.lt_size ho) (Nat.le_trans I.sz h)) (Nat.lt_irrefl _)
theorem Inv.cne (I:Inv X pins σ H s):∀ x c,X.env.cells.lookup x = some c -> c ≠ X.env.locals:=fun x c e z=>by
  obtain ⟨v,o,ho,hd⟩:=I.cell x c e
  obtain ⟨m,⟨o',es,ep,ho',hd',_⟩,_⟩:=I.loc
  rw [z,ho'] at ho; cases ho; rw [hd'] at hd; cases hd
theorem Inv.funs (I:Inv X pins σ H s):s.heap.FunFrames X.base X.outer:=by
  have all:∀ (l:List Env),(∀ b ∈ frs l,b ∈ X.fs) -> X.s₀.heap.FunFrames X.base l -> s.heap.FunFrames X.base l:=by
    intro l
    induction l with
    | nil=>intro _ _; trivial
    | cons env r ih =>
      intro hs hl
      obtain ⟨hk,⟨L,o,hf,hn,ho,hd⟩,hr⟩:=hl
      have hL:L ∈ X.fs:=hs L (by unfold frs; rw [List.filterMap_cons,hf]; exact List.mem_cons_self)
      obtain ⟨sl,e⟩:=I.base.slot L o ho (I.ok.frf L hL) hL fun z=>I.ok.exfs L z hL
      exact ⟨hk,⟨L,_,hf,hn,e,hd⟩,ih (fun b hb=>hs b (by unfold frs; rw [List.filterMap_cons,hf]; exact List.mem_cons_of_mem _ hb)) hr⟩
  exact all X.outer (fun _ hb=>hb) I.ok.funs

theorem Inv.stack (I:Inv X pins σ H s):s.heap.FunFrames X.base X.stack:=by
  rcases I.ok.stk with e | ⟨e,hf⟩
  · rw [e]; exact I.funs
  · rw [e]
    obtain ⟨m,hn,_⟩:=I.loc
    refine .cons (by rw [I.ok.kind]; decide) hf hn ?_ I.funs
    exact Heap.get?_none_of_le (Nat.le_trans I.ok.bsz I.ok.above)
theorem Inv.stkSub (I:Inv X pins σ H s):∀ b ∈ frs X.stack,b ∈ X.env.locals :: X.fs:=fun b hb=>by
  rcases I.ok.stk with e | ⟨e,hf⟩
  · rw [e] at hb; exact List.mem_cons_of_mem _ hb
  · rw [e] at hb
    unfold frs at hb
    rw [List.filterMap_cons,hf] at hb
    exact hb
theorem Inv.stkFree (I:Inv X pins σ H s):∀ b ∈ frs X.stack,H b = none:=fun b hb=>by
  rcases List.mem_cons.mp (I.stkSub b hb) with e | hb
  · rw [e]; exact I.free
  · obtain ⟨_,o,ho,_⟩:=I.ok.funs.mem hb
    exact I.base.free b o ho (I.ok.frf b hb) fun z=>I.ok.exfs b z hb

theorem Inv.step {g':Array GenState} {t':Nat} {d':Drawn} {ch:List Addr} (I:Inv X pins σ H s)
    (hch:∀ b ∈ ch,(b ∈ X.ex \/ X.s₀.heap.objs.size <= b) /\ b ≠ X.env.locals /\ (∀ x c,X.env.cells.lookup x = some c -> c ≠ b) /\ ∀ p ∈ X.pn ++ pins,p.1 ≠ b)
    (keep:∀ b o,b ≠ X.env.locals -> b ∉ X.fs -> b ∉ ch -> s.heap.get? b = some o -> H b = none -> h'.get? b = some o)
    (slot:∀ b o,b ≠ X.env.locals -> b ∈ X.fs -> b ∉ ch -> s.heap.get? b = some o -> H b = none -> ∃ sl,h'.get? b = some { o with slots:=sl }) (free:∀ b o,b ∉ ch -> s.heap.get? b = some o -> H b = none -> H' b = none)
    (there:∀ b o,b ∉ ch -> s.heap.get? b = some o -> ∃ o',h'.get? b = some o')
    (tups:∀ b xs,H b = some (.tup xs) -> H' b = some (.tup xs)) (frzs:∀ b o u,H b = some (.frz o u) -> H' b = some (.frz o u)) (tbls:∀ b ps,H b = some (.tbl ps) -> ∃ more,H' b = some (.tbl (ps ++ more)))
    (ns:∀ m,s.heap.Ns X.env.locals m -> h'.Ns X.env.locals m) (hok:HOk X.prog X.w H' h') (hg:AllBare g') :
    Inv X pins σ H' { s with heap:=h',gens:=g',drawn:=d',toks:=t' }:=by
  have neL:∀ b o,X.s₀.heap.get? b = some o -> b ≠ X.env.locals:=fun b o e=>Nat.ne_of_lt (Nat.lt_of_lt_of_le (Heap.lt_size e) I.ok.above)
  have neC:∀ b o,X.s₀.heap.get? b = some o -> b ∉ X.ex -> b ∉ ch:=fun b o e hx hb=>by
    rcases (hch b hb).1 with z | z
    · exact hx z
    · exact absurd (Nat.lt_of_lt_of_le (Heap.lt_size e) z) (Nat.lt_irrefl _)
  have cellK:∀ x c,X.env.cells.lookup x = some c -> ∀ v,s.heap.IsCell c v -> h'.IsCell c v:=fun x c e v ⟨o,ho,hd⟩=>by
    have nch:c ∉ ch:=fun z=>(hch c z).2.2.1 x c e rfl
    by_cases hc:c ∈ X.fs
    · obtain ⟨sl,q⟩:=slot c o (I.cne x c e) hc nch ho (I.freeC x c e)
      exact ⟨_,q,hd⟩
    · exact ⟨o,keep c o (I.cne x c e) hc nch ho (I.freeC x c e),hd⟩
  refine ⟨I.ok,I.os,hg,⟨fun b o e n hb hx=>?_,fun b o e n hb hx=>?_,fun b o e n hx=>?_,fun b o e hx=>?_,fun b xs e=>tups b xs (I.base.tups b xs e),fun b o xs e=>frzs b o xs (I.base.frzs b o xs e),fun b ps e=>?_⟩,?_,fun x c e=>?_,?_,fun x c e=>?_,fun p hp=>?_,hok,I.len⟩
  · exact keep b o (neL b o e) hb (neC b o e hx) (I.base.keep b o e n hb hx) (I.base.free b o e n hx)
  · obtain ⟨sl,e1⟩:=I.base.slot b o e n hb hx
    obtain ⟨sl',e2⟩:=slot b _ (neL b o e) hb (neC b o e hx) e1 (I.base.free b o e n hx)
    exact ⟨sl',e2⟩
  · obtain ⟨o',e1⟩:=I.base.there b o e hx
    exact free b o' (neC b o e hx) e1 (I.base.free b o e n hx)
  · obtain ⟨o',e1⟩:=I.base.there b o e hx
    exact there b o' (neC b o e hx) e1
  · obtain ⟨m1,e1⟩:=I.base.tbls b ps e
    obtain ⟨m2,e2⟩:=tbls b _ e1
    exact ⟨m1 ++ m2,by rw [e2,Array.append_assoc]⟩
  · obtain ⟨m,hn,hl⟩:=I.loc
    refine ⟨m,ns m hn,fun i x v e1 e2 e3=>?_⟩
    obtain ⟨u,r,l⟩:=hl i x v e1 e2 e3
    refine ⟨u,r,?_⟩
    rcases l with l | ⟨k,c,e,z⟩
    · exact .inl l
    · exact .inr ⟨k,c,e,cellK x c e _ z⟩
  · obtain ⟨v,z⟩:=I.cell x c e
    exact ⟨v,cellK x c e v z⟩
  · obtain ⟨m,⟨o,_,_,ho,_⟩,_⟩:=I.loc
    exact free _ o (fun z=>(hch _ z).2.1 rfl) ho I.free
  · obtain ⟨v,o,ho,hd⟩:=I.cell x c e
    exact free c o (fun z=>(hch c z).2.2.1 x c e rfl) ho (I.freeC x c e)
  · obtain ⟨e,n,ne,nf,d⟩:=I.pin p hp
    have nch:p.1 ∉ ch:=fun z=>(hch p.1 z).2.2.2 p hp rfl
    exact ⟨keep p.1 p.2 ne nf nch e n,free p.1 p.2 nch e n,ne,nf,d⟩
theorem Inv.un {t':Nat} (I:Inv X pins σ H s) (u:Un X.fs [] H H' s.heap h') (hok:HOk X.prog X.w H' h'):Inv X pins σ H' { s with heap:=h',toks:=t' }:=by
  obtain ⟨m,⟨o,es,ep,ho,r⟩,_⟩:=id I.loc
  obtain ⟨sl,hL⟩:=u.any ho I.free (by simp)
  exact I.step (g':=s.gens) (d':=s.drawn) (ch:=[]) (fun _ z=>nomatch z) (fun b o _ hb _ e n=>u.keep b o e n hb (by simp)) (fun b o _ hb _ e n=>u.slot b o e n hb (by simp)) (fun b o _ e n=>u.free b o e n (by simp)) (fun b o _ e=>u.there b o e (by simp)) u.tups u.frzs u.tbls (fun m' hm=>by
    obtain ⟨o',es',ep',ho',r'⟩:=hm
    rw [ho] at ho'; cases ho'
    exact ⟨_,es',ep',hL,r'⟩) hok I.bare
theorem Inv.call {g':Array GenState} {t':Nat} {d':Drawn} {ch:List Addr} (I:Inv X pins σ H s) (u:Un (frs X.stack) ch H H' s.heap h') (hok:HOk X.prog X.w H' h') (hg:AllBare g')
    (hch:∀ b ∈ ch,(b ∈ X.ex \/ X.s₀.heap.objs.size <= b) /\ b ≠ X.env.locals /\ (∀ x c,X.env.cells.lookup x = some c -> c ≠ b) /\ ∀ p ∈ X.pn ++ pins,p.1 ≠ b) :
    Inv X pins σ H' { s with heap:=h',gens:=g',drawn:=d',toks:=t' }:=by
  obtain ⟨m,⟨o,es,ep,ho,r⟩,_⟩:=id I.loc
  obtain ⟨sl,hL⟩:=u.any ho I.free fun z=>(hch _ z).2.1 rfl
  exact I.step (ch:=ch) hch (fun b o hL hb hc e n=>u.keep b o e n (fun z=>(List.mem_cons.mp (I.stkSub b z)).elim hL hb) hc) (fun b o _ _ hc e n=>u.any e n hc) (fun b o hc e n=>u.free b o e n hc) (fun b o hc e=>u.there b o e hc) u.tups u.frzs u.tbls (fun m' hm=>by
    obtain ⟨o',es',ep',ho',r'⟩:=hm
    rw [ho] at ho'; cases ho'
    exact ⟨_,es',ep',hL,r'⟩) hok hg
theorem Inv.turned {t':Nat} {it:Addr} (I:Inv X pins σ H s) (k:∀ b o,b ≠ it -> s.heap.get? b = some o -> h'.get? b = some o) (hn:H it = none) (hL:it ≠ X.env.locals)
    (h1:it ∈ X.ex \/ X.s₀.heap.objs.size <= it) (h2:∀ x c,X.env.cells.lookup x = some c -> c ≠ it) (h3:∀ p ∈ X.pn ++ pins,p.1 ≠ it):Inv X pins σ H { s with heap:=h',toks:=t' }:=by
  have nit:∀ b u,H b = some u -> b ≠ it:=fun b u e z=>by rw [z,hn] at e; cases e
  refine I.step (g':=s.gens) (d':=s.drawn) (ch:=[it]) (fun b hb=>?_) (fun b o _ _ hc e _=>k b o (fun z=>hc (by simp [z])) e) (fun b o _ _ hc e _=>⟨o.slots,k b o (fun z=>hc (by simp [z])) e⟩) (fun _ _ _ _ n=>n)
    (fun b o hc e=>⟨o,k b o (fun z=>hc (by simp [z])) e⟩) (fun _ _ e=>e) (fun _ _ _ e=>e) (fun b ps e=>⟨#[],by rw [e]; simp⟩) (fun m hm=>?_) (fun b u e=>?_) I.bare
  · have e:b = it:=by simpa using hb
    subst e
    exact ⟨h1,hL,h2,h3⟩
  · obtain ⟨o,es,ep,ho,r⟩:=hm
    exact ⟨o,es,ep,k _ o (Ne.symm hL) ho,r⟩
  · refine (I.hok b u e).stay (fun c v hc q=>k c v ?_ q) (fun _ q=>q) fun _ _ q=>q
    rcases hc with z | z
    · rw [z]; exact nit b u e
    · exact nit c _ z
theorem Inv.tok (I:Inv X pins σ H s) (t:Nat):Inv X pins σ H { s with toks:=t }:=I.un (h':=s.heap) (t':=t) Un.refl I.hok
theorem Inv.kept {t':Nat} (I:Inv X pins σ H s) (k:∀ b u,s.heap.get? b = some u -> h'.get? b = some u):Inv X pins σ H { s with heap:=h',toks:=t' }:=I.un (Un.kept k) (I.hok.kept k)
theorem Inv.laid {a:Addr} {o:HO} {t':Nat} (I:Inv X pins σ H s) (k:∀ b u,s.heap.get? b = some u -> h'.get? b = some u) (hp:s.heap.objs.size <= a) (new:ObjOk X.prog X.w (upd H a o) h' a o) :
    Inv X pins σ (upd H a o) { s with heap:=h',toks:=t' }:=I.un (Un.laid k hp (I.hok.fresh hp)) (I.hok.laid k hp new)
theorem Inv.write {x e:Addr} {o:HO} {t':Nat} (I:Inv X pins σ H s) (mu:Mut (H x)) (he:e = x \/ H e = some (.own x)) (k:∀ b u,b ≠ e -> s.heap.get? b = some u -> h'.get? b = some u) (heo:∃ u,h'.get? e = some u)
    (new:ObjOk X.prog X.w (upd H x o) h' x o):Inv X pins σ (upd H x o) { s with heap:=h',toks:=t' }:=I.un (Un.write mu he k heo) (I.hok.write mu he k heo new)
theorem Inv.weak {σ':List (Option V)} (I:Inv X pins σ H s) (hl : σ'.length = σ.length) (w:∀ (i:Nat) v,σ'[i]? = some (some v) -> σ[i]? = some (some v)):Inv X pins σ' H s :=
  ⟨I.ok,I.os,I.bare,I.base,let ⟨m,hn,hl'⟩:=I.loc; ⟨m,hn,fun i x v e1 e2 e3=>hl' i x v e1 (w i v e2) e3⟩,I.cell,I.free,I.freeC,I.pin,I.hok,hl.trans I.len⟩
theorem Inv.pins_of {pins':List (Addr × Obj)} (I:Inv X pins σ H s) (h:∀ p ∈ pins',s.heap.get? p.1 = some p.2 /\ H p.1 = none /\ p.1 ≠ X.env.locals /\ p.1 ∉ X.fs /\ ∀ v,p.2.data ≠ .cell v):Inv X pins' σ H s :=
  ⟨I.ok,I.os,I.bare,I.base,I.loc,I.cell,I.free,I.freeC,fun p hp=>(List.mem_append.mp hp).elim (fun z=>I.pin p (List.mem_append_left _ z)) (h p),I.hok,I.len⟩

theorem nodup_ix {N:List Str} (hN:N.Nodup) {i j:Nat} {x:Str} (a:N[i]? = some x) (b:N[j]? = some x):i = j:=by
  obtain ⟨h1,e1⟩:=List.getElem?_eq_some_iff.mp a
  obtain ⟨h2,e2⟩:=List.getElem?_eq_some_iff.mp b
  exact (List.getElem_inj hN).mp (e1.trans e2.symm)

theorem store_ok2 {M:Model} {A:Around} {E:Value -> Shared -> Prop} {i:Nat} {x:Str} {v:V} {u:Value} {Q:Unit -> Shared -> Prop} (I:Inv X pins σ H s) (hN:X.N.Nodup) (hi:X.N[i]? = some x) (hx:Loc X.env.scope x) (r:RelV v u)
    (h:∀ s',Inv X pins (σ.set i (some v)) H s' -> (∃ a,Heap.SameBut a s.heap s'.heap /\ (a = X.env.locals \/ X.env.cells.lookup x = some a)) -> Q () s') (hf:X.fn x = true \/ X.env.scope.names.lookup x = some .local:=by first | exact .inl rfl | exact .inr rfl | assumption):wpAny M A (storeName X.env x u) Q E s:=by
  obtain ⟨m,hn,hl⟩:=id I.loc
  have hcls:(X.env.scope.kind == .class || (X.env.scope.kind == .module && X.env.locals != X.env.globals)) = false:=by rw [I.ok.kind]; rfl
  have hiσ:i < σ.length:=by rw [I.len]; exact (List.getElem?_eq_some_iff.mp hi).1
  have cne:=I.cne
  have tracked:∀ {a:Addr} {h':Heap},(∃ o,s.heap.get? a = some o /\ H a = none) -> Heap.SameBut a s.heap h' -> HOk X.prog X.w H h':=fun {a h'} ha hs b ob e=>by
    obtain ⟨_,_,hfree⟩:=ha
    refine (I.hok b ob e).stay (fun c w' hc q=>(hs.2 c ?_).trans q) (fun _ q=>q) fun _ _ q=>q
    rintro rfl
    rcases hc with rfl | hc
    · rw [hfree] at e; cases e
    · rw [hfree] at hc; cases hc
  rcases hx with hk | hk
  · refine wpAny_storeName_local hk hn (fun h' hn' hs=>?_) hcls
    obtain ⟨oL,_,_,hoL,_⟩:=id hn
    refine h _ ⟨I.ok,I.os,I.bare,⟨fun b o e n hb hx=>?_,fun b o e n hb hx=>?_,I.base.free,fun b o e hx=>?_,I.base.tups,I.base.frzs,I.base.tbls⟩,⟨_,hn',fun j y v' e1 e2 e3=>?_⟩,fun y c e=>?_,I.free,I.freeC,fun p hp=>?_,tracked ⟨oL,hoL,I.free⟩ hs,by simpa using I.len⟩ ⟨_,hs,.inl rfl⟩
    · exact (hs.2 b (Nat.ne_of_lt (Nat.lt_of_lt_of_le (Heap.lt_size e) I.ok.above))).trans (I.base.keep b o e n hb hx)
    · obtain ⟨sl,e1⟩:=I.base.slot b o e n hb hx
      exact ⟨sl,(hs.2 b (Nat.ne_of_lt (Nat.lt_of_lt_of_le (Heap.lt_size e) I.ok.above))).trans e1⟩
    · obtain ⟨o',e1⟩:=I.base.there b o e hx
      exact ⟨o',(hs.2 b (Nat.ne_of_lt (Nat.lt_of_lt_of_le (Heap.lt_size e) I.ok.above))).trans e1⟩
    · by_cases hj:j = i
      · subst hj
        rw [hi] at e1; cases e1
        rw [List.getElem?_set_self hiσ] at e2
        cases e2
        exact ⟨u,r,.inl ⟨hk,by simp⟩⟩
      · rw [List.getElem?_set_ne (Ne.symm hj)] at e2
        obtain ⟨u',r',q⟩:=hl j y v' e1 e2 e3
        refine ⟨u',r',?_⟩
        rcases q with ⟨k,e⟩ | ⟨k,c,e,z⟩
        · refine .inl ⟨k,?_⟩
          have:y ≠ x:=fun e=>hj (nodup_ix hN e1 (e ▸ hi))
          simp [this,e]
        · exact .inr ⟨k,c,e,z.sameBut hs (cne y c e)⟩
    · obtain ⟨w',z⟩:=I.cell y c e
      exact ⟨w',z.sameBut hs (cne y c e)⟩
    · obtain ⟨e,n,ne,nf,d⟩:=I.pin p hp
      exact ⟨(hs.2 p.1 ne).trans e,n,ne,nf,d⟩
  · have hfn:X.fn x = true:=by
      rcases hf with z | z
      · exact z
      · rw [z] at hk; cases hk
    obtain ⟨c,hc⟩:=I.ok.has x (.inl hk)
    obtain ⟨w',z⟩:=I.cell x c hc
    refine wpAny_storeName_cell I.ok.kind hk hc z (fun h' hc' hs=>?_)
    obtain ⟨oc,hoc,hocd⟩:=id z
    refine h { s with heap:=h' } ⟨I.ok,I.os,I.bare,⟨fun b o e n hb hx=>?_,fun b o e n hb hx=>?_,I.base.free,fun b o e hx=>?_,I.base.tups,I.base.frzs,I.base.tbls⟩,⟨m,hn.sameBut hs (Ne.symm (cne x c hc)),fun j y v' e1 e2 e3=>?_⟩,fun y c' e=>?_,I.free,I.freeC,fun p hp=>?_,tracked ⟨oc,hoc,I.freeC x c hc⟩ hs,by simpa using I.len⟩ ⟨c,hs,.inr hc⟩
    · exact (hs.2 b (Nat.ne_of_lt (Nat.lt_of_lt_of_le (Heap.lt_size e) (I.ok.cab x c hfn hc)))).trans (I.base.keep b o e n hb hx)
    · obtain ⟨sl,e1⟩:=I.base.slot b o e n hb hx
      exact ⟨sl,(hs.2 b (Nat.ne_of_lt (Nat.lt_of_lt_of_le (Heap.lt_size e) (I.ok.cab x c hfn hc)))).trans e1⟩
    · obtain ⟨o',e1⟩:=I.base.there b o e hx
      exact ⟨o',(hs.2 b (Nat.ne_of_lt (Nat.lt_of_lt_of_le (Heap.lt_size e) (I.ok.cab x c hfn hc)))).trans e1⟩
    · by_cases hj:j = i
      · subst hj
        rw [hi] at e1; cases e1
        rw [List.getElem?_set_self hiσ] at e2
        cases e2
        exact ⟨u,r,.inr ⟨.inl hk,c,hc,hc'⟩⟩
      · rw [List.getElem?_set_ne (Ne.symm hj)] at e2
        obtain ⟨u',r',q⟩:=hl j y v' e1 e2 e3
        refine ⟨u',r',?_⟩
        rcases q with q | ⟨k,c',e,z'⟩
        · exact .inl q
        · refine .inr ⟨k,c',e,z'.sameBut hs ?_⟩
          rintro rfl
          exact hj (nodup_ix hN e1 (I.ok.inj _ _ _ e hc ▸ hi))
    · by_cases hcc:c' = c
      · subst hcc; exact ⟨_,hc'⟩
      · obtain ⟨w2,z2⟩:=I.cell y c' e
        exact ⟨w2,z2.sameBut hs hcc⟩
    · obtain ⟨e,n,ne,nf,d⟩:=I.pin p hp
      refine ⟨(hs.2 p.1 ?_).trans e,n,ne,nf,d⟩
      intro q
      rw [q,hoc] at e
      have q':oc = p.2:=Option.some.inj e
      exact d w' (by rw [<- q']; exact hocd)
theorem store_ok {M:Model} {A:Around} {E:Value -> Shared -> Prop} {i:Nat} {x:Str} {v:V} {u:Value} {Q:Unit -> Shared -> Prop} (I:Inv X pins σ H s) (hN:X.N.Nodup) (hi:X.N[i]? = some x) (hx:Loc X.env.scope x) (r:RelV v u)
    (h:∀ s',Inv X pins (σ.set i (some v)) H s' -> Q () s') (hf:X.fn x = true \/ X.env.scope.names.lookup x = some .local:=by first | exact .inl rfl | exact .inr rfl | assumption):wpAny M A (storeName X.env x u) Q E s :=
  store_ok2 I hN hi hx r (fun s' I' _=>h s' I') hf
theorem Inv.call' {s':Shared} {ch:List Addr} (I:Inv X pins σ H s) (ho:s'.os = s.os) (u:Un (frs X.stack) ch H H' s.heap s'.heap) (hok:HOk X.prog X.w H' s'.heap) (hg:AllBare s'.gens)
    (hch:∀ b ∈ ch,(b ∈ X.ex \/ X.s₀.heap.objs.size <= b) /\ b ≠ X.env.locals /\ (∀ x c,X.env.cells.lookup x = some c -> c ≠ b) /\ ∀ p ∈ X.pn ++ pins,p.1 ≠ b):Inv X pins σ H' s':=by
  obtain ⟨h',g',d',t',o'⟩:=s'
  have e:o' = s.os:=ho
  subst e
  exact I.call (g':=g') (t':=t') (d':=d') u hok hg hch
end

abbrev XK:=Value -> Option Addr -> Hp -> Prop
abbrev St:=List (Option V)
abbrev VK:=V -> Hp -> Prop
abbrev TE:=St -> Hp -> VK -> Prop
abbrev TT:=St -> Hp -> (Bool -> Hp -> Prop) -> Prop
abbrev TA:=St -> Hp -> (List V -> Hp -> Prop) -> Prop
structure Ends where
  nx:St -> Hp -> Prop
  rt:VK
  bk:St -> Hp -> Prop:=fun _ _=>False
  ct:St -> Hp -> Prop:=fun _ _=>False
abbrev TS:=Ends -> St -> Hp -> Prop

noncomputable def EP (X:Cx) (pins:List (Addr × Obj)) (σ:St) (Q:VK) (u:Value) (s':Shared):Prop:=∃ v H',Inv X pins σ H' s' /\ RelV v u /\ Q v H'
noncomputable def TP (X:Cx) (pins:List (Addr × Obj)) (σ:St) (Q:Bool -> Hp -> Prop) (b:Bool) (s':Shared):Prop:=∃ H',Inv X pins σ H' s' /\ Q b H'
noncomputable def AP (X:Cx) (pins:List (Addr × Obj)) (σ:St) (Q:List V -> Hp -> Prop) (us:List Value) (s':Shared):Prop:=∃ vs H',Inv X pins σ H' s' /\ Vals vs us /\ Q vs H'
noncomputable def SP (X:Cx) (pins:List (Addr × Obj)) (D:Ends) (f:Flow) (s':Shared):Prop :=
  match f with
  | .next=>∃ σ' H',Inv X pins σ' H' s' /\ D.nx σ' H'
  | .brk=>∃ σ' H',Inv X pins σ' H' s' /\ D.bk σ' H'
  | .cont=>∃ σ' H',Inv X pins σ' H' s' /\ D.ct σ' H'
  | .ret u=>∃ v σ' H',Inv X pins σ' H' s' /\ RelV v u /\ D.rt v H'

noncomputable def PE (X:Cx) (e:Expr) (t:TE):Prop :=
  ∀ (pins:List (Addr × Obj)) (s:Shared) (σ:St) (H:Hp) (Q:VK),Inv X pins σ H s -> t σ H Q -> wpAny (model X.prog X.w) X.A (eval e X.env) (EP X pins σ Q) X.xe s
noncomputable def PT (X:Cx) (e:Expr) (t:TT):Prop :=
  ∀ (pins:List (Addr × Obj)) (s:Shared) (σ:St) (H:Hp) (Q:Bool -> Hp -> Prop),Inv X pins σ H s -> t σ H Q -> wpAny (model X.prog X.w) X.A (isTrue e X.env (eval e X.env)) (TP X pins σ Q) X.xe s
noncomputable def PW (X:Cx) (e:Expr) (t:TT):Prop :=
  ∀ (whole:Sem Value) (pins:List (Addr × Obj)) (s:Shared) (σ:St) (H:Hp) (Q:Bool -> Hp -> Prop),Inv X pins σ H s -> t σ H Q -> wpAny (model X.prog X.w) X.A (isTrue e X.env whole) (TP X pins σ Q) X.xe s
theorem PW.pt {X:Cx} {e:Expr} {t:TT} (h:PW X e t):PT X e t:=h _
noncomputable def PA (X:Cx) (es:List Expr) (t:TA):Prop :=
  ∀ (pos:Pos) (pins:List (Addr × Obj)) (s:Shared) (σ:St) (H:Hp) (Q:List V -> Hp -> Prop),Inv X pins σ H s -> t σ H Q -> wpAny (model X.prog X.w) X.A (spliced (backTo pos (starEach es X.env))) (AP X pins σ Q) X.xe s
noncomputable def PS (X:Cx) (st:Stmt) (t:TS):Prop :=
  ∀ (pins:List (Addr × Obj)) (s:Shared) (σ:St) (H:Hp) (D:Ends),Inv X pins σ H s -> t D σ H -> wpAny (model X.prog X.w) X.A (exec st X.env) (SP X pins D) X.xe s
noncomputable def PSs (X:Cx) (st:List Stmt) (t:TS):Prop :=
  ∀ (pins:List (Addr × Obj)) (s:Shared) (σ:St) (H:Hp) (D:Ends),Inv X pins σ H s -> t D σ H -> wpAny (model X.prog X.w) X.A (execs st X.env) (SP X pins D) X.xe s
theorem thn {α:Type} {t:Sem α} {Q Q' : α -> Shared -> Prop} {M:Model} {A:Around} {E:Value -> Shared -> Prop} {s:Shared} (h:wpAny M A t Q E s) (hQ:∀ a s,Q a s -> Q' a s):wpAny M A t Q' E s:=wpAny_mono h hQ fun _ _ x=>x
end L2

namespace L2
open PySem PySem.Spec PyProof.Rows
section
variable {X:Cx}

noncomputable def tVar (i:Nat):TE:=fun σ H Q=>∃ v,σ[i]? = some (some v) /\ Q v H
noncomputable def tC (v:V):TE:=fun _ H Q=>Q v H
theorem pe_var {i:Nat} {x:Str} {pos:Pos} (hN:X.N[i]? = some x) (hv:Vis X.env.scope x) (hd:(x == ("__debug__" : Str)) = false:=by decide) (hcd:(x == ("__classdict__" : Str)) = false:=by decide):PE X (.Name x pos) (tVar i):=by
  intro pins s σ H Q I h
  obtain ⟨v,e,h⟩:=h
  obtain ⟨m,hn,hl⟩:=I.loc
  obtain ⟨u,r,l⟩:=hl i x v hN e hv
  have fin:EP X pins σ Q u s:=⟨v,H,I,r,h⟩
  rcases l with ⟨hk,hm⟩ | ⟨hk,c,hc,hcell⟩
  · exact wpAny_Name (wpAny_loadName_local I.ok.kind hk hn hm fin) hd
  · rcases hk with hk | hk
    · exact wpAny_Name (wpAny_loadName_cell I.ok.kind hk hc hcell fin) hd
    · exact wpAny_Name (wpAny_loadName_free I.ok.kind hk hc hcell fin hcd) hd
theorem pe_int {i j pos}:PE X (.Constant (.int i) j pos) (tC (.int i)):=fun _ _ _ H _ I h=>wpAny_Constant_int ⟨.int i,H,I.tok _,⟨_,rfl⟩,h⟩
theorem pe_bl {b j pos}:PE X (.Constant (.bool b) j pos) (tC (.bl b)):=fun _ _ _ H _ I h=>Constant_bool ⟨.bl b,H,I,rfl,h⟩
theorem pe_str {x j pos}:PE X (.Constant (.str x) j pos) (tC (.str x)):=fun _ _ _ H _ I h=>Calls.Constant_str ⟨.str x,H,I.tok _,⟨_,rfl⟩,h⟩

noncomputable def Gl (X:Cx) (x:Str):Prop:=X.env.kindOf x = some .globalImplicit
theorem ld_glob {E:Value -> Shared -> Prop} {pins:List (Addr × Obj)} {s:Shared} {σ:St} {H:Hp} {x:Str} {u:Value} {pos:Pos} {Q:Value -> Shared -> Prop} (I:Inv X pins σ H s) (hg:Gl X x) (hm:X.mg x = some u) (h:Q u s)
    (hd:(x == ("__debug__" : Str)) = false:=by decide):wpAny (model X.prog X.w) X.A (eval (.Name x pos) X.env) Q E s :=
  Calls.Name_function_global I.ok.kind hg (Calls.loadGlobal_global (by rw [I.ok.glob]; exact I.mod.glob.keeps I.bk) hm h) hd
theorem ld_blt {E:Value -> Shared -> Prop} {pins:List (Addr × Obj)} {s:Shared} {σ:St} {H:Hp} {x:Str} {u:Value} {pos:Pos} {Q:Value -> Shared -> Prop} (I:Inv X pins σ H s) (hg:Gl X x) (hm:X.mg x = none) (hv:bootBuiltins x = some u) (h:Q u s)
    (hn:x ≠ "__name__" := by decide) (hd:(x == ("__debug__" : Str)) = false:=by decide):wpAny (model X.prog X.w) X.A (eval (.Name x pos) X.env) Q E s:=by
  obtain ⟨mb,h1,h2⟩:=I.mod.blt
  exact Calls.Name_function_global I.ok.kind hg (Calls.loadGlobal_builtin (by rw [I.ok.glob]; exact I.mod.glob.keeps I.bk) hm (by rw [I.ok.blt]; exact h1.keeps I.bk) ((h2 x hn).trans hv) h) hd
theorem pe_glob {x:Str} {v:V} {u:Value} {pos:Pos} (hg:Gl X x) (hm:X.mg x = some u) (r:RelV v u) (hd:(x == ("__debug__" : Str)) = false:=by decide):PE X (.Name x pos) (tC v) :=
  fun _ _ _ H _ I h=>ld_glob I hg hm ⟨v,H,I,r,h⟩ hd
theorem pe_bltn {x:Str} {v:V} {u:Value} {pos:Pos} (hg:Gl X x) (hm:X.mg x = none) (hv:bootBuiltins x = some u) (r:RelV v u) (hn:x ≠ "__name__" := by decide) (hd:(x == ("__debug__" : Str)) = false:=by decide):PE X (.Name x pos) (tC v) :=
  fun _ _ _ H _ I h=>ld_blt I hg hm hv ⟨v,H,I,r,h⟩ hn hd

variable {a b:Expr} {ta tb:TE} {pos:Pos}
noncomputable def tB (t:TE):TT:=fun σ H Q=>t σ H fun x H1=>∃ c,x = .bl c /\ Q c H1
theorem pt_val {e:Expr} {t:TE} (h:PE X e t) (he:∀ whole,isTrue e X.env whole = (do let v <- whole; standAt e.pos; holding [v] (truthy v)):=by intro _; rfl):PT X e (tB t):=by
  intro pins s σ H Q I hw
  refine isTrue_plain (thn (h pins s σ H _ I hw) fun v s1 ⟨x,H1,I1,r1,q1⟩=>?_) (he _)
  obtain ⟨d,rfl,q⟩:=q1
  cases r1
  exact wpAny_truthy_bool ⟨H1,I1,q⟩

variable {tA tB':TT} {rest:List Expr}
noncomputable def tAnd (t u:TT):TT:=fun σ H Q=>t σ H fun c H1=>if c = true then u σ H1 Q else Q false H1
noncomputable def tOr (t u:TT):TT:=fun σ H Q=>t σ H fun c H1=>if c = true then Q true H1 else u σ H1 Q
noncomputable def tNot (t:TT):TT:=fun σ H Q=>t σ H fun c H1=>Q (!c) H1
theorem pw_and1 (ha:PT X a tA):PW X (.BoolOp .And [a] pos) tA:=by
  intro wh pins s σ H Q I h
  refine isTrue_and (thn (ha pins s σ H Q I h) fun c s1 e=>?_)
  cases c with
  | true=>exact isTrue_and_nil e
  | false=>exact e
theorem pw_or1 (ha:PT X a tA):PW X (.BoolOp .Or [a] pos) tA:=by
  intro wh pins s σ H Q I h
  refine isTrue_or (thn (ha pins s σ H Q I h) fun c s1 e=>?_)
  cases c with
  | false=>exact isTrue_or_nil e
  | true=>exact e
theorem pw_and (ha:PT X a tA) (hb:PW X (.BoolOp .And (b :: rest) pos) tB'):PW X (.BoolOp .And (a :: b :: rest) pos) (tAnd tA tB'):=by
  intro wh pins s σ H Q I h
  refine isTrue_and (thn (ha pins s σ H _ I h) fun c s1 ⟨H1,I1,q1⟩=>?_)
  cases c with
  | true=>exact hb wh pins s1 σ H1 Q I1 q1
  | false=>exact ⟨H1,I1,q1⟩
theorem pw_or (ha:PT X a tA) (hb:PW X (.BoolOp .Or (b :: rest) pos) tB'):PW X (.BoolOp .Or (a :: b :: rest) pos) (tOr tA tB'):=by
  intro wh pins s σ H Q I h
  refine isTrue_or (thn (ha pins s σ H _ I h) fun c s1 ⟨H1,I1,q1⟩=>?_)
  cases c with
  | true=>exact ⟨H1,I1,q1⟩
  | false=>exact hb wh pins s1 σ H1 Q I1 q1
theorem pt_not (ha:PT X a tA):PT X (.UnaryOp .Not a pos) (tNot tA):=by
  intro pins s σ H Q I h
  exact isTrue_not (ha pins s σ H (fun c H1=>Q (!c) H1) I h)
noncomputable def tOrV (ta tb:TE):TE:=fun σ H Q=>ta σ H fun x H1=>∃ c,x = .bl c /\ if c = true then Q (.bl true) H1 else tb σ H1 Q
theorem pe_one {op} {t:TE} (h:PE X a t):PE X (.BoolOp op [a] pos) t:=fun pins s σ H Q I hw=>BoolOp_one (h pins s σ H Q I hw)
theorem pe_or (ha:PE X a ta) (hb:PE X (.BoolOp .Or (b :: rest) pos) tb):PE X (.BoolOp .Or (a :: b :: rest) pos) (tOrV ta tb):=by
  intro pins s σ H Q I h
  refine BoolOp_or (thn (ha pins s σ H _ I h) fun v s1 ⟨x,H1,I1,r1,q1⟩=>?_)
  obtain ⟨c,rfl,q1⟩:=q1
  cases r1
  refine wpAny_truthy_bool ?_
  cases c with
  | false=>exact hb pins s1 σ H1 Q I1 q1
  | true=>exact ⟨.bl true,H1,I1,rfl,q1⟩
noncomputable def tIf (t:TT) (ta tb:TE):TE:=fun σ H Q=>t σ H fun c H1=>if c = true then ta σ H1 Q else tb σ H1 Q
theorem pe_ifExp {c:Expr} (hc:PT X c tA) (ha:PE X a ta) (hb:PE X b tb):PE X (.IfExp c a b pos) (tIf tA ta tb):=by
  intro pins s σ H Q I h
  refine wpAny_IfExp (thn (hc pins s σ H _ I h) fun d s1 ⟨H1,I1,q1⟩=>?_)
  cases d with
  | true=>exact ha pins s1 σ H1 Q I1 q1
  | false=>exact hb pins s1 σ H1 Q I1 q1
end
end L2

namespace L2
open PySem PySem.Spec PyProof.Rows

noncomputable def SqL (K:W.Frag) (H:Hp) (a:Addr) (xs:List V):Prop :=
  Rd H a (.lst xs) \/
    ∃ (o:Obj) (its:Array Value) (n:Nat),K.lookup a = some o /\ o.cls = .type "list" /\ o.dict = none /\ o.data = .seq its n /\ its.size <= sizeLine /\ Vals xs its.toList
noncomputable def SqT (K:W.Frag) (H:Hp) (a:Addr) (xs:List V):Prop :=
  Rd H a (.tup xs) \/
    ∃ (o:Obj) (its:Array Value) (n:Nat),K.lookup a = some o /\ o.cls = .type "tuple" /\ o.data = .seq its n /\ its.size <= sizeLine /\ Vals xs its.toList /\ o.dict = none
noncomputable def absV:Value -> Option V
  | .none=>some .non
  | .bool b=>some (.bl b)
  | .int i _=>some (.int i)
  | .str x _=>some (.str x)
  | .bytes b _=>some (.byt b)
  | .float b _=>some (.flt b)
  | .ref a=>some (.ref a)
  | .type n=>some (.ty n)
  | _=>none
theorem RelV.abs {x:V} {u:Value} (r:RelV x u):absV u = some x:=by
  cases x with
  | non=>cases r; rfl
  | bl _=>cases r; rfl
  | int _=>obtain ⟨t,rfl⟩:=r; rfl
  | str _=>obtain ⟨t,rfl⟩:=r; rfl
  | byt _=>obtain ⟨t,rfl⟩:=r; rfl
  | flt _=>obtain ⟨t,rfl⟩:=r; rfl
  | ref _=>cases r; rfl
  | ty _=>cases r; rfl
theorem RelV.inj {x y:V} {u:Value} (r:RelV x u) (q:RelV y u):x = y:=Option.some.inj (r.abs.symm.trans q.abs)
theorem Vals.inj:∀ {xs ys:List V} {us:List Value},Vals xs us -> Vals ys us -> xs = ys
  | _,_,_,.nil,.nil=>rfl
  | _,_,_,.cons r t,.cons r' t'=>by rw [r.inj r',Vals.inj t t']
section
variable {X:Cx} {pins:List (Addr × Obj)} {σ:St} {H:Hp} {s:Shared} {a:Addr} {xs ys:List V}
theorem Inv.list (I:Inv X pins σ H s) (h:SqL X.K H a xs):∃ its:List Value,Vals xs its /\ PlainL s.heap a its.toArray /\ xs.length <= sizeLine:=by
  rcases h with h | ⟨o,its,n,hk,hc,hd,hs,hz,r⟩
  · obtain ⟨z,its,n,r,e⟩:=h.ok I.hok
    exact ⟨its,r,⟨_,n,e,rfl,rfl,rfl⟩,z⟩
  · refine ⟨its.toList,r,⟨o,n,I.kIn a o hk,hc,hd,by simpa using hs⟩,?_⟩
    have e:=r.length
    simp only [Array.length_toList] at e
    omega
theorem Inv.tuple (I:Inv X pins σ H s) (h:SqT X.K H a xs):∃ its:List Value,Vals xs its /\ IsTup s.heap a its.toArray /\ xs.length <= sizeLine:=by
  rcases h with h | ⟨o,its,n,hk,hc,hs,hz,r,hd⟩
  · obtain ⟨z,its,r,p⟩:=h.ok I.hok
    exact ⟨its,r,p.tup,z⟩
  · refine ⟨its.toList,r,⟨o,I.kIn a o hk,hc,n,by simpa using hs⟩,?_⟩
    have e:=r.length
    simp only [Array.length_toList] at e
    omega
theorem Inv.list_inj (I:Inv X pins σ H s) (h:SqL X.K H a xs) (h':SqL X.K H a ys):xs = ys:=by
  obtain ⟨its,r,⟨o,n,e,_,_,d⟩,_⟩:=I.list h
  obtain ⟨its',r',⟨o',n',e',_,_,d'⟩,_⟩:=I.list h'
  rw [e] at e'; cases e'
  rw [d] at d'
  injection d' with d1 _
  have:its = its':=by simpa using congrArg Array.toList d1
  subst this
  exact r.inj r'
theorem Inv.tupleD (I:Inv X pins σ H s) (h:SqT X.K H a xs):∃ ob,s.heap.get? a = some ob /\ ob.cls = .type "tuple" /\ ob.dict = none:=by
  rcases h with h | ⟨o,its,n,hk,hc,hs,hz,r,hd⟩
  · obtain ⟨z,its,r,⟨o,e1,e2,_,e3⟩⟩:=h.ok I.hok
    exact ⟨o,e1,e2,e3⟩
  · exact ⟨o,I.kIn a o hk,hc,hd⟩
theorem Inv.tuple_inj (I:Inv X pins σ H s) (h:SqT X.K H a xs) (h':SqT X.K H a ys):xs = ys:=by
  obtain ⟨its,r,⟨o,e,_,n,d⟩,_⟩:=I.tuple h
  obtain ⟨its',r',⟨o',e',_,n',d'⟩,_⟩:=I.tuple h'
  rw [e] at e'; cases e'
  rw [d] at d'
  injection d' with d1 _
  have:its = its':=by simpa using congrArg Array.toList d1
  subst this
  exact r.inj r'
end

abbrev Cx.wish (X:Cx) (E:Value -> Shared -> Prop):Cx:={ X with xe:=E }
abbrev Cx.nox (X:Cx):Cx:=X.wish fun _ _=>False
theorem Cx.Ok.wish {X:Cx} (ok:X.Ok) (E:Value -> Shared -> Prop):(X.wish E).Ok :=
  ⟨ok.mod,ok.kind,ok.glob,ok.blt,ok.above,ok.inj,ok.has,ok.cab,ok.hd,ok.frames,ok.stk,ok.exf,ok.bs,ok.bsz,ok.noex,ok.exfs,ok.funs,ok.frf⟩
theorem Cx.Ok.unwish {X:Cx} {E:Value -> Shared -> Prop} (ok:(X.wish E).Ok):X.Ok :=
  ⟨ok.mod,ok.kind,ok.glob,ok.blt,ok.above,ok.inj,ok.has,ok.cab,ok.hd,ok.frames,ok.stk,ok.exf,ok.bs,ok.bsz,ok.noex,ok.exfs,ok.funs,ok.frf⟩
section
variable {X:Cx} {pins:List (Addr × Obj)} {σ:St} {H:Hp} {s:Shared} {E:Value -> Shared -> Prop}
theorem Inv.wish (I:Inv X pins σ H s) (E:Value -> Shared -> Prop):Inv (X.wish E) pins σ H s:=⟨I.ok.wish E,I.os,I.bare,I.base,I.loc,I.cell,I.free,I.freeC,I.pin,I.hok,I.len⟩
theorem Inv.unwish (I:Inv (X.wish E) pins σ H s):Inv X pins σ H s:=⟨I.ok.unwish,I.os,I.bare,I.base,I.loc,I.cell,I.free,I.freeC,I.pin,I.hok,I.len⟩
theorem SP.unwish {D:Ends} {f:Flow} {s':Shared} (h:SP (X.wish E) pins D f s'):SP X pins D f s':=by
  cases f with
  | next=>obtain ⟨σ',H',I,q⟩:=h; exact ⟨σ',H',I.unwish,q⟩
  | brk=>obtain ⟨σ',H',I,q⟩:=h; exact ⟨σ',H',I.unwish,q⟩
  | cont=>obtain ⟨σ',H',I,q⟩:=h; exact ⟨σ',H',I.unwish,q⟩
  | ret u=>obtain ⟨v,σ',H',I,r,q⟩:=h; exact ⟨v,σ',H',I.unwish,r,q⟩
theorem PT.nox {e:Expr} {t:TT} (h:PT X.nox e t):PT X e t:=fun pins s σ H Q I hw =>
  wpAny_mono (h pins s σ H Q (I.wish _) hw) (fun _ _ ⟨H',I',q⟩=>⟨H',I'.unwish,q⟩) fun _ _ z=>False.elim z
theorem PSs.nox {st:List Stmt} {t:TS} (h:PSs X.nox st t):PSs X st t:=fun pins s σ H D I hw =>
  wpAny_mono (h pins s σ H D (I.wish _) hw) (fun _ _ q=>q.unwish) fun _ _ z=>False.elim z
end

section
variable {X:Cx} {st:Stmt} {rest:List Stmt} {t u:TS} {e:Expr} {te:TE} {pos:Pos}
noncomputable def tNext:TS:=fun D σ H=>D.nx σ H
noncomputable def tSeq (t u:TS):TS:=fun D σ H=>t { D with nx:=u D } σ H
theorem pss_nil:PSs X [] tNext:=fun _ _ σ H _ I h=>wpAny_execs_nil ⟨σ,H,I,h⟩
theorem pss_cons (h1:PS X st t) (h2:PSs X rest u):PSs X (st :: rest) (tSeq t u):=by
  intro pins s σ H D I h
  refine wpAny_execs_cons (thn (h1 pins s σ H { D with nx:=u D } I h) fun f s1 q=>?_)
  cases f with
  | next =>
    obtain ⟨σ',H',I',q⟩:=q
    exact h2 pins s1 σ' H' D I' q
  | ret v=>exact q
  | brk=>exact q
  | cont=>exact q
theorem pss_one (h1:PS X st t):PSs X [st] t:=by
  intro pins s σ H D I h
  refine wpAny_execs_cons (thn (h1 pins s σ H D I h) fun f s1 q=>?_)
  cases f with
  | next=>exact wpAny_execs_nil q
  | ret v=>exact q
  | brk=>exact q
  | cont=>exact q
theorem Inv.quiet {pins:List (Addr × Obj)} {σ:St} {H:Hp} {s:Shared} (I:Inv X pins σ H s):interactive X.env = false:=by simp [interactive,I.ok.kind]
noncomputable def tDrop (te:TE):TS:=fun D σ H=>te σ H fun _ H1=>D.nx σ H1
theorem ps_expr (he:PE X e te) (hs:swapsWith e none pos.line X.env = pure false:=by rfl):PS X (.Expr e pos) (tDrop te):=by
  intro pins s σ H D I h
  exact wpAny_Expr_any (thn (he pins s σ H _ I h) fun v s1 ⟨x,H1,I1,r1,q1⟩=>⟨σ,H1,I1,q1⟩) I.quiet hs
noncomputable def tRet (te:TE):TS:=fun D σ H=>te σ H D.rt
theorem ps_ret (he:PE X e te):PS X (.Return (some e) pos) (tRet te):=by
  intro pins s σ H D I h
  exact wpAny_Return_some (thn (he pins s σ H _ I h) fun v s1 ⟨x,H1,I1,r1,q1⟩=>⟨x,σ,H1,I1,r1,q1⟩)
noncomputable def tIfS (c:TT) (t u:TS):TS:=fun D σ H=>c σ H fun b H1=>if b = true then t D σ H1 else u D σ H1
theorem ps_if {c:Expr} {a b:List Stmt} {tc:TT} (hc:PT X c tc) (ha:PSs X a t) (hb:PSs X b u):PS X (.If c a b pos) (tIfS tc t u):=by
  intro pins s σ H D I h
  refine wpAny_If (thn (hc pins s σ H _ I h) fun d s1 ⟨H1,I1,q1⟩=>?_)
  cases d with
  | true=>exact ha pins s1 σ H1 D I1 q1
  | false=>exact hb pins s1 σ H1 D I1 q1
noncomputable def tNever:TS:=fun _ _ _=>False
theorem pss_never {sts:List Stmt}:PSs X sts tNever:=fun _ _ _ _ _ _ h=>h.elim
end

abbrev TG:=V -> St -> Hp -> (St -> Hp -> Prop) -> Prop
abbrev TGs:=List V -> St -> Hp -> (St -> Hp -> Prop) -> Prop
noncomputable def PG (X:Cx) (target:Expr) (t:TG):Prop :=
  ∀ (pins:List (Addr × Obj)) (s:Shared) (σ:St) (H:Hp) (v:V) (u:Value) (Q:St -> Hp -> Prop),Inv X pins σ H s -> RelV v u -> t v σ H Q ->
    wpAny (model X.prog X.w) X.A (assign target X.env u) (fun _ s'=>∃ σ' H',Inv X pins σ' H' s' /\ Q σ' H') X.xe s
noncomputable def PGs (X:Cx) (ts:List Expr) (t:TGs):Prop :=
  ∀ (pins:List (Addr × Obj)) (s:Shared) (σ:St) (H:Hp) (vs:List V) (us:List Value) (Q:St -> Hp -> Prop),Inv X pins σ H s -> Vals vs us -> t vs σ H Q ->
    wpAny (model X.prog X.w) X.A (assignInOrder ((assignEach ts X.env).map (·.2)) us) (fun _ s'=>∃ σ' H',Inv X pins σ' H' s' /\ Q σ' H') X.xe s
abbrev TIp:=V -> V -> Hp -> VK -> Prop
noncomputable def PIp (X:Cx) (op:Operator) (t:TIp):Prop :=
  ∀ (pins:List (Addr × Obj)) (s:Shared) (σ:St) (H:Hp) (x y:V) (v u:Value) (Q:VK),Inv X pins σ H s -> RelV x v -> RelV y u -> t x y H Q ->
    wpAny (model X.prog X.w) X.A (inplaceOp op v u) (EP X pins σ Q) X.xe s
section
variable {X:Cx} {pos:Pos}
noncomputable def gName (i:Nat):TG:=fun v σ H Q=>Q (σ.set i (some v)) H
theorem pg_name {i:Nat} {x:Str} (hN:X.N.Nodup) (hi:X.N[i]? = some x) (hx:Loc X.env.scope x) (hf:X.fn x = true \/ X.env.scope.names.lookup x = some .local:=by first | exact .inl rfl | exact .inr rfl | assumption):PG X (.Name x pos) (gName i):=by
  intro pins s σ H v u Q I r h
  exact wpAny_assign_Name (store_ok I hN hi hx r (fun s' I'=>⟨_,H,I',h⟩) hf)
noncomputable def gNil:TGs:=fun vs σ H Q=>vs = [] /\ Q σ H
noncomputable def gCons (t:TG) (u:TGs):TGs:=fun vs σ H Q=>∃ v r,vs = v :: r /\ t v σ H fun σ' H'=>u r σ' H' Q
theorem pgs_nil:PGs X [] gNil:=by
  intro pins s σ H vs us Q I r h
  obtain ⟨e,h⟩:=h
  subst e
  cases r
  exact assignInOrder_nil ⟨σ,H,I,h⟩
theorem pgs_cons {e:Expr} {es:List Expr} {t:TG} {u:TGs} (h1:PG X e t) (h2:PGs X es u)
    (hs:(assignEach (e :: es) X.env).map (·.2) = assign e X.env :: (assignEach es X.env).map (·.2):=by rfl):PGs X (e :: es) (gCons t u):=by
  intro pins s σ H vs us Q I r h
  obtain ⟨v,vr,e1,h⟩:=h
  subst e1
  cases r with
  | cons r rr =>
    rw [hs]
    refine assignInOrder_cons (thn (h1 pins s σ H _ _ _ I r h) fun _ s1 ⟨σ1,H1,I1,q1⟩=>?_)
    exact h2 pins s1 σ1 H1 _ _ Q I1 rr q1
noncomputable def gTup (K:W.Frag) (n:Nat) (t:TGs):TG:=fun v σ H Q=>∃ a xs,v = .ref a /\ SqT K H a xs /\ xs.length = n /\ t xs σ H Q
theorem pg_tup {es:List Expr} {k:Nat} {t:TGs} {n:Nat} (hc:X.calm = true) (h:PGs X es t)
    (hn:(assignEach es X.env).length = n:=by rfl) (hst:(assignEach es X.env).findIdx? (·.1) = none:=by rfl):PG X (.Tuple es k pos) (gTup X.K n t):=by
  intro pins s σ H v u Q I r hw
  obtain ⟨a,xs,e1,hq,hl,hw⟩:=hw
  subst e1
  cases r
  obtain ⟨its,rv,ht,hz⟩:=I.tuple hq
  refine assign_Tuple_tuple (I.ok.hd hc) ht (by simp [hn,<- hl,rv.length]) hst fun h' hx=>?_
  have I1:Inv X pins σ H { s with heap:=h' }:=I.kept (t':=s.toks) fun b o e=>hx b o (Nat.ne_of_lt (Heap.lt_size e)) e
  exact h pins _ σ H xs _ Q I1 (by simpa using rv) hw
noncomputable def tAsg (te:TE) (g:TG):TS:=fun D σ H=>te σ H fun x H1=>g x σ H1 D.nx
theorem ps_asg {tg e:Expr} {te:TE} {g:TG} (he:PE X e te) (hg:PG X tg g) (hs:swapsWithSole [tg] e pos.line X.env = pure false:=by rfl) (hw:swappedStores [tg] e X.env = pure none:=by rfl)
    (h1:(assignEach [tg] X.env).map (·.2) = [assign tg X.env]:=by rfl):PS X (.Assign [tg] e pos) (tAsg te g):=by
  intro pins s σ H D I h
  refine wpAny_Assign_stores (thn (he pins s σ H _ I h) fun v s1 ⟨x,H1,I1,r1,q1⟩=>?_) hs hw
  rw [h1]
  exact thn (hg pins s1 σ H1 x v _ I1 r1 q1) fun _ s2 q=>q
theorem ps_set {i:Nat} {x:Str} {e:Expr} {te:TE} {pos':Pos} (hN:X.N.Nodup) (hi:X.N[i]? = some x) (hx:Loc X.env.scope x) (he:PE X e te) (hs:swapsWith e (some (.Name x pos')) pos.line X.env = pure false:=by rfl) (hf:X.fn x = true \/ X.env.scope.names.lookup x = some .local:=by first | exact .inl rfl | exact .inr rfl | assumption) :
    PS X (.Assign [.Name x pos'] e pos) (tAsg te (gName i)):=by
  intro pins s σ H D I h
  refine wpAny_Assign_Name (thn (he pins s σ H _ I h) fun v s1 ⟨y,H1,I1,r1,q1⟩=>?_) hs
  exact store_ok I1 hN hi hx r1 (fun s2 I2=>⟨_,H1,I2,q1⟩) hf
noncomputable def tPar (i j:Nat) (ta:TA):TS:=fun D σ H=>ta σ H fun vs H1=>∃ v w,vs = [v,w] /\ D.nx ((σ.set i (some v)).set j (some w)) H1
theorem ps_par {i j:Nat} {x y:Str} {a b:Expr} {ta:TA} {px py pt:Pos} {kt k2 pt2} (hc:X.calm = true) (hN:X.N.Nodup) (hi:X.N[i]? = some x) (hj:X.N[j]? = some y) (hij:i ≠ j)
    (hx:X.env.scope.names.lookup x = some .local) (hy:X.env.scope.names.lookup y = some .local) (ha:PA X [a,b] ta)
    (hw:swappedStores [.Tuple [.Name x px,.Name y py] kt pt] (.Tuple [a,b] k2 pt2) X.env = pure (some [x,y]))
    (hs:swapsWithSole [.Tuple [.Name x px,.Name y py] kt pt] (.Tuple [a,b] k2 pt2) pos.line X.env = pure false:=by rfl) :
    PS X (.Assign [.Tuple [.Name x px,.Name y py] kt pt] (.Tuple [a,b] k2 pt2) pos) (tPar i j ta):=by
  intro pins s σ H D I h
  rw [exec_Assign_arm]
  refine wpAny_bind (wpAny_standAt ?_)
  rw [hs]
  refine wpAny_bind (wpAny_pure ?_)
  rw [if_neg (by decide)]
  refine wpAny_bind (Tuple_ (thn (ha _ pins s σ H _ I h) fun us s1 ⟨vs,H1,I1,r1,q1⟩=>?_))
  obtain ⟨v,w,e1,q1⟩:=q1
  subst e1
  obtain ⟨u1,u2,rfl,rv,rw'⟩:∃ u1 u2,us = [u1,u2] /\ RelV v u1 /\ RelV w u2:=by
    cases r1 with
    | cons p q =>
      cases q with
      | cons p' q' =>
        cases q'
        exact ⟨_,_,rfl,p,p'⟩
  refine wpAny_newObj_type ?_ (by show 2 <= sizeLine; decide)
  have I2:Inv X pins σ H1 { s1 with heap:=s1.heap.push { cls:=.type "tuple", data:=.seq [u1,u2].toArray } }:=I1.kept (t':=s1.toks) fun b o e=>Heap.get?_push_of_some _ e
  rw [hw]
  refine wpAny_bind (wpAny_pure ?_)
  show wpAny (model X.prog X.w) X.A (do rule "assign.swapped-stores"; let items <- unpackItems (.ref s1.heap.objs.size) 2 none; assignInOrder [fun v=>bindName X.env y v,fun v=>bindName X.env x v] items.reverse; pure Flow.next) _ _ _
  refine wpAny_bind (wpAny_rule (wpAny_bind (unpackItems_tuple (items:=#[u1,u2]) (I.ok.hd hc) (IsTup.new s1.heap _) fun h' hx'=>?_)))
  have I3:=I2.kept (h':=h') (t':=s1.toks) fun b o e=>hx' b o (Nat.ne_of_lt (Heap.lt_size e)) e
  show wpAny _ _ (assignInOrder [fun v=>bindName X.env y v,fun v=>bindName X.env x v] [u2,u1] >>= fun _=>pure Flow.next) _ _ _
  refine wpAny_bind (assignInOrder_cons (wpAny_bindName (store_ok I3 hN hj (.inl hy) rw' (fun s2 I4=>?_) (.inr hy))))
  refine assignInOrder_cons (wpAny_bindName (store_ok I4 hN hi (.inl hx) rv (fun s3 I5=>assignInOrder_nil (wpAny_pure ?_)) (.inr hx)))
  rw [List.set_comm _ _ (Ne.symm hij)] at I5
  exact ⟨_,H1,I5,q1⟩
noncomputable def tAug (i:Nat) (te:TE) (ti:TIp):TS:=fun D σ H=>∃ x,σ[i]? = some (some x) /\ te σ H fun y H1=>ti x y H1 fun z H2=>D.nx (σ.set i (some z)) H2
theorem ps_aug {i:Nat} {x:Str} {e:Expr} {te:TE} {op:Operator} {ti:TIp} {pos':Pos} (hN:X.N.Nodup) (hi:X.N[i]? = some x) (hx:Loc X.env.scope x) (he:PE X e te) (ho:PIp X op ti) (hf:X.fn x = true \/ X.env.scope.names.lookup x = some .local:=by first | exact .inl rfl | exact .inr rfl | assumption) :
    PS X (.AugAssign (.Name x pos') op e pos) (tAug i te ti):=by
  intro pins s σ H D I h
  obtain ⟨v,e1,h⟩:=h
  obtain ⟨m,hn,hl⟩:=I.loc
  have vis:Vis X.env.scope x:=by rcases hx with k | k; exact .inl k; exact .inr (.inl k)
  obtain ⟨u,r,l⟩:=hl i x v hi e1 vis
  refine wpAny_AugAssign_Name ?_
  have go:wpAny (model X.prog X.w) X.A (eval e X.env) (fun w s₂=>wpAny (model X.prog X.w) X.A (inplaceOp op u w) (fun r s₃=>wpAny (model X.prog X.w) X.A (storeName X.env x r) (fun _=>SP X pins D .next) X.xe s₃) X.xe s₂) X.xe s:=by
    refine thn (he pins s σ H _ I h) fun w s1 ⟨y,H1,I1,r1,q1⟩=>?_
    refine thn (ho pins s1 σ H1 v y u w _ I1 r r1 q1) fun z s2 ⟨zv,H2,I2,r2,q2⟩=>?_
    exact store_ok I2 hN hi hx r2 (fun s3 I3=>⟨_,H2,I3,q2⟩) hf
  rcases l with ⟨hk,hm⟩ | ⟨hk,c,hc,hcell⟩
  · exact wpAny_loadName_local I.ok.kind hk hn hm go
  · rcases hk with hk | hk
    · exact wpAny_loadName_cell I.ok.kind hk hc hcell go
    · rcases hx with k | k
      · have:X.env.scope.names.lookup x = some .free:=hk
        rw [k] at this; cases this
      · have:X.env.scope.names.lookup x = some .free:=hk
        rw [k] at this; cases this
end

section
variable {X:Cx} {pos:Pos}
noncomputable def tWhile (c:TT) (tb:TS):TS:=fun D σ H=>∃ W:Nat -> St -> Hp -> Prop,(∃ m,W m σ H) /\ ∀ m σ H,W m σ H ->
  c σ H fun b H1=>if b = true then ∃ N:St -> Hp -> Prop,(∀ σ' H',N σ' H' -> ∃ m',m' < m /\ W m' σ' H') /\ tb { D with nx:=N,ct:=N,bk:=D.nx } σ H1 else D.nx σ H1
theorem ps_while {c:Expr} {body:List Stmt} {tc:TT} {tb:TS} (hp:PassesOwn (model X.prog X.w) X.A X.env X.xe) (hc:PT X c tc) (hb:PSs X body tb):PS X (.While c body [] pos) (tWhile tc tb):=by
  intro pins s σ H D I h
  obtain ⟨W,⟨m0,w0⟩,turn⟩:=h
  refine wpAny_While (codeAny_whileLoop (fun n s'=>∃ σ' H',Inv X pins σ' H' s' /\ W n σ' H') ?_ m0 ⟨σ,H,I,w0⟩)
  rintro n s1 ⟨σ1,H1,I1,w1⟩
  refine wpAny_passesOwn hp (thn (hc pins s1 σ1 H1 _ I1 (turn n σ1 H1 w1)) fun b s2 ⟨H2,I2,q2⟩=>?_)
  cases b with
  | true =>
    obtain ⟨N,hN,q2⟩:=q2
    rw [if_pos rfl]
    refine wpAny_passesOwn hp (thn (hb pins s2 σ1 H2 _ I2 q2) fun f s3 q3=>?_)
    cases f with
    | next =>
      obtain ⟨σ3,H3,I3,n3⟩:=q3
      obtain ⟨m',hm,w3⟩:=hN σ3 H3 n3
      exact ⟨m',hm,σ3,H3,I3,w3⟩
    | cont =>
      obtain ⟨σ3,H3,I3,n3⟩:=q3
      obtain ⟨m',hm,w3⟩:=hN σ3 H3 n3
      exact ⟨m',hm,σ3,H3,I3,w3⟩
    | brk=>exact q3
    | ret v=>exact q3
  | false =>
    rw [if_neg Bool.false_ne_true]
    exact wpAny_execs_nil ⟨σ1,H2,I2,q2⟩
end

structure It where
  go:Nat -> Hp -> Prop
  yld:Nat -> Hp -> V -> Hp -> Prop
  stop:Nat -> Hp -> Prop
noncomputable def FpOk (X:Cx) (pins:List (Addr × Obj)) (H:Hp) (b:Addr):Prop :=
  H b = none /\ b ≠ X.env.locals /\ b ∉ X.fs /\ (b ∈ X.ex \/ X.s₀.heap.objs.size <= b) /\ (∀ x c,X.env.cells.lookup x = some c -> c ≠ b) /\ ∀ p ∈ X.pn ++ pins,p.1 ≠ b
theorem Inv.fpOk {X:Cx} {pins:List (Addr × Obj)} {σ:St} {H H':Hp} {s:Shared} {b:Addr} (I:Inv X pins σ H s) (hb:s.heap.objs.size <= b) (hn:H' b = none):FpOk X pins H' b:=by
  refine ⟨hn,Nat.ne_of_gt (Nat.lt_of_lt_of_le I.lt hb),I.nofs hb,.inr (Nat.le_trans I.sz hb),fun x c e z=>?_,fun p hp z=>?_⟩
  · obtain ⟨v,q⟩:=I.cell x c e
    exact absurd (Nat.lt_of_lt_of_le q.lt (by rw [z]; exact hb)) (Nat.lt_irrefl _)
  · exact absurd (Nat.lt_of_lt_of_le (Heap.lt_size (I.pin p hp).1) (by rw [z]; exact hb)) (Nat.lt_irrefl _)
structure Turn (P:Program) (w:World) (K:W.Frag) (tg:Expr) (J:It) (fp:List Addr) (it:Addr) (tn:Nat -> Heap -> Prop):Prop where
  mem:it ∈ fp
  obj:∀ i h,tn i h -> ∀ b ∈ fp,∃ o,h.get? b = some o /\ ∀ v,o.data ≠ .cell v
  keep:∀ i h h',tn i h -> (∀ b ∈ fp,∀ o,h.get? b = some o -> h'.get? b = some o) -> tn i h'
  item:∀ (X:Cx),X.prog = P -> X.w = w -> X.K = K -> X.calm = true -> ∀ (i:Nat) (pins:List (Addr × Obj)) (s:Shared) (σ:St) (H:Hp) (E:Value -> Shared -> Prop),Inv X pins σ H s -> (∀ b ∈ fp,FpOk X pins H b) -> tn i s.heap -> J.go i H ->
    wpAny (model P w) X.A (pyNext (.ref it)) (fun r s1=>∃ u,r = some u /\
      wpAny (model P w) X.A (letOwnedTupleGo tg (.ref it) u) (fun _ s2=>∃ x H',Inv X pins σ H' s2 /\ RelV x u /\ J.yld i H x H' /\ tn (i + 1) s2.heap /\ ∀ b ∈ fp,H' b = none) E s1) E s
  done:∀ (X:Cx),X.prog = P -> X.w = w -> X.K = K -> X.calm = true -> ∀ (i:Nat) (pins:List (Addr × Obj)) (s:Shared) (σ:St) (H:Hp) (E:Value -> Shared -> Prop),Inv X pins σ H s -> (∀ b ∈ fp,FpOk X pins H b) -> tn i s.heap -> J.stop i H ->
    wpAny (model P w) X.A (pyNext (.ref it)) (fun r s1=>r = none /\ Inv X pins σ H s1) E s
  self:∀ (A:Around) (i:Nat) (s:Shared) (Q:Value -> Shared -> Prop) (E:Value -> Shared -> Prop),tn i s.heap -> Q (.ref it) s -> wpAny (model P w) A (pyIter (.ref it)) Q E s
abbrev TI:=St -> Hp -> (It -> Hp -> Prop) -> Prop
noncomputable def PIE (X:Cx) (pins:List (Addr × Obj)) (σ:St) (tg:Expr) (R:It -> Hp -> Prop) (itv:Value) (s2:Shared):Prop :=
  ∃ (it:Addr) (fp:List Addr) (tn:Nat -> Heap -> Prop) (J:It) (H':Hp),itv = .ref it /\ Inv X pins σ H' s2 /\ Turn X.prog X.w X.K tg J fp it tn /\ tn 0 s2.heap /\ (∀ b ∈ fp,FpOk X pins H' b) /\ R J H'
noncomputable def PI (X:Cx) (tg iter:Expr) (wi:TI):Prop :=
  ∀ (pins:List (Addr × Obj)) (s:Shared) (σ:St) (H:Hp) (R:It -> Hp -> Prop),Inv X pins σ H s -> wi σ H R ->
    wpAny (model X.prog X.w) X.A (eval iter X.env) (fun v s1=>wpAny (model X.prog X.w) X.A (pyIter v) (PIE X pins σ tg R) X.xe s1) X.xe s

theorem go_of {M:Model} {A:Around} {E:Value -> Shared -> Prop} {s:Shared} {tg:Expr} {it:Addr} {u:Value} {o:Obj} {n:String} {vs:Array Value} {Q:Unit -> Shared -> Prop} (ho:s.heap.get? it = some o) (hc:o.cls = .type n) (hd:o.data = .fields vs)
    (hn:["enumerate", "zip", "dict_itemiterator", "dict_reverseitemiterator", "odict_iterator", "itertools.zip_longest", "itertools.pairwise"].contains n = false) (hQ:Q () s):wpAny M A (letOwnedTupleGo tg (.ref it) u) Q E s:=by
  unfold letOwnedTupleGo
  cases tg <;> first
    | exact wpAny_pure hQ
    | (cases u <;> first
        | exact wpAny_pure hQ
        | (refine wpAny_bind (wpAny_load ho ?_)
           rw [hc,hd]
           show wpAny M A (if (["enumerate", "zip", "dict_itemiterator", "dict_reverseitemiterator", "odict_iterator", "itertools.zip_longest", "itertools.pairwise"].contains n && vs[0]? == some (rawInt _)) = true then _ else _) Q E s
           rw [if_neg (by intro h; rw [hn,Bool.false_and] at h; cases h)]
           exact wpAny_pure hQ))

noncomputable def Itl (K:W.Frag) (a:Addr):It :=
  ⟨fun i H=>∃ xs x,SqL K H a xs /\ xs[i]? = some x,fun i H x H'=>H' = H /\ ∀ xs,SqL K H a xs -> xs[i]? = some x,fun i H=>∃ xs,SqL K H a xs /\ xs.length <= i⟩
noncomputable def Itt (K:W.Frag) (a:Addr):It :=
  ⟨fun i H=>∃ xs x,SqT K H a xs /\ xs[i]? = some x,fun i H x H'=>H' = H /\ ∀ xs,SqT K H a xs -> xs[i]? = some x,fun i H=>∃ xs,SqT K H a xs /\ xs.length <= i⟩
noncomputable def Itr (lo:Int) (n:Nat):It:=⟨fun i _=>i < n,fun i H x H'=>H' = H /\ x = .int (lo + i),fun i _=>n <= i⟩
theorem turn_list {P:Program} {w:World} {K:W.Frag} {tg:Expr} (a it:Addr):Turn P w K tg (Itl K a) [it] it (fun i h=>h.IsListIter it a i) where
  mem:=by simp
  obj:=fun i h st b hb=>by
    have e:b = it:=by simpa using hb
    subst e
    obtain ⟨o,e,c,d⟩:=st
    exact ⟨o,e,fun v z=>by rw [d] at z; cases z⟩
  keep:=fun i h h' st k=>st.at fun o e=>k it (by simp) o e
  item:=by
    intro X hP hw hK hc i pins s σ H E I hf st hg
    subst hP hw hK
    obtain ⟨xs,x,hq,hx⟩:=hg
    obtain ⟨its,rv,p,hz⟩:=I.list hq
    obtain ⟨u,hu,ru⟩:=rv.get hx
    obtain ⟨f0,f1,f2,f3,f4,f5⟩:=hf it (by simp)
    refine wpAny_pyNext_list_item st p.isList (x:=u) (by simpa using hu) fun h' st' sb=>?_
    have I1:Inv X pins σ H { s with heap:=h' }:=I.turned (t':=s.toks) (fun b o hb e=>(sb.2 b hb).trans e) f0 f1 f3 f4 f5
    obtain ⟨o,e,c,d⟩:=id st'
    exact ⟨u,rfl,go_of (s:={ s with heap:=h' }) e c d (by decide) ⟨x,H,I1,ru,⟨rfl,fun ys hy=>by rw [I.list_inj hy hq]; exact hx⟩,st',fun b hb=>(hf b hb).1⟩⟩
  done:=by
    intro X hP hw hK hc i pins s σ H E I hf st hg
    subst hP hw hK
    obtain ⟨xs,hq,hx⟩:=hg
    obtain ⟨its,rv,p,hz⟩:=I.list hq
    obtain ⟨f0,f1,f2,f3,f4,f5⟩:=hf it (by simp)
    have hl:=rv.length
    exact wpAny_pyNext_list_end (I.ok.hd hc) st p.isList (by simp; omega) fun h' eb=>⟨rfl,I.turned (t':=s.toks) (fun b o hb e=>eb b o hb e) f0 f1 f3 f4 f5⟩
  self:=fun _ _ _ _ _ st h=>wpAny_pyIter_listiter st h
theorem turn_tuple {P:Program} {w:World} {K:W.Frag} {tg:Expr} (a it:Addr):Turn P w K tg (Itt K a) [it] it (fun i h=>h.IsTupleIter it a i) where
  mem:=by simp
  obj:=fun i h st b hb=>by
    have e:b = it:=by simpa using hb
    subst e
    obtain ⟨o,e,c,d⟩:=st
    exact ⟨o,e,fun v z=>by rw [d] at z; cases z⟩
  keep:=fun i h h' st k=>st.at fun o e=>k it (by simp) o e
  item:=by
    intro X hP hw hK hc i pins s σ H E I hf st hg
    subst hP hw hK
    obtain ⟨xs,x,hq,hx⟩:=hg
    obtain ⟨its,rv,p,hz⟩:=I.tuple hq
    obtain ⟨u,hu,ru⟩:=rv.get hx
    obtain ⟨f0,f1,f2,f3,f4,f5⟩:=hf it (by simp)
    refine wpAny_pyNext_tuple_item st (show s.heap.IsTuple a its.toArray from p) (x:=u) (by simpa using hu) fun h' st' sb=>?_
    have I1:Inv X pins σ H { s with heap:=h' }:=I.turned (t':=s.toks) (fun b o hb e=>(sb.2 b hb).trans e) f0 f1 f3 f4 f5
    obtain ⟨o,e,c,d⟩:=id st'
    exact ⟨u,rfl,go_of (s:={ s with heap:=h' }) e c d (by decide) ⟨x,H,I1,ru,⟨rfl,fun ys hy=>by rw [I.tuple_inj hy hq]; exact hx⟩,st',fun b hb=>(hf b hb).1⟩⟩
  done:=by
    intro X hP hw hK hc i pins s σ H E I hf st hg
    subst hP hw hK
    obtain ⟨xs,hq,hx⟩:=hg
    obtain ⟨its,rv,p,hz⟩:=I.tuple hq
    obtain ⟨f0,f1,f2,f3,f4,f5⟩:=hf it (by simp)
    have hl:=rv.length
    exact wpAny_pyNext_tuple_end (I.ok.hd hc) st (show s.heap.IsTuple a its.toArray from p) (by simp; omega) fun h' eb=>⟨rfl,I.turned (t':=s.toks) (fun b o hb e=>eb b o hb e) f0 f1 f3 f4 f5⟩
  self:=fun _ _ _ _ _ st h=>wpAny_pyIter_tupleiter st h
theorem turn_range {P:Program} {w:World} {K:W.Frag} {tg:Expr} (it:Addr) (lo:Int) (n:Nat):Turn P w K tg (Itr lo n) [it] it (fun i h=>IsRangeIter h it (lo + (i:Nat) * 1) ((n:Int) - (i:Nat)) 1) where
  mem:=by simp
  obj:=fun i h st b hb=>by
    have e:b = it:=by simpa using hb
    subst e
    exact ⟨_,st,fun v z=>by
      have z':Data.fields _ = Data.cell v:=z
      cases z'⟩
  keep:=fun i h h' st k=>k it (by simp) _ st
  item:=by
    intro X hP hw hK hc i pins s σ H E I hf st hg
    subst hP hw hK
    obtain ⟨f0,f1,f2,f3,f4,f5⟩:=hf it (by simp)
    have W:=Walks.range (prog:=X.prog) (w:=X.w) (I.ok.hd hc) it lo 1 n
    refine W.item i s _ _ hg st fun v h' tk hv st' kk=>?_
    obtain ⟨t,rfl⟩:=hv
    have I1:Inv X pins σ H { s with heap:=h',toks:=tk }:=I.turned (fun b o hb e=>kk b o (by simpa using hb) e) f0 f1 f3 f4 f5
    refine ⟨_,rfl,go_of (s:={ s with heap:=h',toks:=tk }) (n := "range_iterator") st' rfl rfl (by decide) ⟨.int (lo + i),H,I1,⟨t,?_⟩,⟨rfl,rfl⟩,st',fun b hb=>(hf b hb).1⟩⟩
    rw [Int.mul_one]
  done:=by
    intro X hP hw hK hc i pins s σ H E I hf st hg
    subst hP hw hK
    obtain ⟨f0,f1,f2,f3,f4,f5⟩:=hf it (by simp)
    exact wpAny_pyNext_range_end (I.ok.hd hc) st (by have:n <= i:=hg; omega) fun h' eb=>⟨rfl,I.turned (t':=s.toks) (fun b o hb e=>eb b o hb e) f0 f1 f3 f4 f5⟩
  self:=fun _ _ _ _ _ st h=>wpAny_pyIter_rangeiter st h
end L2

namespace L2
open PySem PySem.Spec PyProof.Rows
section
variable {X:Cx} {tg:Expr}
noncomputable def iList (K:W.Frag) (tl:TE):TI:=fun σ H R=>tl σ H fun x H1=>∃ a,x = .ref a /\ (∃ xs,SqL K H1 a xs) /\ R (Itl K a) H1
noncomputable def iTup (K:W.Frag) (tl:TE):TI:=fun σ H R=>tl σ H fun x H1=>∃ a,x = .ref a /\ (∃ xs,SqT K H1 a xs) /\ R (Itt K a) H1
theorem pi_list {l:Expr} {tl:TE} (hl:PE X l tl):PI X tg l (iList X.K tl):=by
  intro pins s σ H R I h
  refine thn (hl pins s σ H _ I h) fun v s1 ⟨x,H1,I1,r1,q1⟩=>?_
  obtain ⟨a,e,⟨xs,hq⟩,q⟩:=q1
  subst e
  cases r1
  obtain ⟨its,rv,p,hz⟩:=I1.list hq
  refine wpAny_pyIter_list p.isList ?_
  refine ⟨s1.heap.objs.size,[s1.heap.objs.size],_,_,H1,rfl,I1.kept (t':=s1.toks) fun b o e=>Heap.get?_push_of_some _ e,turn_list a _,⟨_,Heap.get?_push_size _ rfl,rfl,rfl⟩,fun b hb=>?_,q⟩
  have e:b = s1.heap.objs.size:=by simpa using hb
  subst e
  exact I1.fpOk (Nat.le_refl _) (I1.hok.fresh (Nat.le_refl _))
theorem pi_tup {l:Expr} {tl:TE} (hl:PE X l tl):PI X tg l (iTup X.K tl):=by
  intro pins s σ H R I h
  refine thn (hl pins s σ H _ I h) fun v s1 ⟨x,H1,I1,r1,q1⟩=>?_
  obtain ⟨a,e,⟨xs,hq⟩,q⟩:=q1
  subst e
  cases r1
  obtain ⟨its,rv,p,hz⟩:=I1.tuple hq
  refine wpAny_pyIter_tuple (show s1.heap.IsTuple a its.toArray from p) ?_
  refine ⟨s1.heap.objs.size,[s1.heap.objs.size],_,_,H1,rfl,I1.kept (t':=s1.toks) fun b o e=>Heap.get?_push_of_some _ e,turn_tuple a _,⟨_,Heap.get?_push_size _ rfl,rfl,rfl⟩,fun b hb=>?_,q⟩
  have e:b = s1.heap.objs.size:=by simpa using hb
  subst e
  exact I1.fpOk (Nat.le_refl _) (I1.hok.fresh (Nat.le_refl _))
theorem range_it {pins:List (Addr × Obj)} {σ:St} {H:Hp} {s:Shared} {R:It -> Hp -> Prop} {E:Value -> Shared -> Prop} {lo hi:Int} {t u v:Tok} {tk:Nat} (I:Inv X pins σ H s) (h1 : -(2 ^ 62) <= lo) (h2:lo < 2 ^ 62) (h3 : -(2 ^ 62) <= hi) (h4:hi < 2 ^ 62)
    (q:R (Itr lo (hi - lo).toNat) H):wpAny (model X.prog X.w) X.A (pyIter (.ref s.heap.objs.size)) (PIE X pins σ tg R) E { s with heap:=s.heap.push { cls:=.type "range", data:=.fields #[.int lo t,.int hi u,.int 1 v] },toks:=tk }:=by
  refine wpAny_pyIter_range (IsRange.new ..) (small_one h1 h2 h3 h4) ?_
  have I1:Inv X pins σ H { s with heap:=s.heap.push { cls:=.type "range", data:=.fields #[.int lo t,.int hi u,.int 1 v] },toks:=tk }:=I.kept fun b o e=>Heap.get?_push_of_some _ e
  refine ⟨(s.heap.push { cls:=.type "range", data:=.fields #[.int lo t,.int hi u,.int 1 v] }).objs.size,[(s.heap.push { cls:=.type "range", data:=.fields #[.int lo t,.int hi u,.int 1 v] }).objs.size],_,_,H,rfl,
    I1.kept (t':=tk) fun b o e=>Heap.get?_push_of_some _ e,turn_range _ lo (hi - lo).toNat,?_,fun b hb=>?_,q⟩
  · have e1:lo + ((0:Nat):Int) * 1 = lo:=by simp
    have e2:(((hi - lo).toNat:Nat):Int) - ((0:Nat):Int) = Builtin.Range.rangeSize lo hi 1:=by rw [rangeSize_one]; split <;> omega
    show IsRangeIter _ _ (lo + ((0:Nat):Int) * 1) ((((hi - lo).toNat:Nat):Int) - ((0:Nat):Int)) 1
    rw [e1,e2]
    exact Heap.get?_push_size _ rfl
  · have e:b = (s.heap.push { cls:=.type "range", data:=.fields #[.int lo t,.int hi u,.int 1 v] }).objs.size:=by simpa using hb
    subst e
    exact I1.fpOk (Nat.le_refl _) (I1.hok.fresh (Nat.le_refl _))
noncomputable def iRng1 (ta:TA):TI:=fun σ H R=>ta σ H fun vs H1=>∃ j:Int,vs = [.int j] /\ -(2 ^ 62) <= j /\ j < 2 ^ 62 /\ R (Itr 0 j.toNat) H1
theorem pi_range1 {a:Expr} {ta:TA} {p pos:Pos} (hg:Gl X "range") (hm:X.mg "range" = none) (ha:PA X [a] ta) (hs:starEach [a] X.env = [(false,eval a X.env)]:=by rfl):PI X tg (.Call (.Name "range" p) [a] [] pos) (iRng1 ta):=by
  intro pins s σ H R I h
  refine Call_ (ld_blt I hg hm boot_range (PyProof.Rows.callWith_type1 (thn (ha pos pins s σ H _ I h) fun us s1 ⟨vs,H1,I1,r1,q1⟩=>?_) hs rfl))
  obtain ⟨j,e,q1,q2,q⟩:=q1
  subst e
  cases r1 with
  | cons r rr =>
    cases rr
    obtain ⟨t,rfl⟩:=r
    exact call_range_1 (range_it I1 (by omega) (by omega) q1 q2 (by simpa using q))
noncomputable def tFor (wi:TI) (g:TG) (tb:TS):TS:=fun D σ H=>wi σ H fun J H1=>∃ W:Nat -> Nat -> St -> Hp -> Prop,(∃ m,W 0 m σ H1) /\ ∀ i m σ H,W i m σ H ->
  (J.stop i H /\ D.nx σ H) \/ (J.go i H /\ ∃ N:St -> Hp -> Prop,(∀ σ' H',N σ' H' -> ∃ m',m' < m /\ W (i + 1) m' σ' H') /\ ∀ x H',J.yld i H x H' -> g x σ H' fun σ2 H2=>tb { D with nx:=N,ct:=N,bk:=D.nx } σ2 H2)
noncomputable def pinsAt (fp:List Addr) (h:Heap):List (Addr × Obj):=fp.filterMap fun b=>(h.get? b).map fun o=>(b,o)
theorem mem_pinsAt {fp:List Addr} {h:Heap} {b:Addr} {o:Obj} (hb:b ∈ fp) (e:h.get? b = some o):(b,o) ∈ pinsAt fp h:=List.mem_filterMap.mpr ⟨b,hb,by rw [e]; rfl⟩
theorem of_pinsAt {fp:List Addr} {h:Heap} {p:Addr × Obj} (hp:p ∈ pinsAt fp h):p.1 ∈ fp /\ h.get? p.1 = some p.2:=by
  obtain ⟨b,hb,e⟩:=List.mem_filterMap.mp hp
  cases q:h.get? b with
  | none=>rw [q] at e; cases e
  | some o =>
    rw [q] at e
    have e':(b,o) = p:=Option.some.inj e
    subst e'
    exact ⟨hb,q⟩
theorem Inv.pinned {pins:List (Addr × Obj)} {σ:St} {H:Hp} {s:Shared} {fp:List Addr} (I:Inv X pins σ H s) (hf:∀ b ∈ fp,FpOk X pins H b) (ho:∀ b ∈ fp,∃ o,s.heap.get? b = some o /\ ∀ v,o.data ≠ .cell v):Inv X (pins ++ pinsAt fp s.heap) σ H s :=
  I.pins_of fun p hp=>(List.mem_append.mp hp).elim (fun z=>I.pin p (List.mem_append_right _ z)) fun z=>by
    obtain ⟨hb,e⟩:=of_pinsAt z
    obtain ⟨f0,f1,f2,_⟩:=hf p.1 hb
    obtain ⟨o,e',d⟩:=ho p.1 hb
    rw [e] at e'; cases e'
    exact ⟨e,f0,f1,f2,d⟩
theorem Inv.unpinned {pins pl:List (Addr × Obj)} {σ:St} {H:Hp} {s:Shared} (I:Inv X (pins ++ pl) σ H s):Inv X pins σ H s:=I.pins_of fun p hp=>I.pin p (List.mem_append_right _ (List.mem_append_left _ hp))
theorem ps_for {iter:Expr} {body:List Stmt} {wi:TI} {g:TG} {tb:TS} {pos:Pos} (hp:PassesOwn (model X.prog X.w) X.A X.env X.xe) (hc:X.calm = true) (hi:PI X tg iter wi) (hg:PG X tg g) (hb:PSs X body tb)
    (hs:∀ x,foldedSetIterable iter X.env x = pure x:=by intro _; rfl):PS X (.For tg iter body [] pos) (tFor wi g tb):=by
  intro pins s σ H D I h
  refine wpAny_For (thn (hi pins s σ H _ I h) fun v s1 h1=>thn h1 fun itv s2 h2=>?_) hs
  obtain ⟨it,fp,tn,J,H2,e,I2,T,st2,f2,W,⟨m0,w0⟩,turn⟩:=h2
  subst e
  have stat:∀ {H':Hp},(∀ b ∈ fp,H' b = none) -> ∀ b ∈ fp,FpOk X pins H' b:=fun hn b hb=>⟨hn b hb,(f2 b hb).2⟩
  refine codeAny_forLoop_any (fun n s'=>∃ i σ' H',Inv X pins σ' H' s' /\ tn i s'.heap /\ (∀ b ∈ fp,H' b = none) /\ W i n σ' H') ?_ m0 ⟨0,σ,H2,I2,st2,fun b hb=>(f2 b hb).1,w0⟩
  rintro n s3 ⟨i,σ3,H3,I3,st3,fr3,w3⟩
  rcases turn i n σ3 H3 w3 with ⟨stop,qn⟩ | ⟨go,N,hN,step⟩
  · refine wpAny_passesOwn hp (thn (T.done X rfl rfl rfl hc i pins s3 σ3 H3 X.xe I3 (stat fr3) st3 stop) fun r s4 ⟨hr,I4⟩=>?_)
    subst hr
    exact wpAny_execs_nil ⟨σ3,H3,I4,qn⟩
  · refine wpAny_passesOwn hp (thn (T.item X rfl rfl rfl hc i pins s3 σ3 H3 X.xe I3 (stat fr3) st3 go) fun r s4 ⟨u,hr,h4⟩=>?_)
    subst hr
    refine wpAny_passesOwn hp (thn h4 fun _ s5 ⟨x,H5,I5,r5,y5,st5,fr5⟩=>?_)
    have I5':=I5.pinned (stat fr5) (T.obj _ _ st5)
    refine wpAny_passesOwn hp (thn (hg _ s5 σ3 H5 x u _ I5' r5 (step x H5 y5)) fun _ s6 ⟨σ6,H6,I6,q6⟩=>?_)
    refine wpAny_passesOwn hp (thn (hb _ s6 σ6 H6 _ I6 q6) fun f s7 q7=>?_)
    have again:∀ {σ7:St} {H7:Hp},Inv X (pins ++ pinsAt fp s5.heap) σ7 H7 s7 -> N σ7 H7 -> ∃ m,m < n /\ ∃ i σ' H',Inv X pins σ' H' s7 /\ tn i s7.heap /\ (∀ b ∈ fp,H' b = none) /\ W i m σ' H':=fun {σ7 H7} I7 n7=>by
      obtain ⟨m',hm,w7⟩:=hN σ7 H7 n7
      refine ⟨m',hm,i + 1,σ7,H7,I7.unpinned,T.keep _ _ _ st5 fun b hb o e=>(I7.pin (b,o) (List.mem_append_right _ (List.mem_append_right _ (mem_pinsAt hb e)))).1,fun b hb=>?_,w7⟩
      obtain ⟨o,e,d⟩:=T.obj _ _ st5 b hb
      exact (I7.pin (b,o) (List.mem_append_right _ (List.mem_append_right _ (mem_pinsAt hb e)))).2.1
    cases f with
    | next=>obtain ⟨σ7,H7,I7,n7⟩:=q7; exact again I7 n7
    | cont=>obtain ⟨σ7,H7,I7,n7⟩:=q7; exact again I7 n7
    | brk=>obtain ⟨σ7,H7,I7,q7⟩:=q7; exact ⟨σ7,H7,I7.unpinned,q7⟩
    | ret v=>obtain ⟨x7,σ7,H7,I7,r7,q7⟩:=q7; exact ⟨x7,σ7,H7,I7.unpinned,r7,q7⟩
end

end L2

namespace L2
open PySem PySem.Spec PyProof.Rows

abbrev R2:=V -> V -> Hp -> VK -> Prop
noncomputable def OpR (X:Cx) (f:Value -> Value -> Sem Value) (r:R2):Prop :=
  ∀ (pins:List (Addr × Obj)) (s:Shared) (σ:St) (H:Hp) (x y:V) (v u:Value) (Q:VK),Inv X pins σ H s -> RelV x v -> RelV y u -> r x y H Q ->
    wpAny (model X.prog X.w) X.A (f v u) (EP X pins σ Q) X.xe s
noncomputable def CallR (X:Cx) (f:Value) (r:List V -> Hp -> VK -> Prop):Prop :=
  ∀ (pins:List (Addr × Obj)) (s:Shared) (σ:St) (H:Hp) (xs:List V) (us:List Value) (Q:VK),Inv X pins σ H s -> Vals xs us -> r xs H Q ->
    wpAny (model X.prog X.w) X.A (call f us) (EP X pins σ Q) X.xe s
noncomputable def tOp (r:R2) (ta tb:TE):TE:=fun σ H Q=>ta σ H fun x H1=>tb σ H1 fun y H2=>r x y H2 Q
noncomputable def rI (C:Int -> Int -> Prop) (g:Int -> Int -> V):R2:=fun x y H Q=>∃ i j,x = .int i /\ y = .int j /\ C i j /\ Q (g i j) H
noncomputable def rI0 (g:Int -> Int -> V):R2:=fun x y H Q=>∃ i j,x = .int i /\ y = .int j /\ Q (g i j) H
section
variable {X:Cx} {a b c:Expr} {ta tb tc:TE} {pos:Pos}

theorem binT (ha:PE X a ta) (hb:PE X b tb) {pins:List (Addr × Obj)} {s:Shared} {σ:St} {H:Hp} {R:V -> V -> Hp -> Prop} (I:Inv X pins σ H s)
    (h:ta σ H fun x H1=>tb σ H1 fun y H2=>R x y H2) {Q:Value -> Shared -> Prop} {f:Value -> Value -> Sem Value}
    (hf:∀ v u s2 x y H2,Inv X pins σ H2 s2 -> RelV x v -> RelV y u -> R x y H2 -> wpAny (model X.prog X.w) X.A (f v u) Q X.xe s2) :
    wpAny (model X.prog X.w) X.A (eval a X.env) (fun v s₁=>wpAny (model X.prog X.w) X.A (eval b X.env) (fun u s₂=>wpAny (model X.prog X.w) X.A (f v u) Q X.xe s₂) X.xe s₁) X.xe s:=by
  refine thn (ha pins s σ H _ I h) fun v s1 ⟨x,H1,I1,r1,q1⟩=>?_
  refine thn (hb pins s1 σ H1 _ I1 q1) fun u s2 ⟨y,H2,I2,r2,q2⟩=>?_
  exact hf v u s2 x y H2 I2 r1 r2 q2

theorem pe_op {op:Operator} {r:R2} (ho:OpR X (binaryOp op) r) (ha:PE X a ta) (hb:PE X b tb):PE X (.BinOp a op b pos) (tOp r ta tb):=by
  intro pins s σ H Q I h
  exact wpAny_BinOp (binT ha hb I h fun v u s2 x y H2 I2 rx ry q=>ho pins s2 σ H2 x y v u Q I2 rx ry q)
theorem opI {f:Value -> Value -> Sem Value} {C:Int -> Int -> Prop} {g:Int -> Int -> Int}
    (rule:∀ (i j:Int) (t u:Tok) (s:Shared) (Q:Value -> Shared -> Prop) (E:Value -> Shared -> Prop),C i j -> Q (.int (g i j) s.toks) { s with toks:=s.toks + 1 } -> wpAny (model X.prog X.w) X.A (f (.int i t) (.int j u)) Q E s) :
    OpR X f (rI C fun i j=>.int (g i j)):=by
  intro pins s σ H x y v u Q I rx ry h
  obtain ⟨i,j,rfl,rfl,hc,q⟩:=h
  obtain ⟨t,rfl⟩:=rx
  obtain ⟨t',rfl⟩:=ry
  exact rule i j t t' s _ _ hc ⟨.int (g i j),H,I.tok _,⟨_,rfl⟩,q⟩
theorem opI0 {f:Value -> Value -> Sem Value} {g:Int -> Int -> Int}
    (rule:∀ (i j:Int) (t u:Tok) (s:Shared) (Q:Value -> Shared -> Prop) (E:Value -> Shared -> Prop),Q (.int (g i j) s.toks) { s with toks:=s.toks + 1 } -> wpAny (model X.prog X.w) X.A (f (.int i t) (.int j u)) Q E s) :
    OpR X f (rI0 fun i j=>.int (g i j)):=by
  intro pins s σ H x y v u Q I rx ry h
  obtain ⟨i,j,rfl,rfl,q⟩:=h
  obtain ⟨t,rfl⟩:=rx
  obtain ⟨t',rfl⟩:=ry
  exact rule i j t t' s _ _ ⟨.int (g i j),H,I.tok _,⟨_,rfl⟩,q⟩
theorem opB0 {f:Value -> Value -> Sem Value} {g:Int -> Int -> Bool}
    (rule:∀ (i j:Int) (t u:Tok) (s:Shared) (Q:Value -> Shared -> Prop) (E:Value -> Shared -> Prop),Q (.bool (g i j)) s -> wpAny (model X.prog X.w) X.A (f (.int i t) (.int j u)) Q E s) :
    OpR X f (rI0 fun i j=>.bl (g i j)):=by
  intro pins s σ H x y v u Q I rx ry h
  obtain ⟨i,j,rfl,rfl,q⟩:=h
  obtain ⟨t,rfl⟩:=rx
  obtain ⟨t',rfl⟩:=ry
  exact rule i j t t' s _ _ ⟨.bl (g i j),H,I,rfl,q⟩

noncomputable def CPow (i j:Int):Prop:=0 <= j /\ j <= 1000000 /\ i.natAbs < 2 ^ 64
theorem op_add:OpR X (binaryOp .Add) (rI0 fun i j=>.int (i + j)):=opI0 fun _ _ _ _ _ _ _ q=>add_int q
theorem op_modN:OpR X (binaryOp .Mod) (rI (fun _ j=>j ≠ 0) fun i j=>.int (i.fmod j)):=opI fun _ _ _ _ _ _ _ hc q=>mod_int' hc q
theorem op_pow:OpR X (binaryOp .Pow) (rI CPow fun i j=>.int (i ^ j.toNat)):=opI fun _ _ _ _ _ _ _ hc q=>pow_int_small hc.1 hc.2.1 hc.2.2 q
end

noncomputable def scal:V -> V -> Bool
  | .non,.non=>true | .non,.int _=>true | .int _,.non=>true | .non,.bl _=>true | .bl _,.non=>true | .non,.str _=>true | .str _,.non=>true
  | .int _,.int _=>true | .bl _,.bl _=>true | .str _,.str _=>true | .byt _,.byt _=>true
  | .int _,.str _=>true | .str _,.int _=>true | .bl _,.str _=>true | .str _,.bl _=>true
  | _,_=>false
noncomputable def rEq:R2:=fun x y H Q=>scal x y = true /\ Q (.bl (decide (x = y))) H
noncomputable def rNe:R2:=fun x y H Q=>scal x y = true /\ Q (.bl (!decide (x = y))) H

theorem dec_int {i j:Int}:decide (V.int i = V.int j) = (i == j):=by
  rw [Bool.eq_iff_iff]
  simp
theorem dec_bl {i j:Bool}:decide (V.bl i = V.bl j) = (i == j):=by
  rw [Bool.eq_iff_iff]
  simp
theorem dec_str {i j:Str}:decide (V.str i = V.str j) = (i == j):=by
  rw [Bool.eq_iff_iff]
  simp
theorem dec_byt {i j:Array UInt8}:decide (V.byt i = V.byt j) = (i.toList == j.toList):=by
  rw [Bool.eq_iff_iff]
  cases i
  cases j
  simp

section
variable {X:Cx} {a b c:Expr} {ta tb tc:TE} {pos:Pos}
theorem fin_bl {pins:List (Addr × Obj)} {σ:St} {H:Hp} {s:Shared} {Q:VK} {k k':Bool} (I:Inv X pins σ H s) (q:Q (.bl k) H) (e:k = k'):EP X pins σ Q (.bool k') s:=by
  subst e
  exact ⟨.bl k,H,I,rfl,q⟩
theorem op_eq:OpR X (compareOp .Eq) rEq:=by
  intro pins s σ H x y v u Q I rx ry h
  obtain ⟨hs,q⟩:=h
  cases x with
  | non =>
    cases rx
    cases y with
    | non=>cases ry; exact PySem.EqNone.eq_none_none (fin_bl I q (by simp))
    | bl j=>cases ry; exact PySem.EqNone.eq_none_bool (fin_bl I q (by simp))
    | int j=>obtain ⟨t',rfl⟩:=ry; exact PySem.EqNone.eq_none_int (fin_bl I q (by simp))
    | str j=>obtain ⟨t',rfl⟩:=ry; exact PySem.EqNone.eq_none_str (fin_bl I q (by simp))
    | _=>exact absurd (show false = true from hs) Bool.false_ne_true
  | bl i =>
    cases rx
    cases y with
    | non=>cases ry; exact PySem.EqNone.eq_bool_none (fin_bl I q (by simp))
    | bl j=>cases ry; exact eq_bool (fin_bl I q dec_bl)
    | str j=>obtain ⟨t',rfl⟩:=ry; exact PySem.EqMixed.eq_bool_str (fin_bl I q (by simp))
    | _=>exact absurd (show false = true from hs) Bool.false_ne_true
  | int i =>
    obtain ⟨t,rfl⟩:=rx
    cases y with
    | non=>cases ry; exact PySem.EqNone.eq_int_none (fin_bl I q (by simp))
    | int j=>obtain ⟨t',rfl⟩:=ry; exact eq_int (fin_bl I q dec_int)
    | str j=>obtain ⟨t',rfl⟩:=ry; exact PySem.EqMixed.eq_int_str (fin_bl I q (by simp))
    | _=>exact absurd (show false = true from hs) Bool.false_ne_true
  | str i =>
    obtain ⟨t,rfl⟩:=rx
    cases y with
    | non=>cases ry; exact PySem.EqNone.eq_str_none (fin_bl I q (by simp))
    | bl j=>cases ry; exact PySem.EqMixed.eq_str_bool (fin_bl I q (by simp))
    | int j=>obtain ⟨t',rfl⟩:=ry; exact PySem.EqMixed.eq_str_int (fin_bl I q (by simp))
    | str j=>obtain ⟨t',rfl⟩:=ry; exact eq_str (fin_bl I q dec_str)
    | _=>exact absurd (show false = true from hs) Bool.false_ne_true
  | byt i =>
    obtain ⟨t,rfl⟩:=rx
    cases y with
    | byt j=>obtain ⟨t',rfl⟩:=ry; exact W.eq_bytes (fin_bl I q dec_byt)
    | _=>exact absurd (show false = true from hs) Bool.false_ne_true
  | _=>cases y <;> exact absurd (show false = true from hs) Bool.false_ne_true
theorem op_ne:OpR X (compareOp .NotEq) rNe:=by
  intro pins s σ H x y v u Q I rx ry h
  obtain ⟨hs,q⟩:=h
  cases x with
  | non =>
    cases rx
    cases y with
    | non=>cases ry; exact PySem.EqNone.ne_none_none (fin_bl I q (by simp))
    | bl j=>cases ry; exact PySem.EqNone.ne_none_bool (fin_bl I q (by simp))
    | int j=>obtain ⟨t',rfl⟩:=ry; exact PySem.EqNone.ne_none_int (fin_bl I q (by simp))
    | str j=>obtain ⟨t',rfl⟩:=ry; exact PySem.EqNone.ne_none_str (fin_bl I q (by simp))
    | _=>exact absurd (show false = true from hs) Bool.false_ne_true
  | bl i =>
    cases rx
    cases y with
    | non=>cases ry; exact PySem.EqNone.ne_bool_none (fin_bl I q (by simp))
    | bl j=>cases ry; exact ne_bool (fin_bl I q (congrArg not dec_bl))
    | str j=>obtain ⟨t',rfl⟩:=ry; exact PySem.EqMixed.ne_bool_str (fin_bl I q (by simp))
    | _=>exact absurd (show false = true from hs) Bool.false_ne_true
  | int i =>
    obtain ⟨t,rfl⟩:=rx
    cases y with
    | non=>cases ry; exact PySem.EqNone.ne_int_none (fin_bl I q (by simp))
    | int j=>obtain ⟨t',rfl⟩:=ry; exact ne_int (fin_bl I q (congrArg not dec_int))
    | str j=>obtain ⟨t',rfl⟩:=ry; exact PySem.EqMixed.ne_int_str (fin_bl I q (by simp))
    | _=>exact absurd (show false = true from hs) Bool.false_ne_true
  | str i =>
    obtain ⟨t,rfl⟩:=rx
    cases y with
    | non=>cases ry; exact PySem.EqNone.ne_str_none (fin_bl I q (by simp))
    | bl j=>cases ry; exact PySem.EqMixed.ne_str_bool (fin_bl I q (by simp))
    | int j=>obtain ⟨t',rfl⟩:=ry; exact PySem.EqMixed.ne_str_int (fin_bl I q (by simp))
    | str j=>obtain ⟨t',rfl⟩:=ry; exact ne_str (fin_bl I q (congrArg not dec_str))
    | _=>exact absurd (show false = true from hs) Bool.false_ne_true
  | byt i =>
    obtain ⟨t,rfl⟩:=rx
    cases y with
    | byt j=>obtain ⟨t',rfl⟩:=ry; exact W.ne_bytes (fin_bl I q (congrArg not dec_byt))
    | _=>exact absurd (show false = true from hs) Bool.false_ne_true
  | _=>cases y <;> exact absurd (show false = true from hs) Bool.false_ne_true

theorem op_lt:OpR X (compareOp .Lt) (rI0 fun i j=>.bl (decide (i < j))):=opB0 fun _ _ _ _ _ _ _ q=>lt_int q
theorem op_gt:OpR X (compareOp .Gt) (rI0 fun i j=>.bl (decide (j < i))):=opB0 fun _ _ _ _ _ _ _ q=>gt_int q
theorem op_ge:OpR X (compareOp .GtE) (rI0 fun i j=>.bl (decide (j <= i))):=opB0 fun _ _ _ _ _ _ _ q=>ge_int q
theorem nomark (b:Expr) {op:CmpOp} (h:op ≠ .In:=by decide) (h2:op ≠ .NotIn:=by decide):behindInMarks op b = false:=by
  have e1:(op == CmpOp.In) = false:=by cases op <;> first | rfl | exact absurd rfl h
  have e2:(op == CmpOp.NotIn) = false:=by cases op <;> first | rfl | exact absurd rfl h2
  cases b <;> simp [behindInMarks,e1,e2]
theorem pe_cmpR {op:CmpOp} {r:R2} (ho:OpR X (compareOp op) r) (ha:PE X a ta) (hb:PE X b tb) (hm:behindInMarks op b = false):PE X (.Compare a [op] [b] pos) (tOp r ta tb):=by
  intro pins s σ H Q I h
  exact wpAny_Compare1 (binT ha hb I h fun v u s2 x y H2 I2 rx ry q=>ho pins s2 σ H2 x y v u Q I2 rx ry q) hm
noncomputable def tTest (t:TE):TT:=fun σ H Q=>t σ H fun x H'=>∃ k,x = .bl k /\ Q k H'
theorem pt_cmpR {op:CmpOp} {r:R2} (ho:OpR X (compareOp op) r) (ha:PE X a ta) (hb:PE X b tb) (hm:behindInMarks op b = false):PT X (.Compare a [op] [b] pos) (tTest (tOp r ta tb)):=by
  intro pins s σ H Q I h
  refine wpAny_isTrue_Compare1 (thn (ha pins s σ H _ I h) fun v s1 ⟨x,H1,I1,r1,q1⟩=>thn (hb pins s1 σ H1 _ I1 q1) fun u s2 ⟨y,H2,I2,r2,q2⟩ =>
    thn (ho pins s2 σ H2 x y v u _ I2 r1 r2 q2) fun c s3 ⟨z,H3,I3,r3,k,e,q3⟩=>?_) hm
  subst e
  cases r3
  exact wpAny_truthy_bool ⟨H3,I3,q3⟩
theorem line63:(sizeLine:Nat) < 2 ^ 63:=by rw [sizeLine_eq]; decide
theorem vals1 {x:V} {us:List Value} (r:Vals [x] us):∃ u,us = [u] /\ RelV x u:=by
  cases r with
  | cons r1 r2=>cases r2; exact ⟨_,rfl,r1⟩
theorem vals2 {x y:V} {us:List Value} (r:Vals [x,y] us):∃ u w',us = [u,w'] /\ RelV x u /\ RelV y w':=by
  cases r with
  | cons r1 r2 =>
    cases r2 with
    | cons r3 r4=>cases r4; exact ⟨_,_,rfl,r1,r3⟩
theorem call_abs:CallR X (.builtin "abs") (fun xs H Q=>∃ i,xs = [.int i] /\ Q (.int (if i < 0 then -i else i)) H):=by
  intro pins s σ H xs us Q I r h
  obtain ⟨i,rfl,q⟩:=h
  obtain ⟨u,rfl,t,rfl⟩:=vals1 r
  exact call_abs_int fun u tk=>⟨.int (if i < 0 then -i else i),H,I.tok _,⟨_,rfl⟩,q⟩
end
end L2

namespace L2
open PySem PySem.Spec PyProof.Rows

theorem lookIn_ns {h:Heap} {dx:Addr} {mA:Str -> Option Value} (n:h.Ns1 dx mA):∃ od,h.get? dx = some od /\ ∀ name,W.lookIn name od = some (mA name):=by
  obtain ⟨o,es,ep,ho,hd,hk,_,hm⟩:=n
  refine ⟨o,ho,fun name=>?_⟩
  have e:=hm name
  unfold nsFind findBy at e
  rw [<- Array.find?_toList] at e
  unfold W.lookIn
  rw [hd]
  dsimp only
  split
  · rename_i y q
    rw [q] at e
    exact congrArg some e
  · rename_i q
    rw [q] at e
    have a:es.toList.any (·.refKey) = false:=by
      rw [List.any_eq_false]
      intro y hy
      obtain ⟨z,t,hkey⟩:=hk y (Array.mem_toList_iff.mp hy)
      simp [DictEntry.refKey,hkey]
    have a':¬ es.toList.any (·.refKey) = true:=by rw [a]; exact Bool.false_ne_true
    rw [if_neg a']
    exact congrArg some e

section
variable {prog:Program} {w:World} {A:Around} {E:Value -> Shared -> Prop} {s:Shared} {K:W.Frag} {x dx C f:Addr} {mA:Str -> Option Value} {name:Str} {v:Value}

end

noncomputable def putF (f:Str) (v:V):List (Str × V) -> List (Str × V)
  | []=>[(f,v)]
  | (g,x) :: r=>if g = f then (g,v) :: r else (g,x) :: putF f v r
theorem RelO.some_of {v:V} {o:Option Value} (r:RelO (some v) o):∃ u,o = some u /\ RelV v u:=by
  cases o with
  | none=>exact (show False from r).elim
  | some u=>exact ⟨u,rfl,r⟩
theorem handed_of {v:V} {u:Value} (r:RelV v u):W.handedIn u = true:=by
  cases v with
  | non=>cases (show u = Value.none from r); rfl
  | bl b=>cases (show u = Value.bool b from r); rfl
  | int i=>obtain ⟨t,e⟩:=(show ∃ t,u = Value.int i t from r); cases e; rfl
  | str x=>obtain ⟨t,e⟩:=(show ∃ t,u = Value.str x t from r); cases e; rfl
  | byt b=>obtain ⟨t,e⟩:=(show ∃ t,u = Value.bytes b t from r); cases e; rfl
  | flt b=>obtain ⟨t,e⟩:=(show ∃ t,u = Value.float b t from r); cases e; rfl
  | ref a=>cases (show u = Value.ref a from r); rfl
  | ty n=>cases (show u = Value.type n from r); rfl

section
variable {P:Program} {w:World} {H H':Hp} {h h':Heap} {a C dx:Addr} {fs fs':List (Str × V)}
end

noncomputable def NoAttr (K:W.Frag) (C:Addr) (f:Str):Prop:=W.findIn K (.ref C) f = some none
section
variable {X:Cx} {pins:List (Addr × Obj)} {σ:St} {H:Hp} {s:Shared} {a C dx:Addr} {fs:List (Str × V)} {f:Str} {v:V} {A:Around} {E:Value -> Shared -> Prop}

theorem attr_of {prog:Program} {w:World} {env:Env} {e:Expr} {f:Str} {pos:Pos} {s:Shared} {Q:Value -> Shared -> Prop} (hb:attributeBase e f env (eval e env) = eval e env)
    (h:wpAny (model prog w) A (eval e env) (fun o s₁=>wpAny (model prog w) A (getAttr o f true) Q E s₁) E s):wpAny (model prog w) A (eval (.Attribute e f pos) env) Q E s :=
  Attribute_any_ h (by rw [arm_eval_Attribute,hb])
end

section
variable {X:Cx} {o e value:Expr} {f:Str} {pos pos' tpos:Pos} {ta tv:TE}
end

section
variable {X:Cx} {pins:List (Addr × Obj)} {σ:St} {H:Hp} {s:Shared} {A:Around} {E:Value -> Shared -> Prop} {Q:Value -> Shared -> Prop} {c:Value} {b:Bool}
end
end L2

namespace L2
open PySem PySem.Spec PyProof.Rows

structure Room (k:Nat) (A:Around):Prop where
  hd:A.handled = none
  dp:A.depth + 3 * k + 5 < recursionLimit
  un:A.units + 16 * k + 200 < cLine
  gd:A.guards = some []
theorem Room.mono {j k:Nat} {A:Around} (r:Room k A) (h:j <= k):Room j A:=⟨r.hd,by have:=r.dp; omega,by have:=r.un; omega,r.gd⟩
theorem Room.deeper {k:Nat} {A:Around} (r:Room (k + 1) A) (env:Env):Room k (A.deeper env) :=
  ⟨r.hd,by have:=r.dp; show A.depth + 1 + 3 * k + 5 < _; omega,by have:=r.un; show A.units + 3 + 16 * k + 200 < _; omega,r.gd⟩
theorem make_depth {A:Around} {C:Addr} {us:List Value} {kw:List (Str × Value)}:(A.under (.builtin "type.__call__" ⟨.ref C :: us,kw⟩)).depth = A.depth + 1:=by
  first | rfl | simp [Around.under,Code.weight,Code.isCreation,Code.isGuard,Code.isCaller,Code.frames,Code.isFrame,guardIds]
theorem make_units {A:Around} {C:Addr} {us:List Value} {kw:List (Str × Value)}:(A.under (.builtin "type.__call__" ⟨.ref C :: us,kw⟩)).units = A.units + 1:=by
  first | rfl | simp [Around.under,Code.cUnits,Code.frames,Code.isFrame]
theorem Room.make {k:Nat} {A:Around} (r:Room (k + 1) A) (C:Addr) (us:List Value) (kw:List (Str × Value)):Room k (A.under (.builtin "type.__call__" ⟨.ref C :: us,kw⟩)) :=
  ⟨r.hd,by have:=r.dp; rw [make_depth]; omega,by have:=r.un; rw [make_units]; omega,by first | exact r.gd | (have:=r.gd; simp [Around.under,Code.guards,Code.isGuard,guardIds,pushGuards,this])⟩
theorem Room.depth {k:Nat} {A:Around} (r:Room k A):A.depth < recursionLimit:=by have:=r.dp; omega
theorem Room.units {k:Nat} {A:Around} (r:Room k A):A.units + 64 < cLine:=by have:=r.un; omega
noncomputable def tNil:TA:=fun _ H Q=>Q [] H
noncomputable def tCons (ta:TE) (tr:TA):TA:=fun σ H Q=>ta σ H fun x H1=>tr σ H1 fun xs H2=>Q (x :: xs) H2
section
variable {X:Cx} {e:Expr} {es:List Expr} {te:TE} {t:TA} {pos:Pos}
theorem pa_nil:PA X [] tNil:=fun _ _ _ _ H Q I h=>Calls.spliced_nil ⟨[],H,I,.nil,h⟩
theorem pa_cons (ha:PE X e te) (hr:PA X es t) (hs:starEach (e :: es) X.env = (false,eval e X.env) :: starEach es X.env:=by rfl):PA X (e :: es) (tCons te t):=by
  intro pos pins s σ H Q I h
  rw [hs]
  show wpAny _ _ (spliced ((false,eval e X.env) :: backTo pos (starEach es X.env))) _ _ s
  refine Calls.spliced_cons (thn (ha pins s σ H _ I h) fun u s1 ⟨x,H1,I1,r1,q1⟩=>?_)
  exact thn (hr pos pins s1 σ H1 _ I1 q1) fun us s2 ⟨xs,H2,I2,r2,q2⟩=>⟨x :: xs,H2,I2,.cons r1 r2,q2⟩

noncomputable def tTup (t:TA):TE:=fun σ H Q=>t σ H fun xs H1=>xs.length <= sizeLine /\ ∀ p,H1 p = none -> Q (.ref p) (upd H1 p (.tup xs))
noncomputable def tLst (t:TA):TE:=fun σ H Q=>t σ H fun xs H1=>xs.length <= sizeLine /\ ∀ p,H1 p = none -> Q (.ref p) (upd H1 p (.lst xs))
theorem pe_tup {x1} (h:PA X es t):PE X (.Tuple es x1 pos) (tTup t):=by
  intro pins s σ H Q I hq
  refine wpAny_Tuple_spliced (thn (h pos pins s σ H _ I hq) fun us s1 ⟨xs,H1,I1,r,z,q⟩=>⟨by rw [<- r.length]; exact z,?_⟩)
  have hf:H1 s1.heap.objs.size = none:=I1.hok.fresh (Nat.le_refl _)
  refine ⟨.ref s1.heap.objs.size,upd H1 s1.heap.objs.size (.tup xs),I1.laid (t':=s1.toks) (fun b u e=>Heap.get?_push_of_some _ e) (Nat.le_refl _) ?_,rfl,q _ hf⟩
  exact ⟨z,us,r,IsTupD.new _ _⟩
theorem pe_lst (h:PA X es t):PE X (.List es pos) (tLst t):=by
  intro pins s σ H Q I hq
  refine wpAny_List_spliced (thn (h pos pins s σ H _ I hq) fun us s1 ⟨xs,H1,I1,r,z,q⟩=>⟨by rw [<- r.length]; exact z,?_⟩)
  have hf:H1 s1.heap.objs.size = none:=I1.hok.fresh (Nat.le_refl _)
  refine ⟨.ref s1.heap.objs.size,upd H1 s1.heap.objs.size (.lst xs),I1.laid (t':=s1.toks) (fun b u e=>Heap.get?_push_of_some _ e) (Nat.le_refl _) ?_,rfl,q _ hf⟩
  exact ⟨z,us,0,r,Heap.get?_push_size _ rfl⟩
end

abbrev Sp:=List V -> Hp -> VK -> XK -> Prop
abbrev CXT:=List Env -> Hp -> Shared -> XK -> Value -> Shared -> Prop

structure Env0 (P:Program) (w:World) (K:W.Frag) (mg:Str -> Option Value) (base:Heap) (A:Around) (outer:List Env) (s:Shared) (H:Hp):Prop where
  frames:A.frames = some outer
  mod:Mod K mg base
  bs:∀ b o,base.get? b = some o -> s.heap.get? b = some o /\ H b = none
  bsz:base.objs.size <= s.heap.objs.size
  funs:s.heap.FunFrames base outer
  frf:∀ b ∈ frs outer,H b = none
  hok:HOk P w H s.heap
  bare:AllBare s.gens
noncomputable def CE (outer:List Env) (P:Program) (w:World) (H:Hp) (s:Shared) (Q:VK) (u:Value) (s':Shared):Prop :=
  ∃ v H',s'.os = s.os /\ AllBare s'.gens /\ Un (frs outer) [] H H' s.heap s'.heap /\ HOk P w H' s'.heap /\ RelV v u /\ Q v H'
noncomputable def CR (CX:CXT) (outer:List Env) (P:Program) (w:World) (H:Hp) (s:Shared) (Q:VK) (E:XK) (r:Result) (s':Shared):Prop :=
  match r with
  | .ok (.ret u)=>CE outer P w H s Q u s'
  | .ok _=>False
  | .error e=>CX outer H s E e s'
structure FnOk (P:Program) (w:World) (K:W.Frag) (mg:Str -> Option Value) (base:Heap) (CX:CXT) (k:Nat) (f:Addr) (fd:FuncData) (ps:List Str) (sp:Sp):Prop where
  len:∀ vs H Q E,sp vs H Q E -> vs.length = ps.length
  run:∀ (A:Around) (outer:List Env) (s:Shared) (H:Hp) (args:Args) (us:List Value) (vs:List V) (Q:VK) (E:XK),Room k A -> Env0 P w K mg base A outer s H -> BindsTo s fd args (ps.zip us) -> Vals vs us -> sp vs H Q E ->
    codeAny (model P w) A (.call (.ref f) args) (CR CX outer P w H s Q E) s
theorem Env0.make {P:Program} {w:World} {K:W.Frag} {mg:Str -> Option Value} {base:Heap} {A:Around} {outer:List Env} {s:Shared} {H:Hp} (e:Env0 P w K mg base A outer s H) (C:Addr) (us:List Value) (kw:List (Str × Value)) :
    Env0 P w K mg base (A.under (.builtin "type.__call__" ⟨.ref C :: us,kw⟩)) outer s H:=⟨by first | exact e.frames | (simpa [Around.under,Code.envs,Code.isFrame,pushEnvs] using e.frames),e.mod,e.bs,e.bsz,e.funs,e.frf,e.hok,e.bare⟩
section
variable {X:Cx} {pins:List (Addr × Obj)} {σ:St} {H:Hp} {s s':Shared}
theorem Inv.env0 (I:Inv X pins σ H s):Env0 X.prog X.w X.K X.mg X.base X.A X.stack s H :=
  ⟨I.ok.frames,I.ok.mod,I.bs,Nat.le_trans I.ok.bsz I.sz,I.stack,I.stkFree,I.hok,I.bare⟩
theorem Inv.after {Q:VK} {u:Value} (I:Inv X pins σ H s) (h:CE X.stack X.prog X.w H s Q u s'):EP X pins σ Q u s':=by
  obtain ⟨v,H',os,bare,un,hok,r,q⟩:=h
  obtain ⟨hh,g,d,t,os'⟩:=s'
  obtain rfl:os' = s.os:=os
  exact ⟨v,H',I.call (h':=hh) (g':=g) (d':=d) (t':=t) (ch:=[]) un hok bare (fun b z=>absurd z (by simp)),r,q⟩
end

noncomputable def tCall (sp:Sp) (dvs:List V) (E:XK) (t:TA):TE:=fun σ H Q=>t σ H fun vs H1=>sp (vs ++ dvs) H1 Q E
noncomputable def Binds (K:W.Frag) (fd:FuncData) (ps:List Str) (ds:List Value):Prop :=
  ∀ (s:Shared) (us:List Value),K.In s.heap -> (us ++ ds).length = ps.length -> BindsTo s fd ⟨us,[]⟩ (ps.zip (us ++ ds))
theorem Binds.all {K:W.Frag} {fd:FuncData} {ps:List Str} (h:∀ us:List Value,us.length = ps.length -> bindArgs fd ⟨us,[]⟩ = pure (ps.zip us)):Binds K fd ps []:=fun s us _ hl=>by
  rw [List.append_nil] at hl ⊢
  exact .of_eq (h us hl)

noncomputable def Passes (CX:CXT) (X:Cx) (E:XK):Prop:=∀ (pins:List (Addr × Obj)) (σ:St) (H:Hp) (s:Shared) (e:Value) (s':Shared),Inv X pins σ H s -> CX X.stack H s E e s' -> X.xe e s'

section
variable {X:Cx} {CX:CXT} {k:Nat} {f C:Addr} {fd:FuncData} {ps:List Str} {sp:Sp} {dvs:List V} {ds:List Value} {E:XK} {x m:Str} {p pos apos:Pos} {e o:Expr} {es:List Expr} {ta:TE} {t:TA}

theorem run_fn {pins:List (Addr × Obj)} {σ:St} {H:Hp} {s:Shared} {Q:VK} {us:List Value} {vs:List V} (F:FnOk X.prog X.w X.K X.mg X.base CX k f fd ps sp) (hr:Room k X.A) (hb:Binds X.K fd ps ds) (hd:Vals dvs ds) (hx:Passes CX X E)
    (I:Inv X pins σ H s) (r:Vals vs us) (h:sp (vs ++ dvs) H Q E):wpAny (model X.prog X.w) X.A (call (.ref f) us) (EP X pins σ Q) X.xe s:=by
  have r2:Vals (vs ++ dvs) (us ++ ds):=r.append hd
  have hl:(us ++ ds).length = ps.length:=by rw [<- r2.length]; exact F.len _ _ _ _ h
  refine wpAny_call (codeAny_mono (F.run X.A X.stack s H ⟨us,[]⟩ (us ++ ds) (vs ++ dvs) Q E hr I.env0 (hb s us I.kIn hl) r2 h) fun r s' hq=>?_)
  cases r with
  | error e=>exact hx pins σ H s e s' I hq
  | ok fl =>
    cases fl with
    | ret u=>exact I.after hq
    | next=>exact False.elim hq
    | brk=>exact False.elim hq
    | cont=>exact False.elim hq

theorem pe_call (F:FnOk X.prog X.w X.K X.mg X.base CX k f fd ps sp) (hr:Room k X.A) (hg:Gl X x) (hm:X.mg x = some (.ref f)) (hk:W.keepIn X.K (.ref f) = true) (hb:Binds X.K fd ps ds) (hd:Vals dvs ds) (hx:Passes CX X E)
    (ha:PA X (e :: es) t) (hdb:(x == ("__debug__" : Str)) = false:=by decide) (he:starEach (e :: es) X.env = (false,eval e X.env) :: starEach es X.env:=by rfl) (hpl:(backTo pos (starEach es X.env)).any (·.1) = false:=by rfl) :
    PE X (.Call (.Name x p) (e :: es) [] pos) (tCall sp dvs E t):=by
  intro pins s σ H Q I h
  refine wpAny_Call_Name_kw (ld_glob I hg hm ?_ hdb)
  refine W.callWith_K (h₀:=X.base) I.ok.mod.kin hk (thn (ha pos pins s σ H _ I h) fun us s1 ⟨vs,H1,I1,r,q⟩=>⟨I1.kIn,?_⟩) he hpl
  exact run_fn F hr hb hd hx I1 r q
end

noncomputable def PK (X:Cx) (kws:List Keyword) (t:TA):Prop :=
  ∀ (pos:Pos) (pins:List (Addr × Obj)) (s:Shared) (σ:St) (H:Hp) (Q:List V -> Hp -> Prop),Inv X pins σ H s -> t σ H Q -> wpAny (model X.prog X.w) X.A (evalAll ((backToKw pos (keywordEach kws X.env)).map (·.2))) (AP X pins σ Q) X.xe s
section
variable {X:Cx} {CX:CXT} {k:Nat} {f C:Addr} {fd:FuncData} {ps ks:List Str} {sp:Sp} {E:XK} {x m:Str} {p pos apos kpos:Pos} {e o:Expr} {es:List Expr} {kws:List Keyword} {te ta:TE} {t tk:TA} {nm:Option Str}
theorem pk_nil:PK X [] tNil:=fun _ _ _ _ H Q I h=>wpAny_evalAll_nil ⟨[],H,I,.nil,h⟩
theorem pk_cons (ha:PE X e te) (hr:PK X kws t):PK X (⟨nm,e,kpos⟩ :: kws) (tCons te t):=by
  intro pos pins s σ H Q I h
  show wpAny _ _ (evalAll ((do let v <- eval e X.env; standAt pos; pure v) :: (backToKw pos (keywordEach kws X.env)).map (·.2))) _ _ s
  refine wpAny_evalAll_cons (wpAny_bind (thn (ha pins s σ H _ I h) fun u s1 ⟨x,H1,I1,r1,q1⟩=>wpAny_bind (wpAny_standAt (wpAny_pure ?_))))
  exact thn (hr pos pins s1 σ H1 _ I1 q1) fun us s2 ⟨xs,H2,I2,r2,q2⟩=>⟨x :: xs,H2,I2,.cons r1 r2,q2⟩

variable {g:List Value -> List Value -> List Value} {gV:List V -> List V -> List V}
end

structure FnScope (N P:List Str) (sc:Scope):Prop where
  kind:sc.kind = .function
  co:sc.isCoroutine = false
  gen:sc.isGenerator = false
  nd:N.Nodup
  pre:N.take P.length = P
  par:∀ x ∈ P,sc.names.lookup x = some .local \/ sc.names.lookup x = some .cell
  nofree:∀ y ∈ sc.names,y.2 ≠ .free

theorem bindL_out {kindOf:Str -> Option NameKind} {x:Str}:∀ {binds:List (Str × Value)} {m:Str -> Option Value},(∀ v,(x,v) ∉ binds) -> bindL kindOf binds m x = m x
  | [],_,_=>rfl
  | (n,v) :: r,m,h=>by
    unfold bindL
    rw [bindL_out fun w hw=>h w (List.mem_cons_of_mem _ hw)]
    split
    · have:x ≠ n:=by rintro rfl; exact h v List.mem_cons_self
      simp [this]
    · rfl
theorem bindC_out {kindOf:Str -> Option NameKind} {x:Str}:∀ {binds:List (Str × Value)} {m:Str -> Option Value},(∀ v,(x,v) ∉ binds) -> bindC kindOf binds m x = m x
  | [],_,_=>rfl
  | (n,v) :: r,m,h=>by
    unfold bindC
    rw [bindC_out fun w hw=>h w (List.mem_cons_of_mem _ hw)]
    split
    · rfl
    · have:x ≠ n:=by rintro rfl; exact h v List.mem_cons_self
      simp [this]
theorem bindL_get {kindOf:Str -> Option NameKind} {x:Str} {v:Value}:∀ {P:List Str} {vs:List Value} {i:Nat} {m:Str -> Option Value},P.Nodup -> P[i]? = some x -> vs[i]? = some v -> kindOf x = some .local ->
    bindL kindOf (P.zip vs) m x = some v
  | [],_,_,_,_,h,_,_=>by simp at h
  | _ :: _,[],_,_,_,_,h,_=>by simp at h
  | p :: P,w :: vs,0,m,nd,h1,h2,hk=>by
    simp at h1 h2; subst h1; subst h2
    show bindL kindOf ((p,w) :: P.zip vs) m p = _
    unfold bindL
    rw [bindL_out fun v hv=>(List.nodup_cons.mp nd).1 (List.of_mem_zip hv).1,if_pos hk]
    simp
  | p :: P,w :: vs,i + 1,m,nd,h1,h2,hk=>by
    show bindL kindOf ((p,w) :: P.zip vs) m x = _
    unfold bindL
    exact bindL_get (i:=i) (List.nodup_cons.mp nd).2 (by simpa using h1) (by simpa using h2) hk
theorem bindC_get {kindOf:Str -> Option NameKind} {x:Str} {v:Value}:∀ {P:List Str} {vs:List Value} {i:Nat} {m:Str -> Option Value},P.Nodup -> P[i]? = some x -> vs[i]? = some v -> kindOf x ≠ some .local ->
    bindC kindOf (P.zip vs) m x = some v
  | [],_,_,_,_,h,_,_=>by simp at h
  | _ :: _,[],_,_,_,_,h,_=>by simp at h
  | p :: P,w :: vs,0,m,nd,h1,h2,hk=>by
    simp at h1 h2; subst h1; subst h2
    show bindC kindOf ((p,w) :: P.zip vs) m p = _
    unfold bindC
    rw [bindC_out fun v hv=>(List.nodup_cons.mp nd).1 (List.of_mem_zip hv).1,if_neg hk]
    simp
  | p :: P,w :: vs,i + 1,m,nd,h1,h2,hk=>by
    show bindC kindOf ((p,w) :: P.zip vs) m x = _
    unfold bindC
    exact bindC_get (i:=i) (List.nodup_cons.mp nd).2 (by simpa using h1) (by simpa using h2) hk

noncomputable def start (N:List Str) (vs:List V):St:=vs.map some ++ List.replicate (N.length - vs.length) none

noncomputable def cxOf (CX:CXT) (P:Program) (w:World) (K:W.Frag) (mg:Str -> Option Value) (base:Heap) (N:List Str) (qual:Str) (scope:Scope) (f:Addr) (cd:Value) (A:Around) (outer:List Env) (s:Shared) (H:Hp) (E:XK):Cx where
  prog:=P
  w:=w
  K:=K
  mg:=mg
  base:=base
  A:=A.deeper (envOfC qual scope s.heap.objs.size f cd)
  N:=N
  s₀:=s
  H₀:=H
  env:=envOfC qual scope s.heap.objs.size f cd
  outer:=outer
  stack:=envOfC qual scope s.heap.objs.size f cd :: outer
  ex:=[]
  calm:=true
  fn:=fun _=>true
  pn:=[]
  xe:=fun e s'=>wpAny (model P w) (A.deeper (envOfC qual scope s.heap.objs.size f cd)) (leaving (envOfC qual scope s.heap.objs.size f cd) e) (fun _ s''=>CX outer H s E e s'') (fun e' s''=>CX outer H s E e' s'') s'

theorem cell_has {sc:Scope} {n:Nat} {x:Str} (h:sc.names.lookup x = some .cell):∃ c,(cellsFrom n sc.names []).lookup x = some c:=by
  have q:=W.cellsFrom_some sc.names n [] (.inl h)
  exact Option.isSome_iff_exists.mp q

theorem inv_start {CX:CXT} {P:Program} {w:World} {K:W.Frag} {mg:Str -> Option Value} {base:Heap} {N ps:List Str} {qual:Str} {scope:Scope} {f:Addr} {cd:Value} {A:Around} {outer:List Env} {s s1:Shared} {H:Hp} {E:XK} {us:List Value} {vs:List V}
    (S:FnScope N ps scope) (hd:A.handled = none) (e0:Env0 P w K mg base A outer s H) (hl:vs.length = ps.length) (r:Vals vs us)
    (x:InCallC s s.heap.objs.size (bindL (envOfC qual scope s.heap.objs.size f cd).kindOf (ps.zip us) fun _=>none) (cellsFrom (s.heap.objs.size + 1) scope.names []) (bindC (envOfC qual scope s.heap.objs.size f cd).kindOf (ps.zip us) fun _=>none) s1) :
    Inv (cxOf CX P w K mg base N qual scope f cd A outer s H E) [] (start N vs) H s1:=by
  have hpl:ps.length <= N.length:=by have:=congrArg List.length S.pre; rw [List.length_take] at this; omega
  obtain ⟨h1,tk,rfl,hk⟩:=x.done
  have noA:∀ b:Addr,b ∉ (cxOf CX P w K mg base N qual scope f cd A outer s H E).ex:=fun b z=>absurd (show b ∈ ([]:List Addr) from z) (by simp)
  refine ⟨⟨e0.mod,S.kind,rfl,rfl,Nat.le_refl _,fun y z c h1 h2=>?_,fun y hy=>?_,fun y c _ h=>?_,fun _=>hd,Around.frames_deeper e0.frames,.inr ⟨rfl,rfl⟩,fun b z=>absurd z (noA b),e0.bs,e0.bsz,fun b _ _=>noA b,fun b z=>absurd z (noA b),e0.funs,e0.frf⟩,
    rfl,e0.bare,Un.kept hk,⟨_,x.toInCall.ns,fun i y v h1 h2 h3=>?_⟩,fun y c h=>⟨_,x.cell y c h⟩,e0.hok.fresh (Nat.le_refl _),fun y c h=>?_,fun p hp=>absurd (show p ∈ ([]:List (Addr × Obj)) from hp) (by simp),e0.hok.kept hk,?_⟩
  · exact name_of_addr x.apart (PySem.mem_of_lookup h1) (PySem.mem_of_lookup h2)
  · have hy:scope.names.lookup y = some .cell \/ scope.names.lookup y = some .free:=hy
    rcases hy with hy | hy
    · exact cell_has hy
    · exact absurd rfl (S.nofree _ (PySem.mem_of_lookup hy))
  · exact Nat.le_of_lt (x.above y c (PySem.mem_of_lookup h))
  · have hi:i < vs.length:=by
      unfold start at h2
      by_cases hi:i < vs.length
      · exact hi
      · rw [List.getElem?_append_right (by simpa using hi)] at h2
        rw [List.getElem?_replicate] at h2
        split at h2 <;> cases h2
    have ha:vs[i]? = some v:=by
      unfold start at h2
      rw [List.getElem?_append_left (by simpa using hi),List.getElem?_map] at h2
      cases e:vs[i]? with
      | none=>rw [e] at h2; cases h2
      | some a=>rw [e] at h2; cases h2; rfl
    obtain ⟨u,hu,rv⟩:=r.get ha
    have hp:ps[i]? = some y:=by
      rw [<- S.pre,List.getElem?_take_of_lt (by omega)]; exact h1
    have ndP:ps.Nodup:=by rw [<- S.pre]; exact S.nd.sublist (List.take_sublist _ _)
    refine ⟨u,rv,?_⟩
    rcases S.par y (List.mem_of_getElem? hp) with k | k
    · exact .inl ⟨k,bindL_get ndP hp hu k⟩
    · obtain ⟨c,e⟩:=cell_has (n:=s.heap.objs.size + 1) k
      refine .inr ⟨.inl k,c,e,?_⟩
      have q:=x.cell y c e
      rw [bindC_get ndP hp hu (by show scope.names.lookup y ≠ _; rw [k]; decide)] at q
      exact q
  · exact e0.hok.fresh (Nat.le_of_lt (x.above y c (PySem.mem_of_lookup h)))
  · unfold start
    show _ = N.length
    rw [List.length_append,List.length_map,List.length_replicate]
    omega

theorem fn_of {CX:CXT} {P:Program} {w:World} {K:W.Frag} {mg:Str -> Option Value} {base:Heap} {k:Nat} {f:Addr} {name qual:Str} {params:Arguments} {body:List Stmt} {scope:Scope} {dV kV doc pm cdv ct oc:Value} {an od:Option Addr}
    {osl:Array (Option Value)} {N ps:List Str} {sp:Sp} (lk:K.lookup f = some ⟨oc,od,.func (W.fnOf name qual params body scope dV kV doc pm an cdv ct),osl⟩) (hcd:W.codeIn K cdv qual = true) (S:FnScope N ps scope)
    (len:∀ vs H Q E,sp vs H Q E -> vs.length = ps.length)
    (hbody:∀ (A:Around) (outer:List Env) (s:Shared) (H:Hp) (vs:List V) (Q:VK) (E:XK),Room k (A.deeper (envOfC qual scope s.heap.objs.size f cdv)) -> sp vs H Q E ->
      ∃ t,PSs (cxOf CX P w K mg base N qual scope f cdv A outer s H E) body t /\ t { nx:=fun _ H'=>Q .non H',rt:=Q } (start N vs) H) :
    FnOk P w K mg base CX (k + 1) f (W.fnOf name qual params body scope dV kV doc pm an cdv ct) ps sp:=by
  refine ⟨len,fun A outer s H args us vs Q E hr e0 hb r hsp=>?_⟩
  have hl:=len _ _ _ _ hsp
  have KX:K.In s.heap:=e0.mod.kin.keeps fun b o e=>(e0.bs b o e).1
  have lim:s.heap.NoLimit:=e0.mod.nolimit.keeps fun b o e=>(e0.bs b o e).1
  have hkind:∀ y ∈ ps.zip us,scope.names.lookup y.1 = some .local \/ (scope.names.lookup y.1 = some .cell /\ ((cellsFrom (s.heap.objs.size + 1) scope.names []).lookup y.1).isSome = true):=fun ⟨n,v⟩ hy=>by
    rcases S.par n (List.of_mem_zip hy).1 with q | q
    · exact .inl q
    · exact .inr ⟨q,W.cellsFrom_some _ _ _ (.inl q)⟩
  refine codeAny_call_function hr.depth (KX _ _ lk) rfl S.co S.gen rfl (W.codeRec_of KX hcd) (hb _ _ _ _ ?_)
  refine wpAny_newFunctionEnv_cells S.kind hkind fun env he s1 x=>?_
  subst he
  refine ⟨lim.keeps x.toInCall.keep,codeAny_func ?_⟩
  obtain ⟨t,ht,hq⟩:=hbody A outer s H vs Q E (hr.deeper _) hsp
  have I:Inv (cxOf CX P w K mg base N qual scope f cdv A outer s H E) [] (start N vs) H s1:=inv_start S hr.hd e0 hl r x
  refine wpAny_mono (ht [] s1 (start N vs) H _ I hq) (fun fl s' hs=>?_) fun e s' hs=>hs
  have fin:∀ {σ':St} {H':Hp} {v:V} {u:Value},Inv (cxOf CX P w K mg base N qual scope f cdv A outer s H E) [] σ' H' s' -> RelV v u -> Q v H' -> CE outer P w H s Q u s' :=
    fun {σ' H' v u} J rv q=>⟨v,H',J.os,J.bare,J.base,J.hok,rv,q⟩
  cases fl with
  | ret u =>
    obtain ⟨v,σ',H',J,rv,q⟩:=hs
    exact fin J rv q
  | next =>
    obtain ⟨σ',H',J,q⟩:=hs
    exact fin (v:=V.non) (u:=Value.none) J rfl q
  | brk =>
    obtain ⟨_,_,_,q⟩:=hs
    exact False.elim q
  | cont =>
    obtain ⟨_,_,_,q⟩:=hs
    exact False.elim q
end L2

namespace L2
open PySem PySem.Spec PyProof.Rows
section
variable {X:Cx} {x:Str} {p pos:Pos} {e:Expr} {es:List Expr} {t:TA} {id T:String} {r:List V -> Hp -> VK -> Prop}

noncomputable def tCB (r:List V -> Hp -> VK -> Prop) (t:TA):TE:=fun σ H Q=>t σ H fun vs H1=>r vs H1 Q
theorem pe_callB (hc:CallR X (.builtin id) r) (hg:Gl X x) (hm:X.mg x = none) (hv:bootBuiltins x = some (.builtin id)) (ha:PA X (e :: es) t) (hn:x ≠ "__name__" := by decide) (hdb:(x == ("__debug__" : Str)) = false:=by decide)
    (he:starEach (e :: es) X.env = (false,eval e X.env) :: starEach es X.env:=by rfl) (hpl:(backTo pos (starEach es X.env)).any (·.1) = false:=by rfl):PE X (.Call (.Name x p) (e :: es) [] pos) (tCB r t):=by
  intro pins s σ H Q I h
  refine wpAny_Call_Name_kw (ld_blt I hg hm hv ?_ hn hdb)
  exact PyProof.Rows.callWith_builtin1 (thn (ha pos pins s σ H _ I h) fun us s1 ⟨vs,H1,I1,r1,q1⟩=>hc pins s1 σ H1 vs us Q I1 r1 q1) he hpl
theorem pe_callTy (hc:CallR X (.type T) r) (hg:Gl X x) (hm:X.mg x = none) (hv:bootBuiltins x = some (.type T)) (ha:PA X (e :: es) t) (hn:x ≠ "__name__" := by decide) (hdb:(x == ("__debug__" : Str)) = false:=by decide)
    (he:starEach (e :: es) X.env = (false,eval e X.env) :: starEach es X.env:=by rfl) (hpl:(backTo pos (starEach es X.env)).any (·.1) = false:=by rfl):PE X (.Call (.Name x p) (e :: es) [] pos) (tCB r t):=by
  intro pins s σ H Q I h
  refine wpAny_Call_Name_kw (ld_blt I hg hm hv ?_ hn hdb)
  exact PyProof.Rows.callWith_type1 (thn (ha pos pins s σ H _ I h) fun us s1 ⟨vs,H1,I1,r1,q1⟩=>hc pins s1 σ H1 vs us Q I1 r1 q1) he hpl
end
end L2

namespace HT
open PySem PyProof.Rows

section
open PySem.SeqAt
open PySem.AutoSeq1 (wpAny_loadPart')
open PySem.MeetsSeq PySem.MeetsSeq2 PySem.MeetsSeq3

end

section
variable {prog:Program} {w:World} {A:Around} {E:Value -> Shared -> Prop} {s:Shared}

theorem cat_tup {t b:Addr} {vs ws:List Value} {Q:Value -> Shared -> Prop} (ht:IsTup s.heap t vs.toArray) (hb:IsTup s.heap b ws.toArray) (hv:vs ≠ [])
    (h1:ws = [] -> Q (.ref t) s) (h2:ws ≠ [] -> Q (.ref s.heap.objs.size) { s with heap:=s.heap.push { cls:=.type "tuple", data:=.seq (vs ++ ws).toArray } })
    (hsz:vs.length + ws.length <= sizeLine):wpAny (model prog w) A (binaryOp .Add (.ref t) (.ref b)) Q E s:=by
  obtain ⟨⟨cls,dd,data,sl⟩,ho,hc,n,hd⟩:=id ht
  obtain ⟨⟨cls2,dd2,data2,sl2⟩,ho2,hc2,n2,hd2⟩:=id hb
  simp only at hc hd hc2 hd2
  subst hc hd hc2 hd2
  have e:vs.toArray ++ ws.toArray = (vs ++ ws).toArray:=by simp
  by_cases hw:ws = []
  · exact concat_meets ⟨_,ho,rfl⟩ ⟨_,ho2,rfl⟩ noFill_tuple_add seq_tuple_add PySem.F.slot_tuple_add PySem.F.entry_tuple_add (PySem.F.args_tuple_add_2 _ _)
      (tuple_addW1 t b vs.toArray ws.toArray n n2 dd dd2 sl sl2 (by simpa using hv) (by simp [hw])) ⟨ho,ho2,h1 hw⟩
  · refine concat_meets ⟨_,ho,rfl⟩ ⟨_,ho2,rfl⟩ noFill_tuple_add seq_tuple_add PySem.F.slot_tuple_add PySem.F.entry_tuple_add (PySem.F.args_tuple_add_2 _ _)
      (tuple_addW2 t b vs.toArray ws.toArray n n2 dd dd2 sl sl2 (by simpa using hv) (by simpa using hw) (by rw [List.size_toArray,List.size_toArray]; exact hsz)) ⟨ho,ho2,?_⟩
    rw [e]
    exact h2 hw

noncomputable def sIx (n d:Nat):Option Int -> Nat
  | none=>d
  | some v=>if v < 0 then (v + (n:Int)).toNat else min v.toNat n
theorem sIx_none (n d:Nat):sIx n d none = d:=rfl
theorem sIx_nat (n d k:Nat):sIx n d (some (k:Int)) = min k n:=by
  show (if (k:Int) < 0 then ((k:Int) + (n:Int)).toNat else min (k:Int).toNat n) = min k n
  rw [if_neg (by omega),Int.toNat_natCast]
end
end HT

namespace L2
open PySem PySem.Spec PyProof.Rows

abbrev TO:=St -> Hp -> (Option Int -> Hp -> Prop) -> Prop
noncomputable def PO (X:Cx) (e:Option Expr) (t:TO):Prop :=
  ∀ (pins:List (Addr × Obj)) (s:Shared) (σ:St) (H:Hp) (Q:Option Int -> Hp -> Prop),Inv X pins σ H s -> t σ H Q ->
    wpAny (model X.prog X.w) X.A (evalPart e X.env) (fun u s'=>∃ o H',Inv X pins σ H' s' /\ IsPart u o /\ Q o H') X.xe s
noncomputable def tNoPart:TO:=fun _ H Q=>Q none H
noncomputable def tPart (t:TE):TO:=fun σ H Q=>t σ H fun x H1=>∃ i,x = .int i /\ Q (some i) H1

theorem intsAre_of {ns:List Int}:∀ {us:List Value},Vals (ns.map V.int) us -> IntsAre us ns:=by
  induction ns with
  | nil=>intro us r; rw [List.map_nil] at r; cases r; exact .nil
  | cons n ns ih =>
    intro us r
    rw [List.map_cons] at r
    cases r with
    | cons r1 r2 =>
      obtain ⟨t,e⟩:=r1
      subst e
      exact .cons n t (ih r2)

section
variable {X:Cx} {e:Expr} {te:TE} {lo hi:Option Expr} {tl th:TO} {pos p2:Pos}

theorem po_none:PO X none tNoPart:=by
  intro pins s σ H Q I h
  rw [evalPart_none]
  exact wpAny_pure ⟨none,H,I,.none,h⟩
theorem po_some (h:PE X e te):PO X (some e) (tPart te):=by
  intro pins s σ H Q I hw
  rw [evalPart_some]
  refine thn (h pins s σ H _ I hw) fun u s1 ⟨x,H1,I1,r1,q1⟩=>?_
  obtain ⟨i,rfl,q⟩:=q1
  obtain ⟨t,rfl⟩:=r1
  exact ⟨some i,H1,I1,.int i t,q⟩

noncomputable def SlR (X:Cx) (r:V -> Option Int -> Option Int -> Hp -> VK -> Prop):Prop :=
  ∀ (pins:List (Addr × Obj)) (s:Shared) (σ:St) (H:Hp) (x:V) (v vl vu:Value) (lo hi:Option Int) (sl:Addr) (Q:VK),Inv X pins σ H s -> RelV x v -> s.heap.IsSliceOf sl vl vu .none -> IsPart vl lo -> IsPart vu hi -> r x lo hi H Q ->
    ∃ T id,typeLookup (.type T) "__getitem__" = pure (some (.builtin id)) /\ s.TypeIs v T /\ wpAny (model X.prog X.w) X.A (getItem v (.ref sl)) (EP X pins σ Q) X.xe s
noncomputable def tSl (r:V -> Option Int -> Option Int -> Hp -> VK -> Prop) (te:TE) (tl th:TO):TE:=fun σ H Q=>te σ H fun x H1=>tl σ H1 fun l H2=>th σ H2 fun u H3=>r x l u H3 Q
theorem pe_slice {r:V -> Option Int -> Option Int -> Hp -> VK -> Prop} (hr:SlR X r) (he:PE X e te) (hl:PO X lo tl) (hu:PO X hi th):PE X (.Subscript e (.Slice lo hi none p2) pos) (tSl r te tl th):=by
  intro pins s σ H Q I h
  refine Subscript_ (thn (he pins s σ H _ I h) fun v s1 ⟨x,H1,I1,r1,q1⟩=>?_)
  refine wpAny_Slice (thn (hl pins s1 σ H1 _ I1 q1) fun vl s2 ⟨l,H2,I2,pl,q2⟩=>thn (hu pins s2 σ H2 _ I2 q2) fun vu s3 ⟨u,H3,I3,pu,q3⟩=>?_)
  rw [evalPart_none]
  refine wpAny_pure ?_
  have I4:Inv X pins σ H3 { s3 with heap:=s3.heap.push { cls:=.type "slice", data:=.fields #[vl,vu,.none] } }:=I3.kept (t':=s3.toks) fun b ob q=>Heap.get?_push_of_some _ q
  obtain ⟨T,id,hT,ht,hg⟩:=hr pins { s3 with heap:=s3.heap.push { cls:=.type "slice", data:=.fields #[vl,vu,.none] } } σ H3 x v vl vu l u s3.heap.objs.size Q I4 r1 (Heap.IsSliceOf.new ..) pl pu q3
  show wpAny (model X.prog X.w) X.A (subscriptTail e (.Slice lo hi none p2) v (.ref s3.heap.objs.size)) (EP X pins σ Q) X.xe { s3 with heap:=s3.heap.push { cls:=.type "slice", data:=.fields #[vl,vu,.none] } }
  exact tail_any (ops:=[.ref s3.heap.objs.size,v]) ht hT hg (by with_unfolding_all rfl)

noncomputable def cutV (xs:List V) (lo hi:Option Int):List V:=(xs.drop (HT.sIx xs.length 0 lo)).take (HT.sIx xs.length xs.length hi - HT.sIx xs.length 0 lo)
theorem cutV_length (xs:List V) (lo hi:Option Int):(cutV xs lo hi).length <= xs.length:=by
  unfold cutV
  rw [List.length_take,List.length_drop]
  omega
noncomputable def rCatT (K:W.Frag):R2:=fun x y H Q=>∃ a b xs ys,x = .ref a /\ y = .ref b /\ SqT K H a xs /\ SqT K H b ys /\ xs ≠ [] /\ xs.length + ys.length <= sizeLine /\
  (ys = [] -> Q (.ref a) H) /\ (ys ≠ [] -> ∀ p,H p = none -> Q (.ref p) (upd H p (.tup (xs ++ ys))))
theorem Vals.nil_iff {xs:List V} {us:List Value} (r:Vals xs us):us = [] ↔ xs = []:=by
  cases r with
  | nil=>simp
  | cons _ _=>simp
theorem op_catT:OpR X (binaryOp .Add) (rCatT X.K):=by
  intro pins s σ H x y v u Q I rx ry h
  obtain ⟨a,b,xs,ys,rfl,rfl,ha,hb,hx,hz,q1,q2⟩:=h
  cases rx
  cases ry
  obtain ⟨its,r1,p1,_⟩:=I.tuple ha
  obtain ⟨its2,r2,p2,_⟩:=I.tuple hb
  refine HT.cat_tup p1 p2 (fun z=>hx (r1.nil_iff.mp z)) (fun z=>⟨.ref a,H,I,rfl,q1 (r2.nil_iff.mp z)⟩) (fun z=>?_) (by rw [<- r1.length,<- r2.length]; exact hz)
  refine ⟨.ref s.heap.objs.size,_,I.laid (t':=s.toks) (o:=.tup (xs ++ ys)) (fun b ob q=>Heap.get?_push_of_some _ q) (Nat.le_refl _) ?_,rfl,q2 (fun w=>z (r2.nil_iff.mpr w)) _ (I.hok.fresh (Nat.le_refl _))⟩
  exact ⟨by rw [List.length_append]; exact hz,_,r1.append r2,IsTupD.new _ _⟩
end
end L2

namespace L2
open PySem PySem.Spec PyProof.Rows

noncomputable def ixN (n:Nat) (i:Int):Option Nat:=if 0 <= i then (if i < n then some i.toNat else none) else if -(n:Int) <= i then some (i + n).toNat else none
noncomputable def atI {α:Type} (xs:List α) (i:Int):Option α:=(ixN xs.length i).bind fun j=>xs[j]?
theorem ixN_seq {n:Nat} {i:Int} {j:Nat} (h:ixN n i = some j):seqIndex? i n = some j /\ j < n /\ -(n:Int) <= i /\ i < n:=by
  unfold ixN at h
  by_cases h0 : 0 <= i
  · rw [if_pos h0] at h
    by_cases h1:i < n
    · rw [if_pos h1] at h
      have e:i.toNat = j:=Option.some.inj h
      exact ⟨by rw [seqIndex_of h0 h1,e],by omega,by omega,h1⟩
    · rw [if_neg h1] at h; cases h
  · rw [if_neg h0] at h
    by_cases h1 : -(n:Int) <= i
    · rw [if_pos h1] at h
      have e:(i + n).toNat = j:=Option.some.inj h
      exact ⟨by rw [seqIndex_neg (by omega) h1,e],by omega,h1,by omega⟩
    · rw [if_neg h1] at h; cases h
theorem atI_get {α:Type} {xs:List α} {i:Int} {v : α} (h:atI xs i = some v):∃ j,seqIndex? i xs.length = some j /\ xs[j]? = some v /\ j < xs.length /\ -(xs.length:Int) <= i /\ i < xs.length:=by
  unfold atI at h
  cases e:ixN xs.length i with
  | none=>rw [e] at h; cases h
  | some j =>
    rw [e] at h
    obtain ⟨h1,h2,h3,h4⟩:=ixN_seq e
    exact ⟨j,h1,h,h2,h3,h4⟩
theorem atI_nat {α:Type} {xs:List α} {j:Nat} {v : α} (h:xs[j]? = some v):atI xs (j:Int) = some v:=by
  have hj:j < xs.length:=(List.getElem?_eq_some_iff.mp h).1
  have e:ixN xs.length (j:Int) = some j:=by
    unfold ixN
    rw [if_pos (by omega),if_pos (by omega)]; simp
  unfold atI; rw [e]; exact h
noncomputable def PlainIx (b:Expr):Prop:=∀ o i,subscripted b false o i = operate [o,i] (getItem o i)
noncomputable def IxR (X:Cx) (r:R2):Prop :=
  ∀ (value slice:Expr) (pins:List (Addr × Obj)) (s:Shared) (σ:St) (H:Hp) (x y:V) (v u:Value) (Q:VK),Inv X pins σ H s -> RelV x v -> RelV y u -> r x y H Q ->
    subscripted slice false v u = operate [v,u] (getItem v u) -> wpAny (model X.prog X.w) X.A (subscriptTail value slice v u) (EP X pins σ Q) X.xe s
noncomputable def MtR (X:Cx) (id:String) (r:V -> List V -> Hp -> VK -> Prop):Prop :=
  ∀ (pins:List (Addr × Obj)) (s:Shared) (σ:St) (H:Hp) (x:V) (xs:List V) (v:Value) (us:List Value) (Q:VK),Inv X pins σ H s -> RelV x v -> Vals xs us -> r x xs H Q ->
    wpAny (model X.prog X.w) X.A (call (.builtin id) (v :: us)) (EP X pins σ Q) X.xe s
section
variable {X:Cx} {a b:Expr} {ta tb:TE} {pos:Pos}
theorem IxR.or {r r':R2} (h:IxR X r) (h':IxR X r'):IxR X (fun x y H Q=>r x y H Q \/ r' x y H Q):=by
  intro value slice pins s σ H x y v u Q I rx ry q hs
  rcases q with q | q
  · exact h value slice pins s σ H x y v u Q I rx ry q hs
  · exact h' value slice pins s σ H x y v u Q I rx ry q hs
theorem pe_ix {r:R2} (hr:IxR X r) (ha:PE X a ta) (hb:PE X b tb) (hs:PlainIx b):PE X (.Subscript a b pos) (tOp r ta tb):=by
  intro pins s σ H Q I h
  exact Subscript_ (binT ha hb I h fun v u s2 x y H2 I2 rx ry q=>hr a b pins s2 σ H2 x y v u Q I2 rx ry q (hs _ _))

noncomputable def rIxL (K:W.Frag):R2:=fun x y H Q=>∃ p xs i v,x = .ref p /\ y = .int i /\ SqL K H p xs /\ atI xs i = some v /\ Q v H
noncomputable def rIxT (K:W.Frag):R2:=fun x y H Q=>∃ p xs i v,x = .ref p /\ y = .int i /\ SqT K H p xs /\ atI xs i = some v /\ Q v H
noncomputable def rIxS:R2:=fun x y H Q=>∃ z i c,x = .str z /\ y = .int i /\ z.length <= sizeLine /\ atI z.cps.toList i = some c /\ Q (.str ⟨#[c]⟩) H
theorem ix_list:IxR X (rIxL X.K):=by
  intro value slice pins s σ H x y v u Q I rx ry h hs
  obtain ⟨p,xs,i,z,rfl,rfl,hq,he,q⟩:=h
  cases rx
  obtain ⟨t,rfl⟩:=ry
  obtain ⟨its,r,pl,hz⟩:=I.list hq
  obtain ⟨j,h1,h2,h3,h4,h5⟩:=atI_get he
  obtain ⟨w,ew,rw'⟩:=r.get h2
  have hl:=r.length
  have hn:=line63
  have fin:EP X pins σ Q w s:=⟨z,H,I,rw',q⟩
  by_cases h0 : 0 <= i
  · have hj:i.toNat = j:=by
      rw [seqIndex_of h0 h5] at h1
      exact Option.some.inj h1
    exact item_listR pl.isList h0 (by omega) (by rw [hj]; simpa using ew) fin hs
  · have hj:(i + (its.toArray.size:Int)).toNat = j:=by
      rw [seqIndex_neg (by omega) h4] at h1
      rw [List.size_toArray,<- hl]
      exact Option.some.inj h1
    exact subscriptTail_builtinR (x:=w) pl.isList.typeIs slot_list_getitem.lookup
      (wpAny_getItem_list_neg (Q:=fun r s'=>r = w /\ EP X pins σ Q r s') pl.isList (by omega) (by rw [List.size_toArray] <;> omega) (by omega) (by rw [hj]; simpa using ew) ⟨rfl,fin⟩) hs
theorem ix_tup:IxR X (rIxT X.K):=by
  intro value slice pins s σ H x y v u Q I rx ry h hs
  obtain ⟨p,xs,i,z,rfl,rfl,hq,he,q⟩:=h
  cases rx
  obtain ⟨t,rfl⟩:=ry
  obtain ⟨its,r,pl,hz⟩:=I.tuple hq
  obtain ⟨j,h1,h2,h3,h4,h5⟩:=atI_get he
  obtain ⟨w,ew,rw'⟩:=r.get h2
  have hl:=r.length
  have hn:=line63
  have fin:EP X pins σ Q w s:=⟨z,H,I,rw',q⟩
  exact subscriptTail_builtinR (x:=w) pl.typeIs slot_tuple_getitem.lookup
    (getItem_tuple (j:=j) (Q:=fun r s'=>r = w /\ EP X pins σ Q r s') pl (by omega) (by omega) (by rw [List.size_toArray,<- hl]; exact h1) (by simpa using ew) ⟨rfl,fin⟩) hs
theorem ix_str:IxR X rIxS:=by
  intro value slice pins s σ H x y v u Q I rx ry h hs
  obtain ⟨z,i,c,rfl,rfl,hz,he,q⟩:=h
  obtain ⟨t,rfl⟩:=rx
  obtain ⟨t',rfl⟩:=ry
  obtain ⟨j,h1,h2,h3,h4,h5⟩:=atI_get he
  have hl:z.cps.toList.length = z.length:=by simp [Str.length]
  rw [hl] at h1 h4 h5
  have hn:=line63
  exact tail_any (typeIs_str s z t) slot_str_getitem.lookup (getItem_str (c:=c) (by
    have e1:decide (i < -(2 ^ 63:Int)) = false:=decide_eq_false (by omega)
    have e2:decide (i ≥ 2 ^ 63) = false:=decide_eq_false (by omega)
    rw [e1,e2,Bool.or_false]) (by rw [h1]; simpa using h2) ⟨.str ⟨#[c]⟩,H,I.tok _,⟨_,rfl⟩,q⟩) hs
noncomputable def rIx (K:W.Frag):R2:=fun x y H Q=>rIxL K x y H Q \/ rIxT K x y H Q \/ rIxS x y H Q
theorem ix_seq:IxR X (rIx X.K):=ix_list.or (ix_tup.or ix_str)

theorem slice_bounds (lo hi:Option Int) (n:Nat):(sliceBounds lo hi none n).1 = ((HT.sIx n 0 lo:Nat):Int) /\ (sliceBounds lo hi none n).2.1 = ((HT.sIx n n hi:Nat):Int) /\ (sliceBounds lo hi none n).2.2 = 1:=by
  refine ⟨?_,?_,rfl⟩
  · cases lo with
    | none=>simp [sliceBounds,HT.sIx]
    | some i =>
      simp only [sliceBounds,HT.sIx,Option.getD_none,show (1:Int) > 0 by decide,if_true]
      by_cases h:i < 0
      · simp only [h,if_true] <;> omega
      · simp only [h,if_false] <;> omega
  · cases hi with
    | none=>simp [sliceBounds,HT.sIx]
    | some i =>
      simp only [sliceBounds,HT.sIx,Option.getD_none,show (1:Int) > 0 by decide,if_true]
      by_cases h:i < 0
      · simp only [h,if_true] <;> omega
      · simp only [h,if_false] <;> omega
theorem slicePick_cut (its:List Value) (lo hi:Option Int):slicePick its.toArray lo hi none = ((its.drop (HT.sIx its.length 0 lo)).take (HT.sIx its.length its.length hi - HT.sIx its.length 0 lo)).toArray:=by
  obtain ⟨h1,h2,h3⟩:=slice_bounds lo hi its.toArray.size
  unfold slicePick
  rw [h1,h2,h3]
  simp only [sliceRange_one,pick_run,List.size_toArray] <;> rfl
noncomputable def rSlL (K:W.Frag):V -> Option Int -> Option Int -> Hp -> VK -> Prop:=fun x lo hi H Q=>∃ a xs,x = .ref a /\ SqL K H a xs /\ ∀ p,H p = none -> Q (.ref p) (upd H p (.lst (cutV xs lo hi)))
theorem sl_list:SlR X (rSlL X.K):=by
  intro pins s σ H x v vl vu lo hi sl Q I rx hs pl pu h
  obtain ⟨a,xs,rfl,hx,q⟩:=h
  cases rx
  obtain ⟨its,r,ht,hz⟩:=I.list hx
  have hlen:=r.length
  refine ⟨"list", _,slot_list_getitem.lookup,ht.isList.typeIs,?_⟩
  refine wpAny_getItem_list_slice ht.isList hs pl pu .none (by simp) ?_ (by rw [List.size_toArray] <;> omega)
  rw [slicePick_cut,<- hlen]
  refine ⟨.ref s.heap.objs.size,_,I.laid (t':=s.toks) (o:=.lst (cutV xs lo hi)) (fun b ob q=>Heap.get?_push_of_some _ q) (Nat.le_refl _) ?_,rfl,q _ (I.hok.fresh (Nat.le_refl _))⟩
  exact ⟨Nat.le_trans (cutV_length xs lo hi) hz,_,0,(r.drop (HT.sIx xs.length 0 lo)).take (HT.sIx xs.length xs.length hi - HT.sIx xs.length 0 lo),Heap.get?_push_size _ rfl⟩

theorem call_len_seq:CallR X (.builtin "len") (fun xs H Q=>∃ p ys,xs = [.ref p] /\ (SqL X.K H p ys \/ SqT X.K H p ys) /\ Q (.int ys.length) H):=by
  intro pins s σ H xs us Q I r h
  obtain ⟨p,ys,rfl,hq,q⟩:=h
  obtain ⟨u,rfl,rx⟩:=vals1 r
  cases rx
  have hn:=line63
  rcases hq with hq | hq
  · obtain ⟨its,r',pl,hz⟩:=I.list hq
    have hlen:=r'.length
    exact Calls.call_len_list pl.isList (by simp only [List.size_toArray] <;> omega) ⟨.int ys.length,H,I.tok _,⟨s.toks + 1,by rw [List.size_toArray,hlen]⟩,q⟩
  · obtain ⟨its,r',pl,hz⟩:=I.tuple hq
    have hlen:=r'.length
    exact len_tuple pl (by simp only [List.size_toArray] <;> omega) ⟨.int ys.length,H,I.tok _,⟨s.toks + 1,by rw [List.size_toArray,hlen]⟩,q⟩
theorem call_list_of:CallR X (.type "list") (fun xs H Q=>∃ p ys,xs = [.ref p] /\ (SqL X.K H p ys \/ SqT X.K H p ys) /\ ∀ l,H l = none -> Q (.ref l) (upd H l (.lst ys))):=by
  intro pins s σ H xs us Q I r h
  obtain ⟨p,ys,rfl,hq,q⟩:=h
  obtain ⟨u,rfl,rx⟩:=vals1 r
  cases rx
  have fin:∀ (its:List Value),Vals ys its -> ys.length <= sizeLine -> ∀ (h':Heap) (c':Nat),(∀ b o',s.heap.get? b = some o' -> h'.get? b = some o') ->
      h'.get? s.heap.objs.size = some { cls:=.type "list", dict:=none,data:=.seq its.toArray c',slots:=#[] } -> EP X pins σ Q (.ref s.heap.objs.size) { s with heap:=h' }:=fun its r' hz h' c' kp e =>
    ⟨.ref s.heap.objs.size,_,I.laid (t':=s.toks) kp (Nat.le_refl _) (show ObjOk X.prog X.w _ h' _ (.lst ys) from ⟨hz,its,c',r',e⟩),rfl,q _ (I.hok.fresh (Nat.le_refl _))⟩
  rcases hq with hq | hq
  · obtain ⟨its,r',pl,hz⟩:=I.list hq
    have hlen:=r'.length
    obtain ⟨o,ho,hc,n,hd⟩:=pl.isList
    exact call_list_seq p (.inl rfl) ho hc hd (fun h' c' kp e=>fin its r' hz h' c' kp e) (by simp only [List.size_toArray] <;> omega)
  · obtain ⟨its,r',pl,hz⟩:=I.tuple hq
    have hlen:=r'.length
    obtain ⟨o,ho,hc,n,hd⟩:=pl
    exact call_list_seq p (.inr rfl) ho hc hd (fun h' c' kp e=>fin its r' hz h' c' kp e) (by simp only [List.size_toArray] <;> omega)
theorem call_tuple_of:CallR X (.type "tuple") (fun xs H Q=>∃ p ys,xs = [.ref p] /\ ((SqL X.K H p ys /\ ∀ l,H l = none -> Q (.ref l) (upd H l (.tup ys))) \/ (SqT X.K H p ys /\ Q (.ref p) H))):=by
  intro pins s σ H xs us Q I r h
  obtain ⟨p,ys,rfl,h⟩:=h
  obtain ⟨u,rfl,rx⟩:=vals1 r
  cases rx
  rcases h with ⟨hq,q⟩ | ⟨hq,q⟩
  · obtain ⟨its,r',pl,hz⟩:=I.list hq
    have hlen:=r'.length
    refine call_tuple_list pl.isList (fun h' kp=>?_) (by simp only [List.size_toArray] <;> omega)
    have I1:Inv X pins σ H { s with heap:=h' }:=I.kept (t':=s.toks) kp
    have I2:Inv X pins σ (upd H h'.objs.size (.tup ys)) { s with heap:=h'.push { cls:=.type "tuple", data:=.seq its.toArray } } :=
      I1.laid (t':=s.toks) (fun b o e=>Heap.get?_push_of_some _ e) (Nat.le_refl _) (show ObjOk X.prog X.w _ _ _ (.tup ys) from ⟨hz,its,r',IsTupD.new _ _⟩)
    exact ⟨.ref h'.objs.size,_,I2,rfl,q _ (I1.hok.fresh (Nat.le_refl _))⟩
  · obtain ⟨its,r',pl,hz⟩:=I.tuple hq
    exact call_tuple_same pl ⟨.ref p,H,I,rfl,q⟩

noncomputable def tyV (K:W.Frag) (T:String) (x:V) (H:Hp):Prop:=match x with
  | .str _=>T = "str"
  | .int _=>T = "int"
  | .ref p=>(T = "list" /\ ∃ xs,SqL K H p xs) \/ (T = "tuple" /\ ∃ xs,SqT K H p xs) \/
      (T = "dict" /\ ((∃ kvs,H p = some (.dK kvs)) \/ ∃ kvs,H p = some (.dT kvs))) \/ (T = "set" /\ ∃ S n,H p = some (.set S n))
  | _=>False
theorem tyV_is {pins:List (Addr × Obj)} {σ:St} {H:Hp} {s:Shared} {T:String} {x:V} {v:Value} (I:Inv X pins σ H s) (r:RelV x v) (ty:tyV X.K T x H) :
    s.TypeIs v T /\ ∀ a,v = .ref a -> ∃ ob,s.heap.get? a = some ob /\ ob.dict = none:=by
  cases x with
  | str z =>
    obtain ⟨t,rfl⟩:=r
    cases (show T = "str" from ty)
    exact ⟨typeIs_str s z t,fun _ e=>nomatch e⟩
  | int i =>
    obtain ⟨t,rfl⟩:=r
    cases (show T = "int" from ty)
    exact ⟨typeIs_int s i t,fun _ e=>nomatch e⟩
  | ref p =>
    cases r
    rcases ty with ⟨rfl,xs,hq⟩ | ⟨rfl,xs,hq⟩ | ⟨rfl,hk⟩ | ⟨rfl,S,n,hk⟩
    · obtain ⟨its,_,pl,_⟩:=I.list hq
      refine ⟨pl.isList.typeIs,fun a e=>?_⟩
      cases e
      obtain ⟨o,n,e,c,hd,_⟩:=pl
      exact ⟨o,e,hd⟩
    · obtain ⟨o,e1,e2,e3⟩:=I.tupleD hq
      refine ⟨⟨o,e1,e2⟩,fun a e=>?_⟩
      cases e
      exact ⟨o,e1,e3⟩
    · have z:∃ o,s.heap.get? p = some o /\ o.ExactDict:=by
        rcases hk with ⟨kvs,hk⟩ | ⟨kvs,hk⟩
        · obtain ⟨_,_,_,_,o,_,_,e,ex,_⟩:=I.hok p _ hk
          exact ⟨o,e,ex⟩
        · obtain ⟨_,_,_,_,o,_,_,e,ex,_⟩:=I.hok p _ hk
          exact ⟨o,e,ex⟩
      obtain ⟨o,e,ex⟩:=z
      refine ⟨⟨o,e,ex.1⟩,fun a e2=>?_⟩
      cases e2
      exact ⟨o,e,ex.2.1⟩
    · obtain ⟨o,_,_,_,e,ex,_⟩:=I.hok p _ hk
      refine ⟨⟨o,e,ex.1⟩,fun a e2=>?_⟩
      cases e2
      exact ⟨o,e,ex.2.1⟩
  | _=>exact False.elim ty
noncomputable def tBM (K:W.Frag) (T:String) (r:V -> List V -> Hp -> VK -> Prop) (to:TE) (t:TA):TE:=fun σ H Q=>to σ H fun x H1=>tyV K T x H1 /\ t σ H1 fun xs H2=>r x xs H2 Q
variable {o e:Expr} {es:List Expr} {to:TE} {t:TA} {name:Str} {apos cpos:Pos} {T id:String} {r:V -> List V -> Hp -> VK -> Prop}
theorem pe_bm (pa:PlainAttrs T) (slot:Slot T name id) (hty:typeOf (.builtin id) = pure (.type "method_descriptor")) (hm:MtR X id r) (ho:PE X o to) (ha:PA X (e :: es) t)
    (hbase:attributeBase o name X.env (eval o X.env) = eval o X.env:=by rfl)
    (hfew:((backTo cpos (starEach (e :: es) X.env)).all (fun x=>!x.1) && (backToKw cpos (keywordEach [] X.env)).all (fun x=>x.1.isSome)
      && decide ((e :: es).length + ([]:List Keyword).length + (if ([]:List Keyword).isEmpty then 0 else 1) < 30)) = true:=by rfl)
    (hline:(apos.endLine == cpos.line) = true:=by rfl) (hs:starEach (e :: es) X.env = (false,eval e X.env) :: starEach es X.env:=by rfl) (hplain:(backTo cpos (starEach es X.env)).any (·.1) = false:=by rfl) :
    PE X (.Call (.Attribute o name apos) (e :: es) [] cpos) (tBM X.K T r to t):=by
  intro pins s σ H Q I h
  refine wpAny_Call_method_late hbase hfew hline rfl (thn (ho pins s σ H _ I h) fun v s1 ⟨x,H1,I1,r1,ty,q1⟩=>?_)
  obtain ⟨h1,h2⟩:=tyV_is I1 r1 ty
  refine ⟨T,id,pa,slot,hty,h1,h2,?_⟩
  have hA:=ha cpos pins s1 σ H1 _ I1 q1
  rw [hs] at hA ⊢
  refine Calls.callWith_builtin (by show (false || (backTo cpos (starEach es X.env)).any (·.1)) = false; rw [hplain] <;> rfl) (Calls.evalArgs_plain ?_)
  exact thn hA fun us s2 ⟨vs,H2,I2,r2,q2⟩=>hm pins s2 σ H2 x vs v us Q I2 r1 r2 q2

end
end L2

namespace L2
open PySem PySem.Spec PyProof.Rows

noncomputable def MtM (X:Cx) (id:String) (r:V -> List V -> Hp -> VK -> Prop):Prop :=
  ∀ (pins:List (Addr × Obj)) (s:Shared) (σ:St) (H:Hp) (x:V) (xs:List V) (v:Value) (us:List Value) (Q:VK),Inv X pins σ H s -> RelV x v -> Vals xs us -> r x xs H Q ->
    wpAny (model X.prog X.w) X.A (call (.builtin id) (v :: us)) (EP X pins σ Q) X.xe s

theorem Vals.one:∀ {x:V} {us:List Value},Vals [x] us -> ∃ u,us = [u] /\ RelV x u
  | _,_,.cons r .nil=>⟨_,rfl,r⟩
theorem Vals.rep {xs:List V} {us:List Value} (h:Vals xs us):∀ k:Nat,Vals (List.replicate k xs).flatten (List.replicate k us).flatten
  | 0=>.nil
  | k + 1=>by
    rw [List.replicate_succ,List.replicate_succ,List.flatten_cons,List.flatten_cons]
    exact Vals.append h (Vals.rep h k)
theorem foldl_rep (its:List Value):∀ (k:Nat) (acc:List Value),
    List.foldl (fun x1 x2=>x1 ++ x2) acc.toArray (List.replicate k its.toArray) = (acc ++ (List.replicate k its).flatten).toArray
  | 0,acc=>by simp
  | k + 1,acc=>by
    have e:acc.toArray ++ its.toArray = (acc ++ its).toArray:=by simp
    have e2:(acc ++ its) ++ (List.replicate k its).flatten = acc ++ (List.replicate (k + 1) its).flatten:=by
      rw [List.replicate_succ,List.flatten_cons,List.append_assoc]
    rw [<- e2,<- foldl_rep its k (acc ++ its),<- e,List.replicate_succ,List.foldl_cons]

section
variable {X:Cx} {pins:List (Addr × Obj)} {σ:St} {H:Hp} {s:Shared} {l b:Addr} {xs ys zs:List V}

theorem Inv.lset {its its':List Value} {n:Nat} {f:Array Value -> Array Value} {t':Nat} (I:Inv X pins σ H s) (hH:H l = some (.lst xs))
    (e:s.heap.get? l = some { cls:=.type "list", data:=.seq its.toArray n }) (hf:f its.toArray = its'.toArray) (hv:Vals ys its') (hz:ys.length <= sizeLine) :
    Inv X pins σ (upd H l (.lst ys)) { s with heap:=s.heap.update l (Obj.mapSeq f),toks:=t' }:=by
  have q:=PySem.IsL.update e f
  rw [hf] at q
  refine I.write (x:=l) (e:=l) (by rw [hH]; exact trivial) (.inl rfl) (fun b' u hb hu=>(Heap.get?_update_other s.heap (Obj.mapSeq f) (Ne.symm hb)).trans hu) ⟨_,q⟩ ?_
  exact ⟨hz,its',_,hv,q⟩
theorem Inv.lnew {its:List Value} {t':Nat} (I:Inv X pins σ H s) (hv:Vals ys its) (hz:ys.length <= sizeLine) :
    Inv X pins σ (upd H s.heap.objs.size (.lst ys)) { s with heap:=s.heap.push { cls:=.type "list", data:=.seq its.toArray },toks:=t' } :=
  I.laid (fun _ _ q=>Heap.get?_push_of_some _ q) (Nat.le_refl _) ⟨hz,its,0,hv,Heap.get?_push_size _ rfl⟩
theorem Inv.fresh (I:Inv X pins σ H s):H s.heap.objs.size = none:=I.hok.fresh (Nat.le_refl _)
theorem Inv.lstM (I:Inv X pins σ H s) (hH:H l = some (.lst xs)):xs.length <= sizeLine /\ ∃ (its:List Value) (n:Nat),Vals xs its /\ xs.length = its.length /\ s.heap.get? l = some { cls:=.type "list", data:=.seq its.toArray n }:=by
  obtain ⟨z,its,n,r,e⟩:=I.hok l _ hH
  exact ⟨z,its,n,r,r.length,e⟩

theorem notLongL {n:Nat} (h:n <= sizeLine):Builtin.List.listTooLong n = false:=by
  unfold Builtin.List.listTooLong
  exact decide_eq_false (by omega)
end

section
variable {X:Cx}

noncomputable def rAppend:V -> List V -> Hp -> VK -> Prop:=fun x vs H Q=>∃ l xs y,x = .ref l /\ vs = [y] /\ H l = some (.lst xs) /\ xs.length < sizeLine /\ Q .non (upd H l (.lst (xs ++ [y])))
theorem mt_append:MtM X "list.append" rAppend:=by
  intro pins s σ H x vs v us Q I rx rv h
  obtain ⟨l,xs,y,rfl,rfl,hH,hz,q⟩:=h
  cases rx
  obtain ⟨u,rfl,ru⟩:=rv.one
  obtain ⟨z,its,n,r,hl,e⟩:=I.lstM hH
  refine call_meets F.slot_list_append ⟨_,e,rfl⟩ F.entry_list_append (F.args_list_append_2 _ _) (PySem.list_append l its.toArray n u (by rw [List.size_toArray]; omega)) ⟨e,?_⟩
  refine ⟨.non,_,I.lset (its':=its ++ [u]) hH e (by simp) (r.append (.cons ru .nil)) ?_,rfl,q⟩
  rw [List.length_append,List.length_singleton]
  omega

noncomputable def rCat:R2:=fun x y H Q=>∃ l b xs zs,x = .ref l /\ y = .ref b /\ H l = some (.lst xs) /\ H b = some (.lst zs) /\ xs.length + zs.length <= sizeLine /\ ∀ p,H p = none -> Q (.ref p) (upd H p (.lst (xs ++ zs)))
theorem op_cat:OpR X (binaryOp .Add) rCat:=by
  intro pins s σ H x y v u Q I rx ry h
  obtain ⟨l,b,xs,zs,rfl,rfl,hH,hB,hz,q⟩:=h
  cases rx
  cases ry
  obtain ⟨z,its,n,r,hl,e⟩:=I.lstM hH
  obtain ⟨z2,its2,n2,r2,hl2,e2⟩:=I.lstM hB
  refine PySem.P.add_list e e2 ?_ (by rw [List.size_toArray,List.size_toArray]; omega)
  have ea:its.toArray ++ its2.toArray = (its ++ its2).toArray:=by simp
  rw [ea]
  exact ⟨.ref _,_,I.lnew (t':=s.toks) (r.append r2) (by rw [List.length_append]; omega),rfl,q _ I.fresh⟩
noncomputable def rRep:R2:=fun x y H Q=>∃ l k xs,x = .ref l /\ y = .int k /\ H l = some (.lst xs) /\ -(2 ^ 63) <= k /\ k < 2 ^ 63 /\ xs.length * k.toNat <= sizeLine /\
  ∀ p,H p = none -> Q (.ref p) (upd H p (.lst (List.replicate k.toNat xs).flatten))
theorem len_rep {α:Type} (xs:List α) (k:Nat):(List.replicate k xs).flatten.length = k * xs.length:=by
  induction k with
  | zero=>simp
  | succ k ih=>rw [List.replicate_succ,List.flatten_cons,List.length_append,ih,Nat.succ_mul,Nat.add_comm]
theorem op_rep:OpR X (binaryOp .Mult) rRep:=by
  intro pins s σ H x y v u Q I rx ry h
  obtain ⟨l,k,xs,rfl,rfl,hH,h1,h2,hz,q⟩:=h
  cases rx
  obtain ⟨t,rfl⟩:=ry
  obtain ⟨z,its,n,r,hl,e⟩:=I.lstM hH
  have hlen:its.toArray.size * k.toNat <= sizeLine:=by rw [List.size_toArray,<- hl]; exact hz
  have hcap:¬ its.toArray.size * k.toNat > (2 ^ 63 - 1) / 8:=by
    have:(sizeLine:Nat) <= (2 ^ 63 - 1) / 8:=by decide
    omega
  have hfit:¬ (!Builtin.List.listFitsIndex k) = true:=by
    rw [fitsIndex_both h1 h2]
    exact Bool.false_ne_true
  have hlong:¬ Builtin.List.listTooLong (its.toArray.size * k.toNat) = true:=by
    rw [notLongL hlen]
    exact Bool.false_ne_true
  have hnew:List.foldl (fun x1 x2=>x1 ++ x2) #[] (List.replicate (if its.toArray.isEmpty = true then 0 else k.toNat) its.toArray) = (List.replicate k.toNat its).flatten.toArray:=by
    have f0:∀ m:Nat,List.foldl (fun x1 x2=>x1 ++ x2) #[] (List.replicate m its.toArray) = (List.replicate m its).flatten.toArray:=fun m=>by
      have:=foldl_rep its m []
      rw [List.nil_append] at this
      exact this
    rw [f0]
    cases its with
    | nil=>simp
    | cons a r'=>rw [if_neg (by simp)]
  refine wpAny_binaryOp_repeat_ref (T := "list") (U := "int") (by decide) ⟨_,e,rfl⟩ (fun s'=>typeIs_int s' k t) noFill_list_mul F.fills_int_mul F.slot_int_rmul repeat_list F.slot_int_index.lookup
    (call_meets F.slot_int_rmul (typeIs_int s k t) F.entry_int_rmul (F.args_int_rmul_2 _ _) (int___rmul___int_list k t l its.toArray n)
      ⟨e,rfl,⟨_,e,rfl⟩,call_meets F.slot_list_mul ⟨_,e,rfl⟩ F.entry_list_mul (F.args_list_mul_2 _ _) (AutoListH.list___mul___list_int_3 l its.toArray n k t hfit hcap hlong) ⟨e,?_⟩⟩)
  rw [hnew]
  exact ⟨.ref _,_,I.lnew (t':=s.toks) (r.rep k.toNat) (by rw [len_rep,Nat.mul_comm]; exact hz),rfl,q _ I.fresh⟩

end

section
variable {prog:Program} {w:World} {A:Around} {E:Value -> Shared -> Prop} {s:Shared}
end

section
variable {X:Cx}
end
end L2

namespace L2
open PySem PySem.Spec PyProof.Rows

section
variable {κ:Type} [DecidableEq κ]
noncomputable def valV (kvs:List (κ × V)) (k : κ):Option V:=(kvs.find? fun kv=>decide (kv.1 = k)).map (·.2)
noncomputable def putK (kvs:List (κ × V)) (k : κ) (v:V):List (κ × V) :=
  if (kvs.any fun kv=>decide (kv.1 = k)) = true then kvs.map (fun kv=>if kv.1 = k then (kv.1,v) else kv) else kvs ++ [(k,v)]
theorem valV_pos {p : κ × V} {r:List (κ × V)} {k : κ} (e:p.1 = k):valV (p :: r) k = some p.2:=by simp [valV,List.find?_cons,e]
theorem valV_neg {p : κ × V} {r:List (κ × V)} {k : κ} (e:¬ p.1 = k):valV (p :: r) k = valV r k:=by simp [valV,List.find?_cons,e]
theorem valV_any (k : κ):∀ kvs:List (κ × V),(kvs.any fun kv=>decide (kv.1 = k)) = (valV kvs k).isSome
  | []=>rfl
  | p :: r=>by
    rw [List.any_cons]
    by_cases e:p.1 = k
    · simp only [valV_pos e,decide_eq_true e,Bool.true_or,Option.isSome_some]
    · rw [valV_neg e,decide_eq_false e,Bool.false_or]; exact valV_any k r
theorem length_putK (kvs:List (κ × V)) (k : κ) (v:V):(putK kvs k v).length <= kvs.length + 1:=by
  unfold putK
  split
  · rw [List.length_map]; omega
  · rw [List.length_append,List.length_cons,List.length_nil]; omega
theorem RelO.isSome_eq {o:Option V} {u:Option Value} (r:RelO o u):o.isSome = u.isSome:=by
  cases o with
  | none=>cases u with
    | none=>rfl
    | some _=>exact (show False from r).elim
  | some _=>cases u with
    | none=>exact (show False from r).elim
    | some _=>rfl
theorem KV.val {kvs:List (κ × V)} {vs:List (κ × Value)} (r:KV kvs vs) (k : κ):RelO (valV kvs k) (valueAt vs k):=by
  unfold KV at r
  induction r with
  | nil=>exact True.intro
  | @cons p q ps qs h t ih =>
    obtain ⟨h1,h2⟩:=h
    by_cases e:p.1 = k
    · have e':q.1 = k:=h1.symm.trans e
      have b:valueAt (q :: qs) k = some q.2:=by simp [valueAt,List.find?_cons,e']
      rw [valV_pos e,b]; exact h2
    · have e':¬ q.1 = k:=fun z=>e (h1.trans z)
      have b:valueAt (q :: qs) k = valueAt qs k:=by simp [valueAt,List.find?_cons,e']
      rw [valV_neg e,b]; exact ih
theorem KV.any {kvs:List (κ × V)} {vs:List (κ × Value)} (r:KV kvs vs) (k : κ):(kvs.any fun kv=>decide (kv.1 = k)) = vs.any fun kv=>decide (kv.1 = k):=by
  unfold KV at r
  induction r with
  | nil=>rfl
  | cons h t ih=>rw [List.any_cons,List.any_cons,ih,h.1]
theorem KV.repl {kvs:List (κ × V)} {vs:List (κ × Value)} (r:KV kvs vs) (k : κ) {y:V} {u:Value} (ry:RelV y u) :
    KV (kvs.map fun kv=>if kv.1 = k then (kv.1,y) else kv) (vs.map fun kv=>if kv.1 = k then (kv.1,u) else kv):=by
  unfold KV at r ⊢
  induction r with
  | nil=>exact .nil
  | @cons p q ps qs h t ih =>
    rw [List.map_cons,List.map_cons]
    refine .cons ?_ ih
    obtain ⟨h1,h2⟩:=h
    by_cases e:p.1 = k
    · rw [if_pos e,if_pos (h1.symm.trans e)]; exact ⟨h1,ry⟩
    · rw [if_neg e,if_neg (fun z=>e (h1.trans z))]; exact ⟨h1,h2⟩
theorem KV.put {kvs:List (κ × V)} {vs:List (κ × Value)} (r:KV kvs vs) (k : κ) {y:V} {u:Value} (ry:RelV y u):KV (putK kvs k y) (stored vs k u):=by
  unfold putK stored
  rw [r.any k]
  by_cases e:(vs.any fun kv=>decide (kv.1 = k)) = true
  · rw [if_pos e,if_pos e]; exact r.repl k ry
  · rw [if_neg e,if_neg e]; exact Paired.snoc r ⟨rfl,ry⟩
theorem KV.keys {kvs:List (κ × V)} {vs:List (κ × Value)} (r:KV kvs vs):kvs.map (·.1) = vs.map (·.1):=by
  unfold KV at r
  induction r with
  | nil=>rfl
  | cons h t ih=>rw [List.map_cons,List.map_cons,ih,h.1]
theorem KV.length {kvs:List (κ × V)} {vs:List (κ × Value)} (r:KV kvs vs):kvs.length = vs.length:=Paired.length r
end

theorem kV_is {P:Program} {w:World} {k:Key} {u:Value} (r:RelV (kV k) u):(mixKind P w).is k u = true:=by
  cases k with
  | inl i=>obtain ⟨t,e⟩:=(show ∃ t,u = Value.int i t from r); subst e; exact mixKind_int P w i t
  | inr x=>obtain ⟨t,e⟩:=(show ∃ t,u = Value.str x t from r); subst e; exact mixKind_str P w x t
theorem items_are {P:Program} {w:World}:∀ {ks:List Key} {us:List Value},Vals (ks.map kV) us -> ItemsAre (mixKind P w) ks us
  | [],_,r=>by rw [List.map_nil] at r; cases r; exact .nil
  | k :: ks,_,r=>by
    rw [List.map_cons] at r
    cases r with
    | cons h t=>exact .cons (kV_is h) (items_are t)

abbrev KT (H:Hp):List (List Key × V) -> List (List Key × Addr × Value) -> Prop:=Paired fun p q=>p.1 = q.1 /\ H q.2.1 = some (.tup (p.1.map kV)) /\ RelV p.2 q.2.2
theorem KT.val {H:Hp} {kvs:List (List Key × V)} {xs:List (List Key × Addr × Value)} (r:KT H kvs xs) (k:List Key):RelO (valV kvs k) ((atKey xs k).map (·.2)):=by
  induction r with
  | nil=>exact True.intro
  | @cons p q ps qs h t ih =>
    obtain ⟨h1,_,h2⟩:=h
    by_cases e:p.1 = k
    · have e':q.1 = k:=h1.symm.trans e
      have b:atKey (q :: qs) k = some q.2:=by simp [atKey,List.find?_cons,e']
      rw [valV_pos e,b]; exact h2
    · have e':¬ q.1 = k:=fun z=>e (h1.trans z)
      have b:atKey (q :: qs) k = atKey qs k:=by simp [atKey,List.find?_cons,e']
      rw [valV_neg e,b]; exact ih
theorem KT.repl {H:Hp} {kvs:List (List Key × V)} {xs:List (List Key × Addr × Value)} (r:KT H kvs xs) (k:List Key) {y:V} {u:Value} (ry:RelV y u) :
    KT H (kvs.map fun kv=>if kv.1 = k then (kv.1,y) else kv) (xs.map (putAt k u)):=by
  induction r with
  | nil=>exact .nil
  | @cons p q ps qs h t ih =>
    rw [List.map_cons,List.map_cons]
    refine .cons ?_ ih
    obtain ⟨h1,h2,h3⟩:=h
    unfold putAt
    by_cases e:p.1 = k
    · rw [if_pos e,if_pos (h1.symm.trans e)]; exact ⟨h1,h2,ry⟩
    · rw [if_neg e,if_neg (fun z=>e (h1.trans z))]; exact ⟨h1,h2,h3⟩
theorem KT.put {H:Hp} {kvs:List (List Key × V)} {xs:List (List Key × Addr × Value)} (r:KT H kvs xs) (k:List Key) {b:Addr} {y:V} {u:Value} (hb:H b = some (.tup (k.map kV))) (ry:RelV y u) :
    KT H (putK kvs k y) (storedH xs k b u):=by
  have e:(kvs.any fun kv=>decide (kv.1 = k)) = (atKey xs k).isSome:=by
    rw [valV_any,(r.val k).isSome_eq,Option.isSome_map]
  unfold putK storedH
  rw [e]
  by_cases q:(atKey xs k).isSome = true
  · rw [if_pos q,if_pos q]; exact r.repl k ry
  · rw [if_neg q,if_neg q]; exact Paired.snoc r ⟨rfl,hb,ry⟩
theorem KT.keeps {H H':Hp} {kvs:List (List Key × V)} {xs:List (List Key × Addr × Value)} (r:KT H kvs xs) (ht:∀ b ys,H b = some (.tup ys) -> H' b = some (.tup ys)):KT H' kvs xs :=
  Paired.mapP r fun _ _ z=>⟨z.1,ht _ _ z.2.1,z.2.2⟩

section
variable {P:Program} {w:World} {H:Hp} {h:Heap} {a:Addr}
theorem rd_of {u:HO} (ok:HOk P w H h) (e:Rd H a u):ObjOk P w H h a u:=e.ok ok
theorem dk_rd {kvs:List (Key × V)} (ok:HOk P w H h) (e:Rd H a (.dK kvs)):kvs.length <= sizeLine /\ (a == sysModules) = false /\ ∃ vs,KV kvs vs /\ h.DictOf (mixKind P w) a vs :=
  show ObjOk P w H h a (.dK kvs) from rd_of ok e
theorem dk_of {kvs:List (Key × V)} (ok:HOk P w H h) (e:H a = some (.dK kvs)):kvs.length <= sizeLine /\ (a == sysModules) = false /\ ∃ vs,KV kvs vs /\ h.DictOf (mixKind P w) a vs:=dk_rd ok (.inl e)
theorem key_of {ks:List Key} (ok:HOk P w H h) (e:H a = some (.tup (ks.map kV))):(tupleKind (mixKind P w)).is h ks a:=by
  obtain ⟨_,its,r,o,h1,h2,⟨n,h3⟩,_⟩:=(show ObjOk P w H h a (.tup (ks.map kV)) from ok a _ e)
  exact ⟨o,its.toArray,n,h1,h2,h3,by simpa using items_are r⟩
theorem dt_rd {kvs:List (List Key × V)} (ok:HOk P w H h) (e:Rd H a (.dT kvs)):kvs.length <= sizeLine /\ (a == sysModules) = false /\
    ∃ xs,KT H kvs xs /\ h.DictOfH (tupleKind (mixKind P w)) a xs:=by
  obtain ⟨z,y,xs,r,o,es,ep,h1,h2,h3,h4,h5⟩:=(show ObjOk P w H h a (.dT kvs) from rd_of ok e)
  refine ⟨z,y,xs,r,o,es,ep,h1,h2,h3,h4,fun x hx=>?_,h5⟩
  have all:∀ {l:List (List Key × V)} {m:List (List Key × Addr × Value)},KT H l m -> ∀ x ∈ m,(tupleKind (mixKind P w)).is h x.1 x.2.1:=by
    intro l m q
    induction q with
    | nil=>intro x hx; exact nomatch hx
    | @cons p q ps qs hq t ih =>
      intro x hx
      rcases List.mem_cons.mp hx with e | hx
      · subst e
        exact key_of ok (by rw [<- hq.1]; exact hq.2.1)
      · exact ih x hx
  exact all r x hx
theorem dt_of {kvs:List (List Key × V)} (ok:HOk P w H h) (e:H a = some (.dT kvs)):kvs.length <= sizeLine /\ (a == sysModules) = false /\
    ∃ xs,KT H kvs xs /\ h.DictOfH (tupleKind (mixKind P w)) a xs:=dt_rd ok (.inl e)
end

noncomputable def DGet (H:Hp) (a:Addr) (y:V) (r:Option V):Prop :=
  (∃ kvs k,Rd H a (.dK kvs) /\ y = kV k /\ r = valV kvs k) \/ ∃ kvs k b,Rd H a (.dT kvs) /\ y = .ref b /\ H b = some (.tup (k.map kV)) /\ r = valV kvs k
noncomputable def DPut (H:Hp) (a:Addr) (y v:V) (H':Hp):Prop :=
  (∃ kvs k,H a = some (.dK kvs) /\ y = kV k /\ kvs.length < sizeLine /\ H' = upd H a (.dK (putK kvs k v))) \/
  ∃ kvs k b,H a = some (.dT kvs) /\ y = .ref b /\ H b = some (.tup (k.map kV)) /\ kvs.length < sizeLine /\ H' = upd H a (.dT (putK kvs k v))
theorem DGet.k {H:Hp} {a:Addr} {kvs:List (Key × V)} {k:Key} (e:H a = some (.dK kvs)):DGet H a (kV k) (valV kvs k):=.inl ⟨kvs,k,.inl e,rfl,rfl⟩
theorem DPut.k {H:Hp} {a:Addr} {kvs:List (Key × V)} {k:Key} {v:V} (e:H a = some (.dK kvs)) (hl:kvs.length < sizeLine):DPut H a (kV k) v (upd H a (.dK (putK kvs k v))):=.inl ⟨kvs,k,e,rfl,hl,rfl⟩
section
variable {X:Cx} {pins:List (Addr × Obj)} {σ:St} {H:Hp} {s:Shared} {a:Addr} {y v:V} {u r:Value} {o:Option V} {A:Around} {E:Value -> Shared -> Prop}

theorem Inv.big (I:Inv X pins σ H s):sysModules < s.heap.objs.size:=by
  have h:mainGlobals < s.heap.objs.size:=(I.mod.glob.keeps I.bk).lt
  exact Nat.lt_trans (by decide) h

theorem d_getItem {Q:Value -> Shared -> Prop} (hu:A.units + 1 < cLine) (I:Inv X pins σ H s) (g:DGet H a y (some v)) (ry:RelV y u) (h:∀ w' s',Inv X pins σ H s' -> RelV v w' -> Q w' s') :
    wpAny (model X.prog X.w) A (getItem (.ref a) u) Q E s:=by
  rcases g with ⟨kvs,k,e,ey,l⟩ | ⟨kvs,k,b,e,ey,eb,l⟩
  · subst ey
    obtain ⟨z,hd,vs,rel,dd⟩:=dk_rd I.hok e
    obtain ⟨w',hw,rw'⟩:=RelO.some_of (v:=v) (o:=valueAt vs k) (by rw [l]; exact rel.val k)
    exact wpAny_getItem_of (kV_is ry) dd.mapOf hw (h w' _ (I.tok _) rw')
  · subst ey
    cases (show u = Value.ref b from ry)
    obtain ⟨z,hd,xs,rel,dd⟩:=dt_rd I.hok e
    obtain ⟨w',hw,rw'⟩:=RelO.some_of (v:=v) (o:=(atKey xs k).map (·.2)) (by rw [l]; exact rel.val k)
    obtain ⟨p,hp,hp2⟩:=Option.map_eq_some_iff.mp hw
    refine wpAny_getItem_heap (tupleKind_room_in1 hu) (key_of I.hok eb) dd hp ?_
    rw [hp2]
    exact h w' _ (I.tok _) rw'
theorem d_write {h':Heap} {t':Nat} {ob:HO} (I:Inv X pins σ H s) (mu:Mut (H a)) (hs:Heap.SameBut a s.heap h') (he:∃ q,h'.get? a = some q) (new:ObjOk X.prog X.w (upd H a ob) h' a ob) :
    Inv X pins σ (upd H a ob) { s with heap:=h',toks:=t' } :=
  I.write (x:=a) (e:=a) mu (.inl rfl) (fun b q hb z=>(hs.2 b hb).trans z) he new
theorem dk_new {P:Program} {w:World} {H':Hp} {h':Heap} {kvs:List (Key × V)} {vs:List (Key × Value)} (z:kvs.length <= sizeLine) (hd:(a == sysModules) = false) (rel:KV kvs vs) (dd:h'.DictOf (mixKind P w) a vs) :
    ObjOk P w H' h' a (.dK kvs):=⟨z,hd,vs,rel,dd⟩
theorem d_setItem {H':Hp} {Q:Unit -> Shared -> Prop} (hu:A.units + 1 < cLine) (I:Inv X pins σ H s) (g:DPut H a y v H') (ry:RelV y u) (rv:RelV v r) (h:∀ s',Inv X pins σ H' s' -> Q () s') :
    wpAny (model X.prog X.w) A (setItem (.ref a) u r) Q E s:=by
  rcases g with ⟨kvs,k,e,ey,l,eH⟩ | ⟨kvs,k,b,e,ey,eb,l,eH⟩
  · subst ey eH
    obtain ⟨z,hd,vs,rel,dd⟩:=dk_of I.hok e
    have hz:vs.length <= sizeLine:=by rw [<- rel.length]; exact z
    have hl:(putK kvs k v).length <= sizeLine:=by have:=length_putK kvs k v; omega
    refine wpAny_setItem_pairs (hsz:=hz) (kV_is ry) dd fun h' dd' hs=>h _ ?_
    have he:∃ q,h'.get? a = some q:=let ⟨q,_,_,hq,_⟩:=dd'; ⟨q,hq⟩
    exact d_write I (by rw [e]; exact True.intro) hs he (dk_new hl hd (rel.put k rv) dd')
  · subst ey eH
    cases (show u = Value.ref b from ry)
    obtain ⟨z,hd,xs,rel,dd⟩:=dt_of I.hok e
    have hz:xs.length <= sizeLine:=by rw [<- Paired.length rel]; exact z
    have hl:(putK kvs k v).length <= sizeLine:=by have:=length_putK kvs k v; omega
    refine wpAny_setItem_heap (hsz:=hz) (tupleKind_room_in1 hu) (key_of I.hok eb) dd fun h' dd' hs=>h _ ?_
    obtain ⟨q,es,ep,hq,h2,h3,h4,_,h5⟩:=dd'
    refine d_write I (by rw [e]; exact True.intro) hs ⟨q,hq⟩ ⟨hl,hd,_,(rel.put k eb rv).keeps fun c ys ec=>?_,q,es,ep,hq,h2,h3,h4,h5⟩
    rw [upd_ne (ne_of ec e (fun z=>nomatch z))]
    exact ec
end

section
variable {X:Cx} {pins:List (Addr × Obj)} {σ:St} {H:Hp} {s:Shared} {a:Addr} {kvs:List (Key × V)} {k:Key} {u:Value} {A:Around} {E:Value -> Shared -> Prop}
end

noncomputable def NoSl (i:Expr):Prop:=∀ ov iv,subscripted i false ov iv = operate [ov,iv] (getItem ov iv)
theorem subD_of {prog:Program} {w:World} {A:Around} {E:Value -> Shared -> Prop} {s:Shared} {env:Env} {value slice:Expr} {pos:Pos} {T id:String} {Q:Value -> Shared -> Prop}
    (hl:typeLookup (.type T) "__getitem__" = pure (some (.builtin id))) (hs:NoSl slice)
    (h:wpAny (model prog w) A (eval value env) (fun o s₁=>wpAny (model prog w) A (eval slice env) (fun i s₂=>s₂.TypeIs o T /\ wpAny (model prog w) A (getItem o i) Q E s₂) E s₁) E s) :
    wpAny (model prog w) A (eval (.Subscript value slice pos) env) Q E s:=by
  refine Subscript_ (wpAny_mono h (fun o s₁ h₁=>wpAny_mono h₁ (fun i s₂ h₂=>?_) fun _ _ x=>x) fun _ _ x=>x)
  obtain ⟨hT,h₂⟩:=h₂
  unfold subscriptTail
  refine wpAny_bind ?_
  rw [getitemInPython_of_ne hT.not_modules]
  refine wpAny_bind (wpAny_specialOf hT hl ?_)
  have fin:wpAny (model prog w) A (subscripted slice false o i) (fun r s₃=>wpAny (model prog w) A (letTemporaryGo value o r >>= fun _=>pure r) Q E s₃) E s₂:=by
    rw [hs o i]
    exact wpAny_operating (wpAny_mono h₂ (fun r s₃ h₃=>wpAny_bind (wpAny_letTemporaryGo (wpAny_pure h₃))) fun _ _ x=>x)
  first
    | exact wpAny_pure (wpAny_bind fin)
    | exact wpAny_bind (wpAny_pure (wpAny_bind fin))
    | exact wpAny_bind fin

theorem dict_typeIs {X:Cx} {pins:List (Addr × Obj)} {σ:St} {H:Hp} {s:Shared} {a:Addr} {y:V} {o:Option V} (I:Inv X pins σ H s) (g:DGet H a y o):s.TypeIs (.ref a) "dict" := by
  rcases g with ⟨kvs,k,e,_,_⟩ | ⟨kvs,k,b,e,_,_,_⟩
  · obtain ⟨_,_,vs,_,dd⟩:=dk_rd I.hok e
    exact dd.typeIs
  · obtain ⟨_,_,xs,_,dd⟩:=dt_rd I.hok e
    exact dd.typeIs
noncomputable def tDGet (td ty:TE):TE:=fun σ H Q=>td σ H fun x H1=>ty σ H1 fun y H2=>∃ a v,x = .ref a /\ DGet H2 a y (some v) /\ Q v H2
noncomputable def sDPut (td ty tv:TE):TS:=fun D σ H=>tv σ H fun v H1=>td σ H1 fun x H2=>ty σ H2 fun y H3=>∃ a H4,x = .ref a /\ DPut H3 a y v H4 /\ D.nx σ H4
section
variable {X:Cx} {o i e value:Expr} {pos pos' tpos:Pos} {td ty tv:TE}
theorem pe_dget (hu:X.A.units + 1 < cLine) (ho:PE X o td) (hi:PE X i ty) (hs:NoSl i):PE X (.Subscript o i pos) (tDGet td ty):=by
  intro pins s σ H Q I h
  refine subD_of PySem.F.slot_dict_getitem.lookup hs (thn (ho pins s σ H _ I h) fun u s1 ⟨x,H1,I1,rx,q1⟩=>thn (hi pins s1 σ H1 _ I1 q1) fun iv s2 ⟨y,H2,I2,ry,a,v,ex,g,q2⟩=>?_)
  subst ex
  obtain rfl:u = Value.ref a:=rx
  exact ⟨dict_typeIs I2 g,d_getItem hu I2 g ry fun w' s3 I3 rw'=>⟨v,H2,I3,rw',q2⟩⟩
theorem ps_dput (hu:X.A.units + 1 < cLine) (ho:PE X o td) (hi:PE X i ty) (hv:PE X value tv) (hs:swapsWith value (some (.Subscript o i pos')) pos.line X.env = pure false) :
    PS X (.Assign [.Subscript o i pos'] value pos) (sDPut td ty tv):=by
  intro pins s σ H D I h
  refine wpAny_Assign_Subscript (thn (hv pins s σ H _ I h) fun r s1 ⟨v,H1,I1,rv,q1⟩=>thn (ho pins s1 σ H1 _ I1 q1) fun u s2 ⟨x,H2,I2,rx,q2⟩=>thn (hi pins s2 σ H2 _ I2 q2) fun iv s3 ⟨y,H3,I3,ry,a,H4,ex,g,q3⟩=>?_) hs
  subst ex
  obtain rfl:u = Value.ref a:=rx
  exact d_setItem hu I3 g ry rv fun s4 I4=>⟨σ,H4,I4,q3⟩
end

theorem dk_empty {P:Program} {w:World} {H:Hp} (h:Heap) (hb:sysModules < h.objs.size):ObjOk P w H (h.push { cls:=.type "dict", data:=.dict #[] }) h.objs.size (.dK []) :=
  ⟨Nat.zero_le _,beq_eq_false_iff_ne.mpr (Ne.symm (Nat.ne_of_lt hb)),[],.nil,Heap.DictOf.new h⟩
section
variable {X:Cx} {pos:Pos}
end

noncomputable def tPairs:List (TE × TE) -> St -> Hp -> (List (V × V) -> Hp -> Prop) -> Prop
  | [],_,H,Q=>Q [] H
  | (tk,tv) :: r,σ,H,Q=>tk σ H fun x H1=>tv σ H1 fun y H2=>tPairs r σ H2 fun ps H3=>Q ((x,y) :: ps) H3
abbrev VV:List (V × V) -> List (Value × Value) -> Prop:=Paired fun p q=>RelV p.1 q.1 /\ RelV p.2 q.2
noncomputable def PPs (X:Cx) (pos:Pos) (keys:List (Option Expr)) (values:List Expr) (trs:List (TE × TE)):Prop :=
  ∀ (pins:List (Addr × Obj)) (s:Shared) (σ:St) (H:Hp) (Q:List (V × V) -> Hp -> Prop),Inv X pins σ H s -> tPairs trs σ H Q ->
    wpAny (model X.prog X.w) X.A (evalPairs (pairTrees keys values X.env pos)) (fun vs s'=>∃ ps H',Inv X pins σ H' s' /\ VV ps vs /\ Q ps H') X.xe s
theorem pps_nil {X:Cx} {pos:Pos}:PPs X pos [] [] []:=fun pins s σ H Q I h=>pairTrees_nil_walk ⟨[],H,I,.nil,h⟩
theorem pps_cons {X:Cx} {pos:Pos} {k v:Expr} {ks:List (Option Expr)} {vs:List Expr} {tk tv:TE} {trs:List (TE × TE)} (hk:PE X k tk) (hv:PE X v tv) (hr:PPs X pos ks vs trs) :
    PPs X pos (some k :: ks) (v :: vs) ((tk,tv) :: trs):=fun pins s σ H Q I h =>
  pairTrees_cons_walk (thn (hk pins s σ H _ I h) fun u s1 ⟨x,H1,I1,rx,q1⟩=>thn (hv pins s1 σ H1 _ I1 q1) fun w2 s2 ⟨y,H2,I2,ry,q2⟩ =>
    thn (hr pins s2 σ H2 _ I2 q2) fun ws s3 ⟨ps,H3,I3,rel,q3⟩=>⟨(x,y) :: ps,H3,I3,.cons ⟨rx,ry⟩ rel,q3⟩)

noncomputable def mergeK (kvs more:List (Key × V)):List (Key × V):=more.foldl (fun acc kv=>putK acc kv.1 kv.2) kvs
theorem KV.merge:∀ {more:List (Key × V)} {rs:List (Key × Value)} {kvs:List (Key × V)} {vs:List (Key × Value)},KV more rs -> KV kvs vs -> KV (mergeK kvs more) (merged vs rs):=by
  intro more rs kvs vs r
  unfold KV at r
  induction r generalizing kvs vs with
  | nil=>intro q; exact q
  | @cons p q ps qs h t ih =>
    intro r0
    have e:KV (putK kvs p.1 p.2) (stored vs q.1 q.2):=by
      have:=r0.put p.1 h.2
      rw [<- h.1]; exact this
    exact ih e
theorem length_mergeK:∀ (more kvs:List (Key × V)),(mergeK kvs more).length <= kvs.length + more.length
  | [],kvs=>by show kvs.length <= kvs.length + 0; omega
  | p :: r,kvs=>by
    have h1:=length_mergeK r (putK kvs p.1 p.2)
    have h2:=length_putK kvs p.1 p.2
    show (mergeK (putK kvs p.1 p.2) r).length <= _
    rw [List.length_cons]; omega
theorem carries_of {P:Program} {w:World}:∀ {kvs:List (Key × V)} {ws:List (Value × Value)},VV (kvs.map fun kv=>(kV kv.1,kv.2)) ws -> ∃ rs,Carries (mixKind P w) ws rs /\ KV kvs rs
  | [],_,r=>by rw [List.map_nil] at r; cases r; exact ⟨[],True.intro,.nil⟩
  | p :: kvs,_,r=>by
    rw [List.map_cons] at r
    cases r with
    | @cons a b as bs h t =>
      obtain ⟨rs,c,q⟩:=carries_of (P:=P) (w:=w) t
      obtain ⟨b1,b2⟩:=b
      exact ⟨(p.1,b2) :: rs,⟨kV_is h.1,rfl,c⟩,.cons ⟨rfl,h.2⟩ q⟩
noncomputable def tDisp (trs:List (TE × TE)):TE:=fun σ H Q=>∀ p,H p = none -> tPairs trs σ (upd H p (.dK [])) fun ps H2=>H2 p = some (.dK []) /\ ∃ kvs:List (Key × V),ps = kvs.map (fun kv=>(kV kv.1,kv.2)) /\ kvs.length <= 15 /\ Q (.ref p) (upd H2 p (.dK (mergeK [] kvs)))
theorem pe_disp {X:Cx} {pos:Pos} {keys:List (Option Expr)} {values:List Expr} {trs:List (TE × TE)} (h:PPs X pos keys values trs) (hall:keys.all (·.isSome) = true) (hl:keys.length = values.length) (h0:keys ≠ [])
    (h15:keys.length <= 15):PE X (.Dict keys values pos) (tDisp trs):=by
  intro pins s σ H Q I q
  have hn:=I.hok.fresh (Nat.le_refl s.heap.objs.size)
  have I1:=I.laid (a:=s.heap.objs.size) (o:=.dK []) (h':=s.heap.push { cls:=.type "dict", data:=.dict #[] }) (t':=s.toks) (fun _ _ q=>Heap.get?_push_of_some _ q) (Nat.le_refl _) (dk_empty s.heap I.big)
  refine wpAny_Dict_walk (knd:=mixKind X.prog X.w) hall hl h0 h15 (thn (h pins _ σ _ _ I1 (q _ hn)) fun ws s2 ⟨ps,H2,I2,rel,e,kvs,ep,lk,q2⟩=>?_)
  subst ep
  obtain ⟨rs,c,rk⟩:=carries_of (P:=X.prog) (w:=X.w) rel
  obtain ⟨z,hd,vs0,r0,dd⟩:=dk_of I2.hok e
  cases r0
  refine ⟨rs,c,dd,fun h' dd' hs=>⟨.ref s.heap.objs.size,_,?_,rfl,q2⟩⟩
  have hz:(mergeK [] kvs).length <= sizeLine:=by
    have h1:=length_mergeK kvs []
    rw [List.length_nil] at h1
    rw [sizeLine_eq]; omega
  have he:∃ q,h'.get? s.heap.objs.size = some q:=let ⟨q,_,_,hq,_⟩:=dd'; ⟨q,hq⟩
  exact d_write I2 (by rw [e]; exact True.intro) hs he (dk_new hz hd (rk.merge .nil) dd')

structure M1 (X:Cx) (o:Expr) (m:Str) (apos:Pos) (e:Expr) (cpos:Pos):Prop where
  base:attributeBase o m X.env (eval o X.env) = eval o X.env
  few:((backTo cpos (starEach [e] X.env)).all (fun x=>!x.1) && (backToKw cpos (keywordEach [] X.env)).all (fun x=>x.1.isSome)
    && decide (([e]:List Expr).length + ([]:List Keyword).length + (if ([]:List Keyword).isEmpty then 0 else 1) < 30)) = true
  line:(apos.endLine == cpos.line) = true
  trees:backTo cpos (starEach [e] X.env) = [(false,eval e X.env)]
section
variable {X:Cx} {pins:List (Addr × Obj)} {σ:St} {H:Hp} {s:Shared} {a:Addr} {y d:V} {u r:Value} {o:Option V} {A:Around} {E:Value -> Shared -> Prop}
end

section
variable {X:Cx} {o e f:Expr} {apos cpos:Pos} {td ty tx:TE}
end

section
variable {X:Cx} {pins:List (Addr × Obj)} {σ:St} {H:Hp} {s:Shared} {a:Addr} {kvs:List (Key × V)} {A:Around} {E:Value -> Shared -> Prop}
end

section
variable {X:Cx} {pins:List (Addr × Obj)} {σ:St} {H:Hp} {s:Shared} {a:Addr} {y:V} {u:Value} {A:Around} {E:Value -> Shared -> Prop}
end
end L2

namespace Att
open PySem PySem.W PySem.Calls PyProof.Rows

theorem ints_of_wellAll {P:Params} {h:Heap}:∀ (ns:List Int) (vs:List Value),WellAll P h vs (ns.map WData.int) -> IntsAre vs ns:=by
  intro ns
  induction ns with
  | nil =>
    intro vs w
    rw [List.map_nil] at w
    cases w
    exact .nil
  | cons n ns ih =>
    intro vs w
    rw [List.map_cons] at w
    cases w with
    | cons a b =>
      cases a
      exact .cons _ _ (ih _ b)

theorem script_of {l:OpenLaw} {n:Nat} (hn:l.most = some n) {P:Params} {h:Heap} {args:List WData} {vals:List Value}
    (hpre:l.row.toRowW.claim.pre args = true) (hwl:WellAll P h vals args) :
    ∃ a vs ns,vals = [Value.ref a] /\ args = [WData.list (ns.map WData.int)] /\ h.get? a = some { cls:=.type "list", data:=.seq vs.toArray } /\ IntsAre vs ns /\ ns.length <= n:=by
  have hsh:WShape.hasAll [] args [.list .int] = true:=(pre_splitW hpre).1
  have hc:l.pre.holds [] { args:=args } = true:=(pre_splitW hpre).2
  obtain ⟨d,r,rfl,h1,h2⟩:=hasAllW_cons hsh
  obtain rfl:=hasAllW_nil h2
  obtain ⟨xs,rfl,h3⟩:=hasW_list h1
  obtain ⟨ns,rfl⟩:=items_int h3
  have hlen:ns.length <= n:=by
    unfold OpenLaw.pre at hc
    have h4:(WTm.not (.lt (.lit (.int (n:Int))) (.len (.arg 0)))).holds [] { args:=[.list (ns.map .int)] } = true:=by
      have h4:=(holds_andW hc).1
      rw [hn] at h4
      exact h4
    have h5:=condW_of h4 (w_not (w_lt w_lit (w_len_list (w_arg rfl))))
    rw [List.length_map] at h5
    refine Nat.le_of_not_lt fun q=>?_
    have q':(n:Int) < ((ns.length:Nat):Int):=by omega
    first
      | (rw [decide_eq_true q'] at h5; exact absurd h5 (by decide))
      | (simp at h5; omega)
  cases hwl with
  | cons w1 w2 =>
    cases w2
    cases w1 with
    | list ho hall=>exact ⟨_,_,ns,rfl,rfl,ho,ints_of_wellAll ns _ hall,hlen⟩

theorem post_true (l:OpenLaw) (args:List WData):l.row.toRowW.claim.post args (.bool true) args = true :=
  postW_of (r:=l.row.toRowW) (X:=(true == true))
    (show WShape.has [] (.bool true) .bool = true by first | rfl | decide | simp [WShape.has,WShape.arms,WShape.armsAll])
    (show (WTm.eq .res (.lit (.bool true))).value [] { args:=args,res:=some (.bool true),after:=args } = some (.bool (true == true)) from w_eq_bool (w_res rfl) w_lit) rfl

theorem attach_call {l:OpenLaw} {n:Nat} {q:Program} {loose:List Str} {XP:(Str -> Option Value) -> Heap -> Prop} {YP:World -> Heap -> Prop} {d:DefRec}
    (hn:l.most = some n) (hdf:d.params.defaults = [])
    (call:∀ (w:World) (s₀ s₁:Shared) (mg mb:Str -> Option Value) (fa:Addr) (o:Obj) (pm cd doc:Value) (a:Addr) (vs:List Value) (ns:List Int),
      Ground q loose [] XP w s₀ mg mb s₁.heap -> YP w s₁.heap ->
      s₁.heap.get? fa = some o -> o.data = .func (docDef d.name d.params d.body d.scope pm cd doc) -> s₁.heap.CodeRec cd d.name -> mg d.name = some (.ref fa) ->
      s₁.heap.get? a = some { cls:=.type "list", data:=.seq vs.toArray } -> IntsAre vs ns -> ns.length <= n -> s₁.gens = #[] ->
      codeAny (model l.prog w) callerA (.call (.ref fa) ⟨[.ref a],[]⟩) (fun r s'=>r = .ok (.ret (.bool true)) /\ OldK s₁.heap s'.heap /\ s'.os = s₁.os /\ AllBare s'.gens) s₁) :
    WalkO q loose XP YP l.row.toRowW d [] (fun f vs=>PySem.call f vs):=by
  intro w s₀ s₁ mg mb G Y fa o pm cd doc dV kV ho hd hcd hD hmg hg args vals as hpre hlay hrd hwl hlo
  obtain rfl:dV = .none:=Dflts.none hD hdf
  obtain rfl:kV = .none:=Dflts.noKw hD
  obtain ⟨a,vs,ns,rfl,rfl,hobj,hints,hlen⟩:=script_of hn hpre hwl
  refine enter_call (codeAny_mono (call w s₀ s₁ mg mb fa o pm cd doc a vs ns G Y ho (fd_plain hd) hcd hmg hobj hints hlen hg) fun r s' hq=>?_)
  obtain ⟨rfl,h2,h3,h4⟩:=hq
  exact ⟨.inl ⟨.bool true,.bool true,[],rfl,fun _=>rfl,.bool true,post_true l _,fun _=>⟨List.Pairwise.nil,fun _ hm=>(nomatch hm)⟩⟩,h2,h3,h4⟩

section
variable {prog:Program} {w:World} {A:Around} {E:Value -> Shared -> Prop} {s:Shared} {K:Frag}

end
end Att

namespace L2
open PySem PySem.Spec PyProof.Rows

theorem vals_ints:∀ {vs:List Value} {ns:List Int},IntsAre vs ns -> Vals (ns.map V.int) vs
  | _,_,.nil=>.nil
  | _,_,.cons n t h=>.cons ⟨t,rfl⟩ (vals_ints h)

noncomputable def Only (H:Hp):Prop:=∀ b,H b = none \/ ∃ o xs,H b = some (.frz o (.lst xs))

theorem law_call {P:Program} {w:World} {K:W.Frag} {mg mb:Str -> Option Value} {CX:CXT} {k:Nat} {fa a:Addr} {fd:FuncData} {x:Str} {sp:Sp} {s₁:Shared} {vs:List Value} {ns:List Int}
    (KX:K.In s₁.heap) (hns:s₁.heap.Ns mainGlobals mg) (hb:s₁.heap.Ns builtinsNs mb) (hbb:∀ x:Str,x ≠ "__name__" -> mb x = bootBuiltins x) (hlim:s₁.heap.NoLimit) (hg:s₁.gens = #[])
    (ha:s₁.heap.get? a = some { cls:=.type "list", data:=.seq vs.toArray }) (hi:IntsAre vs ns) (hl:ns.length <= sizeLine) (hr:Room k callerA)
    (F:∀ base:Heap,K.In base -> base.Ns mainGlobals mg -> FnOk P w K mg base CX k fa fd [x] sp) (hbind:∀ (s:Shared) (u:Value),BindsTo s fd ⟨[u],[]⟩ [(x,u)])
    (hsp:∀ H:Hp,Only H -> SqL K H a (ns.map V.int) -> sp [.ref a] H (fun v _=>v = .bl true) fun _ _ _=>False)
    (hCX:∀ H e s',CX [] H s₁ (fun _ _ _=>False) e s' -> False) :
    codeAny (model P w) callerA (.call (.ref fa) ⟨[.ref a],[]⟩) (fun r s'=>r = .ok (.ret (.bool true)) /\ OldK s₁.heap s'.heap /\ s'.os = s₁.os /\ AllBare s'.gens) s₁:=by
  have rv:=vals_ints hi
  have lenV:=hi.length
  have core:∀ H:Hp,Only H -> SqL K H a (ns.map V.int) -> HOk P w H s₁.heap -> (∀ b,H b ≠ none -> b = a) -> (H a ≠ none -> K.lookup a = none) ->
      codeAny (model P w) callerA (.call (.ref fa) ⟨[.ref a],[]⟩) (fun r s'=>r = .ok (.ret (.bool true)) /\ OldK s₁.heap s'.heap /\ s'.os = s₁.os /\ AllBare s'.gens) s₁:=by
    intro H hO hS hok hA hK
    have base_of:∀ {b:Addr} {o:Obj},s₁.heap.get? b = some o -> H b = none -> (hidT s₁.heap H).get? b = some o:=fun e n=>hidT_get e n
    have noA:∀ {b:Addr} {o:Obj} {es:Array DictEntry} {ep:Nat},s₁.heap.get? b = some o -> o.data = .dict es ep -> H b = none:=fun {b o es ep} e d=>by
      cases q:H b with
      | none=>rfl
      | some u =>
        have e':b = a:=hA b (by rw [q]; simp)
        subst e'
        rw [ha] at e; cases e
        have d':Data.seq vs.toArray _ = Data.dict es ep:=d
        cases d'
    have nsK:∀ {b:Addr} {m:Str -> Option Value},s₁.heap.Ns b m -> (hidT s₁.heap H).Ns b m:=fun {b m} ⟨o,es,ep,e,d,r⟩=>⟨o,es,ep,base_of e (noA e d),d,r⟩
    have hKb:K.In (hidT s₁.heap H):=fun b o e=>base_of (KX b o e) (by
      cases q:H b with
      | none=>rfl
      | some u =>
        have e':b = a:=hA b (by rw [q]; simp)
        subst e'
        rw [hK (by rw [q]; simp)] at e; cases e)
    have hM:Mod K mg (hidT s₁.heap H):=⟨hKb,nsK hns,⟨mb,nsK hb,hbb⟩,let ⟨mc,h1,h2⟩:=hlim; ⟨mc,nsK h1,h2⟩⟩
    have e0:Env0 P w K mg (hidT s₁.heap H) callerA [] s₁ H:=⟨rfl,hM,fun b o e=>of_hidT e,Nat.le_of_eq (hidT_size _ _),trivial,fun b hb=>absurd (show b ∈ ([]:List Addr) from hb) (by simp),hok,.of_eq hg⟩
    refine codeAny_mono ((F _ hKb (nsK hns)).run callerA [] s₁ H ⟨[.ref a],[]⟩ [.ref a] [.ref a] _ _ hr e0 (hbind s₁ (.ref a)) (.cons rfl .nil) (hsp H hO hS)) fun r s' h=>?_
    cases r with
    | error e=>exact (hCX H e s' h).elim
    | ok fl =>
      cases fl with
      | next=>exact False.elim h
      | brk=>exact False.elim h
      | cont=>exact False.elim h
      | ret u =>
        obtain ⟨v,H',os,bare,un,hok',r',q⟩:=h
        have q':v = .bl true:=q
        subst q'
        obtain rfl:u = Value.bool true:=r'
        refine ⟨rfl,OldK.of_keep fun b o e=>?_,os,bare⟩
        cases q:H b with
        | none=>exact un.keep b o e q (by intro z; exact absurd (show b ∈ ([]:List Addr) from z) (by simp)) (by simp)
        | some u =>
          rcases hO b with z | ⟨ob,xs,z⟩
          · rw [q] at z; cases z
          · have z2:=un.frzs b ob _ z
            obtain ⟨e1,_⟩:=hok b _ z
            obtain ⟨e2,_⟩:=hok' b _ z2
            rw [e] at e1; cases e1
            exact e2
  cases hk:K.lookup a with
  | some o =>
    have e:=KX a o hk
    rw [ha] at e
    cases e
    refine core (fun _=>none) (fun _=>.inl rfl) (.inr ⟨_,vs.toArray,_,hk,rfl,rfl,rfl,by rw [List.size_toArray,lenV]; exact hl,by simpa using rv⟩) (fun b u z=>by have z':(none:Option HO) = some u:=z; cases z') (fun b z=>absurd rfl z) fun z=>absurd rfl z
  | none =>
    refine core (fun b=>if b = a then some (.frz { cls:=.type "list", data:=.seq vs.toArray } (.lst (ns.map V.int))) else none) (fun b=>?_) (.inl (.inr ⟨{ cls:=.type "list", data:=.seq vs.toArray },if_pos rfl⟩)) (fun b u z=>?_) (fun b z=>?_) fun _=>hk
    · by_cases hb:b = a
      · exact .inr ⟨_,_,if_pos hb⟩
      · exact .inl (if_neg hb)
    · by_cases hb:b = a
      · have z':=(if_pos hb).symm.trans z
        cases z'
        subst hb
        exact ⟨ha,by rw [List.length_map]; exact hl,vs,_,rv,ha⟩
      · have z':=(if_neg hb).symm.trans z
        cases z'
    · by_cases hb:b = a
      · exact hb
      · exact absurd (if_neg hb) z
end L2

namespace L2
open PySem PySem.Spec PyProof.Rows

theorem walk_of {l:W.OpenLaw} {n k:Nat} {q:Program} {loose:List Str} {XP:(Str -> Option Value) -> Heap -> Prop} {YP:World -> Heap -> Prop} {d:DefRec} {K:Params -> W.Frag} {CX:World -> CXT} {sp:World -> Sp} {x:Str}
    (hn:l.most = some n) (hn2:n <= sizeLine) (hdf:d.params.defaults = []) (hr:Room k callerA)
    (hY:∀ (w:World) (h:Heap),YP w h -> (K w.params).In h)
    (F:∀ (w:World) (mg:Str -> Option Value) (fa:Addr) (h:Heap),(K w.params).In h -> h.Ns mainGlobals mg -> mg d.name = some (.ref fa) ->
      ∃ fd:FuncData,(∀ (s:Shared) (u:Value),BindsTo s fd ⟨[u],[]⟩ [(x,u)]) /\
        ∀ base:Heap,(K w.params).In base -> base.Ns mainGlobals mg -> FnOk l.prog w (K w.params) mg base (CX w) k fa fd [x] (sp w))
    (hsp:∀ (w:World) (H:Hp) (a:Addr) (ns:List Int),ns.length <= n -> Only H -> SqL (K w.params) H a (ns.map V.int) -> sp w [.ref a] H (fun v _=>v = .bl true) fun _ _ _=>False)
    (hCX:∀ (w:World) (H:Hp) (s:Shared) (e:Value) (s':Shared),CX w [] H s (fun _ _ _=>False) e s' -> False) :
    W.WalkO q loose XP YP l.row.toRowW d [] (fun f vs=>PySem.call f vs):=by
  refine Att.attach_call hn hdf fun w s₀ s₁ mg mb fa o pm cd doc a vs ns G Y ho hd hcd hmg hobj hints hlen hg=>?_
  have KX:=hY w _ Y
  obtain ⟨fd,hb,hF⟩:=F w mg fa _ KX G.T.g hmg
  exact law_call KX G.T.g G.T.b G.T.builtins G.T.nolimit hg hobj hints (Nat.le_trans hlen hn2) hr hF hb (fun H hO hS=>hsp w H a ns hlen hO hS) fun H e s'=>hCX w H s₁ e s'
end L2

namespace L2
open PySem PySem.Spec PyProof.Rows


abbrev CX0:CXT:=fun _ _ _ _ _ _=>False
abbrev E0:XK:=fun _ _ _=>False
theorem pass0 {X:Cx}:Passes CX0 X E0:=fun _ _ _ _ _ _ _ h=>h.elim

structure Fun (K:W.Frag) (x qual:Str) (st:Stmt) (f:Addr) (fd:FuncData):Prop where
  ex:∃ (oc:Value) (od:Option Addr) (kV doc pm:Value) (an:Option Addr) (cdv ct:Value) (osl:Array (Option Value)),
    fd = W.fnOf x qual (defArgs st) (defBody st) (defScope st) .none kV doc pm an cdv ct /\ K.lookup f = some ⟨oc,od,.func fd,osl⟩ /\ W.codeIn K cdv qual = true
  kp:W.keepIn K (.ref f) = true
section
variable {P:Program} {w:World} {K:W.Frag} {mg:Str -> Option Value} {base:Heap}
theorem Fun.ok {x qual:Str} {st:Stmt} {f:Addr} {fd:FuncData} {N ps:List Str} {k:Nat} {sp:Sp} (F:Fun K x qual st f fd) (S:FnScope N ps (defScope st)) (len:∀ vs H Q E,sp vs H Q E -> vs.length = ps.length)
    (hbody:∀ (cdv:Value) (A:Around) (outer:List Env) (s:Shared) (H:Hp) (vs:List V) (Q:VK) (E:XK),Room k (A.deeper (envOfC qual (defScope st) s.heap.objs.size f cdv)) -> sp vs H Q E ->
      ∃ t,PSs (cxOf CX0 P w K mg base N qual (defScope st) f cdv A outer s H E).nox (defBody st) t /\ t { nx:=fun _ H'=>Q .non H',rt:=Q } (start N vs) H):FnOk P w K mg base CX0 (k + 1) f fd ps sp:=by
  obtain ⟨oc,od,kV,doc,pm,an,cdv,ct,osl,rfl,lk,hcd⟩:=F.ex
  refine fn_of lk hcd S len fun A outer s H vs Q E hr hsp=>?_
  obtain ⟨t,h,q⟩:=hbody cdv A outer s H vs Q E hr hsp
  exact ⟨t,h.nox,q⟩
theorem Fun.binds {x qual:Str} {st:Stmt} {f:Addr} {fd:FuncData} {ps:List Str} (F:Fun K x qual st f fd)
    (h:∀ (kV doc pm:Value) (an:Option Addr) (cdv ct:Value) (us:List Value),us.length = ps.length -> bindArgs (W.fnOf x qual (defArgs st) (defBody st) (defScope st) .none kV doc pm an cdv ct) ⟨us,[]⟩ = pure (ps.zip us)):Binds K fd ps []:=by
  obtain ⟨oc,od,kV,doc,pm,an,cdv,ct,osl,rfl,lk,hcd⟩:=F.ex
  exact .all (h kV doc pm an cdv ct)
theorem fun_mk {x qual:Str} {st:Stmt} {f:Addr} {oc:Value} {od an:Option Addr} {osl:Array (Option Value)} {kV doc pm cdv ct:Value} (l:K.lookup f = some ⟨oc,od,.func (W.fnOf x qual (defArgs st) (defBody st) (defScope st) .none kV doc pm an cdv ct),osl⟩)
    (c:W.codeIn K cdv qual = true) (k:W.keepIn K (.ref f) = true):Fun K x qual st f (W.fnOf x qual (defArgs st) (defBody st) (defScope st) .none kV doc pm an cdv ct):=⟨⟨oc,od,kV,doc,pm,an,cdv,ct,osl,rfl,l,c⟩,k⟩
end
theorem hu_of {A:Around} {k:Nat} (hr:Room k A):A.units + 1 < cLine:=Nat.lt_of_le_of_lt (Nat.add_le_add_left (by decide : 1 <= 64) _) hr.units
theorem small1000 {n:Nat} (h:n <= 1000):n < sizeLine:=Nat.lt_of_le_of_lt h (by decide)

section
variable {X:Cx}
end

noncomputable def Same (H H':Hp):Prop:=∀ b o,H b = some o -> H' b = some o
theorem Same.refl (H:Hp):Same H H:=fun _ _ h=>h
theorem Same.trans {H H1 H2:Hp} (a:Same H H1) (b:Same H1 H2):Same H H2:=fun c o h=>b c o (a c o h)
theorem Same.free {H H':Hp} (e:Same H H') {l:Addr} (h:H' l = Option.none):H l = Option.none:=by
  cases q:H l with
  | none=>rfl
  | some o =>
    rw [e l o q] at h
    cases h
end L2

namespace L2
open PySem PySem.Spec PyProof.Rows
section
variable {X:Cx}
end
section
variable {κ:Type} [DecidableEq κ]
end
end L2



namespace L2.VL
open PySem PySem.Spec PyProof.Rows
structure RlT where
  a:Option Addr
  b:Nat × List Int
abbrev RlT.no:RlT:=⟨none,(0,[])⟩
abbrev RlT.at' (r:Addr) (b:Nat × List Int):RlT:=⟨some r,b⟩
noncomputable def RO (c:Nat × List Int) (F:Hp) (o:HO):Prop:=∃ (a l t:Int),o = .dK [(Sum.inr "cells", .ref c.1),(Sum.inr "at", .int a),(Sum.inr "left", .int l),(Sum.inr "turn", .int t)] /\ F c.1 = some (.lst (c.2.map V.int)) /\ c.2.length <= 63 /\ 0 <= a /\ 0 <= l /\ 0 <= t
theorem RO.mono {c:Nat × List Int} {F F':Hp} {o:HO} (s:Same F F') (h:RO c F o):RO c F' o:=by
  obtain ⟨a,l,t,e,q,r⟩:=h
  exact ⟨a,l,t,e,s _ _ q,r⟩
end L2.VL

namespace L2.VL
open PySem PySem.Spec PyProof.Rows

mutual
inductive Rep (K:W.Frag) (F:Hp):V -> PyData -> Prop
  | non:Rep K F .non .none
  | bl (b:Bool):Rep K F (.bl b) (.bool b)
  | int (i:Int):Rep K F (.int i) (.int i)
  | str (x:Str):Rep K F (.str x) (.str x)
  | tup {a:Addr} {vs:List V} {ds:List PyData}:SqT K F a vs -> Reps K F vs ds -> Rep K F (.ref a) (.tuple ds)
  | lst {a:Addr} {vs:List V} {ds:List PyData}:F a = some (.lst vs) -> Reps K F vs ds -> Rep K F (.ref a) (.list ds)
inductive Reps (K:W.Frag) (F:Hp):List V -> List PyData -> Prop
  | nil:Reps K F [] []
  | cons {v:V} {d:PyData} {vs:List V} {ds:List PyData}:Rep K F v d -> Reps K F vs ds -> Reps K F (v :: vs) (d :: ds)
end

theorem sameT {K:W.Frag} {H H':Hp} {a:Addr} {xs:List V} (e:Same H H') (h:SqT K H a xs):SqT K H' a xs:=by
  rcases h with (h | ⟨o,h⟩) | h
  · exact .inl (.inl (e _ _ h))
  · exact .inl (.inr ⟨o,e _ _ h⟩)
  · exact .inr h
theorem sameL {K:W.Frag} {H H':Hp} {a:Addr} {xs:List V} (e:Same H H') (h:SqL K H a xs):SqL K H' a xs:=by
  rcases h with (h | ⟨o,h⟩) | h
  · exact .inl (.inl (e _ _ h))
  · exact .inl (.inr ⟨o,e _ _ h⟩)
  · exact .inr h
mutual
theorem Rep.mono {K:W.Frag} {F F':Hp} (s:Same F F'):∀ {v:V} {d:PyData},Rep K F v d -> Rep K F' v d
  | _,_,.non=>.non
  | _,_,.bl b=>.bl b
  | _,_,.int i=>.int i
  | _,_,.str x=>.str x
  | _,_,.tup h r=>.tup (sameT s h) (Reps.mono s r)
  | _,_,.lst h r=>.lst (s _ _ h) (Reps.mono s r)
theorem Reps.mono {K:W.Frag} {F F':Hp} (s:Same F F'):∀ {vs:List V} {ds:List PyData},Reps K F vs ds -> Reps K F' vs ds
  | _,_,.nil=>.nil
  | _,_,.cons h r=>.cons (Rep.mono s h) (Reps.mono s r)
end
theorem Reps.length {K:W.Frag} {F:Hp}:∀ {vs:List V} {ds:List PyData},Reps K F vs ds -> vs.length = ds.length
  | _,_,.nil=>rfl
  | _,_,.cons _ r=>by simp [Reps.length r]
theorem Reps.get {K:W.Frag} {F:Hp}:∀ {vs:List V} {ds:List PyData} {i:Nat} {d:PyData},Reps K F vs ds -> ds[i]? = some d -> ∃ v,vs[i]? = some v /\ Rep K F v d
  | _,_,_,_,.nil,e=>by simp at e
  | _,_,0,_,.cons h _,e=>by simp at e; subst e; exact ⟨_,rfl,h⟩
  | _,_,i + 1,d,.cons _ r,e=>by
    obtain ⟨v,h1,h2⟩:=Reps.get (i:=i) (d:=d) r (by simpa using e)
    exact ⟨v,by simpa using h1,h2⟩
theorem Reps.append {K:W.Frag} {F:Hp}:∀ {vs us:List V} {ds es:List PyData},Reps K F vs ds -> Reps K F us es -> Reps K F (vs ++ us) (ds ++ es)
  | _,_,_,_,.nil,s=>s
  | _,_,_,_,.cons h r,s=>.cons h (Reps.append r s)
theorem Reps.snoc {K:W.Frag} {F:Hp} {vs:List V} {ds:List PyData} {v:V} {d:PyData} (r:Reps K F vs ds) (h:Rep K F v d):Reps K F (vs ++ [v]) (ds ++ [d]):=r.append (.cons h .nil)
theorem Reps.take {K:W.Frag} {F:Hp}:∀ {vs:List V} {ds:List PyData} (n:Nat),Reps K F vs ds -> Reps K F (vs.take n) (ds.take n)
  | _,_,0,_=>.nil
  | _,_,_ + 1,.nil=>.nil
  | _,_,n + 1,.cons h r=>.cons h (Reps.take n r)
theorem Reps.drop {K:W.Frag} {F:Hp}:∀ {vs:List V} {ds:List PyData} (n:Nat),Reps K F vs ds -> Reps K F (vs.drop n) (ds.drop n)
  | _,_,0,r=>r
  | _,_,_ + 1,.nil=>.nil
  | _,_,n + 1,.cons _ r=>Reps.drop n r
theorem Reps.nil_iff {K:W.Frag} {F:Hp} {vs:List V} (h:Reps K F vs []):vs = []:=by cases h; rfl

mutual
theorem Rep.reads {X:Cx} {pins:List (Addr × Obj)} {σ:St} {H F:Hp} {s:Shared} (I:Inv X pins σ H s) (sub:Same F H):∀ {v:V} {d:PyData},Rep X.K F v d -> ∀ u,RelV v u -> ∃ as,Reads s.heap u d as
  | _,_,.non,u,r=>by cases (show u = Value.none from r); exact ⟨_,.none⟩
  | _,_,.bl b,u,r=>by cases (show u = Value.bool b from r); exact ⟨_,.bool b⟩
  | _,_,.int i,u,r=>by obtain ⟨t,q⟩:=(show ∃ t,u = Value.int i t from r); cases q; exact ⟨_,.int i t⟩
  | _,_,.str x,u,r=>by obtain ⟨t,q⟩:=(show ∃ t,u = Value.str x t from r); cases q; exact ⟨_,.str x t⟩
  | _,_,.tup (a:=a) h q,u,r=>by
    cases (show u = Value.ref a from r)
    obtain ⟨its,rv,⟨o,h1,h2,n,h3⟩,hz⟩:=I.tuple (sameT sub h)
    obtain ⟨as,ra⟩:=Reps.reads I sub q its rv
    exact ⟨_,.tuple h1 h2 h3 (by simpa using ra)⟩
  | _,_,.lst (a:=a) h q,u,r=>by
    cases (show u = Value.ref a from r)
    obtain ⟨its,rv,p,hz⟩:=I.list (.inl (.inl (sub _ _ h)))
    obtain ⟨o,h1,h2,n,h3⟩:=p.isList
    obtain ⟨as,ra⟩:=Reps.reads I sub q its rv
    exact ⟨_,.list h1 h2 h3 (by simpa using ra)⟩
theorem Reps.reads {X:Cx} {pins:List (Addr × Obj)} {σ:St} {H F:Hp} {s:Shared} (I:Inv X pins σ H s) (sub:Same F H):∀ {vs:List V} {ds:List PyData},Reps X.K F vs ds -> ∀ us,Vals vs us -> ∃ as,ReadsAll s.heap us ds as
  | _,_,.nil,us,r=>by cases r; exact ⟨_,.nil⟩
  | _,_,.cons h q,us,r=>by
    cases r with
    | cons r1 r2 =>
      obtain ⟨as,a1⟩:=Rep.reads I sub h _ r1
      obtain ⟨bs,a2⟩:=Reps.reads I sub q _ r2
      exact ⟨_,.cons a1 a2⟩
end

structure ReelOk (b:Nat × List Int) (F H:Hp) (r:Addr):Prop where
  ex:∃ o,H r = some o /\ RO b F o
noncomputable def RAt (rl:RlT) (F H:Hp):Prop:=∀ r,rl.a = some r -> F r = none /\ ReelOk rl.b F H r
theorem RAt.live {rl:RlT} {F H:Hp} (h:RAt rl F H) {r:Addr} (e:rl.a = some r):∃ o,H r = some o:=by
  obtain ⟨_,⟨o,q,_⟩⟩:=h r e
  exact ⟨_,q⟩

structure Grow (rl:RlT) (F H F' H':Hp):Prop where
  same:∀ b o,H b = some o -> rl.a ≠ some b -> H' b = some o
  fs:Same F F'
  sub:Same F' H'
  old:∀ b o,H b = some o -> F' b = F b
  reel:RAt rl F' H'
theorem Grow.refl {rl:RlT} {F H:Hp} (s:Same F H) (r:RAt rl F H):Grow rl F H F H:=⟨fun _ _ e _=>e,.refl F,s,fun _ _ _=>rfl,r⟩
theorem Grow.live {rl:RlT} {F H F' H':Hp} (g:Grow rl F H F' H') {b:Addr} {o:HO} (e:H b = some o):∃ o',H' b = some o':=by
  by_cases h:rl.a = some b
  · exact g.reel.live h
  · exact ⟨o,g.same b o e h⟩
theorem Grow.trans {rl:RlT} {F H F1 H1 F2 H2:Hp} (a:Grow rl F H F1 H1) (b:Grow rl F1 H1 F2 H2):Grow rl F H F2 H2 :=
  ⟨fun c o e n=>b.same c o (a.same c o e n) n,a.fs.trans b.fs,b.sub,fun c o e=>by obtain ⟨o',e'⟩:=a.live e; rw [b.old c o' e',a.old c o e],b.reel⟩
theorem Grow.freeB {rl:RlT} {F H F' H':Hp} (g:Grow rl F H F' H') {b:Addr} (e:H' b = none):H b = none:=by
  cases q:H b with
  | none=>rfl
  | some o=>obtain ⟨o',e'⟩:=g.live q; rw [e] at e'; cases e'
theorem Grow.laid {rl:RlT} {F H:Hp} {a:Addr} {o:HO} (s:Same F H) (r:RAt rl F H) (n:H a = none):Grow rl F H F (upd H a o):=by
  have ne:∀ b u,H b = some u -> b ≠ a:=fun b u e=>ne_of_none e n
  refine ⟨fun b u e _=>by rw [upd_ne (ne b u e)]; exact e,.refl F,fun b u e=>by rw [upd_ne (ne b u (s b u e))]; exact s b u e,fun _ _ _=>rfl,fun q e=>?_⟩
  obtain ⟨z,⟨u,h1,h2⟩⟩:=r q e
  exact ⟨z,⟨u,by rw [upd_ne (ne _ _ h1)]; exact h1,h2⟩⟩
theorem Grow.data {rl:RlT} {F H:Hp} {a:Addr} {o:HO} (s:Same F H) (r:RAt rl F H) (n:H a = none):Grow rl F H (upd F a o) (upd H a o):=by
  have ne:∀ b u,H b = some u -> b ≠ a:=fun b u e=>ne_of_none e n
  have neF:∀ b u,F b = some u -> b ≠ a:=fun b u e=>ne b u (s b u e)
  refine ⟨fun b u e _=>by rw [upd_ne (ne b u e)]; exact e,fun b u e=>by rw [upd_ne (neF b u e)]; exact e,fun b u e=>?_,fun b u e=>by rw [upd_ne (ne b u e)],fun q e=>?_⟩
  · by_cases hb:b = a
    · subst hb; rw [upd_same] at e ⊢; exact e
    · rw [upd_ne hb] at e ⊢; exact s b u e
  · obtain ⟨z,⟨u,h1,h2⟩⟩:=r q e
    exact ⟨by rw [upd_ne (ne _ _ h1)]; exact z,⟨u,by rw [upd_ne (ne _ _ h1)]; exact h1,RO.mono (fun b u e=>by rw [upd_ne (neF b u e)]; exact e) h2⟩⟩
theorem Grow.freeze {rl:RlT} {F H F1 H1:Hp} {a:Addr} {o:HO} (g:Grow rl F H F1 H1) (n:H a = none) (e:H1 a = some o) (f:F1 a = none) (hr:rl.a ≠ some a):Grow rl F H (upd F1 a o) H1:=by
  have neF:∀ b u,F1 b = some u -> b ≠ a:=fun b u q z=>by subst z; rw [f] at q; cases q
  refine ⟨g.same,fun b u q=>by rw [upd_ne (neF b u (g.fs b u q))]; exact g.fs b u q,fun b u q=>?_,fun b u q=>by rw [upd_ne (ne_of_none q n)]; exact g.old b u q,fun q z=>?_⟩
  · by_cases hb:b = a
    · subst hb; rw [upd_same] at q; rw [e]; exact q
    · rw [upd_ne hb] at q; exact g.sub b u q
  · obtain ⟨z1,⟨u,h1,h2⟩⟩:=g.reel q z
    exact ⟨by rw [upd_ne (fun y=>hr (by rw [<- y]; exact z))]; exact z1,⟨u,h1,RO.mono (fun b u e=>by rw [upd_ne (neF b u e)]; exact e) h2⟩⟩

inductive W where
  | d (x:PyData)
  
  | ml (xs:List PyData)
  
  | pk (xs:List PyData)
  | reel
  
  | vv (v:V)
  
  | md (kvs:List (List Key × PyData))
  
  | mk (kvs:List (Key × PyData))
  
  | nt (ds:List PyData)
  
  | lk
  
  | sc (ns:List Int)
  
  | fd (kvs:List (Key × PyData))
  
  | fw (kvs:List (Key × PyData))
  
  | ft (kvs:List (List Key × PyData))
  
  | xc (x:Str) (fs:List (Str × PyData))
  
  | dp (kvs:List (Key × PyData)) (x:PyData)
noncomputable def W.dat:W -> Option PyData
  | .d x=>some x
  | .ml xs=>some (.list xs)
  | .pk xs=>some (.list xs)
  | .nt ds=>some (.tuple ds)
  | _=>none
noncomputable def W.peek:W -> W
  | .ml xs=>.pk xs
  | .md _=>.lk
  | .mk _=>.lk
  | w=>w
noncomputable def W.own:W -> Bool
  | .ml _=>true
  | .md _=>true
  | .mk _=>true
  | _=>false
abbrev KD (K:W.Frag) (F:Hp):List (List Key × V) -> List (List Key × PyData) -> Prop:=Paired fun p q=>p.1 = q.1 /\ Rep K F p.2 q.2
abbrev KDk (K:W.Frag) (F:Hp):List (Key × V) -> List (Key × PyData) -> Prop:=Paired fun p q=>p.1 = q.1 /\ Rep K F p.2 q.2
abbrev KDs (K:W.Frag) (F:Hp):List (Str × V) -> List (Str × PyData) -> Prop:=Paired fun p q=>p.1 = q.1 /\ Rep K F p.2 q.2
noncomputable def ExcAt (e C dx:Addr):Heap -> Prop:=fun h=>∃ oe vs,h.get? e = some oe /\ oe.cls = .ref C /\ oe.dict = some dx /\ oe.data = .fields vs
noncomputable def OwnD (K:W.Frag) (rl:RlT) (F H:Hp) (v:V) (kvs:List (List Key × PyData)):Prop:=∃ a us,v = .ref a /\ F a = none /\ rl.a ≠ some a /\ H a = some (.dT us) /\ KD K F us kvs
noncomputable def OwnK (K:W.Frag) (rl:RlT) (F H:Hp) (v:V) (kvs:List (Key × PyData)):Prop:=∃ a us,v = .ref a /\ F a = none /\ rl.a ≠ some a /\ H a = some (.dK us) /\ KDk K F us kvs
noncomputable def OwnL (K:W.Frag) (rl:RlT) (F H:Hp) (v:V) (xs:List PyData):Prop:=∃ a vs,v = .ref a /\ F a = none /\ rl.a ≠ some a /\ H a = some (.lst vs) /\ Reps K F vs xs
noncomputable def RelW (K:W.Frag) (rl:RlT) (F H:Hp) (v:V):W -> Prop
  | .d x=>Rep K F v x
  | .ml xs=>OwnL K rl F H v xs
  | .pk xs=>OwnL K rl F H v xs
  | .reel=>∃ r,rl.a = some r /\ v = .ref r
  | .vv u=>v = u
  | .md kvs=>OwnD K rl F H v kvs
  | .mk kvs=>OwnK K rl F H v kvs
  | .nt ds=>∃ a vs,v = .ref a /\ F a = some (.tup vs) /\ Reps K F vs ds
  | .lk=>True
  | .sc ns=>∃ a,v = .ref a /\ SqL K F a (ns.map V.int)
  | .fd kvs=>∃ a us,v = .ref a /\ F a = some (.dK us) /\ KDk K F us kvs
  | .fw kvs=>∃ a us o,v = .ref a /\ F a = some (.frz o (.dK us)) /\ KDk K F us kvs
  | .ft kvs=>∃ a us o,v = .ref a /\ F a = some (.frz o (.dT us)) /\ KD K F us kvs
  | .xc x fs=>∃ e dx us C,v = .ref e /\ W.nsIn K mainGlobals x = some (some (.ref C)) /\ F e = some (.ext (ExcAt e C dx)) /\ F dx = some (.xd us) /\ KDs K F us fs
  | .dp kvs x=>∃ a b us u o,v = .ref a /\ F a = some (.tup [.ref b,u]) /\ F b = some (.frz o (.dK us)) /\ KDk K F us kvs /\ Rep K F u x
theorem OwnD.grow {K:W.Frag} {rl:RlT} {F H F' H':Hp} {v:V} {kvs:List (List Key × PyData)} (g:Grow rl F H F' H') (r:OwnD K rl F H v kvs):OwnD K rl F' H' v kvs:=by
  obtain ⟨a,us,rfl,h1,h2,h3,h4⟩:=r
  exact ⟨a,us,rfl,by rw [g.old a _ h3]; exact h1,h2,g.same a _ h3 h2,Paired.mapP h4 fun _ _ z=>⟨z.1,z.2.mono g.fs⟩⟩
theorem OwnK.grow {K:W.Frag} {rl:RlT} {F H F' H':Hp} {v:V} {kvs:List (Key × PyData)} (g:Grow rl F H F' H') (r:OwnK K rl F H v kvs):OwnK K rl F' H' v kvs:=by
  obtain ⟨a,us,rfl,h1,h2,h3,h4⟩:=r
  exact ⟨a,us,rfl,by rw [g.old a _ h3]; exact h1,h2,g.same a _ h3 h2,Paired.mapP h4 fun _ _ z=>⟨z.1,z.2.mono g.fs⟩⟩
theorem OwnL.grow {K:W.Frag} {rl:RlT} {F H F' H':Hp} {v:V} {xs:List PyData} (g:Grow rl F H F' H') (r:OwnL K rl F H v xs):OwnL K rl F' H' v xs:=by
  obtain ⟨a,vs,rfl,h1,h2,h3,h4⟩:=r
  exact ⟨a,vs,rfl,by rw [g.old a _ h3]; exact h1,h2,g.same a _ h3 h2,h4.mono g.fs⟩
theorem RelW.grow {K:W.Frag} {rl:RlT} {F H F' H':Hp} {v:V} {w:W} (g:Grow rl F H F' H') (r:RelW K rl F H v w):RelW K rl F' H' v w:=by
  cases w with
  | d x=>exact Rep.mono g.fs r
  | ml xs=>exact OwnL.grow g r
  | pk xs=>exact OwnL.grow g r
  | reel=>exact r
  | vv u=>exact r
  | md kvs=>exact OwnD.grow g r
  | mk kvs=>exact OwnK.grow g r
  | nt ds=>obtain ⟨a,vs,e,h,q⟩:=r; exact ⟨a,vs,e,g.fs _ _ h,q.mono g.fs⟩
  | lk=>trivial
  | sc ns=>obtain ⟨a,e,h⟩:=r; exact ⟨a,e,sameL g.fs h⟩
  | fd kvs=>obtain ⟨a,us,e,h,q⟩:=r; exact ⟨a,us,e,g.fs _ _ h,Paired.mapP q fun _ _ z=>⟨z.1,z.2.mono g.fs⟩⟩
  | fw kvs=>obtain ⟨a,us,o,e,h,q⟩:=r; exact ⟨a,us,o,e,g.fs _ _ h,Paired.mapP q fun _ _ z=>⟨z.1,z.2.mono g.fs⟩⟩
  | ft kvs=>obtain ⟨a,us,o,e,h,q⟩:=r; exact ⟨a,us,o,e,g.fs _ _ h,Paired.mapP q fun _ _ z=>⟨z.1,z.2.mono g.fs⟩⟩
  | xc _ _=>obtain ⟨a,dx,us,C,e,n,h1,h2,q⟩:=r; exact ⟨a,dx,us,C,e,n,g.fs _ _ h1,g.fs _ _ h2,Paired.mapP q fun _ _ z=>⟨z.1,z.2.mono g.fs⟩⟩
  | dp _ _=>obtain ⟨a,b,us,u,o,e,h1,h2,q,z⟩:=r; exact ⟨a,b,us,u,o,e,g.fs _ _ h1,g.fs _ _ h2,Paired.mapP q fun _ _ z=>⟨z.1,z.2.mono g.fs⟩,z.mono g.fs⟩
theorem RelW.peek {K:W.Frag} {rl:RlT} {F H:Hp} {v:V} {w:W} (r:RelW K rl F H v w):RelW K rl F H v w.peek:=by cases w <;> first | exact r | trivial
theorem OwnL.rep {K:W.Frag} {rl:RlT} {F H:Hp} {v:V} {xs:List PyData} (s:Same F H) (r:OwnL K rl F H v xs):Rep K H v (.list xs):=by
  obtain ⟨a,vs,rfl,h1,h2,h3,h4⟩:=r
  exact .lst h3 (h4.mono s)
theorem RelW.dat {K:W.Frag} {rl:RlT} {F H:Hp} {v:V} {w:W} {x:PyData} (s:Same F H) (r:RelW K rl F H v w) (e:w.dat = some x):Rep K H v x:=by
  cases w with
  | d y=>cases e; exact Rep.mono s r
  | ml xs=>cases e; exact OwnL.rep s r
  | pk xs=>cases e; exact OwnL.rep s r
  | reel=>cases e
  | vv u=>cases e
  | md kvs=>cases e
  | mk kvs=>cases e
  | nt ds=>cases e; obtain ⟨a,vs,rfl,h,q⟩:=r; exact .tup (.inl (.inl (s _ _ h))) (q.mono s)
  | lk=>cases e
  | sc _=>cases e
  | fd _=>cases e
  | fw _=>cases e
  | ft _=>cases e
  | xc _ _=>cases e
  | dp _ _=>cases e
theorem RelW.items {K:W.Frag} {rl:RlT} {F H:Hp} {v:V} {w:W} {xs:List PyData} (s:Same F H) (r:RelW K rl F H v w) (e:w.dat = some (.list xs)):∃ a vs,v = .ref a /\ SqL K H a vs /\ Reps K F vs xs:=by
  have own:OwnL K rl F H v xs -> ∃ a vs,v = .ref a /\ SqL K H a vs /\ Reps K F vs xs:=fun ⟨a,vs,e1,_,_,e2,e3⟩=>⟨a,vs,e1,.inl (.inl e2),e3⟩
  cases w with
  | d y =>
    cases e
    cases (show Rep K F v (.list xs) from r) with
    | lst h q=>exact ⟨_,_,rfl,.inl (.inl (s _ _ h)),q⟩
  | ml ys=>cases e; exact own r
  | pk ys=>cases e; exact own r
  | reel=>cases e
  | vv u=>cases e
  | md kvs=>cases e
  | mk kvs=>cases e
  | nt ds=>cases e
  | lk=>cases e
  | sc _=>cases e
  | fd _=>cases e
  | fw _=>cases e
  | ft _=>cases e
  | xc _ _=>cases e
  | dp _ _=>cases e
theorem RelW.itemsT {K:W.Frag} {rl:RlT} {F H:Hp} {v:V} {w:W} {xs:List PyData} (s:Same F H) (r:RelW K rl F H v w) (e:w.dat = some (.tuple xs)):∃ a vs,v = .ref a /\ SqT K H a vs /\ Reps K F vs xs:=by
  cases w with
  | d y =>
    cases e
    cases (show Rep K F v (.tuple xs) from r) with
    | tup h q=>exact ⟨_,_,rfl,sameT s h,q⟩
  | ml ys=>cases e
  | pk ys=>cases e
  | reel=>cases e
  | vv u=>cases e
  | md kvs=>cases e
  | mk kvs=>cases e
  | nt ds=>cases e; obtain ⟨a,vs,rfl,h,q⟩:=r; exact ⟨a,vs,rfl,.inl (.inl (s _ _ h)),q⟩
  | lk=>cases e
  | sc _=>cases e
  | fd _=>cases e
  | fw _=>cases e
  | ft _=>cases e
  | xc _ _=>cases e
  | dp _ _=>cases e
noncomputable def NewIn (H:Hp) (v:V):W -> Prop
  | .ml _=>∀ a,v = .ref a -> H a = none
  | .md _=>∀ a,v = .ref a -> H a = none
  | .mk _=>∀ a,v = .ref a -> H a = none
  | _=>True
theorem RelW.live {K:W.Frag} {rl:RlT} {F H:Hp} {v:V} {w:W} (r:RelW K rl F H v w) (h:w.own = true):∃ a o,v = .ref a /\ H a = some o:=by
  cases w with
  | ml xs=>obtain ⟨a,vs,e,_,_,hh,_⟩:=r; exact ⟨a,_,e,hh⟩
  | md xs=>obtain ⟨a,vs,e,_,_,hh,_⟩:=r; exact ⟨a,_,e,hh⟩
  | mk xs=>obtain ⟨a,vs,e,_,_,hh,_⟩:=r; exact ⟨a,_,e,hh⟩
  | _=>cases h
theorem NewIn.none {H:Hp} {v:V} {w:W} (n:NewIn H v w) (h:w.own = true) {a:Addr} (e:v = .ref a):H a = none:=by
  cases w with
  | ml xs=>exact n a e
  | md xs=>exact n a e
  | mk xs=>exact n a e
  | _=>cases h

abbrev En:=List (Option W)
structure VR (K:W.Frag) (rl:RlT) (F₀ H₀ F H:Hp) (σ:St) (ρ:En):Prop where
  g:Grow rl F₀ H₀ F H
  sl:∀ (i:Nat) w,ρ[i]? = some (some w) -> ∃ v,σ[i]? = some (some v) /\ RelW K rl F H v w /\ NewIn H₀ v w
  ap:∀ (i j:Nat) (x y:W) v,i ≠ j -> ρ[i]? = some (some x) -> ρ[j]? = some (some y) -> x.own = true -> y.own = true -> σ[i]? = some (some v) -> σ[j]? = some (some v) -> False
  np:∀ (i:Nat) xs,ρ[i]? ≠ some (some (W.pk xs))
  len : ρ.length = σ.length
section
variable {K:W.Frag} {rl:RlT} {F₀ H₀ F H F' H':Hp} {σ:St} {ρ:En}
theorem VR.sub (r:VR K rl F₀ H₀ F H σ ρ):Same F H:=r.g.sub
theorem VR.reel (r:VR K rl F₀ H₀ F H σ ρ):RAt rl F H:=r.g.reel
theorem VR.grow (r:VR K rl F₀ H₀ F H σ ρ) (g:Grow rl F H F' H'):VR K rl F₀ H₀ F' H' σ ρ :=
  ⟨r.g.trans g,fun i w e=>let ⟨v,e1,e2,e3⟩:=r.sl i w e; ⟨v,e1,e2.grow g,e3⟩,r.ap,r.np,r.len⟩
theorem VR.set (r:VR K rl F₀ H₀ F H σ ρ) {H1 F1:Hp} (g:Grow rl F H F1 H1) {v:V} {w:W} (rw':RelW K rl F1 H1 v w) (hn:NewIn H v w) (hp:∀ xs,w ≠ .pk xs) (i:Nat):VR K rl F₀ H₀ F1 H1 (σ.set i (some v)) (ρ.set i (some w)):=by
  have r1:=r.grow g
  refine ⟨r1.g,fun j w' e=>?_,fun j k xs ys u hjk e1 e2 w1 w2 s1 s2=>?_,fun j xs z=>?_,by simp [r.len]⟩
  · by_cases hj:i = j
    · subst hj
      have hi:i < ρ.length:=by
        rw [List.getElem?_set] at e
        by_cases hi:i < ρ.length
        · exact hi
        · simp [hi] at e
      rw [List.getElem?_set_self hi] at e
      cases e
      refine ⟨v,by rw [List.getElem?_set_self (by rw [<- r.len]; exact hi)],rw',?_⟩
      cases w with
      | ml xs=>exact fun a ea=>r.g.freeB (hn a ea)
      | d x=>trivial
      | pk xs=>trivial
      | reel=>trivial
      | vv u=>trivial
      | md xs=>exact fun a ea=>r.g.freeB (hn a ea)
      | mk xs=>exact fun a ea=>r.g.freeB (hn a ea)
      | nt ds=>trivial
      | lk=>trivial
      | sc _=>trivial
      | fd _=>trivial
      | fw _=>trivial
      | ft _=>trivial
      | xc _ _=>trivial
      | dp _ _=>trivial
    · rw [List.getElem?_set_ne hj] at e
      obtain ⟨u,h1,h2,h3⟩:=r1.sl j w' e
      exact ⟨u,by rw [List.getElem?_set_ne hj]; exact h1,h2,h3⟩
  · have key:∀ (k:Nat) (x y:W),ρ[k]? = some (some y) -> some (some w) = some (some x) -> x.own = true -> y.own = true -> σ[k]? = some (some v) -> False:=fun k x y d2 e1 o1 o2 s2=>by
      cases e1
      obtain ⟨u',h1,h2,h3⟩:=r.sl k _ d2
      rw [s2] at h1
      cases h1
      obtain ⟨a,o,ea,hh⟩:=h2.live o2
      rw [hn.none o1 ea] at hh
      cases hh
    by_cases hj:i = j
    · subst hj
      have hk:i ≠ k:=hjk
      have hi:i < ρ.length:=by
        rw [List.getElem?_set] at e1
        by_cases hi:i < ρ.length
        · exact hi
        · simp [hi] at e1
      rw [List.getElem?_set_self hi] at e1
      rw [List.getElem?_set_ne hk] at e2 s2
      rw [List.getElem?_set_self (by rw [<- r.len]; exact hi)] at s1
      cases s1
      exact key k xs ys e2 e1 w1 w2 s2
    · by_cases hk:i = k
      · subst hk
        have hi:i < ρ.length:=by
          rw [List.getElem?_set] at e2
          by_cases hi:i < ρ.length
          · exact hi
          · simp [hi] at e2
        rw [List.getElem?_set_self hi] at e2
        rw [List.getElem?_set_ne hj] at e1 s1
        rw [List.getElem?_set_self (by rw [<- r.len]; exact hi)] at s2
        cases s2
        exact key j ys xs e1 e2 w2 w1 s1
      · rw [List.getElem?_set_ne hj] at e1 s1
        rw [List.getElem?_set_ne hk] at e2 s2
        exact r.ap j k xs ys u hjk e1 e2 w1 w2 s1 s2
  · rw [List.getElem?_set] at z
    split at z
    · split at z
      · exact hp xs (Option.some.inj (Option.some.inj z))
      · cases z
    · exact r.np j xs z
theorem VR.freeze (r:VR K rl F₀ H₀ F H σ ρ) {i:Nat} {xs:List PyData} (e : ρ[i]? = some (some (.ml xs))):∃ F1,VR K rl F₀ H₀ F1 H σ (ρ.set i (some (.d (.list xs)))):=by
  obtain ⟨v,h1,h2,h3⟩:=r.sl i _ e
  obtain ⟨a,vs,rfl,f,hr,hh,q⟩:=(show OwnL K rl F H v xs from h2)
  have hi:i < ρ.length:=(List.getElem?_eq_some_iff.mp e).1
  have neF:∀ b u,F b = some u -> b ≠ a:=fun b u q z=>by subst z; rw [f] at q; cases q
  have fsm:Same F (upd F a (.lst vs)):=fun b u z=>by rw [upd_ne (neF b u z)]; exact z
  refine ⟨upd F a (.lst vs),r.g.freeze (h3 a rfl) hh f hr,fun j w e1=>?_,fun j k ys zs u hjk e1 e2 w1 w2 s1 s2=>?_,fun j ys z=>?_,by simp [r.len]⟩
  · by_cases hj:i = j
    · subst hj
      rw [List.getElem?_set_self hi] at e1
      cases e1
      exact ⟨.ref a,h1,.lst upd_same (q.mono fsm),trivial⟩
    · rw [List.getElem?_set_ne hj] at e1
      obtain ⟨u,g1,g2,g3⟩:=r.sl j w e1
      refine ⟨u,g1,?_,g3⟩
      have own:∀ ys,(∀ zs,w = .ml zs -> ys = zs) -> OwnL K rl F H u ys -> (∃ b,u = .ref b /\ b ≠ a) -> OwnL K rl (upd F a (.lst vs)) H u ys:=fun ys _ ⟨b,us,eb,f1,f2,f3,f4⟩ ⟨b',eb',ne⟩=>by
        rw [eb] at eb'
        cases eb'
        exact ⟨b,us,eb,by rw [upd_ne ne]; exact f1,f2,f3,f4.mono fsm⟩
      cases w with
      | d x=>exact Rep.mono fsm g2
      | reel=>exact g2
      | vv u=>exact g2
      | ml ys =>
        obtain ⟨b,us,eb,f1,f2,f3,f4⟩:=(show OwnL K rl F H u ys from g2)
        have ne:b ≠ a:=fun z=>r.ap i j _ _ (.ref a) hj e e1 rfl rfl h1 (by rw [g1,eb,z])
        exact ⟨b,us,eb,by rw [upd_ne ne]; exact f1,f2,f3,f4.mono fsm⟩
      | pk ys=>exact absurd e1 (r.np j ys)
      | md ys =>
        obtain ⟨b,us,eb,f1,f2,f3,f4⟩:=(show OwnD K rl F H u ys from g2)
        have ne:b ≠ a:=fun z=>r.ap i j _ _ (.ref a) hj e e1 rfl rfl h1 (by rw [g1,eb,z])
        exact ⟨b,us,eb,by rw [upd_ne ne]; exact f1,f2,f3,Paired.mapP f4 fun _ _ z=>⟨z.1,z.2.mono fsm⟩⟩
      | mk ys =>
        obtain ⟨b,us,eb,f1,f2,f3,f4⟩:=(show OwnK K rl F H u ys from g2)
        have ne:b ≠ a:=fun z=>r.ap i j _ _ (.ref a) hj e e1 rfl rfl h1 (by rw [g1,eb,z])
        exact ⟨b,us,eb,by rw [upd_ne ne]; exact f1,f2,f3,Paired.mapP f4 fun _ _ z=>⟨z.1,z.2.mono fsm⟩⟩
      | nt ds=>obtain ⟨b,us,eb,f1,f2⟩:=g2; exact ⟨b,us,eb,fsm _ _ f1,f2.mono fsm⟩
      | lk=>trivial
      | sc ns=>obtain ⟨b,eb,f1⟩:=g2; exact ⟨b,eb,sameL fsm f1⟩
      | fd kvs=>obtain ⟨b,us,eb,f1,f2⟩:=g2; exact ⟨b,us,eb,fsm _ _ f1,Paired.mapP f2 fun _ _ z=>⟨z.1,z.2.mono fsm⟩⟩
      | fw kvs=>obtain ⟨b,us,o,eb,f1,f2⟩:=g2; exact ⟨b,us,o,eb,fsm _ _ f1,Paired.mapP f2 fun _ _ z=>⟨z.1,z.2.mono fsm⟩⟩
      | ft kvs=>obtain ⟨b,us,o,eb,f1,f2⟩:=g2; exact ⟨b,us,o,eb,fsm _ _ f1,Paired.mapP f2 fun _ _ z=>⟨z.1,z.2.mono fsm⟩⟩
      | xc _ _=>obtain ⟨b,dx,us,C,eb,n,f1,f3,f2⟩:=g2; exact ⟨b,dx,us,C,eb,n,fsm _ _ f1,fsm _ _ f3,Paired.mapP f2 fun _ _ z=>⟨z.1,z.2.mono fsm⟩⟩
      | dp _ _=>obtain ⟨c,b,us,u,o,eb,f1,f3,f2,z⟩:=g2; exact ⟨c,b,us,u,o,eb,fsm _ _ f1,fsm _ _ f3,Paired.mapP f2 fun _ _ z=>⟨z.1,z.2.mono fsm⟩,z.mono fsm⟩
  · have nd:∀ (j:Nat) (y:W),(ρ.set i (some (W.d (.list xs))))[j]? = some (some y) -> y.own = true -> ρ[j]? = some (some y):=fun j y z o=>by
      by_cases hj:i = j
      · subst hj
        rw [List.getElem?_set_self hi] at z
        cases z
        cases o
      · rw [List.getElem?_set_ne hj] at z
        exact z
    exact r.ap j k ys zs u hjk (nd j ys e1 w1) (nd k zs e2 w2) w1 w2 s1 s2
  · rw [List.getElem?_set] at z
    split at z
    · first | cases z | (split at z <;> cases z)
    · exact r.np j ys z
end
end L2.VL

namespace L2.VL
open PySem PySem.Spec PyProof.Rows

abbrev TV:=En -> (W -> Prop) -> Prop
abbrev TB:=En -> (Bool -> Prop) -> Prop
abbrev TVs:=En -> (List W -> Prop) -> Prop
abbrev RelWs (K:W.Frag) (rl:RlT) (F H:Hp):List V -> List W -> Prop:=Paired (RelW K rl F H)

noncomputable def PV (X:Cx) (rl:RlT) (e:Expr) (f:TV):Prop:=∃ t,PE X e t /\ ∀ {F₀ H₀ F H:Hp} {σ:St} {ρ:En},VR X.K rl F₀ H₀ F H σ ρ -> ∀ (Qd:W -> Prop) (Q:VK),f ρ Qd ->
  (∀ v w F' H',Grow rl F H F' H' -> RelW X.K rl F' H' v w -> NewIn H v w -> Qd w -> Q v H') -> t σ H Q
noncomputable def PB (X:Cx) (rl:RlT) (e:Expr) (f:TB):Prop:=∃ t,PT X e t /\ ∀ {F₀ H₀ F H:Hp} {σ:St} {ρ:En},VR X.K rl F₀ H₀ F H σ ρ -> ∀ (Qd:Bool -> Prop) (Q:Bool -> Hp -> Prop),f ρ Qd ->
  (∀ b F' H',Grow rl F H F' H' -> Qd b -> Q b H') -> t σ H Q
noncomputable def PVs (X:Cx) (rl:RlT) (es:List Expr) (f:TVs):Prop:=∃ t,PA X es t /\ ∀ {F₀ H₀ F H:Hp} {σ:St} {ρ:En},VR X.K rl F₀ H₀ F H σ ρ -> ∀ (Qd:List W -> Prop) (Q:List V -> Hp -> Prop),f ρ Qd ->
  (∀ vs ws F' H',Grow rl F H F' H' -> RelWs X.K rl F' H' vs ws -> Qd ws -> Q vs H') -> t σ H Q

noncomputable def W.fz:W -> W
  | .ml xs=>.d (.list xs)
  | .nt ds=>.d (.tuple ds)
  | w=>w
theorem RelW.fz {K:W.Frag} {rl:RlT} {F H F1 H1:Hp} {v:V} {w:W} (g:Grow rl F H F1 H1) (r:RelW K rl F1 H1 v w) (n:NewIn H v w):∃ F2,Grow rl F H F2 H1 /\ Same F1 F2 /\ RelW K rl F2 H1 v w.fz:=by
  cases w with
  | d x=>exact ⟨F1,g,.refl _,r⟩
  | pk xs=>exact ⟨F1,g,.refl _,r⟩
  | reel=>exact ⟨F1,g,.refl _,r⟩
  | vv u=>exact ⟨F1,g,.refl _,r⟩
  | md u=>exact ⟨F1,g,.refl _,r⟩
  | mk u=>exact ⟨F1,g,.refl _,r⟩
  | lk=>exact ⟨F1,g,.refl _,r⟩
  | sc _=>exact ⟨F1,g,.refl _,r⟩
  | fd _=>exact ⟨F1,g,.refl _,r⟩
  | fw _=>exact ⟨F1,g,.refl _,r⟩
  | ft _=>exact ⟨F1,g,.refl _,r⟩
  | xc _ _=>exact ⟨F1,g,.refl _,r⟩
  | dp _ _=>exact ⟨F1,g,.refl _,r⟩
  | nt ds=>obtain ⟨a,vs,rfl,h,q⟩:=r; exact ⟨F1,g,.refl _,.tup (.inl (.inl h)) q⟩
  | ml xs =>
    obtain ⟨a,vs,rfl,f,hr,hh,q⟩:=(show OwnL K rl F1 H1 v xs from r)
    have neF:∀ b u,F1 b = some u -> b ≠ a:=fun b u q z=>by subst z; rw [f] at q; cases q
    have fsm:Same F1 (upd F1 a (.lst vs)):=fun b u z=>by rw [upd_ne (neF b u z)]; exact z
    exact ⟨upd F1 a (.lst vs),g.freeze (n a rfl) hh f hr,fsm,.lst upd_same (q.mono fsm)⟩

section
variable {X:Cx} {rl:RlT} {a b e:Expr} {es:List Expr} {fa fb fc:TV} {fs:TVs} {pos p:Pos}

noncomputable def vC (x:PyData):TV:=fun _ Q=>Q (.d x)
theorem pv_const {v:V} {x:PyData} (h:PE X e (tC v)) (r:∀ F,Rep X.K F v x):PV X rl e (vC x) :=
  ⟨_,h,fun R Qd Q q k=>k v (.d x) _ _ (Grow.refl R.sub R.reel) (r _) trivial q⟩
theorem pv_int {i:Int} {j pos}:PV X rl (.Constant (.int i) j pos) (vC (.int i)):=pv_const pe_int fun _=>.int i
theorem pv_bl {i:Bool} {j pos}:PV X rl (.Constant (.bool i) j pos) (vC (.bool i)):=pv_const pe_bl fun _=>.bl i
theorem pv_str {x:Str} {j pos}:PV X rl (.Constant (.str x) j pos) (vC (.str x)):=pv_const pe_str fun _=>.str x
theorem pv_ty {x:Str} {n:String} {pos:Pos} (hm:X.mg x = none) (hv:bootBuiltins x = some (.type n)) (hg:Gl X x:=by rfl) (hn:x ≠ "__name__" := by decide) (hd:(x == ("__debug__" : Str)) = false:=by decide) :
    PV X rl (.Name x pos) (fun _ Q=>Q (.vv (.ty n))) :=
  ⟨_,pe_bltn (v:=.ty n) hg hm hv rfl hn hd,fun R Qd Q q k=>k (.ty n) (.vv (.ty n)) _ _ (Grow.refl R.sub R.reel) rfl trivial q⟩
theorem pv_glob {x:Str} {v:V} {u:Value} {d:PyData} {pos:Pos} (hm:X.mg x = some u) (r:RelV v u) (h:∀ F,Rep X.K F v d) (hg:Gl X x:=by rfl) (hd:(x == ("__debug__" : Str)) = false:=by decide):PV X rl (.Name x pos) (vC d) :=
  pv_const (pe_glob hg hm r hd) h
noncomputable def vVar (i:Nat):TV:=fun ρ Q=>∃ w,ρ[i]? = some (some w) /\ Q w.peek
theorem vn (i:Nat) {x:Str} {pos:Pos} (hN:X.N[i]? = some x:=by rfl) (hv:Vis X.env.scope x:=by first | exact Or.inl rfl | exact Or.inr (Or.inl rfl) | exact Or.inr (Or.inr rfl)) (hd:(x == ("__debug__" : Str)) = false:=by decide)
    (hcd:(x == ("__classdict__" : Str)) = false:=by decide):PV X rl (.Name x pos) (vVar i) :=
  ⟨_,pe_var hN hv hd hcd,fun R Qd Q ⟨w,e,q⟩ k=>by
    obtain ⟨v,e1,r,_⟩:=R.sl i w e
    refine ⟨v,e1,k v w.peek _ _ (Grow.refl R.sub R.reel) r.peek ?_ q⟩
    cases w <;> trivial⟩

noncomputable def vNil:TVs:=fun _ Q=>Q []
noncomputable def vCons (f:TV) (fs:TVs):TVs:=fun ρ Q=>f ρ fun w=>fs ρ fun ws=>Q (w.fz :: ws)
theorem pvs_nil:PVs X rl [] vNil:=⟨_,pa_nil,fun R Qd Q q k=>k [] [] _ _ (Grow.refl R.sub R.reel) .nil q⟩
theorem pvs_cons (h1:PV X rl e fa) (h2:PVs X rl es fs) (hs:starEach (e :: es) X.env = (false,eval e X.env) :: starEach es X.env:=by rfl):PVs X rl (e :: es) (vCons fa fs):=by
  obtain ⟨t,p1,k1⟩:=h1
  obtain ⟨ts,p2,k2⟩:=h2
  refine ⟨_,pa_cons p1 p2 hs,fun R Qd Q q k=>?_⟩
  refine k1 R _ _ q fun v w F1 H1 g1 r1 n1 q1=>?_
  obtain ⟨F2,g2,s2,r2⟩:=RelW.fz g1 r1 n1
  refine k2 (R.grow g2) _ _ q1 fun vs ws F3 H3 g3 r3 q3=>?_
  exact k (v :: vs) (w.fz :: ws) F3 H3 (g2.trans g3) (.cons (r2.grow g3) r3) q3

noncomputable def VOp (X:Cx) (rl:RlT) (r:R2) (g:W -> W -> (W -> Prop) -> Prop):Prop:=∀ {F H:Hp} {x y:V} {wx wy:W} (Qd:W -> Prop) (Q:VK),Same F H -> RAt rl F H -> RelW X.K rl F H x wx -> RelW X.K rl F H y wy -> g wx wy Qd ->
  (∀ v w F' H',Grow rl F H F' H' -> RelW X.K rl F' H' v w -> NewIn H v w -> Qd w -> Q v H') -> r x y H Q
noncomputable def vOp (g:W -> W -> (W -> Prop) -> Prop) (fa fb:TV):TV:=fun ρ Q=>fa ρ fun x=>fb ρ fun y=>g x y Q
theorem vop_of {r:R2} {g:W -> W -> (W -> Prop) -> Prop} (vo:VOp X rl r g) (ha:PV X rl a fa) (hb:PV X rl b fb) {e:Expr} (hp:∀ ta tb,PE X a ta -> PE X b tb -> PE X e (tOp r ta tb)):PV X rl e (vOp g fa fb):=by
  obtain ⟨ta,p1,k1⟩:=ha
  obtain ⟨tb,p2,k2⟩:=hb
  refine ⟨_,hp ta tb p1 p2,fun R Qd Q q k=>?_⟩
  refine k1 R _ _ q fun v w F1 H1 g1 r1 n1 q1=>?_
  refine k2 (R.grow g1) _ _ q1 fun v2 w2 F2 H2 g2 r2 n2 q2=>?_
  exact vo Qd Q g2.sub g2.reel (r1.grow g2) r2 q2 fun v3 w3 F3 H3 g3 r3 n3 q3=>k v3 w3 F3 H3 ((g1.trans g2).trans g3) r3 (by
    cases w3 with
    | ml xs=>exact fun a ea=>g1.freeB (g2.freeB (n3 a ea))
    | md xs=>exact fun a ea=>g1.freeB (g2.freeB (n3 a ea))
    | mk xs=>exact fun a ea=>g1.freeB (g2.freeB (n3 a ea))
    | nt _=>trivial
    | lk=>trivial
    | sc _=>trivial
    | fd _=>trivial
    | fw _=>trivial
    | ft _=>trivial
    | xc _ _=>trivial
    | dp _ _=>trivial
    | d _=>trivial
    | pk _=>trivial
    | reel=>trivial
    | vv _=>trivial) q3
theorem pv_op {op:Operator} {r:R2} {g:W -> W -> (W -> Prop) -> Prop} (ho:OpR X (binaryOp op) r) (vo:VOp X rl r g) (ha:PV X rl a fa) (hb:PV X rl b fb):PV X rl (.BinOp a op b pos) (vOp g fa fb) :=
  vop_of vo ha hb fun _ _ p1 p2=>pe_op ho p1 p2
noncomputable def gI (C:Int -> Int -> Prop) (g:Int -> Int -> PyData):W -> W -> (W -> Prop) -> Prop:=fun x y Q=>∃ i j,x = .d (.int i) /\ y = .d (.int j) /\ C i j /\ Q (.d (g i j))
theorem rep_int {K:W.Frag} {F:Hp} {v:V} {i:Int} (h:Rep K F v (.int i)):v = .int i:=by cases h; rfl
theorem vop_int {C:Int -> Int -> Prop} {g:Int -> Int -> V} {gd:Int -> Int -> PyData} (h:∀ K F i j,Rep K F (g i j) (gd i j)):VOp X rl (rI C g) (gI C gd):=fun {F H x y wx wy} Qd Q s ra r1 r2 q k=>by
  obtain ⟨i,j,rfl,rfl,c,q⟩:=q
  exact ⟨i,j,rep_int r1,rep_int r2,c,k _ (.d _) _ _ (Grow.refl s ra) (h _ _ i j) trivial q⟩
noncomputable def gI0 (g:Int -> Int -> PyData):W -> W -> (W -> Prop) -> Prop:=fun x y Q=>∃ i j,x = .d (.int i) /\ y = .d (.int j) /\ Q (.d (g i j))
theorem vop_int0 {g:Int -> Int -> V} {gd:Int -> Int -> PyData} (h:∀ K F i j,Rep K F (g i j) (gd i j)):VOp X rl (rI0 g) (gI0 gd):=fun {F H x y wx wy} Qd Q s ra r1 r2 q k=>by
  obtain ⟨i,j,rfl,rfl,q⟩:=q
  exact ⟨i,j,rep_int r1,rep_int r2,k _ (.d _) _ _ (Grow.refl s ra) (h _ _ i j) trivial q⟩
theorem v_add (ha:PV X rl a fa) (hb:PV X rl b fb):PV X rl (.BinOp a .Add b pos) (vOp (gI0 fun i j=>.int (i + j)) fa fb):=pv_op op_add (vop_int0 fun _ _ _ _=>.int _) ha hb
noncomputable def Big (i:Int):Prop:=i.natAbs < 2 ^ 60000
theorem Big.bits {i:Int} (h:Big i):Builtin.Int.intBits i <= 60000:=intBits_le_iff.mpr h
noncomputable def CMulB (i j:Int):Prop:=i.natAbs < 2 ^ 64 \/ j.natAbs < 2 ^ 64 \/ (Big i /\ Big j)
theorem CMulB.lt {i j:Int} (h:i.natAbs < 2 ^ 64):CMulB i j:=.inl h
theorem CMulB.rt {i j:Int} (h:j.natAbs < 2 ^ 64):CMulB i j:=.inr (.inl h)
theorem CMulB.bb {i j:Int} (h:Big i) (h':Big j):CMulB i j:=.inr (.inr ⟨h,h'⟩)
theorem CMulB.ok {i j:Int} (h:CMulB i j):IntMulOk i j:=by
  rcases h with h | h | h
  · exact .of_left (intBits_le_iff.mpr h)
  · exact .of_right (intBits_le_iff.mpr h)
  · exact IntMulOk.of_le h.1.bits h.2.bits (by decide)
theorem op_mulB:OpR X (binaryOp .Mult) (rI CMulB fun i j=>.int (i * j)):=opI fun _ _ _ _ _ _ _ hc q=>mul_int q hc.ok
theorem v_mul (ha:PV X rl a fa) (hb:PV X rl b fb):PV X rl (.BinOp a .Mult b pos) (vOp (gI CMulB fun i j=>.int (i * j)) fa fb):=pv_op op_mulB (vop_int fun _ _ _ _=>.int _) ha hb
noncomputable def CDivB (_ j:Int):Prop:=j ≠ 0 /\ j.natAbs < 2 ^ 9000
theorem op_fdivB:OpR X (binaryOp .FloorDiv) (rI CDivB fun i j=>.int (i.fdiv j)):=opI fun _ j _ _ _ _ _ hc q=>floordiv_int hc.1 q (.inl (PyProof.noPylong_of_log2 ((Nat.log2_lt (by have:=hc.1; omega)).mpr hc.2)))
theorem v_div (ha:PV X rl a fa) (hb:PV X rl b fb):PV X rl (.BinOp a .FloorDiv b pos) (vOp (gI CDivB fun i j=>.int (i.fdiv j)) fa fb):=pv_op op_fdivB (vop_int fun _ _ _ _=>.int _) ha hb
theorem v_mod (ha:PV X rl a fa) (hb:PV X rl b fb):PV X rl (.BinOp a .Mod b pos) (vOp (gI (fun _ j=>j ≠ 0) fun i j=>.int (i.fmod j)) fa fb):=pv_op op_modN (vop_int fun _ _ _ _=>.int _) ha hb
theorem v_pow (ha:PV X rl a fa) (hb:PV X rl b fb):PV X rl (.BinOp a .Pow b pos) (vOp (gI CPow fun i j=>.int (i ^ j.toNat)) fa fb):=pv_op op_pow (vop_int fun _ _ _ _=>.int _) ha hb
noncomputable def vNeg (fa:TV):TV:=fun ρ Q=>fa ρ fun x=>∃ i,x = .d (.int i) /\ Q (.d (.int (-i)))
theorem v_cmp {op:CmpOp} {r:R2} {g:W -> W -> (W -> Prop) -> Prop} (ho:OpR X (compareOp op) r) (vo:VOp X rl r g) (hm:behindInMarks op b = false) (ha:PV X rl a fa) (hb:PV X rl b fb):PV X rl (.Compare a [op] [b] pos) (vOp g fa fb) :=
  vop_of vo ha hb fun _ _ p1 p2=>pe_cmpR ho p1 p2 hm
noncomputable def vTest (f:TV):TB:=fun ρ Q=>f ρ fun w=>∃ k,w = .d (.bool k) /\ Q k
theorem rep_bl {K:W.Frag} {F:Hp} {v:V} {i:Bool} (h:Rep K F v (.bool i)):v = .bl i:=by cases h; rfl
theorem vb_cmp {op:CmpOp} {r:R2} {g:W -> W -> (W -> Prop) -> Prop} (ho:OpR X (compareOp op) r) (vo:VOp X rl r g) (hm:behindInMarks op b = false) (ha:PV X rl a fa) (hb:PV X rl b fb):PB X rl (.Compare a [op] [b] pos) (vTest (vOp g fa fb)):=by
  obtain ⟨ta,p1,k1⟩:=ha
  obtain ⟨tb,p2,k2⟩:=hb
  refine ⟨_,pt_cmpR ho p1 p2 hm,fun R Qd Q q k=>?_⟩
  refine k1 R _ _ q fun v w F1 H1 g1 r1 n1 q1=>?_
  refine k2 (R.grow g1) _ _ q1 fun v2 w2 F2 H2 g2 r2 n2 q2=>?_
  refine vo _ _ g2.sub g2.reel (r1.grow g2) r2 q2 fun v3 w3 F3 H3 g3 r3 n3 ⟨kb,ew,q3⟩=>?_
  subst ew
  exact ⟨kb,rep_bl r3,k kb F3 H3 ((g1.trans g2).trans g3) q3⟩
theorem vb_val (ha:PV X rl e fa) (he:∀ whole,isTrue e X.env whole = (do let v <- whole; standAt e.pos; holding [v] (truthy v)):=by intro _; rfl):PB X rl e (vTest fa):=by
  obtain ⟨ta,p1,k1⟩:=ha
  refine ⟨_,pt_val p1 he,fun R Qd Q q k=>k1 R _ _ q fun v w F1 H1 g1 r1 n1 ⟨kb,ew,q1⟩=>?_⟩
  subst ew
  exact ⟨kb,rep_bl r1,k kb F1 H1 g1 q1⟩
abbrev gCmp (p:Int -> Int -> Bool):=gI0 fun i j=>.bool (p i j)
theorem vo_lt:VOp X rl (rI0 fun i j=>.bl (decide (i < j))) (gCmp fun i j=>decide (i < j)):=vop_int0 fun _ _ _ _=>.bl _
theorem vo_gt:VOp X rl (rI0 fun i j=>.bl (decide (j < i))) (gCmp fun i j=>decide (j < i)):=vop_int0 fun _ _ _ _=>.bl _
theorem vo_ge:VOp X rl (rI0 fun i j=>.bl (decide (j <= i))) (gCmp fun i j=>decide (j <= i)):=vop_int0 fun _ _ _ _=>.bl _
noncomputable def rEqD (K:W.Frag) (neg:Bool):R2:=fun x y H Q=>∃ dx dy,Rep K H x dx /\ Rep K H y dy /\ SeqAt.shaped dx = true /\ SeqAt.shaped dy = true /\ Q (.bl (if neg then !PyData.eqv dx dy else PyData.eqv dx dy)) H
theorem op_eqD (hu:X.A.units + 64 < cLine):OpR X (compareOp .Eq) (rEqD X.K false):=by
  intro pins s σ H x y v u Q I rx ry ⟨dx,dy,h1,h2,s1,s2,q⟩
  obtain ⟨as,a1⟩:=Rep.reads I (.refl H) h1 v rx
  obtain ⟨bs,a2⟩:=Rep.reads I (.refl H) h2 u ry
  exact SeqAt.compareEq_shaped a1 a2 s1 s2 hu ⟨.bl _,H,I,rfl,q⟩
theorem op_neD (hu:X.A.units + 64 < cLine):OpR X (compareOp .NotEq) (rEqD X.K true):=by
  intro pins s σ H x y v u Q I rx ry ⟨dx,dy,h1,h2,s1,s2,q⟩
  obtain ⟨as,a1⟩:=Rep.reads I (.refl H) h1 v rx
  obtain ⟨bs,a2⟩:=Rep.reads I (.refl H) h2 u ry
  exact SeqAt.compareNe_shaped a1 a2 s1 s2 hu ⟨.bl _,H,I,rfl,q⟩
noncomputable def gEqD (neg:Bool):W -> W -> (W -> Prop) -> Prop:=fun x y Q=>∃ dx dy,x.dat = some dx /\ y.dat = some dy /\ SeqAt.shaped dx = true /\ SeqAt.shaped dy = true /\ Q (.d (.bool (if neg then !PyData.eqv dx dy else PyData.eqv dx dy)))
theorem vo_eqD {neg:Bool}:VOp X rl (rEqD X.K neg) (gEqD neg):=fun {F H x y wx wy} Qd Q s ra r1 r2 q k=>by
  obtain ⟨dx,dy,e1,e2,s1,s2,q⟩:=q
  exact ⟨dx,dy,r1.dat s e1,r2.dat s e2,s1,s2,k _ (.d _) _ _ (Grow.refl s ra) (.bl _) trivial q⟩
noncomputable def vAnd (f g:TB):TB:=fun ρ Q=>f ρ fun b=>if b = true then g ρ Q else Q false
noncomputable def vOr (f g:TB):TB:=fun ρ Q=>f ρ fun b=>if b = true then Q true else g ρ Q
noncomputable def vNot (f:TB):TB:=fun ρ Q=>f ρ fun b=>Q (!b)
noncomputable def PBW (X:Cx) (rl:RlT) (e:Expr) (f:TB):Prop:=∃ t,PW X e t /\ ∀ {F₀ H₀ F H:Hp} {σ:St} {ρ:En},VR X.K rl F₀ H₀ F H σ ρ -> ∀ (Qd:Bool -> Prop) (Q:Bool -> Hp -> Prop),f ρ Qd ->
  (∀ b F' H',Grow rl F H F' H' -> Qd b -> Q b H') -> t σ H Q
variable {f g:TB} {rest:List Expr}
theorem PBW.pb (h:PBW X rl e f):PB X rl e f:=let ⟨t,p,k⟩:=h; ⟨t,p.pt,k⟩
theorem vb_and1 (ha:PB X rl a f):PBW X rl (.BoolOp .And [a] pos) f:=let ⟨t,p,k⟩:=ha; ⟨t,pw_and1 p,k⟩
theorem vb_or1 (ha:PB X rl a f):PBW X rl (.BoolOp .Or [a] pos) f:=let ⟨t,p,k⟩:=ha; ⟨t,pw_or1 p,k⟩
theorem vb_and (ha:PB X rl a f) (hb:PBW X rl (.BoolOp .And (b :: rest) pos) g):PBW X rl (.BoolOp .And (a :: b :: rest) pos) (vAnd f g):=by
  obtain ⟨t,p,k⟩:=ha
  obtain ⟨t2,p2,k2⟩:=hb
  refine ⟨_,pw_and p p2,fun R Qd Q q h=>k R _ _ q fun c F1 H1 g1 q1=>?_⟩
  cases c with
  | true=>exact k2 (R.grow g1) _ _ q1 fun c F2 H2 g2 q2=>h c F2 H2 (g1.trans g2) q2
  | false=>exact h false F1 H1 g1 q1
theorem vb_or (ha:PB X rl a f) (hb:PBW X rl (.BoolOp .Or (b :: rest) pos) g):PBW X rl (.BoolOp .Or (a :: b :: rest) pos) (vOr f g):=by
  obtain ⟨t,p,k⟩:=ha
  obtain ⟨t2,p2,k2⟩:=hb
  refine ⟨_,pw_or p p2,fun R Qd Q q h=>k R _ _ q fun c F1 H1 g1 q1=>?_⟩
  cases c with
  | true=>exact h true F1 H1 g1 q1
  | false=>exact k2 (R.grow g1) _ _ q1 fun c F2 H2 g2 q2=>h c F2 H2 (g1.trans g2) q2
theorem vb_not (ha:PB X rl a f):PB X rl (.UnaryOp .Not a pos) (vNot f):=by
  obtain ⟨t,p,k⟩:=ha
  exact ⟨_,pt_not p,fun R Qd Q q h=>k R _ _ q fun c F1 H1 g1 q1=>h (!c) F1 H1 g1 q1⟩
noncomputable def vOrV (fa fb:TV):TV:=fun ρ Q=>fa ρ fun w=>∃ c,w = .d (.bool c) /\ if c = true then Q (.d (.bool true)) else fb ρ Q
theorem NewIn.back {rl:RlT} {F H F' H':Hp} {v:V} {w:W} (g:Grow rl F H F' H') (n:NewIn H' v w):NewIn H v w:=by
  cases w with
  | ml xs=>exact fun a ea=>g.freeB (n a ea)
  | md xs=>exact fun a ea=>g.freeB (n a ea)
  | mk xs=>exact fun a ea=>g.freeB (n a ea)
  | nt _=>trivial
  | lk=>trivial
  | sc _=>trivial
  | fd _=>trivial
  | fw _=>trivial
  | ft _=>trivial
  | xc _ _=>trivial
  | dp _ _=>trivial
  | d _=>trivial
  | pk _=>trivial
  | reel=>trivial
  | vv _=>trivial
theorem v_one {op} (ha:PV X rl a fa):PV X rl (.BoolOp op [a] pos) fa:=let ⟨t,p,k⟩:=ha; ⟨t,pe_one p,k⟩
theorem v_or (ha:PV X rl a fa) (hb:PV X rl (.BoolOp .Or (b :: rest) pos) fb):PV X rl (.BoolOp .Or (a :: b :: rest) pos) (vOrV fa fb):=by
  obtain ⟨t,p,k⟩:=ha
  obtain ⟨t2,p2,k2⟩:=hb
  refine ⟨_,pe_or p p2,fun R Qd Q q h=>k R _ _ q fun v w F1 H1 g1 r1 n1 ⟨c,ew,q1⟩=>?_⟩
  subst ew
  refine ⟨c,rep_bl r1,?_⟩
  cases c with
  | false=>exact k2 (R.grow g1) _ _ q1 fun v w F2 H2 g2 r2 n2 q2=>h v w F2 H2 (g1.trans g2) r2 (n2.back g1) q2
  | true=>exact h _ (.d _) F1 H1 g1 (.bl true) trivial q1
noncomputable def vIf (t:TB) (fa fb:TV):TV:=fun ρ Q=>t ρ fun c=>if c = true then fa ρ Q else fb ρ Q
theorem v_ifExp {c:Expr} (hc:PB X rl c f) (ha:PV X rl a fa) (hb:PV X rl b fb):PV X rl (.IfExp c a b pos) (vIf f fa fb):=by
  obtain ⟨t,p,k⟩:=hc
  obtain ⟨t1,p1,k1⟩:=ha
  obtain ⟨t2,p2,k2⟩:=hb
  refine ⟨_,pe_ifExp p p1 p2,fun R Qd Q q h=>k R _ _ q fun c F1 H1 g1 q1=>?_⟩
  cases c with
  | true=>exact k1 (R.grow g1) _ _ q1 fun v w F2 H2 g2 r2 n2 q2=>h v w F2 H2 (g1.trans g2) r2 (n2.back g1) q2
  | false=>exact k2 (R.grow g1) _ _ q1 fun v w F2 H2 g2 r2 n2 q2=>h v w F2 H2 (g1.trans g2) r2 (n2.back g1) q2

noncomputable def dats:List W -> Option (List PyData)
  | []=>some []
  | .d x :: r=>(dats r).map (x :: ·)
  | _ :: _=>none
theorem dats_rel {K:W.Frag} {F H:Hp}:∀ {vs:List V} {ws:List W} {ds:List PyData},RelWs K rl F H vs ws -> dats ws = some ds -> Reps K F vs ds
  | _,_,_,.nil,e=>by cases e; exact .nil
  | _,.d x :: ws,ds,.cons r rs,e=>by
    have e:(dats ws).map (x :: ·) = some ds:=e
    cases q:dats ws with
    | none=>rw [q] at e; cases e
    | some es=>rw [q] at e; cases e; exact .cons r (dats_rel rs q)
  | _,.ml x :: ws,ds,.cons r rs,e=>by cases (show none = some ds from e)
  | _,.pk x :: ws,ds,.cons r rs,e=>by cases (show none = some ds from e)
  | _,.reel :: ws,ds,.cons r rs,e=>by cases (show none = some ds from e)
  | _,.vv u :: ws,ds,.cons r rs,e=>by cases (show none = some ds from e)
  | _,.md u :: ws,ds,.cons r rs,e=>by cases (show none = some ds from e)
  | _,.nt u :: ws,ds,.cons r rs,e=>by cases (show none = some ds from e)
  | _,.lk :: ws,ds,.cons r rs,e=>by cases (show none = some ds from e)
  | _,.sc _ :: ws,ds,.cons r rs,e=>by cases (show none = some ds from e)
  | _,.fd _ :: ws,ds,.cons r rs,e=>by cases (show none = some ds from e)
  | _,.xc _ _ :: ws,ds,.cons r rs,e=>by cases (show none = some ds from e)
  | _,.mk _ :: ws,ds,.cons r rs,e=>by cases (show none = some ds from e)
  | _,.fw _ :: ws,ds,.cons r rs,e=>by cases (show none = some ds from e)
  | _,.ft _ :: ws,ds,.cons r rs,e=>by cases (show none = some ds from e)
  | _,.dp _ _ :: ws,ds,.cons r rs,e=>by cases (show none = some ds from e)
noncomputable def vTup (fs:TVs):TV:=fun ρ Q=>fs ρ fun ws=>∃ ds,dats ws = some ds /\ ds.length <= sizeLine /\ Q (.d (.tuple ds))
noncomputable def vLst (fs:TVs):TV:=fun ρ Q=>fs ρ fun ws=>∃ ds,dats ws = some ds /\ ds.length <= sizeLine /\ Q (.ml ds)
theorem v_tup {x1} (h:PVs X rl es fs):PV X rl (.Tuple es x1 pos) (vTup fs):=by
  obtain ⟨t,p,k⟩:=h
  refine ⟨_,pe_tup p,fun R Qd Q q h=>k R _ _ q fun vs ws F1 H1 g1 r1 ⟨ds,e1,z,q1⟩=>?_⟩
  have rs:=dats_rel r1 e1
  refine ⟨by rw [rs.length]; exact z,fun p hp=>?_⟩
  have g2:=g1.trans (Grow.data (a:=p) (o:=.tup vs) g1.sub g1.reel hp)
  exact h _ (.d (.tuple ds)) _ _ g2 (.tup (.inl (.inl upd_same)) (rs.mono (Grow.data (o:=.tup vs) g1.sub g1.reel hp).fs)) trivial q1
theorem own_laid {K:W.Frag} {F H:Hp} {p:Addr} {vs:List V} {ds:List PyData} (s:Same F H) (ra:RAt rl F H) (hp:H p = none) (rs:Reps K F vs ds):OwnL K rl F (upd H p (.lst vs)) (.ref p) ds:=by
  refine ⟨p,vs,rfl,s.free hp,fun e=>?_,upd_same,rs⟩
  obtain ⟨o,q⟩:=ra.live e
  rw [hp] at q
  cases q
theorem v_lst (h:PVs X rl es fs):PV X rl (.List es pos) (vLst fs):=by
  obtain ⟨t,p,k⟩:=h
  refine ⟨_,pe_lst p,fun R Qd Q q h=>k R _ _ q fun vs ws F1 H1 g1 r1 ⟨ds,e1,z,q1⟩=>?_⟩
  have rs:=dats_rel r1 e1
  refine ⟨by rw [rs.length]; exact z,fun p hp=>?_⟩
  exact h _ (.ml ds) _ _ (g1.trans (Grow.laid (a:=p) (o:=.lst vs) g1.sub g1.reel hp)) (own_laid g1.sub g1.reel hp rs) (fun a ea=>by cases ea; exact g1.freeB hp) q1

noncomputable def itemAt:PyData -> Int -> Option PyData
  | .list xs,i=>atI xs i
  | .tuple xs,i=>atI xs i
  | _,_=>none
theorem Reps.atI {K:W.Frag} {F:Hp} {vs:List V} {ds:List PyData} {i:Int} {d:PyData} (r:Reps K F vs ds) (e:L2.atI ds i = some d):∃ v,L2.atI vs i = some v /\ Rep K F v d:=by
  unfold L2.atI at e ⊢
  rw [r.length]
  cases q:ixN ds.length i with
  | none=>rw [q] at e; cases e
  | some j =>
    rw [q] at e
    exact r.get e
noncomputable def gIx:W -> W -> (W -> Prop) -> Prop:=fun x y Q=>∃ dx i z,x.dat = some dx /\ y = .d (.int i) /\ itemAt dx i = some z /\ Q (.d z)
theorem vo_ix:VOp X rl (rIx X.K) gIx:=fun {F H x y wx wy} Qd Q s ra r1 r2 q k=>by
  obtain ⟨dx,i,z,e1,rfl,e3,q⟩:=q
  have ey:=rep_int r2
  subst ey
  cases dx with
  | list xs =>
    obtain ⟨a,vs,rfl,sq,rs⟩:=r1.items s e1
    obtain ⟨v,e4,rz⟩:=Reps.atI rs e3
    exact .inl ⟨a,vs,i,v,rfl,rfl,sq,e4,k _ (.d _) _ _ (Grow.refl s ra) rz trivial q⟩
  | tuple xs =>
    obtain ⟨a,vs,rfl,sq,rs⟩:=r1.itemsT s e1
    obtain ⟨v,e4,rz⟩:=Reps.atI rs e3
    exact .inr (.inl ⟨a,vs,i,v,rfl,rfl,sq,e4,k _ (.d _) _ _ (Grow.refl s ra) rz trivial q⟩)
  | none=>cases e3
  | bool b=>cases e3
  | int b=>cases e3
  | str b=>cases e3
  | dict b=>cases e3
theorem v_ix (ha:PV X rl a fa) (hb:PV X rl b fb) (hs:PlainIx b:=by exact fun _ _=>rfl):PV X rl (.Subscript a b pos) (vOp gIx fa fb):=vop_of vo_ix ha hb fun _ _ p1 p2=>pe_ix ix_seq p1 p2 hs

noncomputable def VCall (X:Cx) (rl:RlT) (r:List V -> Hp -> VK -> Prop) (g:List W -> (W -> Prop) -> Prop):Prop:=∀ {F H:Hp} {vs:List V} {ws:List W} (Qd:W -> Prop) (Q:VK),Same F H -> RAt rl F H -> RelWs X.K rl F H vs ws -> g ws Qd ->
  (∀ v w F' H',Grow rl F H F' H' -> RelW X.K rl F' H' v w -> NewIn H v w -> Qd w -> Q v H') -> r vs H Q
noncomputable def vCall (g:List W -> (W -> Prop) -> Prop) (fs:TVs):TV:=fun ρ Q=>fs ρ fun ws=>g ws Q
theorem vcall_of {r:List V -> Hp -> VK -> Prop} {g:List W -> (W -> Prop) -> Prop} {t:TA -> TE} (vc:VCall X rl r g) (ha:PVs X rl es fs) {e:Expr} (hp:∀ ta,PA X es ta -> PE X e (tCB r ta)):PV X rl e (vCall g fs):=by
  obtain ⟨ta,p1,k1⟩:=ha
  refine ⟨_,hp ta p1,fun R Qd Q q k=>k1 R _ _ q fun vs ws F1 H1 g1 r1 q1=>?_⟩
  exact vc Qd Q g1.sub g1.reel r1 q1 fun v w F2 H2 g2 r2 n2 q2=>k v w F2 H2 (g1.trans g2) r2 (n2.back g1) q2
theorem v_callB {id:String} {x:Str} {r:List V -> Hp -> VK -> Prop} {g:List W -> (W -> Prop) -> Prop} (hc:CallR X (.builtin id) r) (vc:VCall X rl r g) (hm:X.mg x = none) (hv:bootBuiltins x = some (.builtin id)) (ha:PVs X rl (e :: es) fs) (hg:Gl X x:=by rfl) (hn:x ≠ "__name__" := by decide) (hdb:(x == ("__debug__" : Str)) = false:=by decide)
    (he:starEach (e :: es) X.env = (false,eval e X.env) :: starEach es X.env:=by rfl) (hpl:(backTo pos (starEach es X.env)).any (·.1) = false:=by rfl):PV X rl (.Call (.Name x p) (e :: es) [] pos) (vCall g fs) :=
  vcall_of (t:=fun _=>tC .non) vc ha fun _ p1=>pe_callB hc hg hm hv p1 hn hdb he hpl
theorem v_callTy {T:String} {x:Str} {r:List V -> Hp -> VK -> Prop} {g:List W -> (W -> Prop) -> Prop} (hc:CallR X (.type T) r) (vc:VCall X rl r g) (hm:X.mg x = none) (hv:bootBuiltins x = some (.type T)) (ha:PVs X rl (e :: es) fs) (hg:Gl X x:=by rfl) (hn:x ≠ "__name__" := by decide) (hdb:(x == ("__debug__" : Str)) = false:=by decide)
    (he:starEach (e :: es) X.env = (false,eval e X.env) :: starEach es X.env:=by rfl) (hpl:(backTo pos (starEach es X.env)).any (·.1) = false:=by rfl):PV X rl (.Call (.Name x p) (e :: es) [] pos) (vCall g fs) :=
  vcall_of (t:=fun _=>tC .non) vc ha fun _ p1=>pe_callTy hc hg hm hv p1 hn hdb he hpl
theorem rel1 {K:W.Frag} {F H:Hp} {vs:List V} {w:W} (r:RelWs K rl F H vs [w]):∃ v,vs = [v] /\ RelW K rl F H v w:=by
  cases r with
  | cons r1 r2=>cases r2; exact ⟨_,rfl,r1⟩
theorem rel2 {K:W.Frag} {F H:Hp} {vs:List V} {w w':W} (r:RelWs K rl F H vs [w,w']):∃ v u,vs = [v,u] /\ RelW K rl F H v w /\ RelW K rl F H u w':=by
  cases r with
  | cons r1 r2 =>
    cases r2 with
    | cons r3 r4=>cases r4; exact ⟨_,_,rfl,r1,r3⟩
noncomputable def gAbs:List W -> (W -> Prop) -> Prop:=fun ws Q=>∃ i,ws = [.d (.int i)] /\ Q (.d (.int (if i < 0 then -i else i)))
theorem vc_abs:VCall X rl (fun xs H Q=>∃ i,xs = [.int i] /\ Q (.int (if i < 0 then -i else i)) H) gAbs:=fun {F H vs ws} Qd Q s ra r ⟨i,ew,q⟩ k=>by
  subst ew
  obtain ⟨v,rfl,r1⟩:=rel1 r
  have e:=rep_int r1
  subst e
  exact ⟨i,rfl,k _ (.d _) _ _ (Grow.refl s ra) (.int _) trivial q⟩
noncomputable def lenD:PyData -> Option Nat
  | .list xs=>some xs.length
  | .tuple xs=>some xs.length
  | _=>none
noncomputable def gLen:List W -> (W -> Prop) -> Prop:=fun ws Q=>∃ w d n,ws = [w] /\ w.dat = some d /\ lenD d = some n /\ Q (.d (.int n))
theorem vc_len:VCall X rl (fun xs H Q=>∃ p ys,xs = [.ref p] /\ (SqL X.K H p ys \/ SqT X.K H p ys) /\ Q (.int ys.length) H) gLen:=fun {F H vs ws} Qd Q s ra r ⟨w,d,n,ew,e1,e2,q⟩ k=>by
  subst ew
  obtain ⟨v,rfl,r1⟩:=rel1 r
  cases d with
  | list xs =>
    obtain ⟨a,vs,rfl,sq,rs⟩:=r1.items s e1
    cases e2
    exact ⟨a,vs,rfl,.inl sq,k _ (.d _) _ _ (Grow.refl s ra) (by rw [rs.length]; exact .int _) trivial q⟩
  | tuple xs =>
    obtain ⟨a,vs,rfl,sq,rs⟩:=r1.itemsT s e1
    cases e2
    exact ⟨a,vs,rfl,.inr sq,k _ (.d _) _ _ (Grow.refl s ra) (by rw [rs.length]; exact .int _) trivial q⟩
  | none=>cases e2
  | bool b=>cases e2
  | int b=>cases e2
  | str b=>cases e2
  | dict b=>cases e2
end
end L2.VL

namespace L2.VL
open PySem PySem.Spec PyProof.Rows

structure VEnds where
  nx:En -> Prop
  rt:W -> Prop
  bk:En -> Prop:=fun _=>False
  ct:En -> Prop:=fun _=>False
structure EndsOk (K:W.Frag) (rl:RlT) (F₀ H₀ Fs:Hp) (Dv:VEnds) (D:Ends):Prop where
  nx:∀ F H σ ρ,Same Fs F -> VR K rl F₀ H₀ F H σ ρ -> Dv.nx ρ -> D.nx σ H
  rt:∀ v w F H,Grow rl F₀ H₀ F H -> RelW K rl F H v w -> NewIn H₀ v w -> Dv.rt w -> D.rt v H
  bk:∀ F H σ ρ,Same Fs F -> VR K rl F₀ H₀ F H σ ρ -> Dv.bk ρ -> D.bk σ H
  ct:∀ F H σ ρ,Same Fs F -> VR K rl F₀ H₀ F H σ ρ -> Dv.ct ρ -> D.ct σ H
theorem EndsOk.on {K:W.Frag} {rl:RlT} {F₀ H₀ Fs F:Hp} {Dv:VEnds} {D:Ends} (ok:EndsOk K rl F₀ H₀ Fs Dv D) (s:Same Fs F):EndsOk K rl F₀ H₀ F Dv D :=
  ⟨fun F1 H σ ρ s1=>ok.nx F1 H σ ρ (s.trans s1),ok.rt,fun F1 H σ ρ s1=>ok.bk F1 H σ ρ (s.trans s1),fun F1 H σ ρ s1=>ok.ct F1 H σ ρ (s.trans s1)⟩
abbrev TSv:=VEnds -> En -> Prop
noncomputable def PSV (X:Cx) (rl:RlT) (st:Stmt) (t:TSv):Prop:=∃ T,PS X st T /\ ∀ {F₀ H₀ F H:Hp} {σ:St} {ρ:En},VR X.K rl F₀ H₀ F H σ ρ -> ∀ Dv D,EndsOk X.K rl F₀ H₀ F Dv D -> t Dv ρ -> T D σ H
noncomputable def PSsV (X:Cx) (rl:RlT) (st:List Stmt) (t:TSv):Prop:=∃ T,PSs X st T /\ ∀ {F₀ H₀ F H:Hp} {σ:St} {ρ:En},VR X.K rl F₀ H₀ F H σ ρ -> ∀ Dv D,EndsOk X.K rl F₀ H₀ F Dv D -> t Dv ρ -> T D σ H

section
variable {X:Cx} {rl:RlT} {st:Stmt} {rest body:List Stmt} {t u:TSv} {a b c e:Expr} {es:List Expr} {fa fb:TV} {fs:TVs} {f:TB} {pos p:Pos}
noncomputable def vNext:TSv:=fun D ρ=>D.nx ρ
noncomputable def vSeq (t u:TSv):TSv:=fun D ρ=>t { D with nx:=u D } ρ
theorem vs_nil:PSsV X rl [] vNext:=⟨_,pss_nil,fun R Dv D ok q=>ok.nx _ _ _ _ (.refl _) R q⟩
theorem vs_one (h:PSV X rl st t):PSsV X rl [st] t:=let ⟨T,p,k⟩:=h; ⟨T,pss_one p,k⟩
theorem vs_cons (h:PSV X rl st t) (h2:PSsV X rl rest u):PSsV X rl (st :: rest) (vSeq t u):=by
  obtain ⟨T,p,k⟩:=h
  obtain ⟨T2,p2,k2⟩:=h2
  exact ⟨_,pss_cons p p2,fun R Dv D ok q=>k R { Dv with nx:=u Dv } { D with nx:=T2 D } ⟨fun F H σ ρ s' R' q'=>k2 R' Dv D (ok.on s') q',ok.rt,ok.bk,ok.ct⟩ q⟩
noncomputable def vRet (fa:TV):TSv:=fun D ρ=>fa ρ D.rt
theorem vs_ret (h:PV X rl e fa):PSV X rl (.Return (some e) pos) (vRet fa):=by
  obtain ⟨t,p,k⟩:=h
  exact ⟨_,ps_ret p,fun R Dv D ok q=>k R _ _ q fun v w F1 H1 g1 r1 n1 q1=>ok.rt v w F1 H1 (R.g.trans g1) r1 (n1.back R.g) q1⟩
noncomputable def vIfS (f:TB) (t u:TSv):TSv:=fun D ρ=>f ρ fun b=>if b = true then t D ρ else u D ρ
theorem vs_if {A B:List Stmt} (hc:PB X rl c f) (ha:PSsV X rl A t) (hb:PSsV X rl B u):PSV X rl (.If c A B pos) (vIfS f t u):=by
  obtain ⟨t0,p0,k0⟩:=hc
  obtain ⟨t1,p1,k1⟩:=ha
  obtain ⟨t2,p2,k2⟩:=hb
  refine ⟨_,ps_if p0 p1 p2,fun R Dv D ok q=>k0 R _ _ q fun b F1 H1 g1 q1=>?_⟩
  cases b with
  | true=>exact k1 (R.grow g1) Dv D (ok.on g1.fs) q1
  | false=>exact k2 (R.grow g1) Dv D (ok.on g1.fs) q1
noncomputable def W.isPk:W -> Bool
  | .pk _=>true
  | _=>false
noncomputable def vSet (i:Nat) (fa:TV):TSv:=fun D ρ=>fa ρ fun w=>w.isPk = false /\ D.nx (ρ.set i (some w))
theorem vs_set (i:Nat) {x:Str} {pos':Pos} (hN:X.N.Nodup) (he:PV X rl e fa) (hi:X.N[i]? = some x:=by rfl) (hx:Loc X.env.scope x:=by first | exact Or.inl rfl | exact Or.inr rfl)
    (hs:swapsWith e (some (.Name x pos')) pos.line X.env = pure false:=by rfl) (hf:X.fn x = true \/ X.env.scope.names.lookup x = some .local:=by first | exact .inl rfl | exact .inr rfl) :
    PSV X rl (.Assign [.Name x pos'] e pos) (vSet i fa):=by
  obtain ⟨t,p,k⟩:=he
  refine ⟨_,ps_set hN hi hx p hs hf,fun R Dv D ok q=>k R _ _ q fun v w F1 H1 g1 r1 n1 ⟨hp,q1⟩=>?_⟩
  exact ok.nx _ _ _ _ g1.fs (R.set g1 r1 n1 (fun xs z=>by subst z; cases hp) i) q1

noncomputable def NoMl (ρ:En):Prop:=∀ (i:Nat) (w:W),ρ[i]? = some (some w) -> w.own = false
theorem NoMl.set {ρ:En} (h:NoMl ρ) (i:Nat) (x:PyData):NoMl (ρ.set i (some (.d x))):=fun j w z=>by
  rw [List.getElem?_set] at z
  split at z
  · split at z
    · cases z; rfl
    · cases z
  · exact h j w z
abbrev TGv:=PyData -> En -> (En -> Prop) -> Prop
abbrev TGvs:=List PyData -> En -> (En -> Prop) -> Prop
noncomputable def PGV (X:Cx) (rl:RlT) (tg:Expr) (g:TGv):Prop:=∃ G,PG X tg G /\ ∀ {F₀ H₀ F H:Hp} {σ:St} {ρ:En},VR X.K rl F₀ H₀ F H σ ρ -> ∀ (v:V) (x:PyData) (Qd:En -> Prop) (Q:St -> Hp -> Prop),Rep X.K F v x -> g x ρ Qd ->
  (∀ F' H' σ' ρ',Grow rl F H F' H' -> (NoMl ρ -> NoMl ρ') -> VR X.K rl F₀ H₀ F' H' σ' ρ' -> Qd ρ' -> Q σ' H') -> G v σ H Q
noncomputable def PGVs (X:Cx) (rl:RlT) (tgs:List Expr) (g:TGvs):Prop:=∃ G,PGs X tgs G /\ ∀ {F₀ H₀ F H:Hp} {σ:St} {ρ:En},VR X.K rl F₀ H₀ F H σ ρ -> ∀ (vs:List V) (xs:List PyData) (Qd:En -> Prop) (Q:St -> Hp -> Prop),Reps X.K F vs xs -> g xs ρ Qd ->
  (∀ F' H' σ' ρ',Grow rl F H F' H' -> (NoMl ρ -> NoMl ρ') -> VR X.K rl F₀ H₀ F' H' σ' ρ' -> Qd ρ' -> Q σ' H') -> G vs σ H Q
noncomputable def hName (i:Nat):TGv:=fun x ρ Q=>Q (ρ.set i (some (.d x)))
theorem vg_name (i:Nat) {x:Str} (hN:X.N.Nodup) (hi:X.N[i]? = some x:=by rfl) (hx:Loc X.env.scope x:=by first | exact Or.inl rfl | exact Or.inr rfl) (hf:X.fn x = true \/ X.env.scope.names.lookup x = some .local:=by first | exact .inl rfl | exact .inr rfl):PGV X rl (.Name x pos) (hName i) :=
  ⟨_,pg_name hN hi hx hf,fun R v x Qd Q r q k=>k _ _ _ _ (Grow.refl R.sub R.reel) (fun n=>n.set i x) (R.set (w:=.d x) (Grow.refl R.sub R.reel) r trivial (fun _ z=>by cases z) i) q⟩
noncomputable def hNil:TGvs:=fun xs ρ Q=>xs = [] /\ Q ρ
noncomputable def hCons (g:TGv) (gs:TGvs):TGvs:=fun xs ρ Q=>∃ y r,xs = y :: r /\ g y ρ fun ρ'=>gs r ρ' Q
theorem vgs_nil:PGVs X rl [] hNil:=⟨_,pgs_nil,fun R vs xs Qd Q r ⟨e,q⟩ k=>by subst e; exact ⟨r.nil_iff,k _ _ _ _ (Grow.refl R.sub R.reel) (fun n=>n) R q⟩⟩
theorem vgs_cons {g:TGv} {gs:TGvs} (h1:PGV X rl e g) (h2:PGVs X rl es gs) (hs:(assignEach (e :: es) X.env).map (·.2) = assign e X.env :: (assignEach es X.env).map (·.2):=by rfl):PGVs X rl (e :: es) (hCons g gs):=by
  obtain ⟨G,p,k⟩:=h1
  obtain ⟨G2,p2,k2⟩:=h2
  refine ⟨_,pgs_cons p p2 hs,fun R vs xs Qd Q r ⟨y,ys,ex,q⟩ h=>?_⟩
  subst ex
  cases r with
  | cons r1 r2 =>
    refine ⟨_,_,rfl,k R _ y _ _ r1 q fun F1 H1 σ1 ρ1 s1 n1 R1 q1=>?_⟩
    exact k2 R1 _ ys _ _ (r2.mono s1.fs) q1 fun F2 H2 σ2 ρ2 s2 n2 R2 q2=>h F2 H2 σ2 ρ2 (s1.trans s2) (fun n=>n2 (n1 n)) R2 q2
noncomputable def hTup (n:Nat) (gs:TGvs):TGv:=fun x ρ Q=>∃ xs,x = .tuple xs /\ xs.length = n /\ gs xs ρ Q
theorem vg_tup {kk:Nat} {gs:TGvs} {n:Nat} (hc:X.calm = true) (h:PGVs X rl es gs) (hn:(assignEach es X.env).length = n:=by rfl) (hst:(assignEach es X.env).findIdx? (·.1) = none:=by rfl):PGV X rl (.Tuple es kk pos) (hTup n gs):=by
  obtain ⟨G,p,k⟩:=h
  refine ⟨_,pg_tup hc p hn hst,fun R v x Qd Q r ⟨xs,ex,hl,q⟩ h=>?_⟩
  subst ex
  cases r with
  | tup sq rs=>exact ⟨_,_,rfl,sameT R.sub sq,by rw [rs.length]; exact hl,k R _ xs _ _ rs q h⟩
noncomputable def vAsg (fa:TV) (g:TGv):TSv:=fun D ρ=>fa ρ fun w=>∃ x,w = .d x /\ g x ρ D.nx
theorem vs_asg {tg:Expr} {g:TGv} (he:PV X rl e fa) (hg:PGV X rl tg g) (hs:swapsWithSole [tg] e pos.line X.env = pure false:=by rfl) (hw:swappedStores [tg] e X.env = pure none:=by rfl)
    (h1:(assignEach [tg] X.env).map (·.2) = [assign tg X.env]:=by rfl):PSV X rl (.Assign [tg] e pos) (vAsg fa g):=by
  obtain ⟨t,p,k⟩:=he
  obtain ⟨G,p2,k2⟩:=hg
  refine ⟨_,ps_asg p p2 hs hw h1,fun R Dv D ok q=>k R _ _ q fun v w F1 H1 g1 r1 n1 ⟨x,ew,q1⟩=>?_⟩
  subst ew
  exact k2 (R.grow g1) v x _ _ r1 q1 fun F2 H2 σ2 ρ2 s2 n2 R2 q2=>ok.nx _ _ _ _ (g1.fs.trans s2.fs) R2 q2
noncomputable def vPar (i j:Nat) (fs:TVs):TSv:=fun D ρ=>fs ρ fun ws=>∃ x y,dats ws = some [x,y] /\ D.nx ((ρ.set i (some (.d x))).set j (some (.d y)))
theorem vs_par (i j:Nat) {x y:Str} {px py pt:Pos} {kt k2 pt2} (hc:X.calm = true) (hN:X.N.Nodup) (ha:PVs X rl [a,b] fs)
    (hw:swappedStores [.Tuple [.Name x px,.Name y py] kt pt] (.Tuple [a,b] k2 pt2) X.env = pure (some [x,y]):=by rfl) (hi:X.N[i]? = some x:=by rfl) (hj:X.N[j]? = some y:=by rfl) (hij:i ≠ j:=by decide)
    (hx:X.env.scope.names.lookup x = some .local:=by rfl) (hy:X.env.scope.names.lookup y = some .local:=by rfl)
    (hs:swapsWithSole [.Tuple [.Name x px,.Name y py] kt pt] (.Tuple [a,b] k2 pt2) pos.line X.env = pure false:=by rfl) :
    PSV X rl (.Assign [.Tuple [.Name x px,.Name y py] kt pt] (.Tuple [a,b] k2 pt2) pos) (vPar i j fs):=by
  obtain ⟨t,p,k⟩:=ha
  refine ⟨_,ps_par hc hN hi hj hij hx hy p hw hs,fun R Dv D ok q=>k R _ _ q fun vs ws F1 H1 g1 r1 ⟨x,y,e1,q1⟩=>?_⟩
  have rs:=dats_rel r1 e1
  cases rs with
  | cons rx rs =>
    cases rs with
    | cons ry rs =>
      cases rs
      have R1:=(R.grow g1).set (w:=.d x) (Grow.refl g1.sub g1.reel) rx trivial (fun _ z=>by cases z) i
      exact ⟨_,_,rfl,ok.nx _ _ _ _ g1.fs (R1.set (w:=.d y) (Grow.refl g1.sub g1.reel) ry trivial (fun _ z=>by cases z) j) q1⟩

structure VIt (K:W.Frag) (rl:RlT) (F:Hp) (J:It) (xs:List PyData):Prop where
  go:∀ i H x,xs[i]? = some x -> Same F H -> J.go i H
  stop:∀ i H,xs.length <= i -> Same F H -> J.stop i H
  yld:∀ i H v H' x F2,xs[i]? = some x -> Same F F2 -> Same F2 H -> RAt rl F2 H -> J.yld i H v H' -> ∃ F3,Grow rl F2 H F3 H' /\ Rep K F3 v x
theorem VIt.of {K:W.Frag} {rl:RlT} {F:Hp} {J:It} {xs:List PyData} (go:∀ i H x,xs[i]? = some x -> Same F H -> J.go i H) (stop:∀ i H,xs.length <= i -> Same F H -> J.stop i H)
    (yld:∀ i H v H' x,xs[i]? = some x -> Same F H -> J.yld i H v H' -> H' = H /\ Rep K F v x):VIt K rl F J xs :=
  ⟨go,stop,fun i H v H' x F2 e s s2 ra y=>by
    obtain ⟨e1,r⟩:=yld i H v H' x e (s.trans s2) y
    subst e1
    exact ⟨F2,Grow.refl s2 ra,r.mono s⟩⟩
noncomputable def PIV (X:Cx) (rl:RlT) (tg iter:Expr) (fi:En -> (List PyData -> Prop) -> Prop):Prop:=∃ wi,PI X tg iter wi /\ ∀ {F₀ H₀ F H:Hp} {σ:St} {ρ:En},VR X.K rl F₀ H₀ F H σ ρ -> ∀ (Qd:List PyData -> Prop) (R:It -> Hp -> Prop),fi ρ Qd ->
  (∀ J xs F' H',Grow rl F H F' H' -> VIt X.K rl F' J xs -> Qd xs -> R J H') -> wi σ H R
end
end L2.VL

namespace L2.VL
open PySem PySem.Spec PyProof.Rows

section
variable {X:Cx} {rl:RlT} {st:Stmt} {rest body:List Stmt} {t u:TSv} {a b c e:Expr} {es:List Expr} {fa fb:TV} {fs:TVs} {f:TB} {pos p:Pos} {tg:Expr}
noncomputable def vFrz (i:Nat) (t:TSv):TSv:=fun D ρ=>∃ xs,ρ[i]? = some (some (.ml xs)) /\ t D (ρ.set i (some (.d (.list xs))))
theorem frz_same {K:W.Frag} {F₀ H₀ F H:Hp} {σ:St} {ρ:En} (r:VR K rl F₀ H₀ F H σ ρ) {i:Nat} {xs:List PyData} (e : ρ[i]? = some (some (.ml xs))):∃ F1,Same F F1 /\ VR K rl F₀ H₀ F1 H σ (ρ.set i (some (.d (.list xs)))):=by
  obtain ⟨v,h1,h2,h3⟩:=r.sl i _ e
  obtain ⟨a,vs,ev,f,hr,hh,q⟩:=(show OwnL K rl F H v xs from h2)
  obtain ⟨F1,R1⟩:=r.freeze e
  obtain ⟨v',k1,k2,k3⟩:=R1.sl i _ (List.getElem?_set_self (List.getElem?_eq_some_iff.mp e).1)
  have neF:∀ b u,F b = some u -> b ≠ a:=fun b u q z=>by subst z; rw [f] at q; cases q
  have fsm:Same F (upd F a (.lst vs)):=fun b u z=>by rw [upd_ne (neF b u z)]; exact z
  have hi:i < ρ.length:=(List.getElem?_eq_some_iff.mp e).1
  refine ⟨upd F a (.lst vs),fsm,r.g.freeze (h3 a ev) hh f hr,fun j w e1=>?_,R1.ap,R1.np,R1.len⟩
  by_cases hj:i = j
  · subst hj
    rw [List.getElem?_set_self hi] at e1
    cases e1
    exact ⟨v,h1,by rw [ev]; exact .lst upd_same (q.mono fsm),trivial⟩
  · rw [List.getElem?_set_ne hj] at e1
    obtain ⟨u,g1,g2,g3⟩:=r.sl j w e1
    refine ⟨u,g1,?_,g3⟩
    cases w with
    | d x=>exact Rep.mono fsm g2
    | reel=>exact g2
    | vv u=>exact g2
    | ml ys =>
      obtain ⟨b,us,eb,f1,f2,f3,f4⟩:=(show OwnL K rl F H u ys from g2)
      have ne:b ≠ a:=fun z=>r.ap i j _ _ v hj e e1 rfl rfl h1 (by rw [g1,eb,z,ev])
      exact ⟨b,us,eb,by rw [upd_ne ne]; exact f1,f2,f3,f4.mono fsm⟩
    | pk ys=>exact absurd e1 (r.np j ys)
    | md ys =>
      obtain ⟨b,us,eb,f1,f2,f3,f4⟩:=(show OwnD K rl F H u ys from g2)
      have ne:b ≠ a:=fun z=>r.ap i j _ _ v hj e e1 rfl rfl h1 (by rw [g1,eb,z,ev])
      exact ⟨b,us,eb,by rw [upd_ne ne]; exact f1,f2,f3,Paired.mapP f4 fun _ _ z=>⟨z.1,z.2.mono fsm⟩⟩
    | mk ys =>
      obtain ⟨b,us,eb,f1,f2,f3,f4⟩:=(show OwnK K rl F H u ys from g2)
      have ne:b ≠ a:=fun z=>r.ap i j _ _ v hj e e1 rfl rfl h1 (by rw [g1,eb,z,ev])
      exact ⟨b,us,eb,by rw [upd_ne ne]; exact f1,f2,f3,Paired.mapP f4 fun _ _ z=>⟨z.1,z.2.mono fsm⟩⟩
    | nt ds=>obtain ⟨b,us,eb,f1,f2⟩:=g2; exact ⟨b,us,eb,fsm _ _ f1,f2.mono fsm⟩
    | lk=>trivial
    | sc ns=>obtain ⟨b,eb,f1⟩:=g2; exact ⟨b,eb,sameL fsm f1⟩
    | fd kvs=>obtain ⟨b,us,eb,f1,f2⟩:=g2; exact ⟨b,us,eb,fsm _ _ f1,Paired.mapP f2 fun _ _ z=>⟨z.1,z.2.mono fsm⟩⟩
    | fw kvs=>obtain ⟨b,us,o,eb,f1,f2⟩:=g2; exact ⟨b,us,o,eb,fsm _ _ f1,Paired.mapP f2 fun _ _ z=>⟨z.1,z.2.mono fsm⟩⟩
    | ft kvs=>obtain ⟨b,us,o,eb,f1,f2⟩:=g2; exact ⟨b,us,o,eb,fsm _ _ f1,Paired.mapP f2 fun _ _ z=>⟨z.1,z.2.mono fsm⟩⟩
    | xc _ _=>obtain ⟨b,dx,us,C,eb,n,f1,f3,f2⟩:=g2; exact ⟨b,dx,us,C,eb,n,fsm _ _ f1,fsm _ _ f3,Paired.mapP f2 fun _ _ z=>⟨z.1,z.2.mono fsm⟩⟩
    | dp _ _=>obtain ⟨c,b,us,u,o,eb,f1,f3,f2,z⟩:=g2; exact ⟨c,b,us,u,o,eb,fsm _ _ f1,fsm _ _ f3,Paired.mapP f2 fun _ _ z=>⟨z.1,z.2.mono fsm⟩,z.mono fsm⟩
theorem vs_frz (i:Nat) (h:PSV X rl st t):PSV X rl st (vFrz i t):=by
  obtain ⟨T,p,k⟩:=h
  refine ⟨T,p,fun R Dv D ok ⟨xs,e,q⟩=>?_⟩
  obtain ⟨F1,s1,R1⟩:=frz_same R e
  exact k R1 Dv D (ok.on s1) q

noncomputable def iL (fa:TV):En -> (List PyData -> Prop) -> Prop:=fun ρ Q=>fa ρ fun w=>∃ xs,w.fz = .d (.list xs) /\ Q xs
noncomputable def iT (fa:TV):En -> (List PyData -> Prop) -> Prop:=fun ρ Q=>fa ρ fun w=>∃ xs,w.fz = .d (.tuple xs) /\ Q xs
theorem vi_list {l:Expr} (hl:PV X rl l fa):PIV X rl tg l (iL fa):=by
  obtain ⟨t,p,k⟩:=hl
  refine ⟨_,pi_list p,fun R Qd Q q h=>k R _ _ q fun v w F1 H1 g1 r1 n1 ⟨xs,ew,q1⟩=>?_⟩
  obtain ⟨F2,g2,s2,r2⟩:=RelW.fz g1 r1 n1
  rw [ew] at r2
  cases (show Rep X.K F2 v (.list xs) from r2) with
  | @lst a vs _ sq rs =>
    have sqH:∀ H,Same F2 H -> SqL X.K H a vs:=fun H s=>.inl (.inl (s _ _ sq))
    refine ⟨a,rfl,⟨vs,sqH H1 g2.sub⟩,h _ xs F2 H1 g2 (.of (fun i H x e s=>?_) (fun i H hl s=>⟨vs,sqH H s,by rw [rs.length]; exact hl⟩) (fun i H v H' x e s y=>?_)) q1⟩
    · obtain ⟨v,ev,_⟩:=rs.get e
      exact ⟨vs,v,sqH H s,ev⟩
    · obtain ⟨e',hy⟩:=y
      obtain ⟨v',ev,rv⟩:=rs.get e
      have:=hy vs (sqH H s)
      rw [ev] at this
      cases this
      exact ⟨e',rv⟩
theorem vi_tup {l:Expr} (hl:PV X rl l fa):PIV X rl tg l (iT fa):=by
  obtain ⟨t,p,k⟩:=hl
  refine ⟨_,pi_tup p,fun R Qd Q q h=>k R _ _ q fun v w F1 H1 g1 r1 n1 ⟨xs,ew,q1⟩=>?_⟩
  obtain ⟨F2,g2,s2,r2⟩:=RelW.fz g1 r1 n1
  rw [ew] at r2
  cases (show Rep X.K F2 v (.tuple xs) from r2) with
  | @tup a vs _ sq rs =>
    have sqH:∀ H,Same F2 H -> SqT X.K H a vs:=fun H s=>sameT s sq
    refine ⟨a,rfl,⟨vs,sqH H1 g2.sub⟩,h _ xs F2 H1 g2 (.of (fun i H x e s=>?_) (fun i H hl s=>⟨vs,sqH H s,by rw [rs.length]; exact hl⟩) (fun i H v H' x e s y=>?_)) q1⟩
    · obtain ⟨v,ev,_⟩:=rs.get e
      exact ⟨vs,v,sqH H s,ev⟩
    · obtain ⟨e',hy⟩:=y
      obtain ⟨v',ev,rv⟩:=rs.get e
      have:=hy vs (sqH H s)
      rw [ev] at this
      cases this
      exact ⟨e',rv⟩
noncomputable def rangeD (lo:Int) (n:Nat):List PyData:=(List.range n).map fun (i:Nat)=>.int (lo + i)
theorem rangeD_get {lo:Int} {n i:Nat} {x:PyData} (h:(rangeD lo n)[i]? = some x):i < n /\ x = .int (lo + i):=by
  unfold rangeD at h
  rw [List.getElem?_map] at h
  by_cases hi:i < n
  · rw [List.getElem?_eq_getElem (by simpa using hi)] at h
    simp at h
    exact ⟨hi,h.symm⟩
  · rw [List.getElem?_eq_none (by simpa using hi)] at h
    cases h
theorem rangeD_length {lo:Int} {n:Nat}:(rangeD lo n).length = n:=by simp [rangeD]
theorem vit_range {K:W.Frag} {F:Hp} (lo:Int) (n:Nat):VIt K rl F (Itr lo n) (rangeD lo n) :=
  .of (fun i H x e s=>(rangeD_get e).1) (fun i H hl s=>by rw [rangeD_length] at hl; exact hl) (fun i H v H' x e s y=>by
    obtain ⟨e1,e2⟩:=y
    subst e2
    rw [(rangeD_get e).2]
    exact ⟨e1,.int _⟩)
noncomputable def iR1 (fs:TVs):En -> (List PyData -> Prop) -> Prop:=fun ρ Q=>fs ρ fun ws=>∃ j:Int,ws = [.d (.int j)] /\ (-(2 ^ 62) <= j /\ j < 2 ^ 62) /\ Q (rangeD 0 j.toNat)
theorem vi_range1 (hm:X.mg "range" = none) (ha:PVs X rl [a] fs) (hg:Gl X "range" := by rfl) (hs:starEach [a] X.env = [(false,eval a X.env)]:=by rfl):PIV X rl tg (.Call (.Name "range" p) [a] [] pos) (iR1 fs):=by
  obtain ⟨t,p1,k⟩:=ha
  refine ⟨_,pi_range1 hg hm p1 hs,fun R Qd Q q h=>k R _ _ q fun vs ws F1 H1 g1 r1 ⟨j,ew,b,q1⟩=>?_⟩
  subst ew
  obtain ⟨v,rfl,rv⟩:=rel1 r1
  have e:=rep_int rv
  subst e
  exact ⟨j,rfl,b.1,b.2,h _ _ F1 H1 g1 (vit_range 0 _) q1⟩
theorem VR.own {K:W.Frag} {F₀ H₀ F H:Hp} {σ:St} {ρ:En} (r:VR K rl F₀ H₀ F H σ ρ) {i:Nat} {xs ys:List PyData} {a:Addr} {us:List V} (e : ρ[i]? = some (some (.ml xs))) (es : σ[i]? = some (some (.ref a))) (rs:Reps K F us ys) :
    VR K rl F₀ H₀ F (upd H a (.lst us)) σ (ρ.set i (some (.ml ys))):=by
  obtain ⟨v,h1,h2,h3⟩:=r.sl i _ e
  rw [es] at h1
  cases h1
  obtain ⟨a',vs,ev,f,hr,hh,q⟩:=(show OwnL K rl F H (.ref a) xs from h2)
  cases ev
  have n0:H₀ a = none:=h3 a rfl
  have hi:i < ρ.length:=(List.getElem?_eq_some_iff.mp e).1
  have neF:∀ b u,F b = some u -> b ≠ a:=fun b u q z=>by subst z; rw [f] at q; cases q
  have g:Grow rl F₀ H₀ F (upd H a (.lst us)):=by
    refine ⟨fun b o q1 n=>by rw [upd_ne (ne_of_none q1 n0)]; exact r.g.same b o q1 n,r.g.fs,fun b o q1=>by rw [upd_ne (neF b o q1)]; exact r.sub b o q1,r.g.old,fun y z=>?_⟩
    obtain ⟨z1,⟨u,h1,h2⟩⟩:=r.reel y z
    exact ⟨z1,⟨u,by rw [upd_ne (fun q=>hr (by rw [<- q]; exact z))]; exact h1,h2⟩⟩
  refine ⟨g,fun j w e1=>?_,fun j k ys' zs u hjk e1 e2 w1 w2 s1 s2=>?_,fun j ys' z=>?_,by simp [r.len]⟩
  · by_cases hj:i = j
    · subst hj
      rw [List.getElem?_set_self hi] at e1
      cases e1
      exact ⟨_,es,⟨a,us,rfl,f,hr,upd_same,rs⟩,h3⟩
    · rw [List.getElem?_set_ne hj] at e1
      obtain ⟨u,g1,g2,g3⟩:=r.sl j w e1
      refine ⟨u,g1,?_,g3⟩
      cases w with
      | d x=>exact g2
      | reel=>exact g2
      | vv u=>exact g2
      | ml zs =>
        obtain ⟨b,us',eb,f1,f2,f3,f4⟩:=(show OwnL K rl F H u zs from g2)
        have ne:b ≠ a:=fun z=>r.ap i j _ _ (.ref a) hj e e1 rfl rfl es (by rw [g1,eb,z])
        exact ⟨b,us',eb,f1,f2,by rw [upd_ne ne]; exact f3,f4⟩
      | pk zs=>exact absurd e1 (r.np j zs)
      | md zs =>
        obtain ⟨b,us',eb,f1,f2,f3,f4⟩:=(show OwnD K rl F H u zs from g2)
        have ne:b ≠ a:=fun z=>r.ap i j _ _ (.ref a) hj e e1 rfl rfl es (by rw [g1,eb,z])
        exact ⟨b,us',eb,f1,f2,by rw [upd_ne ne]; exact f3,f4⟩
      | mk zs =>
        obtain ⟨b,us',eb,f1,f2,f3,f4⟩:=(show OwnK K rl F H u zs from g2)
        have ne:b ≠ a:=fun z=>r.ap i j _ _ (.ref a) hj e e1 rfl rfl es (by rw [g1,eb,z])
        exact ⟨b,us',eb,f1,f2,by rw [upd_ne ne]; exact f3,f4⟩
      | nt ds=>exact g2
      | lk=>trivial
      | sc _=>exact g2
      | fd _=>exact g2
      | fw _=>exact g2
      | ft _=>exact g2
      | xc _ _=>exact g2
      | dp _ _=>exact g2
  · have nd:∀ (j:Nat) (z:W),(ρ.set i (some (W.ml ys)))[j]? = some (some z) -> z.own = true -> ∃ z',ρ[j]? = some (some z') /\ z'.own = true:=fun j zs z o=>by
      by_cases hj:i = j
      · subst hj
        exact ⟨_,e,rfl⟩
      · rw [List.getElem?_set_ne hj] at z
        exact ⟨zs,z,o⟩
    obtain ⟨_,d1,o1⟩:=nd j _ e1 w1
    obtain ⟨_,d2,o2⟩:=nd k _ e2 w2
    exact r.ap j k _ _ u hjk d1 d2 o1 o2 s1 s2
  · rw [List.getElem?_set] at z
    split at z
    · first | cases z | (split at z <;> cases z)
    · exact r.np j ys' z
noncomputable def VMut (K:W.Frag) (rl:RlT) (r:V -> List V -> Hp -> VK -> Prop) (g:List PyData -> List W -> (List PyData -> Prop) -> Prop):Prop :=
  ∀ {F H:Hp} {a:Addr} {vs args:List V} {xs:List PyData} {ws:List W} (Qn:List PyData -> Prop) (Q:VK),Same F H -> H a = some (.lst vs) -> Reps K F vs xs -> RelWs K rl F H args ws -> g xs ws Qn ->
    (∀ us ys,Reps K F us ys -> Qn ys -> Q .non (upd H a (.lst us))) -> r (.ref a) args H Q
noncomputable def vMut (i:Nat) (g:List PyData -> List W -> (List PyData -> Prop) -> Prop) (fs:TVs):TSv:=fun D ρ=>∃ xs,ρ[i]? = some (some (.ml xs)) /\ fs ρ fun ws=>g xs ws fun ys=>D.nx (ρ.set i (some (.ml ys)))
theorem vs_mut (i:Nat) {x:Str} {nm:Str} {id:String} {r:V -> List V -> Hp -> VK -> Prop} {g:List PyData -> List W -> (List PyData -> Prop) -> Prop} {px apos cpos:Pos} (slot:Slot "list" nm id) (hty:typeOf (.builtin id) = pure (.type "method_descriptor")) (hm:MtR X id r) (vm:VMut X.K rl r g) (ha:PVs X rl (e :: es) fs)
    (hN:X.N[i]? = some x:=by rfl) (hv:Vis X.env.scope x:=by first | exact Or.inl rfl | exact Or.inr (Or.inl rfl) | exact Or.inr (Or.inr rfl))
    (hd:(x == ("__debug__" : Str)) = false:=by decide) (hcd:(x == ("__classdict__" : Str)) = false:=by decide)
    (hbase:attributeBase (.Name x px) nm X.env (eval (.Name x px) X.env) = eval (.Name x px) X.env:=by rfl)
    (hfew:((backTo cpos (starEach (e :: es) X.env)).all (fun x=>!x.1) && (backToKw cpos (keywordEach [] X.env)).all (fun x=>x.1.isSome)
      && decide ((e :: es).length + ([]:List Keyword).length + (if ([]:List Keyword).isEmpty then 0 else 1) < 30)) = true:=by rfl)
    (hline:(apos.endLine == cpos.line) = true:=by rfl) (hs:starEach (e :: es) X.env = (false,eval e X.env) :: starEach es X.env:=by rfl) (hplain:(backTo cpos (starEach es X.env)).any (·.1) = false:=by rfl)
    (hsw:swapsWith (.Call (.Attribute (.Name x px) nm apos) (e :: es) [] cpos) none pos.line X.env = pure false:=by rfl) :
    PSV X rl (.Expr (.Call (.Attribute (.Name x px) nm apos) (e :: es) [] cpos) pos) (vMut i g fs):=by
  obtain ⟨t,p1,k⟩:=ha
  refine ⟨_,ps_expr (pe_bm PySem.F.plainAttrs_list slot hty hm (pe_var hN hv hd hcd) p1 hbase hfew hline hs hplain) hsw,fun {F₀ H₀ F H σ ρ} R Dv D ok ⟨xs,e1,q⟩=>?_⟩
  obtain ⟨v,h1,h2,h3⟩:=R.sl i _ e1
  obtain ⟨a,vs,rfl,f,hr,hh,rs⟩:=(show OwnL X.K rl F H v xs from h2)
  refine ⟨.ref a,h1,.inl ⟨rfl,vs,.inl (.inl hh)⟩,k R _ _ q fun args ws F1 H1 g1 r1 q1=>?_⟩
  refine vm _ _ g1.sub (g1.same a _ hh hr) (rs.mono g1.fs) r1 q1 fun us ys r2 q2=>?_
  exact ok.nx _ _ _ _ g1.fs ((R.grow g1).own e1 h1 r2) q2
noncomputable def gApp:List PyData -> List W -> (List PyData -> Prop) -> Prop:=fun xs ws Q=>∃ x,dats ws = some [x] /\ xs.length < sizeLine /\ Q (xs ++ [x])
theorem vm_app {K:W.Frag}:VMut K rl rAppend gApp:=fun {F H a vs args xs ws} Qn Q s ha rs ra ⟨x,e,z,q⟩ k=>by
  have r2:=dats_rel ra e
  cases r2 with
  | cons rx r3 =>
    cases r3
    exact ⟨a,vs,_,rfl,rfl,ha,by rw [rs.length]; exact z,k _ _ (rs.snoc rx) q⟩
theorem vs_app (i:Nat) {x:Str} {px apos cpos:Pos} (ha:PVs X rl [e] fs) (hN:X.N[i]? = some x:=by rfl) (hv:Vis X.env.scope x:=by first | exact Or.inl rfl | exact Or.inr (Or.inl rfl) | exact Or.inr (Or.inr rfl))
    (hd:(x == ("__debug__" : Str)) = false:=by decide) (hcd:(x == ("__classdict__" : Str)) = false:=by decide)
    (hbase:attributeBase (.Name x px) "append" X.env (eval (.Name x px) X.env) = eval (.Name x px) X.env:=by rfl)
    (hfew:((backTo cpos (starEach [e] X.env)).all (fun x=>!x.1) && (backToKw cpos (keywordEach [] X.env)).all (fun x=>x.1.isSome)
      && decide (([e]).length + ([]:List Keyword).length + (if ([]:List Keyword).isEmpty then 0 else 1) < 30)) = true:=by rfl)
    (hline:(apos.endLine == cpos.line) = true:=by rfl) (hs:starEach [e] X.env = (false,eval e X.env) :: starEach [] X.env:=by rfl) (hplain:(backTo cpos (starEach [] X.env)).any (·.1) = false:=by rfl)
    (hsw:swapsWith (.Call (.Attribute (.Name x px) "append" apos) [e] [] cpos) none pos.line X.env = pure false:=by rfl) :
    PSV X rl (.Expr (.Call (.Attribute (.Name x px) "append" apos) [e] [] cpos) pos) (vMut i gApp fs) :=
  vs_mut i PySem.F.slot_list_append PySem.F.type_list_append mt_append vm_app ha hN hv hd hcd hbase hfew hline hs hplain hsw

noncomputable def argOk:W -> Bool
  | .ml _=>false
  | .md _=>false
  | .mk _=>false
  | .pk _=>false
  | _=>true
noncomputable def vsp (K:W.Frag) (rl:RlT) (P:List W -> (PyData -> Prop) -> Prop):Sp:=fun vs H Q _=>∃ F ws,Same F H /\ RAt rl F H /\ RelWs K rl F H vs ws /\ ws.all argOk = true /\ P ws fun d=>∀ v F' H',Grow rl F H F' H' -> Rep K F' v d -> Q v H'
noncomputable def startV (N:List Str) (ws:List W):En:=ws.map some ++ List.replicate (N.length - ws.length) none
theorem relWs_get {K:W.Frag} {F H:Hp}:∀ {vs:List V} {ws:List W} {i:Nat} {w:W},RelWs K rl F H vs ws -> ws[i]? = some w -> ∃ v,vs[i]? = some v /\ RelW K rl F H v w
  | _,_,_,_,.nil,e=>by simp at e
  | _,_,0,_,.cons h _,e=>by simp at e; subst e; exact ⟨_,rfl,h⟩
  | _,_,i + 1,w,.cons _ r,e=>by
    obtain ⟨v,h1,h2⟩:=relWs_get (i:=i) (w:=w) r (by simpa using e)
    exact ⟨v,by simpa using h1,h2⟩
theorem start_get {N:List Str} {ws:List W} {i:Nat} {w:W} (h:(startV N ws)[i]? = some (some w)):ws[i]? = some w:=by
  unfold startV at h
  by_cases hi:i < ws.length
  · rw [List.getElem?_append_left (by simpa using hi),List.getElem?_map] at h
    cases q:ws[i]? with
    | none=>rw [q] at h; cases h
    | some x=>rw [q] at h; cases h; rfl
  · rw [List.getElem?_append_right (by simpa using hi),List.getElem?_replicate] at h
    split at h <;> cases h
theorem vr_start {K:W.Frag} {F H:Hp} {N:List Str} {vs:List V} {ws:List W} (s:Same F H) (ra:RAt rl F H) (r:RelWs K rl F H vs ws) (ok:ws.all argOk = true):VR K rl F H F H (start N vs) (startV N ws):=by
  have hl:vs.length = ws.length:=Paired.length r
  have no:∀ (i:Nat) w,(startV N ws)[i]? = some (some w) -> argOk w = true:=fun i w e=>(List.all_eq_true.mp ok) w (List.mem_of_getElem? (start_get e))
  refine ⟨Grow.refl s ra,fun i w e=>?_,fun i j xs ys v _ e1 _ o _ _ _=>(by have:=no i _ e1; cases xs <;> first | exact Bool.noConfusion o | exact Bool.noConfusion this),fun i xs e=>(by have:=no i _ e; cases this),?_⟩
  · obtain ⟨v,h1,h2⟩:=relWs_get r (start_get e)
    refine ⟨v,?_,h2,?_⟩
    · unfold start
      rw [List.getElem?_append_left (by simpa using (List.getElem?_eq_some_iff.mp h1).1),List.getElem?_map,h1]
      rfl
    · have:=no i w e
      cases w with
      | ml xs=>cases this
      | md xs=>cases this
      | mk xs=>cases this
      | nt _=>trivial
      | lk=>trivial
      | sc _=>trivial
      | fd _=>trivial
      | fw _=>trivial
      | ft _=>trivial
      | xc _ _=>trivial
      | dp _ _=>trivial
      | d _=>trivial
      | pk _=>trivial
      | reel=>trivial
      | vv _=>trivial
  · unfold startV start
    simp [hl]
noncomputable def vEnds (Q:PyData -> Prop):VEnds:=⟨fun _=>Q .none,fun w=>∃ d,w.fz = .d d /\ Q d,fun _=>False,fun _=>False⟩
theorem vfn {P:Program} {w:World} {K:W.Frag} {mg:Str -> Option Value} {base:Heap} {x qual:Str} {st:Stmt} {fa:Addr} {fd:FuncData} {N ps:List Str} {k:Nat} {Pd:List W -> (PyData -> Prop) -> Prop} {t:TSv}
    (Fn:Fun K x qual st fa fd) (S:FnScope N ps (defScope st)) (len:∀ ws Q,Pd ws Q -> ws.length = ps.length)
    (hbody:∀ (cdv:Value) (A:Around) (outer:List Env) (s:Shared) (H:Hp) (E:XK),Room k (A.deeper (envOfC qual (defScope st) s.heap.objs.size fa cdv)) ->
      PSsV (cxOf CX0 P w K mg base N qual (defScope st) fa cdv A outer s H E).nox rl (defBody st) t)
    (hread:∀ ws Q,Pd ws Q -> t (vEnds Q) (startV N ws)):FnOk P w K mg base CX0 (k + 1) fa fd ps (vsp K rl Pd):=by
  refine Fn.ok S (fun vs H Q E ⟨F,ws,_,_,r,_,q⟩=>(Paired.length r).trans (len ws _ q)) fun cdv A outer s H vs Q E hr h=>?_
  obtain ⟨F,ws,sm,ra,r,ok,q⟩:=h
  obtain ⟨T,p,kk⟩:=hbody cdv A outer s H E hr
  refine ⟨T,p,kk (vr_start sm ra r ok) (vEnds _) _ ⟨?_,?_,fun _ _ _ _ _ _ z=>False.elim z,fun _ _ _ _ _ _ z=>False.elim z⟩ (hread ws _ q)⟩
  · intro F1 H1 σ1 ρ1 _ R1 q1
    exact q1 .non F1 H1 R1.g .non
  · rintro v w1 F1 H1 g1 r1 n1 ⟨d,ed,q1⟩
    obtain ⟨F2,g2,s2,r2⟩:=RelW.fz g1 r1 n1
    rw [ed] at r2
    exact q1 v F2 H1 g2 r2
structure Dfn (P:Program) (w:World) (K:W.Frag) (mg:Str -> Option Value) (base:Heap) (rl:RlT) (x:Str) (ps:List Str) (k:Nat) (Pd:List W -> (PyData -> Prop) -> Prop):Prop where
  mono:∀ ws Q Q',(∀ d,Q d -> Q' d) -> Pd ws Q -> Pd ws Q'
  ex:∃ f fd,mg x = some (.ref f) /\ W.keepIn K (.ref f) = true /\ Binds K fd ps [] /\ FnOk P w K mg base CX0 k f fd ps (vsp K rl Pd)
noncomputable def vUse (Pd:List W -> (PyData -> Prop) -> Prop) (fs:TVs):TV:=fun ρ Q=>fs ρ fun ws=>ws.all argOk = true /\ Pd ws fun d=>Q (.d d)
theorem v_call {x:Str} {ps:List Str} {k:Nat} {Pd:List W -> (PyData -> Prop) -> Prop} (D:Dfn X.prog X.w X.K X.mg X.base rl x ps k Pd) (hr:Room k X.A) (ha:PVs X rl (e :: es) fs) (hg:Gl X x:=by rfl)
    (hdb:(x == ("__debug__" : Str)) = false:=by decide) (he:starEach (e :: es) X.env = (false,eval e X.env) :: starEach es X.env:=by rfl) (hpl:(backTo pos (starEach es X.env)).any (·.1) = false:=by rfl) :
    PV X rl (.Call (.Name x p) (e :: es) [] pos) (vUse Pd fs):=by
  obtain ⟨f,fd,hm,hk,hb,F⟩:=D.ex
  obtain ⟨t,p1,kk⟩:=ha
  refine ⟨_,pe_call F hr hg hm hk hb .nil pass0 p1 hdb he hpl,fun R Qd Q q h=>kk R _ _ q fun vs ws F1 H1 g1 r1 ⟨ok,q1⟩=>?_⟩
  refine ⟨F1,ws,g1.sub,g1.reel,by rw [List.append_nil]; exact r1,ok,?_⟩
  exact D.mono ws _ _ (fun d qd v F2 H2 g2 r2=>h v (.d d) F2 H2 (g1.trans g2) r2 trivial qd) q1
end
end L2.VL

namespace L2
open PySem PySem.Spec PyProof.Rows

theorem closure_ok {env:Env}:∀ (names:List (Str × NameKind)) (acc:List (Str × Addr)),(∀ x ∈ names,x.2 = .free -> ∃ c,env.cells.lookup x.1 = some c) -> (∀ x c,acc.lookup x = some c -> env.cells.lookup x = some c) ->
    ∃ cl,(forIn names acc (fun (x:Str × NameKind) (cs:List (Str × Addr))=>if (x.2 == NameKind.free) = true then do let c <- cellOf env x.1; pure (ForInStep.yield ((x.1,c) :: cs)) else pure (ForInStep.yield cs)):Sem (List (Str × Addr))) = pure cl /\
      (∀ x c,cl.lookup x = some c -> env.cells.lookup x = some c) /\ (∀ x,(acc.lookup x).isSome = true -> (cl.lookup x).isSome = true) /\ ∀ x,(x,NameKind.free) ∈ names -> (cl.lookup x).isSome = true
  | [],acc,_,h2=>⟨acc,rfl,h2,fun _ z=>z,fun _ z=>nomatch z⟩
  | (n,k) :: r,acc,h1,h2=>by
    by_cases hk:k = .free
    · subst hk
      obtain ⟨c,hc⟩:=h1 (n,.free) List.mem_cons_self rfl
      have h2':∀ x c',((n,c) :: acc).lookup x = some c' -> env.cells.lookup x = some c':=fun x c' z=>by
        rw [List.lookup_cons] at z
        cases e:x == n with
        | true =>
          rw [e] at z
          have e':x = n:=by simpa using e
          cases z
          rw [e']
          exact hc
        | false =>
          rw [e] at z
          exact h2 x c' z
      obtain ⟨cl,e,g1,g2,g3⟩:=closure_ok r ((n,c) :: acc) (fun x hx=>h1 x (List.mem_cons_of_mem _ hx)) h2'
      refine ⟨cl,?_,g1,fun x z=>g2 x ?_,fun x z=>?_⟩
      · rw [List.forIn_cons]
        simp only [beq_self_eq_true,if_true]
        have e0:cellOf env n = pure c:=by unfold cellOf; rw [hc]
        rw [e0,pure_bind,pure_bind]
        exact e
      · rw [List.lookup_cons]
        split
        · rfl
        · exact z
      · rcases List.mem_cons.mp z with z | z
        · cases z
          refine g2 _ ?_
          rw [List.lookup_cons]
          simp
        · exact g3 x z
    · obtain ⟨cl,e,g1,g2,g3⟩:=closure_ok r acc (fun x hx=>h1 x (List.mem_cons_of_mem _ hx)) h2
      refine ⟨cl,?_,g1,g2,fun x z=>?_⟩
      · rw [List.forIn_cons]
        have hb:(k == NameKind.free) = false:=by simpa using hk
        simp only [hb,Bool.false_eq_true,if_false]
        rw [pure_bind]
        exact e
      · rcases List.mem_cons.mp z with z | z
        · cases z; exact absurd rfl hk
        · exact g3 x z
theorem closure_for {env:Env} {scope:Scope} (h:∀ x ∈ scope.names,x.2 = .free -> ∃ c,env.cells.lookup x.1 = some c) :
    ∃ cl,closureFor scope env = pure cl /\ (∀ x c,cl.lookup x = some c -> env.cells.lookup x = some c) /\ ∀ x,(x,NameKind.free) ∈ scope.names -> (cl.lookup x).isSome = true:=by
  obtain ⟨cl,e,g1,_,g3⟩:=closure_ok scope.names [] h (fun _ _ z=>by cases z)
  refine ⟨cl,?_,g1,g3⟩
  unfold closureFor
  first
    | exact e
    | (simp only [bind_pure]; exact e)

theorem relabel_back {env:Env} {scope:Scope} {x:Str} (h:(relabel scope env).names.lookup x = some .cell \/ (relabel scope env).names.lookup x = some .free):(x,NameKind.free) ∈ scope.names \/ (x,NameKind.cell) ∈ scope.names:=by
  have key:∀ names:List (Str × NameKind),∀ k,(k = .cell \/ k = .free) ->
      (names.map fun (n,k)=>if (k == NameKind.free && env.scope.kind == .function && env.kindOf n == some .cell) then (n,NameKind.cell) else (n,k)).lookup x = some k -> (x,NameKind.free) ∈ names \/ (x,NameKind.cell) ∈ names:=by
    intro names
    induction names with
    | nil=>intro k _ z; cases z
    | cons y r ih =>
      intro k hk z
      obtain ⟨n,kn⟩:=y
      have step:((x,NameKind.free) ∈ r \/ (x,NameKind.cell) ∈ r) -> ((x,NameKind.free) ∈ (n,kn) :: r \/ (x,NameKind.cell) ∈ (n,kn) :: r):=fun z=>z.imp (List.mem_cons_of_mem _) (List.mem_cons_of_mem _)
      rw [List.map_cons] at z
      dsimp only at z
      by_cases hc:(kn == NameKind.free && env.scope.kind == .function && env.kindOf n == some .cell) = true
      · rw [if_pos hc,List.lookup_cons] at z
        have hf:kn = .free:=by
          have:=(Bool.and_eq_true_iff.mp (Bool.and_eq_true_iff.mp hc).1).1
          simpa using this
        cases e:x == n with
        | true =>
          have e':x = n:=by simpa using e
          rw [e',<- hf]
          exact .inl List.mem_cons_self
        | false =>
          rw [e] at z
          exact step (ih k hk z)
      · rw [if_neg hc,List.lookup_cons] at z
        cases e:x == n with
        | true =>
          rw [e] at z
          have e':x = n:=by simpa using e
          cases z
          rcases hk with hk | hk
          · rw [e',hk]; exact .inr List.mem_cons_self
          · rw [e',hk]; exact .inl List.mem_cons_self
        | false =>
          rw [e] at z
          exact step (ih k hk z)
  rcases h with h | h
  · exact key scope.names .cell (.inl rfl) h
  · exact key scope.names .free (.inr rfl) h

theorem cellsFrom_app:∀ (names:List (Str × NameKind)) (n:Nat) (acc:List (Str × Addr)),cellsFrom n names acc = cellsFrom n names [] ++ acc
  | [],_,_=>rfl
  | (x,k) :: r,n,acc=>by
    unfold cellsFrom
    split
    · rw [cellsFrom_app r (n + 1) ((x,n) :: acc),cellsFrom_app r (n + 1) [(x,n)],List.append_assoc]
      rfl
    · exact cellsFrom_app r n acc
theorem cellsFrom_mem {x:Str} {c:Addr}:∀ {names:List (Str × NameKind)} {n:Nat},(x,c) ∈ cellsFrom n names [] -> (x,NameKind.cell) ∈ names
  | (y,k) :: r,n,h=>by
    unfold cellsFrom at h
    split at h
    · rename_i hk
      rw [cellsFrom_app] at h
      rcases List.mem_append.mp h with h | h
      · exact List.mem_cons_of_mem _ (cellsFrom_mem h)
      · simp at h
        have:k = .cell:=by simpa using hk
        rw [h.1,this]
        exact List.mem_cons_self
    · exact List.mem_cons_of_mem _ (cellsFrom_mem h)
theorem lookup_app {a b:List (Str × Addr)} {x:Str}:(a ++ b).lookup x = (a.lookup x).or (b.lookup x):=by
  induction a with
  | nil=>simp
  | cons y a ih =>
    obtain ⟨n,c⟩:=y
    rw [List.cons_append,List.lookup_cons,List.lookup_cons]
    cases x == n <;> simp [ih]
theorem newEnv_comp {M:Model} {A:Around} {E:Value -> Shared -> Prop} {s:Shared} {scope:Scope} {globals:Addr} {cl:List (Str × Addr)} {qual:Str} {o:Env} {Q:Env -> Shared -> Prop}
    (hQ:Q { scope,locals:=s.heap.objs.size,globals,cells:=cellsFrom (s.heap.objs.size + 1) scope.names cl,qual,func:=none,code:=o.code,frame:=o.frame,builtins:=o.builtins } { s with heap:=pushCells (s.heap.push { cls:=.type "dict", data:=.dict #[] }) scope.names }) :
    wpAny M A (newFunctionEnv scope globals cl [] qual none .none (some o)) Q E s:=by
  simp only [newFunctionEnv,Option.isSome_some,if_true]
  refine wpAny_bind (wpAny_alloc ?_)
  refine wpAny_bind (wpAny_layCells _ (fun name kind cells=>by cases hkc:kind == NameKind.cell <;> simp [hkc]) _ _ _ _ ?_)
  rw [show ({ s with heap:=s.heap.push { cls:=.type "dict", data:=.dict #[] } }:Shared).heap.objs.size = s.heap.objs.size + 1 from Heap.size_push ..]
  exact wpAny_bind (wpAny_pure (wpAny_pure hQ))
noncomputable def compCx (X:Cx) (N':List Str) (scope:Scope) (cl:List (Str × Addr)) (fp:List Addr) (pn:List (Addr × Obj)) (s:Shared) (H:Hp):Cx :=
  { X with N:=N',s₀:=s,H₀:=H,env:={ compEnvC scope cl s.heap.objs.size X.env with cells:=cellsFrom (s.heap.objs.size + 1) scope.names cl },outer:=X.stack,ex:=fp,fn:=fun x=>scope.names.lookup x == some .cell,pn:=pn,xe:=fun _ _=>False }
abbrev testsOf (ifs:List Expr) (env:Env):Sem Bool:=forIn ifs true fun c r=>if r = true then do let ok <- isTrue c env (eval c env); pure (ForInStep.yield ok) else pure (ForInStep.yield r)
noncomputable def PTs (X:Cx) (ifs:List Expr) (t:TT):Prop :=
  ∀ (pins:List (Addr × Obj)) (s:Shared) (σ:St) (H:Hp) (Q:Bool -> Hp -> Prop),Inv X pins σ H s -> t σ H Q -> wpAny (model X.prog X.w) X.A (testsOf ifs X.env) (TP X pins σ Q) X.xe s
theorem pts_nil {X:Cx}:PTs X [] (fun _ H Q=>Q true H):=fun _ _ _ H _ I h=>wpAny_tests_nil ⟨H,I,h⟩
theorem pts_one {X:Cx} {c:Expr} {t:TT} (h:PT X c t):PTs X [c] t:=fun pins s σ H Q I hw=>wpAny_tests_one (h pins s σ H Q I hw)

theorem comp_loop {prog:Program} {w:World} {A:Around} {R:Result -> Shared -> Prop} {s:Shared} {elt target iter:Expr} {ifs:List Expr} {scope:Scope} {pos:Pos} {it acc:Value} {env:Env} (I:Nat -> Shared -> Prop)
    (turn:∀ n s,I n s -> wpAny (model prog w) A (pyNext it) (fun r s₁=>(r = none /\ R (.ok .next) s₁) \/ ∃ v,r = some v /\
      wpAny (model prog w) A (letOwnedTupleGo target it v) (fun _ s₂=>wpAny (model prog w) A (assign target env v) (fun _ s₃=>wpAny (model prog w) A (testsOf ifs env) (fun ok s₄ =>
        if ok = true then wpAny (model prog w) A (eval elt env) (fun x s₅=>wpAny (model prog w) A (call (.builtin "list.append") [acc,x]) (fun _ s₆=>∃ m,m < n /\ I m s₆) (fun _ _=>False) s₅) (fun _ _=>False) s₄
        else ∃ m,m < n /\ I m s₄) (fun _ _=>False) s₃) (fun _ _=>False) s₂) (fun _ _=>False) s₁) (fun _ _=>False) s)
    (n:Nat) (h:I n s):codeAny (model prog w) A (.compLoop (.ListComp elt [⟨target,iter,ifs,0⟩] scope pos) 0 it acc env) R s:=by
  refine codeAny_loop rfl I (fun n s hI=>?_) n h
  show wpAny _ A ((compTurn (.ListComp elt [⟨target,iter,ifs,0⟩] scope pos) 0 it acc env).onRaise (fun x=>do noteFrame x env; theTreesLotGoes x)) _ _ s
  refine wpAny_noted ?_
  rw [compTurn_list]
  refine wpAny_bind (wpAny_standAt (wpAny_bind (wpAny_mono (turn n s hI) (fun r s₁ h₁=>?_) fun _ _ h'=>h'.elim)))
  rcases h₁ with ⟨rfl,h₁⟩ | ⟨v,rfl,h₁⟩
  · exact wpAny_pure h₁
  · refine wpAny_bind (wpAny_mono h₁ (fun _ s₂ h₂=>wpAny_bind (wpAny_mono h₂ (fun _ s₃ h₃=>wpAny_bind (wpAny_mono h₃ (fun ok s₄ h₄=>?_) fun _ _ z=>z.elim)) fun _ _ z=>z.elim)) fun _ _ z=>z.elim)
    cases ok with
    | false=>exact wpAny_pure ⟨rfl,h₄⟩
    | true=>exact wpAny_bind (wpAny_bind (wpAny_mono h₄ (fun x s₅ h₅=>wpAny_bind (wpAny_mono h₅ (fun _ s₆ h₆=>wpAny_pure (wpAny_pure ⟨rfl,h₆⟩)) fun _ _ z=>z.elim)) fun _ _ z=>z.elim))

noncomputable def frIn (fr:List (Option Nat)) (σ:St):St:=fr.map fun o=>o.bind fun j=>(σ[j]?).join
noncomputable def frOk (fr:List (Option Nat)) (N' N:List Str) (sc scX:Scope):Bool :=
  decide (fr.length = N'.length) && (List.range fr.length).all fun i=>match fr[i]? with
    | some (some j)=>match N'[i]? with
      | some x=>decide (N[j]? = some x) && decide (sc.names.lookup x = some .free) && (decide (scX.names.lookup x = some .cell) || decide (scX.names.lookup x = some .free))
      | none=>false
    | _=>true
noncomputable def scOk (sc scX:Scope):Bool :=
  decide (sc.kind = .function) && sc.names.all fun y=>(decide (y.2 ≠ .cell) || decide (sc.names.lookup y.1 = some .cell)) && (decide (y.2 ≠ .local) || decide (sc.names.lookup y.1 = some .local)) &&
    (decide (y.2 ≠ .free) || (decide (scX.names.lookup y.1 = some .cell) || decide (scX.names.lookup y.1 = some .free)))
theorem frOk.get {fr:List (Option Nat)} {N' N:List Str} {sc scX:Scope} (h:frOk fr N' N sc scX = true):fr.length = N'.length /\ ∀ (i j:Nat),fr[i]? = some (some j) -> ∃ x,N'[i]? = some x /\ N[j]? = some x /\ sc.names.lookup x = some .free /\ (scX.names.lookup x = some .cell \/ scX.names.lookup x = some .free):=by
  unfold frOk at h
  obtain ⟨h1,h2⟩:=Bool.and_eq_true_iff.mp h
  refine ⟨of_decide_eq_true h1,fun i j e=>?_⟩
  have hi:i < fr.length:=(List.getElem?_eq_some_iff.mp e).1
  have q:=List.all_eq_true.mp h2 i (List.mem_range.mpr hi)
  rw [e] at q
  dsimp only at q
  cases en:N'[i]? with
  | none=>rw [en] at q; cases q
  | some x =>
    rw [en] at q
    dsimp only at q
    obtain ⟨q1,q2⟩:=Bool.and_eq_true_iff.mp q
    obtain ⟨q3,q4⟩:=Bool.and_eq_true_iff.mp q1
    exact ⟨x,rfl,of_decide_eq_true q3,of_decide_eq_true q4,(Bool.or_eq_true_iff.mp q2).imp of_decide_eq_true of_decide_eq_true⟩
theorem lookup_mem {x:Str} {k:NameKind}:∀ {names:List (Str × NameKind)},names.lookup x = some k -> (x,k) ∈ names:=fun h=>PySem.mem_of_lookup h

structure CompA where
  cl:List (Str × Addr)
  fp:List Addr
  pn:List (Addr × Obj)
  s:Shared
  H:Hp
abbrev blk (X:Cx) (N':List Str) (scope:Scope) (y:CompA):Cx:=compCx X N' scope y.cl y.fp y.pn y.s y.H
noncomputable def tComp (wi:TI) (fr:List (Option Nat)) (g:CompA -> TG) (tt:CompA -> TT) (te:CompA -> TE):TE:=fun σ H Q=>wi σ H fun J H1=>∀ D,H1 D = none -> ∃ Wv:Nat -> Nat -> List V -> St -> Hp -> Prop,(∃ m,Wv 0 m [] (frIn fr σ) (upd H1 D (.lst []))) /\
  ∀ (z:CompA) i m acc σc H,Wv i m acc σc H -> (J.stop i H /\ Q (.ref D) H) \/ (J.go i H /\ ∀ x H',J.yld i H x H' -> g z x σc H' fun σ2 H2=>tt z σ2 H2 fun b H3 =>
    if b = true then te z σ2 H3 fun y H4=>H4 D = some (.lst acc) /\ acc.length < sizeLine /\ ∃ m',m' < m /\ Wv (i + 1) m' (acc ++ [y]) σ2 (upd H4 D (.lst (acc ++ [y]))) else ∃ m',m' < m /\ Wv (i + 1) m' acc σ2 H3)
theorem relabel_free {env:Env}:∀ {names:List (Str × NameKind)} {x:Str},names.lookup x = some .free ->
    (names.map fun (n,k)=>if (k == NameKind.free && env.scope.kind == .function && env.kindOf n == some .cell) then (n,NameKind.cell) else (n,k)).lookup x = some .cell \/
    (names.map fun (n,k)=>if (k == NameKind.free && env.scope.kind == .function && env.kindOf n == some .cell) then (n,NameKind.cell) else (n,k)).lookup x = some .free
  | [],_,h=>by simp at h
  | (n,k) :: r,x,h=>by
    have ih:=@relabel_free env r x
    rw [List.map_cons]
    dsimp only
    cases hx:x == n with
    | true =>
      simp only [List.lookup_cons,hx] at h
      cases h
      by_cases hc:((NameKind.free == NameKind.free) && env.scope.kind == .function && env.kindOf n == some .cell) = true
      · rw [if_pos hc]; simp [List.lookup_cons,hx]
      · rw [if_neg hc]; simp [List.lookup_cons,hx]
    | false =>
      simp only [List.lookup_cons,hx] at h
      by_cases hc:(k == NameKind.free && env.scope.kind == .function && env.kindOf n == some .cell) = true
      · rw [if_pos hc]; simp only [List.lookup_cons,hx]; exact ih h
      · rw [if_neg hc]; simp only [List.lookup_cons,hx]; exact ih h
theorem comp_blockG {X:Cx} {ex tg:Expr} {scope:Scope} {pins:List (Addr × Obj)} {σ:St} {H3:Hp} {s3:Shared} {it D:Addr} {fp:List Addr} {tn:Nat -> Heap -> Prop} {J:It} {Q:VK}
    {cl:List (Str × Addr)} (N':List Str) (fr:List (Option Nat)) (hc:X.calm = true) (hkind:scope.kind = .function) (hcell:∀ y ∈ scope.names,y.2 = .cell -> scope.names.lookup y.1 = some .cell)
    (hfree:∀ y ∈ scope.names,y.2 = .free -> X.env.kindOf y.1 = some .cell \/ X.env.kindOf y.1 = some .free) (frl:fr.length = N'.length)
    (frg:∀ (i j:Nat),fr[i]? = some (some j) -> ∃ x,N'[i]? = some x /\ X.N[j]? = some x /\ scope.names.lookup x = some .free /\ (X.env.scope.names.lookup x = some .cell \/ X.env.scope.names.lookup x = some .free))
    (cl1:∀ x c,cl.lookup x = some c -> X.env.cells.lookup x = some c) (cl2:∀ x,(x,NameKind.free) ∈ scope.names -> (cl.lookup x).isSome = true)
    (I3:Inv X pins σ H3 s3) (T:Turn X.prog X.w X.K tg J fp it tn) (tn3:tn 0 s3.heap) (fpD:∀ b ∈ fp,H3 b = none) (fp3:∀ b ∈ fp,b < s3.heap.objs.size)
    (fpk:∀ b ∈ fp,b ≠ X.env.locals /\ b ∉ X.fs /\ (b ∈ X.ex \/ X.s₀.heap.objs.size <= b) /\ (∀ x c,X.env.cells.lookup x = some c -> c ≠ b) /\ ∀ p ∈ X.pn ++ pins,p.1 ≠ b)
    (loop:∀ s',Inv (compCx X N' scope cl fp (X.pn ++ pins) s3 H3) [] (frIn fr σ) H3 s' -> tn 0 s'.heap -> (∀ {H':Hp},(∀ b ∈ fp,H' b = none) -> ∀ b ∈ fp,FpOk (compCx X N' scope cl fp (X.pn ++ pins) s3 H3) [] H' b) ->
      codeAny (model X.prog X.w) X.A (.compStart ex 0 (.ref it) (.ref D) (compCx X N' scope cl fp (X.pn ++ pins) s3 H3).env) (fun r s5=>r = .ok .next /\ ∃ σ5 H4,Inv (compCx X N' scope cl fp (X.pn ++ pins) s3 H3) [] σ5 H4 s5 /\ Q (.ref D) H4) s')
    {Rp:Addr -> Result -> Shared -> Prop} (fin:∀ s5 H4 m,s5.heap.Ns s3.heap.objs.size m -> (∀ h',Heap.SameBut s3.heap.objs.size s5.heap h' -> Inv X pins σ H4 { s5 with heap:=h' }) -> FpOk X pins H4 s3.heap.objs.size -> Q (.ref D) H4 -> Rp s3.heap.objs.size (.ok .next) s5) :
    wpAny (model X.prog X.w) X.A (newFunctionEnv scope X.env.globals cl [] X.env.qual none .none (some X.env)) (fun cenv s₄ =>
      codeAny (model X.prog X.w) X.A (.compStart ex 0 (.ref it) (.ref D) { cenv with scope:=relabel scope X.env })
        (Rp cenv.locals) s₄) X.xe s3:=by
  refine newEnv_comp ?_
  have ok:=cellsFrom_ok scope.names (s3.heap.push { cls:=.type "dict", data:=.dict #[] }) (s3.heap.objs.size + 1) [] ⟨fun _ _ hm=>(nomatch hm),List.Pairwise.nil⟩ (by rw [Heap.size_push]; exact Nat.le_refl _)
  rw [Heap.size_push] at ok
  have kp:∀ b o,s3.heap.get? b = some o -> (pushCells (s3.heap.push { cls:=.type "dict", data:=.dict #[] }) scope.names).get? b = some o:=fun b o e=>pushCells_keeps _ _ b o (Heap.get?_push_of_some _ e)
  have hns₁:(pushCells (s3.heap.push { cls:=.type "dict", data:=.dict #[] }) scope.names).Ns s3.heap.objs.size (fun _=>none):=(Heap.Ns.new s3.heap (.type "dict")).keeps (pushCells_keeps _ _)
  generalize pushCells (s3.heap.push { cls:=.type "dict", data:=.dict #[] }) scope.names = h₁ at ok kp hns₁ ⊢
  have cs:∀ x c,(cellsFrom (s3.heap.objs.size + 1) scope.names cl).lookup x = some c -> (cellsFrom (s3.heap.objs.size + 1) scope.names []).lookup x = some c \/ cl.lookup x = some c:=fun x c e=>by
    rw [cellsFrom_app,lookup_app] at e
    cases q:(cellsFrom (s3.heap.objs.size + 1) scope.names []).lookup x with
    | none=>rw [q] at e; exact .inr (by simpa using e)
    | some c'=>rw [q] at e; exact .inl (by simpa using e)
  have own:∀ x c,(cellsFrom (s3.heap.objs.size + 1) scope.names []).lookup x = some c -> h₁.IsCell c none /\ s3.heap.objs.size + 1 <= c:=fun x c e=>ok.empty x c (PySem.mem_of_lookup e)
  have clt:∀ x c,cl.lookup x = some c -> c < s3.heap.objs.size:=fun x c e=>by
    obtain ⟨v,o,ho,_⟩:=I3.cell x c (cl1 x c e)
    exact Heap.lt_size ho
  have frn:∀ x,scope.names.lookup x = some .free -> (cellsFrom (s3.heap.objs.size + 1) scope.names []).lookup x = none:=fun x e=>by
    cases q:(cellsFrom (s3.heap.objs.size + 1) scope.names []).lookup x with
    | none=>rfl
    | some c =>
      have:=hcell (x,.cell) (cellsFrom_mem (PySem.mem_of_lookup q)) rfl
      rw [e] at this
      cases this
  have notC:∀ b o,s3.heap.get? b = some o -> b ≠ s3.heap.objs.size:=fun b o e=>Nat.ne_of_lt (Heap.lt_size e)
  have fpstk:∀ b ∈ fp,b ∉ frs X.stack:=fun b hb z=>(List.mem_cons.mp (I3.stkSub b z)).elim (fpk b hb).1 (fpk b hb).2.1
  have cellK:∀ c v,s3.heap.IsCell c v -> h₁.IsCell c v:=fun c v ⟨o,ho,hd⟩=>⟨o,kp c o ho,hd⟩
  have IY:Inv (compCx X N' scope cl fp (X.pn ++ pins) s3 H3) [] (frIn fr σ) H3 { s3 with heap:=h₁ }:=by
    refine ⟨⟨I3.ok.mod,hkind,I3.ok.glob,I3.ok.blt,Nat.le_refl _,fun x y c e1 e2=>?_,fun x hx=>?_,fun x c _ e=>?_,I3.ok.hd,I3.ok.frames,.inl rfl,
      fun b hb=>⟨Nat.ne_of_lt (fp3 b hb),fun x c e=>?_⟩,I3.bs,Nat.le_trans I3.ok.bsz I3.sz,fun b o e hb=>?_,fun b hb=>fpstk b hb,I3.stack,I3.stkFree⟩,
      rfl,I3.bare,Un.kept kp,⟨_,hns₁,fun i x v e1 e2 e3=>?_⟩,fun x c e=>?_,I3.hok.fresh (Nat.le_refl _),fun x c e=>?_,fun p hp=>?_,I3.hok.kept kp,?_⟩
    · rcases cs x c e1 with q1 | q1 <;> rcases cs y c e2 with q2 | q2
      · exact name_of_addr ok.apart (PySem.mem_of_lookup q1) (PySem.mem_of_lookup q2)
      · exact absurd (Nat.lt_of_lt_of_le (clt y c q2) (Nat.le_of_succ_le (own x c q1).2)) (Nat.lt_irrefl _)
      · exact absurd (Nat.lt_of_lt_of_le (clt x c q1) (Nat.le_of_succ_le (own y c q2).2)) (Nat.lt_irrefl _)
      · exact I3.ok.inj x y c (cl1 x c q1) (cl1 y c q2)
    · refine Option.isSome_iff_exists.mp ?_
      show ((cellsFrom (s3.heap.objs.size + 1) scope.names cl).lookup x).isSome = true
      rcases relabel_back hx with q | q
      · exact W.cellsFrom_some _ _ _ (.inr (cl2 x q))
      · exact W.cellsFrom_some _ _ _ (.inl (hcell _ q rfl))
    · rename_i hfn
      rcases cs x c e with q | q
      · have:=(own x c q).2
        show s3.heap.objs.size <= c
        omega
      · have hfn:(scope.names.lookup x == some NameKind.cell) = true:=hfn
        have hl:scope.names.lookup x = some .cell:=by simpa using hfn
        obtain ⟨c',ec'⟩:=Option.isSome_iff_exists.mp (W.cellsFrom_some scope.names (s3.heap.objs.size + 1) [] (.inl hl))
        have e':(cellsFrom (s3.heap.objs.size + 1) scope.names cl).lookup x = some c:=e
        rw [cellsFrom_app,lookup_app,ec'] at e'
        simp at e'
        subst e'
        exact Nat.le_of_succ_le (own x c' ec').2
    · rcases cs x c e with q | q
      · exact fun z=>absurd (Nat.lt_of_lt_of_le (fp3 b hb) (Nat.le_of_succ_le (by rw [<- z]; exact (own x c q).2))) (Nat.lt_irrefl _)
      · exact (fpk b hb).2.2.2.1 x c (cl1 x c q)
    · rcases (fpk b hb).2.2.1 with z | z
      · exact I3.ok.noex b o e z
      · exact absurd (Nat.lt_of_lt_of_le (Heap.lt_size e) (Nat.le_trans I3.ok.bsz z)) (Nat.lt_irrefl _)
    · have e2':(fr[i]?).map (fun o=>o.bind fun j=>(σ[j]?).join) = some (some v):=by unfold frIn at e2; rw [List.getElem?_map] at e2; exact e2
      cases ef:fr[i]? with
      | none=>rw [ef] at e2'; cases e2'
      | some o =>
        cases o with
        | none=>rw [ef] at e2'; cases e2'
        | some j =>
          rw [ef] at e2'
          have e3':(σ[j]?).join = some v:=Option.some.inj e2'
          have e4 : σ[j]? = some (some v):=by
            cases q : σ[j]? with
            | none=>rw [q] at e3'; cases e3'
            | some z=>rw [q] at e3'; cases e3'; rfl
          obtain ⟨x',n1,n2,n3,n4⟩:=frg i j ef
          have ex:x' = x:=Option.some.inj (n1.symm.trans e1)
          subst ex
          obtain ⟨m,hn,hl⟩:=I3.loc
          obtain ⟨u,ru,lk⟩:=hl j x' v n2 e4 (n4.elim (fun z=>.inr (.inl z)) fun z=>.inr (.inr z))
          refine ⟨u,ru,?_⟩
          rcases lk with ⟨kl,_⟩ | ⟨_,c,ec,hcl⟩
          · exact absurd (show X.env.scope.names.lookup x' = some .local from kl) (by rcases n4 with z | z <;> rw [z] <;> decide)
          · obtain ⟨c',ec'⟩:=Option.isSome_iff_exists.mp (cl2 x' (lookup_mem n3))
            have:=cl1 x' c' ec'
            rw [ec] at this
            cases this
            refine .inr ⟨relabel_free n3,c,?_,cellK _ _ hcl⟩
            show (cellsFrom (s3.heap.objs.size + 1) scope.names cl).lookup x' = some c
            rw [cellsFrom_app,lookup_app,frn x' n3]
            simpa using ec'
    · rcases cs x c e with q | q
      · exact ⟨_,(own x c q).1⟩
      · obtain ⟨v,z⟩:=I3.cell x c (cl1 x c q)
        exact ⟨v,cellK _ _ z⟩
    · rcases cs x c e with q | q
      · exact I3.hok.fresh (by have:=(own x c q).2; omega)
      · exact I3.freeC x c (cl1 x c q)
    · rw [List.append_nil] at hp
      obtain ⟨e,n,ne,nf,d⟩:=I3.pin p hp
      exact ⟨kp _ _ e,n,notC _ _ e,fun z=>(List.mem_cons.mp (I3.stkSub p.1 z)).elim ne nf,d⟩
    · unfold frIn
      rw [List.length_map]
      exact frl
  have stat:∀ {H':Hp},(∀ b ∈ fp,H' b = none) -> ∀ b ∈ fp,FpOk (compCx X N' scope cl fp (X.pn ++ pins) s3 H3) [] H' b:=fun hn b hb =>
    ⟨hn b hb,Nat.ne_of_lt (fp3 b hb),fpstk b hb,.inl hb,fun x c e=>(by
      rcases cs x c e with q | q
      · exact fun z=>absurd (Nat.lt_of_lt_of_le (fp3 b hb) (Nat.le_of_succ_le (by rw [<- z]; exact (own x c q).2))) (Nat.lt_irrefl _)
      · exact (fpk b hb).2.2.2.1 x c (cl1 x c q)),fun p hp=>by rw [List.append_nil] at hp; exact (fpk b hb).2.2.2.2 p hp⟩
  refine codeAny_mono (loop _ IY (T.keep _ _ _ tn3 fun b _ o e=>kp b o e) stat) fun r s5 ⟨hr,σ5,H4,I5,qn⟩=>?_
  subst hr
  obtain ⟨m,hn,_⟩:=I5.loc
  refine fin s5 H4 m hn (fun h' hs'=>?_) (I3.fpOk (Nat.le_refl _) I5.free) qn
  have k':∀ b o,b ≠ s3.heap.objs.size -> s5.heap.get? b = some o -> h'.get? b = some o:=fun b o nb e=>hs'.extBut b o nb e
  have u5:Un (frs X.stack) fp H3 H4 s3.heap s5.heap:=I5.base
  have un:Un (frs X.stack) fp H3 H4 s3.heap h' :=
    ⟨fun b o e n hb hx=>k' b o (notC b o e) (u5.keep b o e n hb hx),fun b o e n hb hx=>by obtain ⟨sl,q⟩:=u5.slot b o e n hb hx; exact ⟨sl,k' b _ (notC b o e) q⟩,u5.free,
      fun b o e hx=>by obtain ⟨o',q⟩:=u5.there b o e hx; exact ⟨o',k' b _ (notC b o e) q⟩,u5.tups,u5.frzs,u5.tbls⟩
  have nC:H4 s3.heap.objs.size = none:=I5.free
  have hok':HOk X.prog X.w H4 h':=fun b u e=>(I5.hok b u e).stay (fun c v hcv q=>k' c v (by
    rintro rfl
    rcases hcv with z | z
    · rw [<- z] at e; rw [nC] at e; cases e
    · rw [nC] at z; cases z) q) (fun _ q=>q) fun _ _ q=>q
  obtain ⟨hh,g5,d5,t5,os5⟩:=s5
  have os':os5 = s3.os:=I5.os
  subst os'
  have I':=Inv.call (s:=s3) (h':=h') (g':=g5) (d':=d5) (t':=t5) (ch:=fp) I3 un hok' I5.bare (fun b hb=>⟨(fpk b hb).2.2.1,(fpk b hb).1,(fpk b hb).2.2.2.1,(fpk b hb).2.2.2.2⟩)
  exact I'
theorem comp_block {X:Cx} {elt tg iter:Expr} {ifs:List Expr} {scope:Scope} {pos:Pos} {g:TG} {tt:TT} {te:TE} {pins:List (Addr × Obj)} {σ:St} {H3:Hp} {s3:Shared} {it D:Addr} {fp:List Addr} {tn:Nat -> Heap -> Prop} {J:It} {Q:VK}
    {cl:List (Str × Addr)} (N':List Str) (fr:List (Option Nat)) (hc:X.calm = true) (hkind:scope.kind = .function) (hcell:∀ y ∈ scope.names,y.2 = .cell -> scope.names.lookup y.1 = some .cell)
    (hfree:∀ y ∈ scope.names,y.2 = .free -> X.env.kindOf y.1 = some .cell \/ X.env.kindOf y.1 = some .free) (frl:fr.length = N'.length)
    (frg:∀ (i j:Nat),fr[i]? = some (some j) -> ∃ x,N'[i]? = some x /\ X.N[j]? = some x /\ scope.names.lookup x = some .free /\ (X.env.scope.names.lookup x = some .cell \/ X.env.scope.names.lookup x = some .free))
    (cl1:∀ x c,cl.lookup x = some c -> X.env.cells.lookup x = some c) (cl2:∀ x,(x,NameKind.free) ∈ scope.names -> (cl.lookup x).isSome = true)
    (I3:Inv X pins σ H3 s3) (T:Turn X.prog X.w X.K tg J fp it tn) (tn3:tn 0 s3.heap) (fpD:∀ b ∈ fp,H3 b = none) (fp3:∀ b ∈ fp,b < s3.heap.objs.size)
    (fpk:∀ b ∈ fp,b ≠ X.env.locals /\ b ∉ X.fs /\ (b ∈ X.ex \/ X.s₀.heap.objs.size <= b) /\ (∀ x c,X.env.cells.lookup x = some c -> c ≠ b) /\ ∀ p ∈ X.pn ++ pins,p.1 ≠ b)
    (hg:PG (compCx X N' scope cl fp (X.pn ++ pins) s3 H3) tg g) (ht:PTs (compCx X N' scope cl fp (X.pn ++ pins) s3 H3) ifs tt) (he:PE (compCx X N' scope cl fp (X.pn ++ pins) s3 H3) elt te)
    {Wv:Nat -> Nat -> List V -> St -> Hp -> Prop} {m0:Nat} (w0:Wv 0 m0 [] (frIn fr σ) H3)
    (turn:∀ i m acc σc H,Wv i m acc σc H -> (J.stop i H /\ Q (.ref D) H) \/ (J.go i H /\ ∀ x H',J.yld i H x H' -> g x σc H' fun σ2 H2=>tt σ2 H2 fun b H3 =>
      if b = true then te σ2 H3 fun y H4=>H4 D = some (.lst acc) /\ acc.length < sizeLine /\ ∃ m',m' < m /\ Wv (i + 1) m' (acc ++ [y]) σ2 (upd H4 D (.lst (acc ++ [y]))) else ∃ m',m' < m /\ Wv (i + 1) m' acc σ2 H3))
    {Rp:Addr -> Result -> Shared -> Prop} (fin:∀ s5 H4 m,s5.heap.Ns s3.heap.objs.size m -> (∀ h',Heap.SameBut s3.heap.objs.size s5.heap h' -> Inv X pins σ H4 { s5 with heap:=h' }) -> FpOk X pins H4 s3.heap.objs.size -> Q (.ref D) H4 -> Rp s3.heap.objs.size (.ok .next) s5) :
    wpAny (model X.prog X.w) X.A (newFunctionEnv scope X.env.globals cl [] X.env.qual none .none (some X.env)) (fun cenv s₄ =>
      codeAny (model X.prog X.w) X.A (.compStart (.ListComp elt [⟨tg,iter,ifs,0⟩] scope pos) 0 (.ref it) (.ref D) { cenv with scope:=relabel scope X.env })
        (Rp cenv.locals) s₄) X.xe s3:=by
  refine comp_blockG N' fr hc hkind hcell hfree frl frg cl1 cl2 I3 T tn3 fpD fp3 fpk (fun s' IY tY stat=>?_) fin
  have loop:codeAny (model X.prog X.w) X.A (.compLoop (.ListComp elt [⟨tg,iter,ifs,0⟩] scope pos) 0 (.ref it) (.ref D) (compCx X N' scope cl fp (X.pn ++ pins) s3 H3).env)
      (fun r s5=>r = .ok .next /\ ∃ σ5 H4,Inv (compCx X N' scope cl fp (X.pn ++ pins) s3 H3) [] σ5 H4 s5 /\ Q (.ref D) H4) s':=by
    refine comp_loop (fun n s'=>∃ i acc σ' H',Inv (compCx X N' scope cl fp (X.pn ++ pins) s3 H3) [] σ' H' s' /\ tn i s'.heap /\ (∀ b ∈ fp,H' b = none) /\ Wv i n acc σ' H') ?_ m0
      ⟨0,[],_,_,IY,tY,fpD,w0⟩
    rintro n s4 ⟨i,acc,σ4,H4,I4,st4,fr4,w4⟩
    rcases turn i n acc σ4 H4 w4 with ⟨stop,qn⟩ | ⟨go,step⟩
    · exact thn (T.done (compCx X N' scope cl fp (X.pn ++ pins) s3 H3) rfl rfl rfl hc i [] s4 σ4 H4 (fun _ _=>False) I4 (stat fr4) st4 stop) fun r s5 ⟨hr,I5⟩=>.inl ⟨hr,rfl,σ4,H4,I5,qn⟩
    · refine thn (T.item (compCx X N' scope cl fp (X.pn ++ pins) s3 H3) rfl rfl rfl hc i [] s4 σ4 H4 (fun _ _=>False) I4 (stat fr4) st4 go) fun r s5 ⟨u,hr,h5⟩=>.inr ⟨u,hr,?_⟩
      refine thn h5 fun _ s6 ⟨x,H6,I6,r6,y6,st6,fr6⟩=>?_
      have I6':=I6.pinned (stat fr6) (T.obj _ _ st6)
      have again:∀ {σ7:St} {H7:Hp} {s7:Shared},Inv (compCx X N' scope cl fp (X.pn ++ pins) s3 H3) ([] ++ pinsAt fp s6.heap) σ7 H7 s7 -> ∀ {acc':List V} {m':Nat},m' < n -> Wv (i + 1) m' acc' σ7 H7 ->
          ∃ m,m < n /\ ∃ i acc σ' H',Inv (compCx X N' scope cl fp (X.pn ++ pins) s3 H3) [] σ' H' s7 /\ tn i s7.heap /\ (∀ b ∈ fp,H' b = none) /\ Wv i m acc σ' H':=fun {σ7 H7 s7} I7 {acc' m'} hm w7=>by
        refine ⟨m',hm,i + 1,acc',σ7,H7,I7.unpinned,T.keep _ _ _ st6 fun b hb o e=>(I7.pin (b,o) (List.mem_append_right _ (List.mem_append_right _ (mem_pinsAt hb e)))).1,fun b hb=>?_,w7⟩
        obtain ⟨o,e,d⟩:=T.obj _ _ st6 b hb
        exact (I7.pin (b,o) (List.mem_append_right _ (List.mem_append_right _ (mem_pinsAt hb e)))).2.1
      refine thn (hg _ s6 σ4 H6 x u _ I6' r6 (step x H6 y6)) fun _ s7 ⟨σ7,H7,I7,q7⟩=>?_
      refine thn (ht _ s7 σ7 H7 _ I7 q7) fun ok s8 ⟨H8,I8,q8⟩=>?_
      cases ok with
      | false =>
        rw [if_neg Bool.false_ne_true] at q8 ⊢
        obtain ⟨m',hm,w8⟩:=q8
        exact again I8 hm w8
      | true =>
        rw [if_pos rfl] at q8 ⊢
        refine thn (he _ s8 σ7 H8 _ I8 q8) fun y s9 ⟨yv,H9,I9,r9,eD,hl,m',hm,w9⟩=>?_
        exact thn (mt_append (X:=compCx X N' scope cl fp (X.pn ++ pins) s3 H3) _ s9 σ7 H9 (.ref D) [yv] (.ref D) [y] (fun _ H'=>H' = upd H9 D (.lst (acc ++ [yv]))) I9 rfl (.cons r9 .nil) ⟨D,acc,yv,rfl,rfl,eD,hl,rfl⟩)
          fun _ s10 ⟨_,H10,I10,_,e10⟩=>by subst e10; exact again I10 hm w9
  exact codeAny_compStart_list loop (T.self X.A 0 _ _ _ tY loop)
section
variable {X:Cx} {elt tg iter:Expr} {ifs:List Expr} {scope:Scope} {pos:Pos} {wi:TI} {g:CompA -> TG} {tt:CompA -> TT} {te:CompA -> TE}
theorem pe_lcomp (N':List Str) (fr:List (Option Nat)) (hc:X.calm = true) (hi:PI X tg iter wi) (hfr:frOk fr N' X.N scope X.env.scope = true) (hsc:scOk scope X.env.scope = true)
    (hg:∀ y,PG (blk X N' scope y) tg (g y)) (ht:∀ y,PTs (blk X N' scope y) ifs (tt y)) (he:∀ y,PE (blk X N' scope y) elt (te y))
    (hs:∀ x,foldedSetIterable iter X.env x = pure x:=by intro _; rfl):PE X (.ListComp elt [⟨tg,iter,ifs,0⟩] scope pos) (tComp wi fr g tt te):=by
  intro pins s σ H Q I h
  obtain ⟨sk,sn⟩:=Bool.and_eq_true_iff.mp hsc
  have hkind:scope.kind = .function:=of_decide_eq_true sk
  have hall:=List.all_eq_true.mp sn
  have hcell:∀ y ∈ scope.names,y.2 = .cell -> scope.names.lookup y.1 = some .cell:=fun y hy hl=>by
    rcases Bool.or_eq_true_iff.mp (Bool.and_eq_true_iff.mp (Bool.and_eq_true_iff.mp (hall y hy)).1).1 with z | z
    · exact absurd hl (of_decide_eq_true z)
    · exact of_decide_eq_true z
  have hnames:∀ y ∈ scope.names,y.2 = .local -> scope.names.lookup y.1 = some .local:=fun y hy hl=>by
    rcases Bool.or_eq_true_iff.mp (Bool.and_eq_true_iff.mp (Bool.and_eq_true_iff.mp (hall y hy)).1).2 with z | z
    · exact absurd hl (of_decide_eq_true z)
    · exact of_decide_eq_true z
  have hfree:∀ y ∈ scope.names,y.2 = .free -> X.env.kindOf y.1 = some .cell \/ X.env.kindOf y.1 = some .free:=fun y hy hl=>by
    rcases Bool.or_eq_true_iff.mp (Bool.and_eq_true_iff.mp (hall y hy)).2 with z | z
    · exact absurd hl (of_decide_eq_true z)
    · exact (Bool.or_eq_true_iff.mp z).imp of_decide_eq_true of_decide_eq_true
  obtain ⟨frl,frg⟩:=frOk.get hfr
  obtain ⟨cl,hclos,cl1,cl2⟩:=closure_for (env:=X.env) (scope:=scope) fun y hy hl=>I.ok.has y.1 (hfree y hy hl)
  rw [eval_ListComp]
  refine wpAny_comprehension_free (use:=none) rfl hs hclos hkind hnames (thn (hi pins s σ H _ I h) fun v s1 h1=>thn h1 fun itv s2 h2=>?_)
  obtain ⟨it,fp,tn,J,H2,e,I2,T,st2,f2,q2⟩:=h2
  subst e
  refine wpAny_newObj_type ?_
  have hD:H2 s2.heap.objs.size = none:=I2.hok.fresh (Nat.le_refl _)
  have I3:Inv X pins σ (upd H2 s2.heap.objs.size (.lst [])) { s2 with heap:=s2.heap.push { cls:=.type "list", data:=.seq ([]:List Value).toArray } } :=
    I2.laid (t':=s2.toks) (fun b u e=>Heap.get?_push_of_some _ e) (Nat.le_refl _) ⟨by show 0 <= sizeLine; exact Nat.zero_le _,[],0,.nil,Heap.get?_push_size _ rfl⟩
  obtain ⟨Wv,⟨m0,w0⟩,turn⟩:=q2 _ hD
  have tn3:tn 0 (s2.heap.push { cls:=.type "list", data:=.seq ([]:List Value).toArray }):=T.keep _ _ _ st2 fun b _ o e=>Heap.get?_push_of_some _ e
  have fpD:∀ b ∈ fp,(upd H2 s2.heap.objs.size (.lst [])) b = none:=fun b hb=>by
    obtain ⟨o,e,_⟩:=T.obj _ _ st2 b hb
    rw [upd_ne (Nat.ne_of_lt (Heap.lt_size e))]
    exact (f2 b hb).1
  have fp3:∀ b ∈ fp,b < (s2.heap.push { cls:=.type "list", data:=.seq ([]:List Value).toArray }).objs.size:=fun b hb=>by
    obtain ⟨o,e,_⟩:=T.obj _ _ tn3 b hb
    exact Heap.lt_size e
  exact comp_block N' fr hc hkind hcell hfree frl frg cl1 cl2 I3 T tn3 fpD fp3 (fun b hb=>(f2 b hb).2) (hg ⟨cl,fp,X.pn ++ pins,_,_⟩) (ht ⟨cl,fp,X.pn ++ pins,_,_⟩) (he ⟨cl,fp,X.pn ++ pins,_,_⟩) w0 (turn ⟨cl,fp,X.pn ++ pins,_,_⟩)
    (Rp:=compPost (model X.prog X.w) X.A X.xe none (EP X pins σ Q) (.ref s2.heap.objs.size)) fun s5 H4 m hn k _ qn=>⟨m,hn,fun h' hs'=>⟨.ref _,H4,k h' hs',rfl,qn⟩⟩
end
end L2

namespace L2.VL
open PySem PySem.Spec PyProof.Rows

noncomputable def W.cap:W -> Option W
  | .d x=>some (.d x)
  | .reel=>some .reel
  | .vv u=>some (.vv u)
  | .sc ns=>some (.sc ns)
  | .fd kvs=>some (.fd kvs)
  | .fw kvs=>some (.fw kvs)
  | .ft kvs=>some (.ft kvs)
  | .xc x fs=>some (.xc x fs)
  | .dp kvs x=>some (.dp kvs x)
  | _=>none
noncomputable def frEn (fr:List (Option Nat)) (ρ:En):En:=fr.map fun o=>o.bind fun j=>((ρ[j]?).join).bind W.cap
noncomputable def PTVs (X:Cx) (rl:RlT) (ifs:List Expr) (f:TB):Prop:=∃ t,PTs X ifs t /\ ∀ {F₀ H₀ F H:Hp} {σ:St} {ρ:En},VR X.K rl F₀ H₀ F H σ ρ -> ∀ (Qd:Bool -> Prop) (Q:Bool -> Hp -> Prop),f ρ Qd ->
  (∀ b F' H',Grow rl F H F' H' -> Qd b -> Q b H') -> t σ H Q
theorem vt_nil {X:Cx} {rl:RlT}:PTVs X rl [] (fun _ Q=>Q true):=⟨_,pts_nil,fun R Qd Q q k=>k true _ _ (Grow.refl R.sub R.reel) q⟩
theorem vt_one {X:Cx} {rl:RlT} {c:Expr} {f:TB} (h:PB X rl c f):PTVs X rl [c] f:=let ⟨t,p,k⟩:=h; ⟨t,pts_one p,k⟩
theorem frIn_get {fr:List (Option Nat)} {ρ:En} {i:Nat} {w:W} (h:(frEn fr ρ)[i]? = some (some w)):∃ j w',fr[i]? = some (some j) /\ ρ[j]? = some (some w') /\ w'.cap = some w:=by
  unfold frEn at h
  rw [List.getElem?_map] at h
  cases ef:fr[i]? with
  | none=>rw [ef] at h; cases h
  | some o =>
    cases o with
    | none=>rw [ef] at h; cases h
    | some j =>
      rw [ef] at h
      have h':((ρ[j]?).join).bind W.cap = some w:=Option.some.inj h
      cases q : ρ[j]? with
      | none=>rw [q] at h'; cases h'
      | some o =>
        cases o with
        | none=>rw [q] at h'; cases h'
        | some w'=>rw [q] at h'; exact ⟨j,w',rfl,q,h'⟩
theorem cap_eq {w' w:W} (h:w'.cap = some w):w = w' /\ w.own = false /\ ∀ xs,w ≠ .pk xs:=by
  cases w' <;> cases h <;> exact ⟨rfl,rfl,(fun _ z=>by cases z)⟩
theorem vr_block {K:W.Frag} {rl:RlT} {F₀ H₀ F H:Hp} {σ:St} {ρ:En} {fr:List (Option Nat)} {H':Hp} (R:VR K rl F₀ H₀ F H σ ρ) (g:Grow rl F H F H'):VR K rl F H F H' (frIn fr σ) (frEn fr ρ):=by
  refine ⟨g,fun i w e=>?_,fun i j xs ys v _ e1 _ o1 _ _ _=>?_,fun i xs e=>?_,by simp [frIn,frEn]⟩
  · obtain ⟨j,w',e1,e2,e3⟩:=frIn_get e
    obtain ⟨rfl,n1,n2⟩:=cap_eq e3
    obtain ⟨v,s1,r1,_⟩:=R.sl j w e2
    refine ⟨v,?_,r1.grow g,?_⟩
    · unfold frIn
      rw [List.getElem?_map,e1]
      show some ((σ[j]?).join) = _
      rw [s1]
      rfl
    · cases w with
      | ml xs=>cases n1
      | md xs=>cases n1
      | mk xs=>cases n1
      | nt _=>trivial
      | lk=>trivial
      | sc _=>trivial
      | fd _=>trivial
      | fw _=>trivial
      | ft _=>trivial
      | xc _ _=>trivial
      | dp _ _=>trivial
      | d _=>trivial
      | pk _=>trivial
      | reel=>trivial
      | vv _=>trivial
  · obtain ⟨_,_,_,_,e3⟩:=frIn_get e1
    rw [(cap_eq e3).2.1] at o1
    cases o1
  · obtain ⟨_,_,_,_,e3⟩:=frIn_get e
    exact absurd rfl ((cap_eq e3).2.2 xs)
theorem noMl_block {fr:List (Option Nat)} {ρ:En}:NoMl (frEn fr ρ):=fun i xs e=>by
  obtain ⟨_,_,_,_,e3⟩:=frIn_get e
  exact (cap_eq e3).2.1
theorem VR.other {K:W.Frag} {rl:RlT} {F₀ H₀ F H:Hp} {σ:St} {ρ:En} (R:VR K rl F₀ H₀ F H σ ρ) (n:NoMl ρ) {D:Addr} {o:HO} (h0:H₀ D = none) (f:F D = none) (hr:rl.a ≠ some D):VR K rl F₀ H₀ F (upd H D o) σ ρ:=by
  have neF:∀ b u,F b = some u -> b ≠ D:=fun b u q z=>by subst z; rw [f] at q; cases q
  have g:Grow rl F₀ H₀ F (upd H D o):=by
    refine ⟨fun b o q1 n=>by rw [upd_ne (ne_of_none q1 h0)]; exact R.g.same b o q1 n,R.g.fs,fun b o q1=>by rw [upd_ne (neF b o q1)]; exact R.sub b o q1,R.g.old,fun y z=>?_⟩
    obtain ⟨z1,⟨u,h1,h2⟩⟩:=R.reel y z
    exact ⟨z1,⟨u,by rw [upd_ne (fun q=>hr (by rw [<- q]; exact z))]; exact h1,h2⟩⟩
  refine ⟨g,fun i w e=>?_,R.ap,R.np,R.len⟩
  obtain ⟨v,h1,h2,h3⟩:=R.sl i w e
  refine ⟨v,h1,?_,h3⟩
  cases w with
  | d x=>exact h2
  | reel=>exact h2
  | vv u=>exact h2
  | ml xs=>cases n i _ e
  | md xs=>cases n i _ e
  | mk xs=>cases n i _ e
  | nt ds=>exact h2
  | lk=>trivial
  | sc _=>exact h2
  | fd _=>exact h2
  | fw _=>exact h2
  | ft _=>exact h2
  | xc _ _=>exact h2
  | dp _ _=>exact h2
  | pk xs=>exact absurd e (R.np i xs)

section
variable {X:Cx} {rl:RlT} {elt tg iter:Expr} {ifs:List Expr} {scope:Scope} {pos:Pos} {fi:En -> (List PyData -> Prop) -> Prop} {g:TGv} {ft:TB} {fe:TV}
end
end L2.VL

namespace L2.VL
open PySem PySem.Spec PyProof.Rows

mutual
def Nice:PyData -> Prop
  | .none=>True
  | .bool _=>True
  | .int i=>i.natAbs < 2 ^ 1900
  | .str x=>PyData.strOk x = true
  | .list xs=>NiceAll xs
  | .tuple xs=>NiceAll xs
  | .dict _=>False
def NiceAll:List PyData -> Prop
  | []=>True
  | x :: xs=>Nice x /\ NiceAll xs
end
theorem log2_lt_of {n k:Nat} (h:n < 2 ^ k) (hk : 0 < k):n.log2 < k:=by
  by_cases h0:n = 0
  · subst h0; simpa using hk
  · exact (Nat.log2_lt h0).mpr h
mutual
theorem Nice.facts:∀ d:PyData,Nice d -> d.showable = true /\ d.canLay0 = true /\ d.hasDict = false /\ d.leavesShort 1921 = true
  | .none,_=>⟨rfl,rfl,rfl,rfl⟩
  | .bool _,_=>⟨rfl,rfl,rfl,rfl⟩
  | .int i,h=>by
    have hl:i.natAbs.log2 < 1920:=log2_lt_of (Nat.lt_of_lt_of_le (show i.natAbs < 2 ^ 1900 from h) (Nat.pow_le_pow_right (by decide) (by decide))) (by decide)
    refine ⟨by simp [PyData.showable,hl],rfl,rfl,?_⟩
    simp only [PyData.leavesShort,decide_eq_true_eq]
    exact int_text_len_1921 hl
  | .str x,h=>by
    refine ⟨rfl,(show PyData.canLay0 (.str x) = true by simp only [PyData.canLay0]; exact h),rfl,?_⟩
    have h:x.cps.all (· < 0x110000) = true:=h
    simp only [PyData.leavesShort]
    rw [List.all_eq_true]
    intro c hc
    have:=(Array.all_eq_true_iff_forall_mem.mp h) c (by simpa using hc)
    simp at this ⊢
    omega
  | .list xs,h=>by
    obtain ⟨a,b,c,d⟩:=NiceAll.facts xs h
    exact ⟨by simpa [PyData.showable] using a,by simpa [PyData.canLay0] using b,by simpa [PyData.hasDict] using c,by simpa [PyData.leavesShort] using d⟩
  | .tuple xs,h=>by
    obtain ⟨a,b,c,d⟩:=NiceAll.facts xs h
    exact ⟨by simpa [PyData.showable] using a,by simpa [PyData.canLay0] using b,by simpa [PyData.hasDict] using c,by simpa [PyData.leavesShort] using d⟩
  | .dict _,h=>False.elim h
theorem NiceAll.facts:∀ xs:List PyData,NiceAll xs -> PyData.showableAll xs = true /\ PyData.canLayAll0 xs = true /\ PyData.hasDictAll xs = false /\ PyData.leavesShortAll 1921 xs = true
  | [],_=>⟨rfl,rfl,rfl,rfl⟩
  | x :: xs,h=>by
    obtain ⟨a,b,c,d⟩:=Nice.facts x h.1
    obtain ⟨a',b',c',d'⟩:=NiceAll.facts xs h.2
    exact ⟨by simp [PyData.showableAll,a,a'],by simp [PyData.canLayAll0,b,b'],by simp [PyData.hasDictAll,c,c'],by simp [PyData.leavesShortAll,d,d']⟩
end
noncomputable def Shw (d:PyData):Prop:=Nice d /\ d.depth <= 60 /\ d.bulk <= 8000
theorem Shw.len {d:PyData} (h:Shw d):d.shown.length <= sizeLine:=by
  have q:=PyData.shown_le_bulk 1921 (by decide) d (Nice.facts d h.1).2.2.2
  have:=h.2.2
  have e:sizeLine = 16777216:=by decide
  omega

section
variable {X:Cx} {rl:RlT} {a b e:Expr} {es:List Expr} {fa fb fc:TV} {fs:TVs} {pos p:Pos}
noncomputable def rRepr (K:W.Frag):List V -> Hp -> VK -> Prop:=fun xs H Q=>∃ x d,xs = [x] /\ Rep K H x d /\ Shw d /\ Q (.str d.shown) H
theorem call_repr (hgd:X.A.guards = some []) (hu:X.A.units + 64 < cLine):CallR X (.builtin "repr") (rRepr X.K):=by
  intro pins s σ H xs us Q I r ⟨x,d,ex,rx,sh,q⟩
  subst ex
  obtain ⟨u,rfl,ru⟩:=vals1 r
  have fin:∀ tk h' , (∀ b o,s.heap.get? b = some o -> h'.get? b = some o) -> ∀ t,EP X pins σ Q (.str d.shown t) { s with heap:=h',toks:=tk }:=fun tk h' k t=>⟨.str d.shown,H,I.kept k,⟨t,rfl⟩,q⟩
  obtain ⟨as,rd⟩:=Rep.reads I (.refl H) rx u ru
  have hs:=(Nice.facts d sh.1)
  cases rx with
  | non=>cases (show u = Value.none from ru); exact P.repr_of_none (fin _ _ (fun _ _ e=>e) _)
  | bl b=>cases (show u = Value.bool b from ru); exact P.repr_of_bool (fin _ _ (fun _ _ e=>e) _)
  | int i =>
    obtain ⟨t,e⟩:=(show ∃ t,u = Value.int i t from ru)
    cases e
    exact P.repr_of_int (by simpa [PyData.showable] using hs.1) (fin _ _ (fun _ _ e=>e) _)
  | str x =>
    obtain ⟨t,e⟩:=(show ∃ t,u = Value.str x t from ru)
    cases e
    exact P.repr_of_str (fin _ _ (fun _ _ e=>e) _) sh.len
  | tup sq rs =>
    cases (show u = Value.ref _ from ru)
    exact repr_of_reads' rd hs.1 (PyData.noDict_hsm hs.2.2.1) hgd (by have:=sh.2.1; omega) (fun _ _ e=>e) (fun h' t tk hk=>fin tk h' hk t) sh.len
  | lst sq rs =>
    cases (show u = Value.ref _ from ru)
    exact repr_of_reads' rd hs.1 (PyData.noDict_hsm hs.2.2.1) hgd (by have:=sh.2.1; omega) (fun _ _ e=>e) (fun h' t tk hk=>fin tk h' hk t) sh.len
noncomputable def gRepr:List W -> (W -> Prop) -> Prop:=fun ws Q=>∃ w d,ws = [w] /\ w.dat = some d /\ Shw d /\ Q (.d (.str d.shown))
theorem vc_repr:VCall X rl (rRepr X.K) gRepr:=fun {F H vs ws} Qd Q s ra r ⟨w,d,ew,e1,sh,q⟩ k=>by
  subst ew
  obtain ⟨v,rfl,r1⟩:=rel1 r
  exact ⟨v,d,rfl,r1.dat s e1,sh,k _ (.d _) _ _ (Grow.refl s ra) (.str _) trivial q⟩
theorem v_repr (hr:Room 0 X.A) (hm:X.mg "repr" = none) (ha:PVs X rl [e] fs) (hg:Gl X "repr" := by rfl) (he:starEach [e] X.env = (false,eval e X.env) :: starEach [] X.env:=by rfl) (hpl:(backTo pos (starEach [] X.env)).any (·.1) = false:=by rfl) :
    PV X rl (.Call (.Name "repr" p) [e] [] pos) (vCall gRepr fs):=v_callB (call_repr hr.gd hr.units) vc_repr hm (by first | rfl | exact boot_repr) ha hg (by decide) (by decide) he hpl

noncomputable def tyD:PyData -> String
  | .none => "NoneType"
  | .bool _ => "bool"
  | .int _ => "int"
  | .str _ => "str"
  | .list _ => "list"
  | .tuple _ => "tuple"
  | .dict _ => "dict"
noncomputable def isiD (d:PyData) (T:String):Bool:=tyD d == T || (tyD d == "bool" && T == "int")
noncomputable def tyOk (T:String):Bool:=["int", "bool", "str", "list", "tuple"].contains T
theorem kit_ok {K:W.Frag} {d:PyData} {T:String} (hd:∀ kvs,d ≠ .dict kvs) (h:tyOk T = true):W.kitOne K (.type (tyD d)) (.type T) = some (isiD d T):=by
  have h:T = "int" \/ T = "bool" \/ T = "str" \/ T = "list" \/ T = "tuple" := by simpa [tyOk] using h
  cases d with
  | dict kvs=>exact absurd rfl (hd kvs)
  | none=>rcases h with rfl | rfl | rfl | rfl | rfl <;> rfl
  | bool b=>rcases h with rfl | rfl | rfl | rfl | rfl <;> rfl
  | int b=>rcases h with rfl | rfl | rfl | rfl | rfl <;> rfl
  | str b=>rcases h with rfl | rfl | rfl | rfl | rfl <;> rfl
  | list b=>rcases h with rfl | rfl | rfl | rfl | rfl <;> rfl
  | tuple b=>rcases h with rfl | rfl | rfl | rfl | rfl <;> rfl
noncomputable def rIsi (K:W.Frag):List V -> Hp -> VK -> Prop:=fun xs H Q=>∃ x d T,xs = [x,.ty T] /\ Rep K H x d /\ tyOk T = true /\ Q (.bl (isiD d T)) H
theorem call_isi:CallR X (.builtin "isinstance") (rIsi X.K):=by
  intro pins s σ H xs us Q I r ⟨x,d,T,ex,rx,ok,q⟩
  subst ex
  obtain ⟨u,u2,rfl,ru,ru2⟩:=vals2 r
  cases (show u2 = Value.type T from ru2)
  have fin:∀ tk,EP X pins σ Q (.bool (isiD d T)) { s with toks:=tk }:=fun tk=>⟨.bl _,H,I.tok tk,rfl,q⟩
  obtain ⟨as,rd⟩:=Rep.reads I (.refl H) rx u ru
  cases rd with
  | none=>exact W.kia_one W.kitx_none I.kIn True.intro (kit_ok (d:=PyData.none) (fun _ z=>by cases z) ok) (fun z=>nomatch z) fin
  | bool b=>exact W.kia_one W.kitx_bool I.kIn True.intro (kit_ok (d:=PyData.bool b) (fun _ z=>by cases z) ok) (fun z=>nomatch z) fin
  | int i t=>exact W.kia_one W.kitx_int I.kIn True.intro (kit_ok (d:=PyData.int i) (fun _ z=>by cases z) ok) (fun z=>nomatch z) fin
  | str y t=>exact W.kia_one W.kitx_str I.kIn True.intro (kit_ok (d:=PyData.str y) (fun _ z=>by cases z) ok) (fun z=>nomatch z) fin
  | list h1 h2 h3 h4=>exact W.kia_one W.kitx_list I.kIn ⟨_,h1,h2⟩ (kit_ok (d:=PyData.list _) (fun _ z=>by cases z) ok) (fun z=>nomatch z) fin
  | tuple h1 h2 h3 h4=>exact W.kia_one W.kitx_tuple I.kIn ⟨_,h1,h2⟩ (kit_ok (d:=PyData.tuple _) (fun _ z=>by cases z) ok) (fun z=>nomatch z) fin
  | dict h1 h2 h3 h4 h5=>cases rx
noncomputable def gIsi:List W -> (W -> Prop) -> Prop:=fun ws Q=>∃ w d T,ws = [w,.vv (.ty T)] /\ w.dat = some d /\ tyOk T = true /\ Q (.d (.bool (isiD d T)))
theorem vc_isi:VCall X rl (rIsi X.K) gIsi:=fun {F H vs ws} Qd Q s ra r ⟨w,d,T,ew,e1,ok,q⟩ k=>by
  subst ew
  obtain ⟨v,u,rfl,r1,r2⟩:=rel2 r
  cases (show u = V.ty T from r2)
  exact ⟨v,d,T,rfl,r1.dat s e1,ok,k _ (.d _) _ _ (Grow.refl s ra) (.bl _) trivial q⟩
theorem v_isi (hm:X.mg "isinstance" = none) (ha:PVs X rl [a,b] fs) (hg:Gl X "isinstance" := by rfl) (he:starEach [a,b] X.env = (false,eval a X.env) :: starEach [b] X.env:=by rfl) (hpl:(backTo pos (starEach [b] X.env)).any (·.1) = false:=by rfl) :
    PV X rl (.Call (.Name "isinstance" p) [a,b] [] pos) (vCall gIsi fs):=v_callB call_isi vc_isi hm (by first | rfl | exact boot_isinstance) ha hg (by decide) (by decide) he hpl
theorem v_len (hm:X.mg "len" = none) (ha:PVs X rl [a] fs) (hg:Gl X "len" := by rfl) (he:starEach [a] X.env = (false,eval a X.env) :: starEach [] X.env:=by rfl) (hpl:(backTo pos (starEach [] X.env)).any (·.1) = false:=by rfl) :
    PV X rl (.Call (.Name "len" p) [a] [] pos) (vCall gLen fs):=v_callB call_len_seq vc_len hm boot_len ha hg (by decide) (by decide) he hpl
theorem v_abs (hm:X.mg "abs" = none) (ha:PVs X rl [a] fs) (hg:Gl X "abs" := by rfl) (he:starEach [a] X.env = (false,eval a X.env) :: starEach [] X.env:=by rfl) (hpl:(backTo pos (starEach [] X.env)).any (·.1) = false:=by rfl) :
    PV X rl (.Call (.Name "abs" p) [a] [] pos) (vCall gAbs fs):=v_callB call_abs vc_abs hm (by first | rfl | exact boot_abs) ha hg (by decide) (by decide) he hpl
end
end L2.VL

namespace L2.VL
open PySem PySem.Spec PyProof.Rows

structure FnIn (K:W.Frag) (mg:Str -> Option Value) (x:Str) (st:Stmt) (ps:List Str):Prop where
  ex:∃ f fd,mg x = some (.ref f) /\ Fun K x x st f fd /\ Binds K fd ps []
structure Bz (mg:Str -> Option Value):Prop where
  int_:mg "int" = none
  bool_:mg "bool" = none
  str_:mg "str" = none
  list_:mg "list" = none
  tuple_:mg "tuple" = none
  dict_:mg "dict" = none
  isinstance_:mg "isinstance" = none
  len_:mg "len" = none
  abs_:mg "abs" = none
  repr_:mg "repr" = none
  range_:mg "range" = none
  all_:mg "all" = none
  any_:mg "any" = none
  sum_:mg "sum" = none
  min_:mg "min" = none
  max_:mg "max" = none
  sorted_:mg "sorted" = none
  zip_:mg "zip" = none
  enumerate_:mg "enumerate" = none
  reversed_:mg "reversed" = none
  divmod_:mg "divmod" = none
  set_:mg "set" = none
section
variable {P:Program} {w:World} {K:W.Frag} {mg:Str -> Option Value} {base:Heap} {rl:RlT} {x:Str} {st:Stmt} {N ps:List Str} {k:Nat} {Pd:List W -> (PyData -> Prop) -> Prop} {t:TSv}
theorem Dfn.of (Fn:FnIn K mg x st ps) (S:FnScope N ps (defScope st)) (mono:∀ ws Q Q',(∀ d,Q d -> Q' d) -> Pd ws Q -> Pd ws Q') (len:∀ ws Q,Pd ws Q -> ws.length = ps.length)
    (hbody:∀ {f:Addr} (cdv:Value) (A:Around) (outer:List Env) (s:Shared) (H:Hp) (E:XK),Room k (A.deeper (envOfC x (defScope st) s.heap.objs.size f cdv)) ->
      PSsV (cxOf CX0 P w K mg base N x (defScope st) f cdv A outer s H E).nox rl (defBody st) t)
    (hread:∀ ws Q,Pd ws Q -> t (vEnds Q) (startV N ws)):Dfn P w K mg base rl x ps (k + 1) Pd:=by
  obtain ⟨f,fd,hm,F,hb⟩:=Fn.ex
  exact ⟨mono,f,fd,hm,F.kp,hb,vfn F S len hbody hread⟩
end
section
variable {X:Cx} {rl:RlT} {e:Expr} {es:List Expr} {fa fb fc:TV} {fs:TVs} {pos p:Pos}
end
theorem fz_d (x:PyData):(W.d x).fz = .d x:=rfl
theorem fz_ml (x:List PyData):(W.ml x).fz = .d (.list x):=rfl
theorem fz_pk (x:List PyData):(W.pk x).fz = .pk x:=rfl
theorem fz_reel:W.reel.fz = .reel:=rfl
theorem fz_vv (x:V):(W.vv x).fz = .vv x:=rfl
theorem pk_d (x:PyData):L2.VL.W.peek (.d x) = .d x:=rfl
theorem pk_ml (x:List PyData):L2.VL.W.peek (.ml x) = .pk x:=rfl
theorem pk_reel:L2.VL.W.peek .reel = .reel:=rfl
theorem pk_vv (x:V):L2.VL.W.peek (.vv x) = .vv x:=rfl
theorem dat_d (x:PyData):(W.d x).dat = some x:=rfl
theorem dat_ml (x:List PyData):(W.ml x).dat = some (.list x):=rfl
theorem dat_pk (x:List PyData):(W.pk x).dat = some (.list x):=rfl
theorem isPk_d (x:PyData):(W.d x).isPk = false:=rfl
theorem isPk_ml (x:List PyData):(W.ml x).isPk = false:=rfl
theorem isPk_reel:W.reel.isPk = false:=rfl
theorem dats_nil:dats [] = some []:=rfl
theorem dats_d (x:PyData) (r:List W):dats (.d x :: r) = (dats r).map (x :: ·):=rfl
theorem arg_d (x:PyData):argOk (.d x) = true:=rfl
theorem arg_reel:argOk .reel = true:=rfl
theorem item_l (xs:List PyData) (i:Int):L2.VL.itemAt (.list xs) i = L2.atI xs i:=rfl
theorem item_t (xs:List PyData) (i:Int):L2.VL.itemAt (.tuple xs) i = L2.atI xs i:=rfl
theorem len_l (xs:List PyData):lenD (.list xs) = some xs.length:=rfl
theorem len_t (xs:List PyData):lenD (.tuple xs) = some xs.length:=rfl
theorem at0 {α:Type} (x : α) (r:List α):L2.atI (x :: r) 0 = some x:=by simp [L2.atI,L2.ixN]
theorem at1 {α:Type} (x y : α) (r:List α):L2.atI (x :: y :: r) 1 = some y:=by
  have:(1:Int) < ((x :: y :: r).length:Int):=by simp; omega
  simp only [L2.atI,L2.ixN]
  rw [if_pos (by decide),if_pos this]
  rfl
end L2.VL

namespace L2.VL
open PySem PySem.Spec PyProof.Rows
theorem fmod_abs_lt {x y:Int} (h:y ≠ 0):(x.fmod y).natAbs < y.natAbs:=by
  rcases Int.lt_or_gt_of_ne h with hy | hy
  · have h1:=Int.fmod_add_mul_fdiv x y
    have e:x.fmod y = -((-x).fmod (-y)):=by
      have:=Int.neg_fmod_neg x y
      omega
    have p : 0 < -y:=by omega
    have b1:=Int.fmod_nonneg_of_pos (-x) p
    have b2:=Int.fmod_lt_of_pos (-x) p
    omega
  · have b1:=Int.fmod_nonneg_of_pos x hy
    have b2:=Int.fmod_lt_of_pos x hy
    omega
theorem gcd_fmod (x y:Int):Int.gcd y (x.fmod y) = Int.gcd x y:=by
  have e:x.fmod y = x + y * (-(x.fdiv y)):=by
    have:=Int.fmod_add_mul_fdiv x y
    rw [Int.mul_neg]
    omega
  rw [e,Int.gcd_add_mul_left_right]
  exact Int.gcd_comm y x
theorem eqv_ii (a b:Int):PyData.eqv (.int a) (.int b) = (a == b):=by simp [PyData.eqv]
theorem shaped_i (a:Int):SeqAt.shaped (.int a) = true:=rfl
theorem shaped_b (a:Bool):SeqAt.shaped (.bool a) = true:=rfl
theorem CDivB.of {i j:Int} (h:j ≠ 0) (b:j.natAbs < 2 ^ 64):CDivB i j:=⟨h,Nat.lt_of_lt_of_le b (Nat.pow_le_pow_right (by decide) (by decide))⟩
theorem canLay_ints:∀ ns:List Int,PyData.canLayAll0 (ns.map PyData.int) = true
  | []=>rfl
  | n :: ns=>by simp [PyData.canLayAll0,PyData.canLay0,canLay_ints ns]
theorem depth_ints:∀ ns:List Int,PyData.depthAll (ns.map PyData.int) = 0
  | []=>rfl
  | n :: ns=>by simp [PyData.depthAll,PyData.depth,depth_ints ns]
theorem shaped_ints (ns:List Int):SeqAt.shaped (.list (ns.map .int)) = true:=by simp [SeqAt.shaped,PyData.canLay0,PyData.depth,canLay_ints,depth_ints]
theorem gcd_pos {a b:Int} (h:b ≠ 0) : 0 < (Int.gcd a b:Int):=by
  have:=Int.gcd_pos_of_ne_zero_right a h
  omega
theorem gcd_le {a b:Int} (h:b ≠ 0):(Int.gcd a b) <= b.natAbs:=Nat.le_of_dvd (by omega) (Int.gcd_dvd_natAbs_right a b)
end L2.VL

namespace L2.VL
open PySem PySem.Spec PyProof.Rows
structure Lf (d:PyData):Prop where
  nice:Nice d
  dep:d.depth <= 2
  wt:d.bulk <= 2000
theorem Lf.int {i:Int} (h:i.natAbs < 2 ^ 1000):Lf (.int i) :=
  ⟨Nat.lt_trans h (Nat.pow_lt_pow_right (by decide) (by decide)),by simp [PyData.depth],by simp [PyData.bulk]⟩
theorem at_in {α:Type} {xs:List α} {k:Int} (h0 : 0 <= k) (h1:k < (xs.length:Int)):∃ z,L2.atI xs k = some z /\ z ∈ xs:=by
  obtain ⟨n,rfl⟩:=Int.eq_ofNat_of_zero_le h0
  have hn:n < xs.length:=by omega
  exact ⟨xs[n],atI_nat (List.getElem?_eq_getElem hn),List.getElem_mem hn⟩

theorem rep_str {K:W.Frag} {F:Hp} {v:V} {i:Str} (h:Rep K F v (.str i)):v = .str i:=by cases h; rfl
noncomputable def gEqS (neg:Bool):W -> W -> (W -> Prop) -> Prop:=fun x y Q=>∃ a b:Str,x = .d (.str a) /\ y = .d (.str b) /\ Q (.d (.bool (if neg then !decide (a = b) else decide (a = b))))
theorem vo_eqS {X:Cx} {rl:RlT}:VOp X rl rEq (gEqS false):=fun {F H x y wx wy} Qd Q s ra r1 r2 q k=>by
  obtain ⟨a,b,rfl,rfl,q⟩:=q
  have e1:=rep_str r1
  have e2:=rep_str r2
  subst e1 e2
  have e:decide (V.str a = V.str b) = decide (a = b):=by
    by_cases h:a = b
    · subst h; simp
    · rw [decide_eq_false h,decide_eq_false fun z=>h (by injection z)]
  exact ⟨rfl,by rw [e]; exact k _ (.d _) _ _ (Grow.refl s ra) (.bl _) trivial q⟩
theorem vo_neS {X:Cx} {rl:RlT}:VOp X rl rNe (gEqS true):=fun {F H x y wx wy} Qd Q s ra r1 r2 q k=>by
  obtain ⟨a,b,rfl,rfl,q⟩:=q
  have e1:=rep_str r1
  have e2:=rep_str r2
  subst e1 e2
  have e:decide (V.str a = V.str b) = decide (a = b):=by
    by_cases h:a = b
    · subst h; simp
    · rw [decide_eq_false h,decide_eq_false fun z=>h (by injection z)]
  exact ⟨rfl,by rw [e]; exact k _ (.d _) _ _ (Grow.refl s ra) (.bl _) trivial q⟩
section
variable {P:Program} {w:World} {K:W.Frag} {mg:Str -> Option Value} {base:Heap} {rl:RlT} {x:Str} {st:Stmt} {N ps:List Str} {k:Nat} {Pd:List W -> (List PyData -> Prop) -> Prop} {t:TSv}
end
section
variable {X:Cx} {rl:RlT} {e:Expr} {es:List Expr} {fs:TVs} {pos p:Pos}
theorem pss_any (X:Cx) (rest:List Stmt):PSs X rest (fun D σ H=>∀ pins s,Inv X pins σ H s -> wpAny (model X.prog X.w) X.A (execs rest X.env) (SP X pins D) X.xe s):=fun pins s σ H D I h=>h pins s I
end
end L2.VL

namespace L2.VL
open PySem PySem.Spec PyProof.Rows
section
variable {X:Cx} {rl:RlT} {a b c e:Expr} {es:List Expr} {fa fb fc:TV} {fs:TVs} {pos p:Pos}
noncomputable def seqD:PyData -> Option (List PyData)
  | .list xs=>some xs
  | .tuple xs=>some xs
  | _=>none
theorem seq_l (xs:List PyData):seqD (.list xs) = some xs:=rfl
theorem seq_t (xs:List PyData):seqD (.tuple xs) = some xs:=rfl
theorem seqD.of {o:Option PyData} {d:PyData} {xs:List PyData} (h:o = some d) (e:seqD d = some xs):o = some (.list xs) \/ o = some (.tuple xs):=by
  cases d <;> cases e
  · exact .inl h
  · exact .inr h
noncomputable def gTupO:List W -> (W -> Prop) -> Prop:=fun ws Q=>∃ w d xs,ws = [w] /\ w.dat = some d /\ seqD d = some xs /\ Q (.d (.tuple xs))
theorem vc_tup:VCall X rl (fun xs H Q=>∃ p ys,xs = [.ref p] /\ ((SqL X.K H p ys /\ ∀ l,H l = none -> Q (.ref l) (upd H l (.tup ys))) \/ (SqT X.K H p ys /\ Q (.ref p) H))) gTupO:=fun {F H vs ws} Qd Q s ra r ⟨w,d,xs,ew,ed1,ed2,q⟩ k=>by
  have ed:=seqD.of ed1 ed2
  subst ew
  obtain ⟨v,rfl,r1⟩:=rel1 r
  rcases ed with ed | ed
  · obtain ⟨a,us,rfl,sq,rs⟩:=r1.items s ed
    refine ⟨a,us,rfl,.inl ⟨sq,fun l hl=>?_⟩⟩
    have g:=Grow.data (a:=l) (o:=.tup us) s ra hl
    exact k _ (.d (.tuple xs)) _ _ g (.tup (.inl (.inl upd_same)) (rs.mono g.fs)) trivial q
  · cases w with
    | d y =>
      cases ed
      cases (show Rep X.K F v (.tuple xs) from r1) with
      | tup sq rs=>exact ⟨_,_,rfl,.inr ⟨sameT s sq,k _ (.d (.tuple xs)) _ _ (Grow.refl s ra) (.tup sq rs) trivial q⟩⟩
    | ml ys=>cases ed
    | pk ys=>cases ed
    | reel=>cases ed
    | vv u=>cases ed
    | md u=>cases ed
    | mk u=>cases ed
    | lk=>cases ed
    | sc _=>cases ed
    | fd _=>cases ed
    | fw _=>cases ed
    | ft _=>cases ed
    | xc _ _=>cases ed
    | dp _ _=>cases ed
    | nt ds =>
      cases ed
      obtain ⟨b,us,rfl,h,q'⟩:=r1
      exact ⟨_,_,rfl,.inr ⟨.inl (.inl (s _ _ h)),k _ (.d (.tuple xs)) _ _ (Grow.refl s ra) (.tup (.inl (.inl h)) q') trivial q⟩⟩
theorem v_tuple (hm:X.mg "tuple" = none) (ha:PVs X rl [a] fs) (hg:Gl X "tuple" := by rfl) (he:starEach [a] X.env = (false,eval a X.env) :: starEach [] X.env:=by rfl) (hpl:(backTo pos (starEach [] X.env)).any (·.1) = false:=by rfl) :
    PV X rl (.Call (.Name "tuple" p) [a] [] pos) (vCall gTupO fs):=v_callTy call_tuple_of vc_tup hm (by rfl) ha hg (by decide) (by decide) he hpl
noncomputable def gLstO:List W -> (W -> Prop) -> Prop:=fun ws Q=>∃ w d xs,ws = [w] /\ w.dat = some d /\ seqD d = some xs /\ Q (.ml xs)
theorem vc_lst:VCall X rl (fun xs H Q=>∃ p ys,xs = [.ref p] /\ (SqL X.K H p ys \/ SqT X.K H p ys) /\ ∀ l,H l = none -> Q (.ref l) (upd H l (.lst ys))) gLstO:=fun {F H vs ws} Qd Q s ra r ⟨w,d,xs,ew,ed1,ed2,q⟩ k=>by
  have ed:=seqD.of ed1 ed2
  subst ew
  obtain ⟨v,rfl,r1⟩:=rel1 r
  rcases ed with ed | ed
  · obtain ⟨a,us,rfl,sq,rs⟩:=r1.items s ed
    exact ⟨a,us,rfl,.inl sq,fun l hl=>k _ (.ml xs) _ _ (Grow.laid s ra hl) (own_laid s ra hl rs) (fun a ea=>by cases ea; exact hl) q⟩
  · obtain ⟨a,us,rfl,sq,rs⟩:=r1.itemsT s ed
    exact ⟨a,us,rfl,.inr sq,fun l hl=>k _ (.ml xs) _ _ (Grow.laid s ra hl) (own_laid s ra hl rs) (fun a ea=>by cases ea; exact hl) q⟩
theorem v_listof (hm:X.mg "list" = none) (ha:PVs X rl [a] fs) (hg:Gl X "list" := by rfl) (he:starEach [a] X.env = (false,eval a X.env) :: starEach [] X.env:=by rfl) (hpl:(backTo pos (starEach [] X.env)).any (·.1) = false:=by rfl) :
    PV X rl (.Call (.Name "list" p) [a] [] pos) (vCall gLstO fs):=v_callTy call_list_of vc_lst hm (by rfl) ha hg (by decide) (by decide) he hpl
end
end L2.VL
namespace L2.VL
open PySem PySem.Spec PyProof.Rows
section
variable {X:Cx} {rl:RlT}
end
end L2.VL

namespace L2.VL
open PySem PySem.Spec PyProof.Rows
section
variable {X:Cx} {rl:RlT} {a b c e:Expr} {es:List Expr} {fa fb fc:TV} {fs:TVs} {pos p p2:Pos}
noncomputable def ipC (C:Int -> Int -> Prop) (f:Int -> Int -> Int):TIp:=fun x y H Q=>∃ i j,x = .int i /\ y = .int j /\ C i j /\ Q (.int (f i j)) H
theorem ip_mulC:PIp X .Mult (ipC CMulB fun i j=>i * j):=by
  intro pins s σ H x y v u Q I r1 r2 h
  obtain ⟨i,j,e1,e2,hc,q⟩:=h
  subst e1; subst e2
  obtain ⟨t,rfl⟩:=r1
  obtain ⟨t',rfl⟩:=r2
  exact imul_int ⟨.int _,H,I.tok _,⟨_,rfl⟩,q⟩ hc.ok
noncomputable def vAug (i:Nat) (C:Int -> Int -> Prop) (f:Int -> Int -> Int) (fa:TV):TSv:=fun D ρ=>∃ n,ρ[i]? = some (some (.d (.int n))) /\ fa ρ fun w=>∃ m,w = .d (.int m) /\ C n m /\ D.nx (ρ.set i (some (.d (.int (f n m)))))
theorem vs_aug (i:Nat) {x:Str} {op:Operator} {C:Int -> Int -> Prop} {f:Int -> Int -> Int} {pos':Pos} (hN:X.N.Nodup) (ho:PIp X op (ipC C f)) (he:PV X rl e fa) (hi:X.N[i]? = some x:=by rfl) (hx:Loc X.env.scope x:=by first | exact Or.inl rfl | exact Or.inr rfl)
    (hf:X.fn x = true \/ X.env.scope.names.lookup x = some .local:=by first | exact .inl rfl | exact .inr rfl):PSV X rl (.AugAssign (.Name x pos') op e pos) (vAug i C f fa):=by
  obtain ⟨t,p,k⟩:=he
  refine ⟨_,ps_aug hN hi hx p ho hf,fun R Dv D ok ⟨n,e1,q⟩=>?_⟩
  obtain ⟨v,s1,r1,_⟩:=R.sl i _ e1
  have ev:=rep_int r1
  subst ev
  refine ⟨_,s1,k R _ _ q fun v w F1 H1 g1 r1 n1 ⟨m,ew,hc,q1⟩=>?_⟩
  subst ew
  have ev:=rep_int r1
  subst ev
  exact ⟨n,m,rfl,rfl,hc,ok.nx _ _ _ _ g1.fs (R.set g1 (v:=.int (f n m)) (w:=.d (.int (f n m))) (.int _) trivial (fun _ z=>by cases z) i) q1⟩
noncomputable def cutD (xs:List PyData) (lo hi:Option Int):List PyData:=(xs.drop (HT.sIx xs.length 0 lo)).take (HT.sIx xs.length xs.length hi - HT.sIx xs.length 0 lo)
theorem Reps.cut {K:W.Frag} {F:Hp} {vs:List V} {ds:List PyData} (r:Reps K F vs ds) (lo hi:Option Int):Reps K F (cutV vs lo hi) (cutD ds lo hi):=by
  unfold cutV cutD
  rw [r.length]
  exact (r.drop _).take _
abbrev TOv:=En -> (Option Int -> Prop) -> Prop
noncomputable def PVO (X:Cx) (rl:RlT) (o:Option Expr) (f:TOv):Prop:=∃ t,PO X o t /\ ∀ {F₀ H₀ F H:Hp} {σ:St} {ρ:En},VR X.K rl F₀ H₀ F H σ ρ -> ∀ (Qd:Option Int -> Prop) (Q:Option Int -> Hp -> Prop),f ρ Qd ->
  (∀ o F' H',Grow rl F H F' H' -> Qd o -> Q o H') -> t σ H Q
noncomputable def oNo:TOv:=fun _ Q=>Q none
noncomputable def oIt (fa:TV):TOv:=fun ρ Q=>fa ρ fun w=>∃ i,w = .d (.int i) /\ Q (some i)
theorem vo_none:PVO X rl none oNo:=⟨_,po_none,fun R Qd Q q k=>k _ _ _ (Grow.refl R.sub R.reel) q⟩
theorem vo_some (h:PV X rl e fa):PVO X rl (some e) (oIt fa):=by
  obtain ⟨t,p,k⟩:=h
  refine ⟨_,po_some p,fun R Qd Q q h=>k R _ _ q fun v w F1 H1 g1 r1 n1 ⟨i,ew,q1⟩=>?_⟩
  subst ew
  exact ⟨i,rep_int r1,h _ F1 H1 g1 q1⟩
noncomputable def vSlL (fa:TV) (fl fh:TOv):TV:=fun ρ Q=>fa ρ fun w=>fl ρ fun l=>fh ρ fun h=>∃ xs,w.dat = some (.list xs) /\ Q (.ml (cutD xs l h))
theorem v_slL {lo hi:Option Expr} {fl fh:TOv} (ha:PV X rl a fa) (hl:PVO X rl lo fl) (hh:PVO X rl hi fh):PV X rl (.Subscript a (.Slice lo hi none p2) pos) (vSlL fa fl fh):=by
  obtain ⟨t,p,k⟩:=ha
  obtain ⟨tl,pl,kl⟩:=hl
  obtain ⟨th,ph,kh⟩:=hh
  refine ⟨_,pe_slice sl_list p pl ph,fun R Qd Q q h=>k R _ _ q fun v w F1 H1 g1 r1 n1 q1=>?_⟩
  refine kl (R.grow g1) _ _ q1 fun l F2 H2 g2 q2=>kh ((R.grow g1).grow g2) _ _ q2 fun u F3 H3 g3 q3=>?_
  obtain ⟨xs,ed,q3⟩:=q3
  have r3:=(r1.grow g2).grow g3
  obtain ⟨a,vs,rfl,sq,rs⟩:=r3.items g3.sub ed
  have g:=(g1.trans g2).trans g3
  exact ⟨a,vs,rfl,sq,fun p hp=>h _ (.ml _) _ _ (g.trans (Grow.laid g3.sub g3.reel hp)) (own_laid g3.sub g3.reel hp (rs.cut l u)) (fun a ea=>by cases ea; exact g.freeB hp) q3⟩
noncomputable def gCatD:W -> W -> (W -> Prop) -> Prop:=fun x y Q=>∃ xs ys,x.dat = some (.list xs) /\ y.dat = some (.list ys) /\ xs.length + ys.length <= sizeLine /\ Q (.ml (xs ++ ys))
theorem RelW.lst {K:W.Frag} {F H:Hp} {v:V} {w:W} {xs:List PyData} (s:Same F H) (r:RelW K rl F H v w) (e:w.dat = some (.list xs)):∃ a vs,v = .ref a /\ H a = some (.lst vs) /\ Reps K F vs xs:=by
  have own:OwnL K rl F H v xs -> ∃ a vs,v = .ref a /\ H a = some (.lst vs) /\ Reps K F vs xs:=fun ⟨a,vs,e1,_,_,e2,e3⟩=>⟨a,vs,e1,e2,e3⟩
  cases w with
  | d y =>
    cases e
    cases (show Rep K F v (.list xs) from r) with
    | lst h q=>exact ⟨_,_,rfl,s _ _ h,q⟩
  | ml ys=>cases e; exact own r
  | pk ys=>cases e; exact own r
  | reel=>cases e
  | vv u=>cases e
  | md u=>cases e
  | mk u=>cases e
  | nt u=>cases e
  | lk=>cases e
  | sc _=>cases e
  | fd _=>cases e
  | fw _=>cases e
  | ft _=>cases e
  | xc _ _=>cases e
  | dp _ _=>cases e
theorem vo_catD:VOp X rl rCat gCatD:=fun {F H x y wx wy} Qd Q s ra r1 r2 q k=>by
  obtain ⟨xs,ys,e1,e2,z,q⟩:=q
  obtain ⟨a,vs,rfl,h1,q1⟩:=r1.lst s e1
  obtain ⟨b,us,rfl,h2,q2⟩:=r2.lst s e2
  refine ⟨a,b,vs,us,rfl,rfl,h1,h2,by rw [q1.length,q2.length]; exact z,fun p hp=>?_⟩
  exact k _ (.ml _) _ _ (Grow.laid s ra hp) (own_laid s ra hp (q1.append q2)) (fun a ea=>by cases ea; exact hp) q
theorem v_catD (ha:PV X rl a fa) (hb:PV X rl b fb):PV X rl (.BinOp a .Add b pos) (vOp gCatD fa fb):=pv_op op_cat vo_catD ha hb
structure GlD (K:W.Frag) (mg:Str -> Option Value) (x:Str) (d:PyData):Prop where
  ex:∃ v u,mg x = some u /\ RelV v u /\ ∀ F,Rep K F v d
theorem v_glob {x:Str} {d:PyData} (G:GlD X.K X.mg x d) (hg:Gl X x:=by rfl) (hd:(x == ("__debug__" : Str)) = false:=by decide):PV X rl (.Name x pos) (vC d):=by
  obtain ⟨v,u,h1,h2,h3⟩:=G.ex
  exact pv_glob h1 h2 h3 hg hd
structure GlK (K:W.Frag) (x:Str) (d:PyData):Prop where
  ex:∃ v u,W.nsIn K mainGlobals x = some (some u) /\ RelV v u /\ ∀ F,Rep K F v d
theorem GlK.of {K:W.Frag} {x:Str} {d:PyData} {h:Heap} {mg:Str -> Option Value} (k:GlK K x d) (Y:K.In h) (G:h.Ns mainGlobals mg):GlD K mg x d:=by
  obtain ⟨v,u,h1,h2,h3⟩:=k.ex
  exact ⟨v,u,W.mg_of Y G h1,h2,h3⟩
end
end L2.VL

namespace L2
open PySem PySem.Spec PyProof.Rows
section
variable {X:Cx} {a b:Expr} {ta:TA} {p q pos pos2:Pos}
theorem paired_get {α β:Type} {R : α -> β -> Prop}:∀ {xs:List α} {ys:List β},xs.length = ys.length -> (∀ (i:Nat) x y,xs[i]? = some x -> ys[i]? = some y -> R x y) -> Paired R xs ys
  | [],[],_,_=>.nil
  | x :: xs,y :: ys,hl,h=>.cons (h 0 x y rfl rfl) (paired_get (by simpa using hl) fun i x y e1 e2=>h (i + 1) x y (by simpa using e1) (by simpa using e2))
  | [],_ :: _,hl,_=>by simp at hl
  | _ :: _,[],hl,_=>by simp at hl
noncomputable def intsV (lo:Int) (n:Nat):List V:=(List.range n).map fun (i:Nat)=>V.int (lo + i)
theorem vals_of_items {lo:Int} {n:Nat} {acc:Array Value} (h:ItemsOf (fun i v=>∃ t,v = .int (lo + i * 1) t) acc n):Vals (intsV lo n) acc.toList:=by
  obtain ⟨h1,h2⟩:=h
  refine paired_get ?_ ?_
  · simp [intsV,h1]
  · intro i v u e1 e2
    unfold intsV at e1
    rw [List.getElem?_map] at e1
    obtain ⟨t,e4⟩:=h2 i u (by simpa using e2)
    by_cases hi:i < n
    · rw [List.getElem?_eq_getElem (by simpa using hi)] at e1
      simp at e1
      subst e1
      exact ⟨t,by rw [e4]; simp⟩
    · rw [List.getElem?_eq_none (by simpa using hi)] at e1
      cases e1
theorem list_range {pins:List (Addr × Obj)} {σ:St} {H:Hp} {s:Shared} {Q:VK} {lo hi:Int} {t u v:Tok} {tk:Nat} (hc:X.calm = true) (I:Inv X pins σ H s) (h1 : -(2 ^ 62) <= lo) (h2:lo < 2 ^ 62) (h3 : -(2 ^ 62) <= hi) (h4:hi < 2 ^ 62) (h5:(hi - lo).toNat <= 2 ^ 24)
    (q:∀ l,H l = none -> Q (.ref l) (upd H l (.lst (intsV lo (hi - lo).toNat)))):wpAny (model X.prog X.w) X.A (call (.type "list") [.ref s.heap.objs.size]) (EP X pins σ Q) X.xe { s with heap:=s.heap.push { cls:=.type "range", data:=.fields #[.int lo t,.int hi u,.int 1 v] },toks:=tk }:=by
  have I1:Inv X pins σ H { s with heap:=s.heap.push { cls:=.type "range", data:=.fields #[.int lo t,.int hi u,.int 1 v] },toks:=tk }:=I.kept fun b o e=>Heap.get?_push_of_some _ e
  refine call_list_range (n:=(hi - lo).toNat) (I.ok.hd hc) (IsRange.new ..) (small_one h1 h2 h3 h4) (by rw [rangeSize_one]; split <;> omega) h5 fun h' tk acc c hk hn hi=>?_
  have hv:=vals_of_items hi
  refine ⟨.ref _,_,I1.laid (t':=tk) hk (Nat.le_refl _) (show ObjOk X.prog X.w _ h' _ (.lst _) from ⟨?_,acc.toList,c,hv,by rw [Array.toArray_toList]; exact hn⟩),rfl,q _ (I1.hok.fresh (Nat.le_refl _))⟩
  show (intsV lo _).length <= sizeLine
  rw [intsV,List.length_map,List.length_range]
  exact Nat.le_trans h5 (by decide)
noncomputable def tLR1 (ta:TA):TE:=fun σ H Q=>ta σ H fun vs H1=>∃ j:Int,vs = [.int j] /\ (-(2 ^ 62) <= j /\ j < 2 ^ 62) /\ j.toNat <= 2 ^ 24 /\ ∀ l,H1 l = none -> Q (.ref l) (upd H1 l (.lst (intsV 0 j.toNat)))
theorem pe_lrange1 (hc:X.calm = true) (hl:Gl X "list") (hml:X.mg "list" = none) (hg:Gl X "range") (hm:X.mg "range" = none) (ha:PA X [a] ta) (hs:starEach [a] X.env = [(false,eval a X.env)]:=by rfl)
    (he:starEach [.Call (.Name "range" p) [a] [] pos2] X.env = (false,eval (.Call (.Name "range" p) [a] [] pos2) X.env) :: starEach [] X.env:=by rfl) (hpl:(backTo pos (starEach [] X.env)).any (·.1) = false:=by rfl) :
    PE X (.Call (.Name "list" q) [.Call (.Name "range" p) [a] [] pos2] [] pos) (tLR1 ta):=by
  intro pins s σ H Q I h
  refine wpAny_Call_Name_kw (ld_blt I hl hml (by rfl) ?_ (by decide) (by decide))
  refine PyProof.Rows.callWith_type1 ?_ he hpl
  rw [he]
  show wpAny _ _ (spliced ((false,eval (.Call (.Name "range" p) [a] [] pos2) X.env) :: backTo pos (starEach [] X.env))) _ _ s
  refine Calls.spliced_cons ?_
  refine Call_ (ld_blt I hg hm boot_range (PyProof.Rows.callWith_type1 (thn (ha pos2 pins s σ H _ I h) fun us s1 ⟨vs,H1,I1,r1,q1⟩=>?_) hs rfl))
  obtain ⟨j,e,⟨h3,h4⟩,h5,q1⟩:=q1
  subst e
  cases r1 with
  | cons r rr =>
    cases rr
    obtain ⟨t,rfl⟩:=r
    exact call_range_1 (Calls.spliced_nil (list_range hc I1 (by omega) (by omega) h3 h4 (by simpa using h5) (by simpa using q1)))
end
end L2
namespace L2.VL
open PySem PySem.Spec PyProof.Rows
section
variable {X:Cx} {rl:RlT} {a b c e:Expr} {es:List Expr} {fa fb fc:TV} {fs:TVs} {pos pos2 p q:Pos}
theorem reps_range {K:W.Frag} {F:Hp} (lo:Int) (n:Nat):Reps K F (intsV lo n) (rangeD lo n):=by
  unfold intsV rangeD
  generalize List.range n = l
  induction l with
  | nil=>exact .nil
  | cons x l ih=>exact .cons (.int _) ih
noncomputable def vLR1 (fs:TVs):TV:=fun ρ Q=>fs ρ fun ws=>∃ j:Int,ws = [.d (.int j)] /\ (-(2 ^ 62) <= j /\ j < 2 ^ 62) /\ j.toNat <= 2 ^ 24 /\ Q (.ml (rangeD 0 j.toNat))
theorem v_lrange1 (hml:X.mg "list" = none) (hm:X.mg "range" = none) (ha:PVs X rl [a] fs) (hc:X.calm = true:=by rfl) (hl:Gl X "list" := by rfl) (hg:Gl X "range" := by rfl) (hs:starEach [a] X.env = [(false,eval a X.env)]:=by rfl)
    (he:starEach [.Call (.Name "range" p) [a] [] pos2] X.env = (false,eval (.Call (.Name "range" p) [a] [] pos2) X.env) :: starEach [] X.env:=by rfl) (hpl:(backTo pos (starEach [] X.env)).any (·.1) = false:=by rfl) :
    PV X rl (.Call (.Name "list" q) [.Call (.Name "range" p) [a] [] pos2] [] pos) (vLR1 fs):=by
  obtain ⟨t,p1,k⟩:=ha
  refine ⟨_,pe_lrange1 hc hl hml hg hm p1 hs he hpl,fun R Qd Q q h=>k R _ _ q fun vs ws F1 H1 g1 r1 ⟨j,ew,z,y,q1⟩=>?_⟩
  subst ew
  obtain ⟨v,rfl,rv⟩:=rel1 r1
  have e1:=rep_int rv
  subst e1
  exact ⟨j,rfl,z,y,fun l hl=>h _ (.ml _) _ _ (g1.trans (Grow.laid g1.sub g1.reel hl)) (own_laid g1.sub g1.reel hl (reps_range _ _)) (fun a ea=>by cases ea; exact g1.freeB hl) q1⟩
end
end L2.VL

namespace L2.VL
open PySem PySem.Spec PyProof.Rows
end L2.VL
namespace L2.VL
open PySem PySem.Spec PyProof.Rows
end L2.VL
namespace L2.VL
open PySem PySem.Spec PyProof.Rows
end L2.VL
namespace L2.VL
open PySem PySem.Spec PyProof.Rows
structure Sm (dp bk:Nat) (d:PyData):Prop where
  nice:Nice d
  dep:d.depth <= dp
  blk:d.bulk <= bk
theorem Sm.shw {dp bk:Nat} {d:PyData} (h:Sm dp bk d) (h1:dp <= 60) (h2:bk <= 8000):Shw d:=⟨h.nice,by have:=h.dep; omega,by have:=h.blk; omega⟩
theorem Sm.int {i:Int} (h:i.natAbs < 2 ^ 1000):Sm 0 0 (.int i):=⟨(Lf.int h).nice,by simp [PyData.depth],by simp [PyData.bulk]⟩
end L2.VL

namespace L2
open PySem PySem.Spec PyProof.Rows
section
variable {X:Cx} {tg e:Expr} {ta te:TE} {p p2 pos:Pos}
end
end L2
namespace L2.VL
open PySem PySem.Spec PyProof.Rows
section
variable {X:Cx} {rl:RlT} {a b c e tg:Expr} {es:List Expr} {fa fb fc:TV} {fs:TVs} {pos pos2 p p2 q:Pos}
end
end L2.VL

namespace L2
open PySem PySem.Spec PyProof.Rows
section
variable {X:Cx}
end
end L2
namespace L2.VL
open PySem PySem.Spec PyProof.Rows
section
variable {X:Cx} {rl:RlT} {a b c e:Expr} {es:List Expr} {fa fb fc:TV} {fs:TVs} {pos p p2:Pos}
end
end L2.VL

namespace L2.TM
open PySem PySem.Spec PyProof.Rows
section
variable {prog:Program} {w:World} {A:Around} {E:Value -> Shared -> Prop} {s:Shared} {k:Int} {t:Tok} {l:Addr} {its:Array Value}
end
end L2.TM
namespace L2
open PySem PySem.Spec PyProof.Rows
section
variable {X:Cx}
end
end L2
namespace L2.VL
open PySem PySem.Spec PyProof.Rows
section
variable {X:Cx} {rl:RlT} {a b c e:Expr} {es:List Expr} {fa fb fc:TV} {fs:TVs} {pos p p2:Pos}
noncomputable def gCatT:W -> W -> (W -> Prop) -> Prop:=fun x y Q=>∃ xs ys,x = .d (.tuple xs) /\ y = .d (.tuple ys) /\ xs ≠ [] /\ xs.length + ys.length <= sizeLine /\ Q (.d (.tuple (xs ++ ys)))
theorem vo_catT:VOp X rl (rCatT X.K) gCatT:=fun {F H x y wx wy} Qd Q s ra r1 r2 q k=>by
  obtain ⟨xs,ys,rfl,rfl,hne,hz,q⟩:=q
  cases (show Rep X.K F x (.tuple xs) from r1) with
  | @tup a vs _ sq rs =>
    cases (show Rep X.K F y (.tuple ys) from r2) with
    | @tup b us _ sq2 rs2 =>
      refine ⟨a,b,vs,us,rfl,rfl,sameT s sq,sameT s sq2,fun z=>hne ?_,by rw [rs.length,rs2.length]; exact hz,fun e=>?_,fun e p hp=>?_⟩
      · subst z; cases rs; rfl
      · subst e
        cases rs2
        rw [List.append_nil] at q
        exact k _ (.d (.tuple xs)) _ _ (Grow.refl s ra) (.tup sq rs) trivial q
      · have g:=Grow.data (a:=p) (o:=.tup (vs ++ us)) s ra hp
        exact k _ (.d _) _ _ g (.tup (.inl (.inl upd_same)) ((rs.append rs2).mono g.fs)) trivial q
end
end L2.VL

namespace L2
open PySem PySem.Spec PyProof.Rows
section
variable {X:Cx}
noncomputable def rCat0 (K:W.Frag):R2:=fun x y H Q=>∃ a b ys,x = .ref a /\ y = .ref b /\ SqT K H a [] /\ SqT K H b ys /\ Q (.ref b) H
theorem op_cat0:OpR X (binaryOp .Add) (rCat0 X.K):=by
  intro pins s σ H x y v u Q I rx ry h
  obtain ⟨a,b,ys,rfl,rfl,ha,hb,q⟩:=h
  cases rx
  cases ry
  obtain ⟨its,r1,p1,_⟩:=I.tuple ha
  obtain ⟨its2,r2,p2,_⟩:=I.tuple hb
  cases r1
  obtain ⟨⟨c1,d1,e1,sl1⟩,ho,hc,n,hd⟩:=p1
  obtain ⟨⟨c2,d2,e2,sl2⟩,ho2,hc2,n2,hd2⟩:=p2
  cases hc; cases hd; cases hc2; cases hd2
  exact concat_meets ⟨_,ho,rfl⟩ ⟨_,ho2,rfl⟩ noFill_tuple_add seq_tuple_add PySem.F.slot_tuple_add PySem.F.entry_tuple_add (PySem.F.args_tuple_add_2 _ _)
    (tuple_addW0 a b _ its2.toArray n n2 d1 d2 sl1 sl2 rfl) ⟨ho,ho2,⟨.ref b,H,I,rfl,q⟩⟩
noncomputable def rCatA (K:W.Frag):R2:=fun x y H Q=>rCatT K x y H Q \/ rCat0 K x y H Q
theorem op_catA:OpR X (binaryOp .Add) (rCatA X.K):=fun pins s σ H x y v u Q I rx ry h=>h.elim (op_catT pins s σ H x y v u Q I rx ry) (op_cat0 pins s σ H x y v u Q I rx ry)
section
variable {prog:Program} {w:World} {A:Around} {E:Value -> Shared -> Prop} {s:Shared}
end
theorem vals_intsA {vs:List Value} {ns:List Int} (h:IntsAre vs ns):Vals (ns.map V.int) vs:=by
  induction h with
  | nil=>exact .nil
  | cons n t r ih=>exact .cons ⟨t,rfl⟩ ih
end
end L2
namespace L2.VL
open PySem PySem.Spec PyProof.Rows
section
variable {X:Cx} {rl:RlT} {a b c e:Expr} {es:List Expr} {fa fb fc:TV} {fs:TVs} {pos p p2:Pos}
noncomputable def gCatA:W -> W -> (W -> Prop) -> Prop:=fun x y Q=>∃ xs ys,x = .d (.tuple xs) /\ y = .d (.tuple ys) /\ xs.length + ys.length <= sizeLine /\ Q (.d (.tuple (xs ++ ys)))
theorem vo_catA:VOp X rl (rCatA X.K) gCatA:=fun {F H x y wx wy} Qd Q s ra r1 r2 q k=>by
  obtain ⟨xs,ys,rfl,rfl,hz,q⟩:=q
  by_cases hx:xs = []
  · subst hx
    cases (show Rep X.K F x (.tuple []) from r1) with
    | @tup a vs _ sq rs =>
      cases rs
      cases (show Rep X.K F y (.tuple ys) from r2) with
      | @tup b us _ sq2 rs2=>exact .inr ⟨a,b,us,rfl,rfl,sameT s sq,sameT s sq2,k _ (.d (.tuple ys)) _ _ (Grow.refl s ra) (.tup sq2 rs2) trivial q⟩
  · exact .inl (vo_catT Qd Q s ra r1 r2 ⟨xs,ys,rfl,rfl,hx,hz,q⟩ k)
theorem v_catA (ha:PV X rl a fa) (hb:PV X rl b fb):PV X rl (.BinOp a .Add b pos) (vOp gCatA fa fb):=pv_op op_catA vo_catA ha hb
theorem reps_int {K:W.Frag} {F:Hp}:∀ {vs:List V} {ns:List Int},Reps K F vs (ns.map .int) -> vs = ns.map V.int
  | _,[],h=>h.nil_iff
  | _,n :: ns,.cons h r=>by rw [rep_int h,reps_int r]; rfl
theorem int_reps {K:W.Frag} {F:Hp}:∀ {ns:List Int},Reps K F (ns.map V.int) (ns.map .int)
  | []=>.nil
  | n :: ns=>.cons (.int n) int_reps
end
end L2.VL

namespace L2.TO
open PySem PySem.Spec PyProof.Rows
section
variable {prog:Program} {w:World} {A:Around} {E:Value -> Shared -> Prop} {s:Shared}
end
end L2.TO
namespace L2
open PySem PySem.Spec PyProof.Rows
section
variable {X:Cx} {a b e:Expr} {ta:TA} {te:TE} {p p2 q pos pos2:Pos}
end
end L2
namespace L2.VL
open PySem PySem.Spec PyProof.Rows
section
variable {X:Cx} {rl:RlT} {a b c e:Expr} {es:List Expr} {fa fb fc:TV} {fs:TVs} {pos pos2 p q p2:Pos}
end
end L2.VL

namespace L2.TW
open PySem PySem.Spec PyProof.Rows
section
variable {prog:Program} {w:World} {A:Around} {E:Value -> Shared -> Prop} {s:Shared}
end
end L2.TW
namespace L2
open PySem PySem.Spec PyProof.Rows
section
variable {X:Cx}
end
end L2
namespace L2.VL
open PySem PySem.Spec PyProof.Rows
section
variable {X:Cx} {rl:RlT} {a b c e:Expr} {es:List Expr} {fa fb fc:TV} {fs:TVs} {pos p p2:Pos}
end
end L2.VL

namespace L2
open PySem PySem.Spec PyProof.Rows
abbrev tabD (D:List (Str × Int)):List (PyData × PyData):=(D.map fun q=>(q.1,PyData.int q.2)).map fun q=>(PyData.str q.1,q.2)
section
variable {X:Cx} {e:Expr} {ty:TE} {px apos cpos:Pos}
end
end L2
namespace L2.VL
open PySem PySem.Spec PyProof.Rows
section
variable {X:Cx} {rl:RlT} {a b c e:Expr} {es:List Expr} {fa fb fc:TV} {fs:TVs} {pos p p2 px apos cpos:Pos}
end
end L2.VL

set_option exponentiation.threshold 10000
namespace L2.VL
open PySem PySem.Spec PyProof.Rows
noncomputable def lowD (a b:Int):PyData:=.tuple [.int (a.fdiv (Int.gcd a b)),.int (b.fdiv (Int.gcd a b))]
theorem gcd_div {a b:Int} (hb : 0 < b) (z:b.natAbs < 2 ^ 8000) (i:Int):CDivB i (Int.gcd a b:Int):=by
  have h1:=gcd_pos (a:=a) (b:=b) (by omega)
  have h2:=gcd_le (a:=a) (b:=b) (by omega)
  exact ⟨by omega,Nat.lt_of_le_of_lt (by omega) (Nat.lt_of_lt_of_le z (Nat.pow_le_pow_right (by decide) (by decide)))⟩
end L2.VL
namespace L2.VL
open PySem PySem.Spec PyProof.Rows
noncomputable def GoodB (bs:List Int):Prop:=bs.length = 4 /\ (∀ b ∈ bs,2 <= b /\ b <= 16) /\ bs.Pairwise fun x y=>Int.gcd x y = 1
instance (bs:List Int):Decidable (GoodB bs):=by unfold GoodB; infer_instance
theorem sIx_int {n d:Nat} {k:Int} (h : 0 <= k):HT.sIx n d (some k) = min k.toNat n:=by
  obtain ⟨m,rfl⟩:=Int.eq_ofNat_of_zero_le h
  exact HT.sIx_nat n d m
theorem cut_from {xs:List PyData} {k:Int} (h : 0 <= k):cutD xs (some k) none = xs.drop k.toNat:=by
  unfold cutD
  rw [sIx_int h,HT.sIx_none]
  by_cases hk:k.toNat <= xs.length
  · rw [Nat.min_eq_left hk]
    exact List.take_of_length_le (by simp)
  · rw [Nat.min_eq_right (by omega),List.drop_length,List.drop_of_length_le (by omega)]
    simp
theorem cut_to {xs:List PyData} {k:Int} (h : 0 <= k):cutD xs none (some k) = xs.take k.toNat:=by
  unfold cutD
  rw [sIx_int h,HT.sIx_none,List.drop_zero,Nat.sub_zero]
  by_cases hk:k.toNat <= xs.length
  · rw [Nat.min_eq_left hk]
  · rw [Nat.min_eq_right (by omega),List.take_of_length_le (Nat.le_refl _),List.take_of_length_le (by omega)]
end L2.VL
namespace L2.VL
open PySem PySem.Spec PyProof.Rows
noncomputable def pr (a b:Int):PyData:=.tuple [.int a,.int b]
end L2.VL
namespace L2.VL
open PySem PySem.Spec PyProof.Rows
end L2.VL
namespace L2.VL
open PySem PySem.Spec PyProof.Rows
end L2.VL
namespace L2.VL
open PySem PySem.Spec PyProof.Rows
end L2.VL
namespace L2.VL
open PySem PySem.Spec PyProof.Rows
end L2.VL
namespace L2.VL
open PySem PySem.Spec PyProof.Rows
end L2.VL
namespace L2.VL
open PySem PySem.Spec PyProof.Rows
theorem GlK.pair {K:W.Frag} {x:Str} {a b:Int} {p:Addr} {sl:Array (Option Value)} {t u:Tok} {n:Nat} (h1:W.nsIn K mainGlobals x = some (some (.ref p)))
    (h2:K.lookup p = some ⟨.type "tuple", none,.seq #[.int a t,.int b u] n,sl⟩):GlK K x (pr a b):=by
  refine ⟨.ref p,.ref p,h1,rfl,fun F=>.tup (vs:=[.int a,.int b]) (.inr ⟨_,_,n,h2,rfl,rfl,(by show 2 <= sizeLine; decide),.cons ⟨t,rfl⟩ (.cons ⟨u,rfl⟩ .nil),rfl⟩) (.cons (.int a) (.cons (.int b) .nil))⟩
end L2.VL

set_option exponentiation.threshold 10000
namespace L2.VL
open PySem PySem.Spec PyProof.Rows
noncomputable def stepT (b:Int) (p:List Int) (t:Int) (a:Nat):Int:=t * b + p.getD a 0
end L2.VL
namespace L2.VL
open PySem PySem.Spec PyProof.Rows
end L2.VL
namespace L2.VL
open PySem PySem.Spec PyProof.Rows
end L2.VL

namespace L2.VL
open PySem PySem.Spec PyProof.Rows
section
variable {P:Program} {w:World} {K:W.Frag} {mg:Str -> Option Value} {base:Heap} {rl:RlT} {x:Str} {st:Stmt} {N ps:List Str} {k:Nat} {Pd:List W -> (List PyData -> Prop) -> Prop} {t:TSv}
end
section
variable {X:Cx} {rl:RlT} {a b c e:Expr} {es:List Expr} {fa fb fc:TV} {fs:TVs} {pos p p2 px apos cpos:Pos}
end
end L2.VL

namespace L2.IX
open PySem PySem.Spec PyProof.Rows
section
variable {prog:Program} {w:World} {A:Around} {E:Value -> Shared -> Prop} {s:Shared}
end
end L2.IX
namespace L2
open PySem PySem.Spec PyProof.Rows
section
variable {X:Cx}
end
end L2
namespace L2.VL
open PySem PySem.Spec PyProof.Rows
section
variable {X:Cx} {rl:RlT} {a b c e:Expr} {es:List Expr} {fa fb fc:TV} {fs:TVs} {pos p p2 px apos cpos:Pos}
noncomputable def isNonD:PyData -> Bool
  | .none=>true
  | _=>false
noncomputable def gRepL:W -> W -> (W -> Prop) -> Prop:=fun x y Q=>∃ xs k,x.dat = some (.list xs) /\ y = .d (.int k) /\ -(2 ^ 63) <= k /\ k < 2 ^ 63 /\ xs.length * k.toNat <= sizeLine /\ Q (.ml (List.replicate k.toNat xs).flatten)
theorem repsL {K:W.Frag} {F:Hp} {vs:List V} {ds:List PyData} (r:Reps K F vs ds):∀ n:Nat,Reps K F (List.replicate n vs).flatten (List.replicate n ds).flatten
  | 0=>.nil
  | n + 1=>by rw [List.replicate_succ,List.replicate_succ,List.flatten_cons,List.flatten_cons]; exact r.append (repsL r n)
theorem vo_repL:VOp X rl rRep gRepL:=fun {F H x y wx wy} Qd Q s ra r1 r2 q k=>by
  obtain ⟨xs,n,e1,rfl,h1,h2,hz,q⟩:=q
  have ey:=rep_int r2
  subst ey
  obtain ⟨a,vs,rfl,hh,rs⟩:=r1.lst s e1
  refine ⟨a,n,vs,rfl,rfl,hh,h1,h2,by rw [rs.length]; exact hz,fun p hp=>?_⟩
  exact k _ (.ml _) _ _ (Grow.laid s ra hp) (own_laid s ra hp (repsL rs n.toNat)) (fun a ea=>by cases ea; exact hp) q
theorem v_repL (ha:PV X rl a fa) (hb:PV X rl b fb):PV X rl (.BinOp a .Mult b pos) (vOp gRepL fa fb):=pv_op op_rep vo_repL ha hb
noncomputable def vRetO (i:Nat):TSv:=fun D ρ=>∃ xs,ρ[i]? = some (some (.ml xs)) /\ D.rt (.ml xs)
theorem vs_retO (i:Nat) {x:Str} (hN:X.N[i]? = some x:=by rfl) (hv:Vis X.env.scope x:=by first | exact Or.inl rfl | exact Or.inr (Or.inl rfl) | exact Or.inr (Or.inr rfl))
    (hd:(x == ("__debug__" : Str)) = false:=by decide) (hcd:(x == ("__classdict__" : Str)) = false:=by decide):PSV X rl (.Return (some (.Name x px)) pos) (vRetO i) :=
  ⟨_,ps_ret (pe_var hN hv hd hcd),fun R Dv D ok ⟨xs,e,q⟩=>by
    obtain ⟨v,h1,h2,h3⟩:=R.sl i _ e
    exact ⟨v,h1,ok.rt v (.ml xs) _ _ R.g h2 h3 q⟩⟩
end
end L2.VL

namespace L2.ZP
open PySem PySem.Spec PyProof.Rows
section
variable {prog:Program} {w:World} {A:Around} {E:Value -> Shared -> Prop} {s:Shared} {it a:Addr} {k:Nat} {xs:Array Value} {v:Value}
end
section
variable {prog:Program} {w:World} {A:Around} {E:Value -> Shared -> Prop} {s:Shared} {it a:Addr} {k:Nat} {xs:Array Value} {v:Value}
end
end L2.ZP
namespace L2.ZP
open PySem PySem.Spec PyProof.Rows
section
variable {prog:Program} {w:World} {A:Around} {E:Value -> Shared -> Prop} {s:Shared} {z ti to i1 i2 a1 a2:Addr} {k1 k2:Nat} {xs ys:Array Value} {x y p q:Value}
end
end L2.ZP
namespace L2.ZP
open PySem PySem.Spec PyProof.Rows
noncomputable def itc (b:Bool):String:=bif b then "tuple_iterator" else "list_iterator"
section
variable {prog:Program} {w:World} {A:Around} {E:Value -> Shared -> Prop} {s:Shared} {b b1 b2:Bool} {a a1 a2:Addr} {xs ys:Array Value}
abbrev y1 (h:Heap) (b1:Bool) (a1:Addr):Heap:=h.push { cls:=.type (itc b1),data:=.fields #[.ref a1,.int 0 0] }
abbrev y2 (h:Heap) (b1 b2:Bool) (a1 a2:Addr):Heap:=(y1 h b1 a1).push { cls:=.type (itc b2),data:=.fields #[.ref a2,.int 0 0] }
abbrev y3 (h:Heap) (b1 b2:Bool) (a1 a2:Addr):Heap:=(y2 h b1 b2 a1 a2).push { cls:=.type "tuple", data:=.seq #[.ref h.objs.size,.ref (y1 h b1 a1).objs.size] }
abbrev y4 (h:Heap) (b1 b2:Bool) (a1 a2:Addr):Heap:=(y3 h b1 b2 a1 a2).push { cls:=.type "tuple", data:=.seq #[.none,.none] }
abbrev y5 (h:Heap) (b1 b2:Bool) (a1 a2:Addr):Heap:=(y4 h b1 b2 a1 a2).push { cls:=.type "zip", data:=.fields #[.none,.bool false,.bool false,.ref (y2 h b1 b2 a1 a2).objs.size,.ref (y3 h b1 b2 a1 a2).objs.size] }
end
end L2.ZP
namespace L2
open PySem PySem.Spec PyProof.Rows L2.ZP
end L2

namespace L2
open PySem PySem.Spec PyProof.Rows L2.ZP
section
variable {X:Cx} {e1 e2:Expr} {ta:TA} {elts:List Expr} {kt:Nat} {pt p pos:Pos}
end
end L2
namespace L2.VL
open PySem PySem.Spec PyProof.Rows
section
variable {X:Cx} {rl:RlT} {a b:Expr} {elts:List Expr} {kt:Nat} {pt p pos:Pos} {fs:TVs}
noncomputable def zipD (xs ys:List PyData):List PyData:=List.zipWith (fun x y=>.tuple [x,y]) xs ys
noncomputable def kindB:PyData -> Bool
  | .tuple _=>true
  | _=>false
end
end L2.VL

namespace L2.VL
open PySem PySem.Spec PyProof.Rows
theorem nr {α:Sort u} {a b : α} (h:a = b):a = b:=h
abbrev Mo (α:Type):=(α -> Prop) -> Prop
noncomputable def ret {α:Type} (a : α):Mo α:=fun Q=>Q a
noncomputable def bnd {α β:Type} (m:Mo α) (f : α -> Mo β):Mo β:=fun Q=>m fun a=>f a Q
noncomputable def grd {α:Type} (P:Prop) (m:Mo α):Mo α:=fun Q=>P /\ m Q
noncomputable def stk {α:Type}:Mo α:=fun _=>False
noncomputable def anyM {α:Type} (P : α -> Prop):Mo α:=fun Q=>∀ a,P a -> Q a
noncomputable def optM {α β:Type} (o:Option α) (f : α -> Mo β):Mo β:=match o with
  | some a=>f a
  | none=>stk
section
variable {α β γ:Type}
theorem bnd_ret (a : α) (f : α -> Mo β):bnd (ret a) f = f a:=nr rfl
theorem bnd_bnd (m:Mo α) (f : α -> Mo β) (g : β -> Mo γ):bnd (bnd m f) g = bnd m fun a=>bnd (f a) g:=nr rfl
theorem bnd_grd (P:Prop) (m:Mo α) (f : α -> Mo β):bnd (grd P m) f = grd P (bnd m f):=nr rfl
theorem bnd_stk (f : α -> Mo β):bnd stk f = stk:=nr rfl
theorem bnd_ite (c:Prop) [Decidable c] (a b:Mo α) (f : α -> Mo β):bnd (if c then a else b) f = if c then bnd a f else bnd b f:=by split <;> rfl
theorem bnd_opt (o:Option α) (k : α -> Mo β) (f : β -> Mo γ):bnd (optM o k) f = optM o fun a=>bnd (k a) f:=by cases o <;> rfl
theorem opt_some (a : α) (k : α -> Mo β):optM (some a) k = k a:=nr rfl
theorem opt_none (k : α -> Mo β):optM none k = stk:=nr rfl
theorem grd_t {P:Prop} (h:P) (m:Mo α):grd P m = m:=by funext Q; exact propext ⟨fun z=>z.2,fun z=>⟨h,z⟩⟩
theorem grd_T (m:Mo α):grd True m = m:=grd_t trivial m
theorem ite_ap (c:Prop) [Decidable c] (a b:Mo α) (Q : α -> Prop):(if c then a else b) Q = if c then a Q else b Q:=by split <;> rfl
theorem mo_ext {m n:Mo α} (h:∀ Q,m Q ↔ n Q):m = n:=funext fun Q=>propext (h Q)
end
noncomputable def asI:W -> Option Int
  | .d (.int i)=>some i
  | _=>none
noncomputable def asB:W -> Option Bool
  | .d (.bool b)=>some b
  | _=>none
noncomputable def asS:W -> Option Str
  | .d (.str b)=>some b
  | _=>none
noncomputable def asD:W -> Option PyData
  | .d x=>some x
  | _=>none
noncomputable def lstD:PyData -> Option (List PyData)
  | .list xs=>some xs
  | _=>none
noncomputable def tupD:PyData -> Option (List PyData)
  | .tuple xs=>some xs
  | _=>none
noncomputable def asL (w:W):Option (List PyData):=w.dat.bind lstD
noncomputable def asT (w:W):Option (List PyData):=(asD w).bind tupD
noncomputable def asQ (w:W):Option (List PyData):=w.dat.bind seqD
noncomputable def toI:W -> Option Int
  | .d (.int i)=>some i
  | .d (.bool b)=>some (if b then 1 else 0)
  | _=>none
noncomputable def isiT:W -> Option String
  | .vv (.ty T)=>some T
  | _=>none
noncomputable def blsD:List PyData -> Option (List Bool)
  | []=>some []
  | .bool b :: r=>(blsD r).map (b :: ·)
  | _=>none
noncomputable def intsD:List PyData -> Option (List Int)
  | []=>some []
  | .int b :: r=>(intsD r).map (b :: ·)
  | _=>none
theorem blsD_map:∀ bs:List Bool,blsD (bs.map .bool) = some bs
  | []=>rfl
  | b :: bs=>by show (blsD (bs.map .bool)).map (b :: ·) = _; rw [blsD_map bs]; rfl
theorem intsD_map:∀ bs:List Int,intsD (bs.map .int) = some bs
  | []=>rfl
  | b :: bs=>by show (intsD (bs.map .int)).map (b :: ·) = _; rw [intsD_map bs]; rfl
theorem intsD_of:∀ {xs:List PyData} {bs:List Int},intsD xs = some bs -> xs = bs.map .int
  | [],bs,h=>by cases h; rfl
  | .int b :: r,bs,h=>by
    have h:(intsD r).map (b :: ·) = some bs:=h
    cases q:intsD r with
    | none=>rw [q] at h; cases h
    | some cs=>rw [q] at h; cases h; rw [intsD_of q]; rfl
  | .none :: _,_,h=>by cases h
  | .bool _ :: _,_,h=>by cases h
  | .str _ :: _,_,h=>by cases h
  | .list _ :: _,_,h=>by cases h
  | .tuple _ :: _,_,h=>by cases h
  | .dict _ :: _,_,h=>by cases h
theorem asI_d (i:Int):asI (.d (.int i)) = some i:=rfl
theorem asB_d (i:Bool):asB (.d (.bool i)) = some i:=rfl
theorem asS_d (i:Str):asS (.d (.str i)) = some i:=rfl
theorem asD_d (i:PyData):asD (.d i) = some i:=rfl
theorem asT_d (x:PyData):asT (.d x) = tupD x:=rfl
theorem asL_d (x:PyData):asL (.d x) = lstD x:=rfl
theorem asL_ml (x:List PyData):asL (.ml x) = some x:=rfl
theorem asL_pk (x:List PyData):asL (.pk x) = some x:=rfl
theorem asQ_d (x:PyData):asQ (.d x) = seqD x:=rfl
theorem asQ_ml (x:List PyData):asQ (.ml x) = some x:=rfl
theorem asQ_pk (x:List PyData):asQ (.pk x) = some x:=rfl
theorem lstD_l (x:List PyData):lstD (.list x) = some x:=rfl
theorem tupD_t (x:List PyData):tupD (.tuple x) = some x:=rfl
theorem toI_i (i:Int):toI (.d (.int i)) = some i:=rfl
theorem toI_b (i:Bool):toI (.d (.bool i)) = some (if i then 1 else 0):=rfl
theorem isiT_t (T:String):isiT (.vv (.ty T)) = some T:=rfl
theorem asI_of {w:W} {i:Int}:asI w = some i ↔ w = .d (.int i):=by
  constructor
  · intro h; unfold asI at h; split at h <;> simp_all
  · rintro rfl; rfl
theorem asB_of {w:W} {i:Bool}:asB w = some i ↔ w = .d (.bool i):=by
  constructor
  · intro h; unfold asB at h; split at h <;> simp_all
  · rintro rfl; rfl
theorem asS_of {w:W} {i:Str}:asS w = some i ↔ w = .d (.str i):=by
  constructor
  · intro h; unfold asS at h; split at h <;> simp_all
  · rintro rfl; rfl
theorem asD_of {w:W} {i:PyData}:asD w = some i ↔ w = .d i:=by
  constructor
  · intro h; unfold asD at h; split at h <;> simp_all
  · rintro rfl; rfl
theorem isiT_of {w:W} {i:String}:isiT w = some i ↔ w = .vv (.ty i):=by
  constructor
  · intro h; unfold isiT at h; split at h <;> simp_all
  · rintro rfl; rfl
theorem lstD_of {w:PyData} {i:List PyData}:lstD w = some i ↔ w = .list i:=by
  constructor
  · intro h; unfold lstD at h; split at h <;> simp_all
  · rintro rfl; rfl
theorem tupD_of {w:PyData} {i:List PyData}:tupD w = some i ↔ w = .tuple i:=by
  constructor
  · intro h; unfold tupD at h; split at h <;> simp_all
  · rintro rfl; rfl
theorem asT_of {w:W} {i:List PyData}:asT w = some i ↔ w = .d (.tuple i):=by
  constructor
  · intro h
    unfold asT at h
    cases q:asD w with
    | none=>rw [q] at h; cases h
    | some x=>rw [q] at h; rw [asD_of.mp q,tupD_of.mp h]
  · rintro rfl; rfl
theorem asL_of {w:W} {i:List PyData}:asL w = some i ↔ w.dat = some (.list i):=by
  unfold asL
  constructor
  · intro h
    cases q:w.dat with
    | none=>rw [q] at h; cases h
    | some x=>rw [q] at h; rw [lstD_of.mp h]
  · intro h; rw [h]; rfl
theorem opt_iff {α β:Type} {o:Option α} {k : α -> Mo β} {Q : β -> Prop}:optM o k Q ↔ ∃ a,o = some a /\ k a Q:=by
  cases o with
  | none=>exact ⟨fun z=>z.elim,fun ⟨_,z,_⟩=>by cases z⟩
  | some a=>exact ⟨fun z=>⟨a,rfl,z⟩,fun ⟨_,e,z⟩=>by cases e; exact z⟩
section
variable {fa fb fc:TV} {fs:TVs} {f g:TB} {ρ:En} {t u:TSv}
theorem m_vC (x:PyData):vC x ρ = ret (.d x):=nr rfl
theorem m_vVar (i:Nat):vVar i ρ = optM ((ρ[i]?).join) fun w=>ret w.peek:=by
  refine mo_ext fun Q=>?_
  rw [opt_iff]
  constructor
  · rintro ⟨w,e,q⟩; exact ⟨w,by rw [e]; rfl,q⟩
  · rintro ⟨w,e,q⟩
    refine ⟨w,?_,q⟩
    cases h : ρ[i]? with
    | none=>rw [h] at e; cases e
    | some o=>rw [h] at e; cases o with
      | none=>cases e
      | some x=>cases e; rfl
theorem m_vNil:vNil ρ = ret []:=nr rfl
theorem m_vCons {f:TV}:vCons f fs ρ = bnd (f ρ) fun w=>bnd (fs ρ) fun ws=>ret (w.fz :: ws):=nr rfl
theorem m_vOp (h:W -> W -> (W -> Prop) -> Prop):vOp h fa fb ρ = bnd (fa ρ) fun x=>bnd (fb ρ) fun y=>h x y:=nr rfl
theorem m_gI (C:Int -> Int -> Prop) (h:Int -> Int -> PyData) (x y:W):gI C h x y = optM (asI x) fun i=>optM (asI y) fun j=>grd (C i j) (ret (.d (h i j))):=by
  refine mo_ext fun Q=>?_
  simp only [opt_iff,asI_of,gI,grd,ret]
  exact ⟨fun ⟨i,j,a,b,c,q⟩=>⟨i,a,j,b,c,q⟩,fun ⟨i,a,j,b,c,q⟩=>⟨i,j,a,b,c,q⟩⟩
theorem m_gI0 (h:Int -> Int -> PyData) (x y:W):gI0 h x y = optM (asI x) fun i=>optM (asI y) fun j=>ret (.d (h i j)):=by
  refine mo_ext fun Q=>?_
  simp only [opt_iff,asI_of,gI0,ret]
  exact ⟨fun ⟨i,j,a,b,q⟩=>⟨i,a,j,b,q⟩,fun ⟨i,a,j,b,q⟩=>⟨i,j,a,b,q⟩⟩
theorem m_vNeg:vNeg fa ρ = bnd (fa ρ) fun x=>optM (asI x) fun i=>ret (.d (.int (-i))):=by
  refine mo_ext fun Q=>?_
  simp only [vNeg,bnd,opt_iff,asI_of,ret]
theorem m_vTest {f:TV}:vTest f ρ = bnd (f ρ) fun w=>optM (asB w) ret:=by
  refine mo_ext fun Q=>?_
  simp only [vTest,bnd,opt_iff,asB_of,ret]
theorem m_gEqD (neg:Bool) (x y:W):gEqD neg x y = optM x.dat fun dx=>optM y.dat fun dy=>grd (SeqAt.shaped dx = true) (grd (SeqAt.shaped dy = true) (ret (.d (.bool (if neg then !PyData.eqv dx dy else PyData.eqv dx dy))))):=by
  refine mo_ext fun Q=>?_
  simp only [opt_iff,gEqD,grd,ret]
  exact ⟨fun ⟨i,j,a,b,c,d,q⟩=>⟨i,a,j,b,c,d,q⟩,fun ⟨i,a,j,b,c,d,q⟩=>⟨i,j,a,b,c,d,q⟩⟩
theorem m_vAnd:vAnd f g ρ = bnd (f ρ) fun b=>if b = true then g ρ else ret false:=by
  refine mo_ext fun Q=>?_
  simp only [vAnd,bnd,ite_ap,ret]
theorem m_vOr:vOr f g ρ = bnd (f ρ) fun b=>if b = true then ret true else g ρ:=by
  refine mo_ext fun Q=>?_
  simp only [vOr,bnd,ite_ap,ret]
theorem m_vNot:vNot f ρ = bnd (f ρ) fun b=>ret (!b):=nr rfl
theorem m_vOrV:vOrV fa fb ρ = bnd (fa ρ) fun w=>optM (asB w) fun b=>if b = true then ret (.d (.bool true)) else fb ρ:=by
  refine mo_ext fun Q=>?_
  simp only [vOrV,bnd,opt_iff,asB_of,ite_ap,ret]
theorem m_vIf {t:TB}:vIf t fa fb ρ = bnd (t ρ) fun c=>if c = true then fa ρ else fb ρ:=by
  refine mo_ext fun Q=>?_
  simp only [vIf,bnd,ite_ap]
theorem m_vTup:vTup fs ρ = bnd (fs ρ) fun ws=>optM (dats ws) fun ds=>grd (ds.length <= sizeLine) (ret (.d (.tuple ds))):=by
  refine mo_ext fun Q=>?_
  simp only [vTup,bnd,opt_iff,grd,ret]
theorem m_vLst:vLst fs ρ = bnd (fs ρ) fun ws=>optM (dats ws) fun ds=>grd (ds.length <= sizeLine) (ret (.ml ds)):=by
  refine mo_ext fun Q=>?_
  simp only [vLst,bnd,opt_iff,grd,ret]
theorem m_gIx (x y:W):gIx x y = optM x.dat fun dx=>optM (asI y) fun i=>optM (itemAt dx i) fun z=>ret (.d z):=by
  refine mo_ext fun Q=>?_
  simp only [gIx,opt_iff,asI_of,ret]
  exact ⟨fun ⟨i,j,z,a,b,c,q⟩=>⟨i,a,j,b,z,c,q⟩,fun ⟨i,a,j,b,z,c,q⟩=>⟨i,j,z,a,b,c,q⟩⟩
theorem m_vCall (h:List W -> (W -> Prop) -> Prop):vCall h fs ρ = bnd (fs ρ) h:=nr rfl
theorem m_gAbs (w:W):gAbs [w] = optM (asI w) fun i=>ret (.d (.int (if i < 0 then -i else i))):=by
  refine mo_ext fun Q=>?_
  simp only [gAbs,opt_iff,asI_of,ret,List.cons.injEq,and_true]
theorem m_gLen (w:W):gLen [w] = optM w.dat fun d=>optM (lenD d) fun n=>ret (.d (.int n)):=by
  refine mo_ext fun Q=>?_
  simp only [gLen,opt_iff,ret,List.cons.injEq,and_true]
  exact ⟨fun ⟨w',d,n,e,a,b,q⟩=>by subst e; exact ⟨d,a,n,b,q⟩,fun ⟨d,a,n,b,q⟩=>⟨w,d,n,rfl,a,b,q⟩⟩
theorem m_gRepr (w:W):gRepr [w] = optM w.dat fun d=>grd (Shw d) (ret (.d (.str d.shown))):=by
  refine mo_ext fun Q=>?_
  simp only [gRepr,opt_iff,ret,grd,List.cons.injEq,and_true]
  exact ⟨fun ⟨w',d,e,a,b,q⟩=>by subst e; exact ⟨d,a,b,q⟩,fun ⟨d,a,b,q⟩=>⟨w,d,rfl,a,b,q⟩⟩
theorem m_gIsi (w v:W):gIsi [w,v] = optM w.dat fun d=>optM (isiT v) fun T=>grd (tyOk T = true) (ret (.d (.bool (isiD d T)))):=by
  refine mo_ext fun Q=>?_
  simp only [gIsi,opt_iff,isiT_of,ret,grd,List.cons.injEq,and_true]
  exact ⟨fun ⟨w',d,T,⟨e,e'⟩,a,b,q⟩=>by subst e; exact ⟨d,a,T,e',b,q⟩,fun ⟨d,a,T,e',b,q⟩=>⟨w,d,T,⟨rfl,e'⟩,a,b,q⟩⟩
theorem m_gTupO (w:W):gTupO [w] = optM (asQ w) fun xs=>ret (.d (.tuple xs)):=by
  refine mo_ext fun Q=>?_
  simp only [gTupO,opt_iff,ret,List.cons.injEq,and_true]
  constructor
  · rintro ⟨w',d,xs,e,a,b,q⟩; subst e; exact ⟨xs,by unfold asQ; rw [a]; exact b,q⟩
  · rintro ⟨xs,e,q⟩
    unfold asQ at e
    cases h:w.dat with
    | none=>rw [h] at e; cases e
    | some d=>rw [h] at e; exact ⟨w,d,xs,rfl,h,e,q⟩
theorem m_gLstO (w:W):gLstO [w] = optM (asQ w) fun xs=>ret (.ml xs):=by
  refine mo_ext fun Q=>?_
  simp only [gLstO,opt_iff,ret,List.cons.injEq,and_true]
  constructor
  · rintro ⟨w',d,xs,e,a,b,q⟩; subst e; exact ⟨xs,by unfold asQ; rw [a]; exact b,q⟩
  · rintro ⟨xs,e,q⟩
    unfold asQ at e
    cases h:w.dat with
    | none=>rw [h] at e; cases e
    | some d=>rw [h] at e; exact ⟨w,d,xs,rfl,h,e,q⟩
theorem m_oNo:oNo ρ = ret none:=nr rfl
theorem m_oIt:oIt fa ρ = bnd (fa ρ) fun w=>optM (asI w) fun i=>ret (some i):=by
  refine mo_ext fun Q=>?_
  simp only [oIt,bnd,opt_iff,asI_of,ret]
theorem m_vSlL {fl fh:TOv}:vSlL fa fl fh ρ = bnd (fa ρ) fun w=>bnd (fl ρ) fun l=>bnd (fh ρ) fun h=>optM (asL w) fun xs=>ret (.ml (cutD xs l h)):=by
  refine mo_ext fun Q=>?_
  simp only [vSlL,bnd,opt_iff,asL_of,ret]
theorem m_gCatD (x y:W):gCatD x y = optM (asL x) fun xs=>optM (asL y) fun ys=>grd (xs.length + ys.length <= sizeLine) (ret (.ml (xs ++ ys))):=by
  refine mo_ext fun Q=>?_
  simp only [gCatD,opt_iff,asL_of,grd,ret]
  exact ⟨fun ⟨i,j,a,b,c,q⟩=>⟨i,a,j,b,c,q⟩,fun ⟨i,a,j,b,c,q⟩=>⟨i,j,a,b,c,q⟩⟩
theorem m_gCatA (x y:W):gCatA x y = optM (asT x) fun xs=>optM (asT y) fun ys=>grd (xs.length + ys.length <= sizeLine) (ret (.d (.tuple (xs ++ ys)))):=by
  refine mo_ext fun Q=>?_
  simp only [gCatA,opt_iff,asT_of,grd,ret]
  exact ⟨fun ⟨i,j,a,b,c,q⟩=>⟨i,a,j,b,c,q⟩,fun ⟨i,a,j,b,c,q⟩=>⟨i,j,a,b,c,q⟩⟩
theorem m_vLR1:vLR1 fs ρ = bnd (fs ρ) fun ws=>optM (ws.head?.bind asI) fun j=>grd (ws.length = 1) (grd (-(2 ^ 62) <= j /\ j < 2 ^ 62) (grd (j.toNat <= 2 ^ 24) (ret (.ml (rangeD 0 j.toNat))))):=by
  show (bnd (fs ρ) fun ws=>fun (Q:W -> Prop)=>∃ j:Int,ws = [.d (.int j)] /\ (-(2 ^ 62) <= j /\ j < 2 ^ 62) /\ j.toNat <= 2 ^ 24 /\ Q (.ml (rangeD 0 j.toNat))) = _
  congr 1; funext ws
  refine mo_ext fun Q=>?_
  simp only [opt_iff,grd,ret]
  constructor
  · rintro ⟨j,rfl,a,b,q⟩; exact ⟨j,rfl,rfl,a,b,q⟩
  · rintro ⟨j,e,l,a,b,q⟩
    match ws,l with
    | [w],_=>rw [show w = .d (.int j) from asI_of.mp e]; exact ⟨j,rfl,a,b,q⟩
noncomputable def two (ws:List W):Option (Int × Int):=match ws with
  | [a,b]=>(asI a).bind fun i=>(asI b).map fun j=>(i,j)
  | _=>none
theorem two_d (a b:Int):two [.d (.int a),.d (.int b)] = some (a,b):=rfl
theorem m_iL:iL fa ρ = bnd (fa ρ) fun w=>optM ((asD w.fz).bind lstD) ret:=by
  show (bnd (fa ρ) fun w=>fun (Q:List PyData -> Prop)=>∃ xs,w.fz = .d (.list xs) /\ Q xs) = _
  congr 1; funext w
  refine mo_ext fun Q=>?_
  simp only [opt_iff,ret]
  constructor
  · rintro ⟨xs,e,q⟩; exact ⟨xs,by rw [e]; rfl,q⟩
  · rintro ⟨xs,e,q⟩
    cases h:asD w.fz with
    | none=>rw [h] at e; cases e
    | some x=>rw [h] at e; rw [asD_of.mp h,lstD_of.mp e]; exact ⟨xs,rfl,q⟩
theorem m_iT:iT fa ρ = bnd (fa ρ) fun w=>optM ((asD w.fz).bind tupD) ret:=by
  show (bnd (fa ρ) fun w=>fun (Q:List PyData -> Prop)=>∃ xs,w.fz = .d (.tuple xs) /\ Q xs) = _
  congr 1; funext w
  refine mo_ext fun Q=>?_
  simp only [opt_iff,ret]
  constructor
  · rintro ⟨xs,e,q⟩; exact ⟨xs,by rw [e]; rfl,q⟩
  · rintro ⟨xs,e,q⟩
    cases h:asD w.fz with
    | none=>rw [h] at e; cases e
    | some x=>rw [h] at e; rw [asD_of.mp h,tupD_of.mp e]; exact ⟨xs,rfl,q⟩
theorem m_iR1:iR1 fs ρ = bnd (fs ρ) fun ws=>optM (ws.head?.bind asI) fun j=>grd (ws.length = 1) (grd (-(2 ^ 62) <= j /\ j < 2 ^ 62) (ret (rangeD 0 j.toNat))):=by
  show (bnd (fs ρ) fun ws=>fun (Q:List PyData -> Prop)=>∃ j:Int,ws = [.d (.int j)] /\ (-(2 ^ 62) <= j /\ j < 2 ^ 62) /\ Q (rangeD 0 j.toNat)) = _
  congr 1; funext ws
  refine mo_ext fun Q=>?_
  simp only [opt_iff,grd,ret]
  constructor
  · rintro ⟨j,rfl,a,q⟩; exact ⟨j,rfl,rfl,a,q⟩
  · rintro ⟨j,e,l,a,q⟩
    match ws,l with
    | [w],_=>rw [show w = .d (.int j) from asI_of.mp e]; exact ⟨j,rfl,a,q⟩
noncomputable def zipO (b1 b2:Bool) (ws:List W):Option (List PyData):=match ws with
  | [.d x,.d y]=>if kindB x = b1 /\ kindB y = b2 then (seqD x).bind fun xs=>(seqD y).map fun ys=>zipD xs ys else none
  | _=>none
theorem m_vUse (Pd:List W -> (PyData -> Prop) -> Prop):vUse Pd fs ρ = bnd (fs ρ) fun ws=>grd (ws.all argOk = true) (bnd (Pd ws) fun d=>ret (.d d)):=nr rfl
theorem m_gRepL (x y:W):gRepL x y = optM (asL x) fun xs=>optM (asI y) fun k=>grd (-(2 ^ 63) <= k /\ k < 2 ^ 63 /\ xs.length * k.toNat <= sizeLine) (ret (.ml (List.replicate k.toNat xs).flatten)):=by
  refine mo_ext fun Q=>?_
  simp only [gRepL,opt_iff,asL_of,asI_of,grd,ret]
  exact ⟨fun ⟨i,j,a,b,c,d,e,q⟩=>⟨i,a,j,b,⟨c,d,e⟩,q⟩,fun ⟨i,a,j,b,⟨c,d,e⟩,q⟩=>⟨i,j,a,b,c,d,e,q⟩⟩
theorem m_gEqS (neg:Bool) (x y:W):gEqS neg x y = optM (asS x) fun i=>optM (asS y) fun j=>ret (.d (.bool (if neg then !decide (i = j) else decide (i = j)))):=by
  refine mo_ext fun Q=>?_
  simp only [opt_iff,asS_of,gEqS,ret]
  exact ⟨fun ⟨i,j,a,b,q⟩=>⟨i,a,j,b,q⟩,fun ⟨i,a,j,b,q⟩=>⟨i,j,a,b,q⟩⟩
end
inductive Fl where
  | nx (ρ:En) | rt (w:W) | bk (ρ:En) | ct (ρ:En)
noncomputable def mS (t:TSv) (ρ:En):Mo Fl:=fun Q=>t ⟨fun ρ=>Q (.nx ρ),fun w=>Q (.rt w),fun ρ=>Q (.bk ρ),fun ρ=>Q (.ct ρ)⟩ ρ
noncomputable def sq (m:Mo Fl) (k:En -> Mo Fl):Mo Fl:=bnd m fun fl=>match fl with
  | .nx ρ=>k ρ
  | .rt w=>ret (.rt w)
  | .bk ρ=>ret (.bk ρ)
  | .ct ρ=>ret (.ct ρ)
noncomputable def endQ (Q:PyData -> Prop):Fl -> Prop
  | .nx _=>Q .none
  | .rt w=>∃ d,w.fz = .d d /\ Q d
  | _=>False
section
variable {fa fb fc:TV} {fs:TVs} {f g:TB} {ρ:En} {t u:TSv} {k:En -> Mo Fl}
theorem read_of {Q:PyData -> Prop} (h:mS t ρ (endQ Q)):t (vEnds Q) ρ:=h
theorem end_d (Q:PyData -> Prop) (d:PyData):endQ Q (.rt (.d d)) = Q d:=propext ⟨fun ⟨_,e,q⟩=>by cases e; exact q,fun q=>⟨d,rfl,q⟩⟩
theorem end_ml (Q:PyData -> Prop) (d:List PyData):endQ Q (.rt (.ml d)) = Q (.list d):=propext ⟨fun ⟨_,e,q⟩=>by cases e; exact q,fun q=>⟨_,rfl,q⟩⟩
theorem end_nx (Q:PyData -> Prop) (ρ:En):endQ Q (.nx ρ) = Q .none:=nr rfl
theorem sq_nx:sq (ret (.nx ρ)) k = k ρ:=nr rfl
theorem sq_rt (w:W):sq (ret (.rt w)) k = ret (.rt w):=nr rfl
theorem sq_bk:sq (ret (.bk ρ)) k = ret (.bk ρ):=nr rfl
theorem sq_ct:sq (ret (.ct ρ)) k = ret (.ct ρ):=nr rfl
theorem sq_grd (P:Prop) (m:Mo Fl):sq (grd P m) k = grd P (sq m k):=nr rfl
theorem sq_stk:sq stk k = stk:=nr rfl
theorem sq_ite (c:Prop) [Decidable c] (a b:Mo Fl):sq (if c then a else b) k = if c then sq a k else sq b k:=by split <;> rfl
theorem sq_opt {α:Type} (o:Option α) (h : α -> Mo Fl):sq (optM o h) k = optM o fun a=>sq (h a) k:=by cases o <;> rfl
theorem s_next:mS vNext ρ = ret (.nx ρ):=nr rfl
theorem s_seq:mS (vSeq t u) ρ = sq (mS t ρ) (mS u):=by
  refine mo_ext fun Q=>?_
  show t ⟨fun ρ=>u ⟨_,_,_,_⟩ ρ,_,_,_⟩ ρ ↔ _
  exact Iff.rfl
theorem s_ret:mS (vRet fa) ρ = bnd (fa ρ) fun w=>ret (.rt w):=nr rfl
theorem s_ifS:mS (vIfS f t u) ρ = bnd (f ρ) fun b=>if b = true then mS t ρ else mS u ρ:=by
  refine mo_ext fun Q=>?_
  simp only [mS,vIfS,bnd,ite_ap]
theorem s_set (i:Nat):mS (vSet i fa) ρ = bnd (fa ρ) fun w=>grd (w.isPk = false) (ret (.nx (ρ.set i (some w)))):=nr rfl
theorem s_never:mS (fun _ _=>False) ρ = stk:=nr rfl
theorem m_hName (i:Nat) (x:PyData):hName i x ρ = ret (ρ.set i (some (.d x))):=nr rfl
theorem m_hNil (xs:List PyData):hNil xs ρ = grd (xs = []) (ret ρ):=nr rfl
theorem m_hCons {g:TGv} {gs:TGvs} (xs:List PyData):hCons g gs xs ρ = optM (match xs with | []=>none | y :: r=>some (y,r)) fun p=>bnd (g p.1 ρ) fun ρ'=>gs p.2 ρ':=by
  refine mo_ext fun Q=>?_
  simp only [opt_iff,hCons,bnd]
  constructor
  · rintro ⟨y,r,rfl,q⟩; exact ⟨(y,r),rfl,q⟩
  · rintro ⟨p,e,q⟩
    cases xs with
    | nil=>cases e
    | cons y r=>cases e; exact ⟨y,r,rfl,q⟩
theorem m_hCons_c {g:TGv} {gs:TGvs} (y:PyData) (r:List PyData):hCons g gs (y :: r) ρ = bnd (g y ρ) fun ρ'=>gs r ρ':=by rw [m_hCons]; rfl
theorem m_hNil_n:hNil [] ρ = ret ρ:=by rw [m_hNil,grd_t rfl]
theorem m_hTup (n:Nat) {gs:TGvs} (x:PyData):hTup n gs x ρ = optM (tupD x) fun xs=>grd (xs.length = n) (gs xs ρ):=by
  refine mo_ext fun Q=>?_
  simp only [opt_iff,tupD_of,hTup,grd]
theorem s_asg {g:TGv}:mS (vAsg fa g) ρ = bnd (fa ρ) fun w=>optM (asD w) fun x=>bnd (g x ρ) fun ρ'=>ret (.nx ρ'):=by
  refine mo_ext fun Q=>?_
  simp only [mS,vAsg,bnd,opt_iff,asD_of,ret]
theorem s_par (i j:Nat):mS (vPar i j fs) ρ = bnd (fs ρ) fun ws=>optM (dats ws) fun ds=>optM (match ds with | [x,y]=>some (x,y) | _=>none) fun p=>ret (.nx ((ρ.set i (some (.d p.1))).set j (some (.d p.2)))):=by
  show (bnd (fs ρ) fun ws=>fun (Q:Fl -> Prop)=>∃ x y,dats ws = some [x,y] /\ Q (.nx ((ρ.set i (some (.d x))).set j (some (.d y))))) = _
  congr 1; funext ws
  refine mo_ext fun Q=>?_
  simp only [opt_iff,ret]
  constructor
  · rintro ⟨x,y,e,q⟩; exact ⟨_,e,(x,y),rfl,q⟩
  · rintro ⟨ds,e,p,e2,q⟩
    split at e2
    · cases e2; exact ⟨_,_,e,q⟩
    · cases e2
noncomputable def slI (ρ:En) (i:Nat):Option Int:=((ρ[i]?).join).bind asI
noncomputable def asM:W -> Option (List PyData)
  | .ml xs=>some xs
  | _=>none
noncomputable def slM (ρ:En) (i:Nat):Option (List PyData):=((ρ[i]?).join).bind asM
theorem asM_ml (xs:List PyData):asM (.ml xs) = some xs:=rfl
theorem asM_of {w:W} {xs:List PyData}:asM w = some xs ↔ w = .ml xs:=by
  constructor
  · intro h; unfold asM at h; split at h <;> simp_all
  · rintro rfl; rfl
theorem slM_of {i:Nat} {xs:List PyData}:slM ρ i = some xs ↔ ρ[i]? = some (some (.ml xs)):=by
  unfold slM
  constructor
  · intro h
    cases q : ρ[i]? with
    | none=>rw [q] at h; cases h
    | some o=>rw [q] at h; cases o with
      | none=>cases h
      | some w=>rw [asM_of.mp h]
  · intro h; rw [h]; rfl
theorem slI_of {i:Nat} {n:Int}:slI ρ i = some n ↔ ρ[i]? = some (some (.d (.int n))):=by
  unfold slI
  constructor
  · intro h
    cases q : ρ[i]? with
    | none=>rw [q] at h; cases h
    | some o=>rw [q] at h; cases o with
      | none=>cases h
      | some w=>rw [asI_of.mp h]
  · intro h; rw [h]; rfl
theorem s_aug (i:Nat) (C:Int -> Int -> Prop) (h:Int -> Int -> Int):mS (vAug i C h fa) ρ = optM (slI ρ i) fun n=>bnd (fa ρ) fun w=>optM (asI w) fun m=>grd (C n m) (ret (.nx (ρ.set i (some (.d (.int (h n m))))))):=by
  refine mo_ext fun Q=>?_
  simp only [mS,vAug,bnd,opt_iff,slI_of,asI_of,grd,ret]
theorem s_frz (i:Nat):mS (vFrz i t) ρ = optM (slM ρ i) fun xs=>mS t (ρ.set i (some (.d (.list xs)))):=by
  refine mo_ext fun Q=>?_
  simp only [mS,vFrz,opt_iff,slM_of]
theorem s_mut (i:Nat) (h:List PyData -> List W -> (List PyData -> Prop) -> Prop):mS (vMut i h fs) ρ = optM (slM ρ i) fun xs=>bnd (fs ρ) fun ws=>bnd (h xs ws) fun ys=>ret (.nx (ρ.set i (some (.ml ys)))):=by
  refine mo_ext fun Q=>?_
  simp only [mS,vMut,bnd,opt_iff,slM_of,ret]
theorem m_gApp (xs:List PyData) (w:W):gApp xs [w] = optM (asD w) fun x=>grd (xs.length < sizeLine) (ret (xs ++ [x])):=by
  refine mo_ext fun Q=>?_
  simp only [gApp,opt_iff,asD_of,grd,ret]
  constructor
  · rintro ⟨x,e,a,q⟩
    cases w <;> first | (cases e; exact ⟨_,rfl,a,q⟩) | cases e
  · rintro ⟨x,rfl,a,q⟩; exact ⟨x,rfl,a,q⟩
theorem s_retO (i:Nat):mS (vRetO i) ρ = optM (slM ρ i) fun xs=>ret (.rt (.ml xs)):=by
  refine mo_ext fun Q=>?_
  simp only [mS,vRetO,opt_iff,slM_of,ret]
end
end L2.VL

namespace L2.VL
open PySem PySem.Spec PyProof.Rows
noncomputable def Le (a b:En):Prop:=a.length = b.length /\ ∀ (i:Nat) w,a[i]? = some (some w) -> b[i]? = some (some w)
theorem Le.refl (a:En):Le a a:=⟨rfl,fun _ _ h=>h⟩
theorem Le.trans {a b c:En} (h:Le a b) (h':Le b c):Le a c:=⟨h.1.trans h'.1,fun i w e=>h'.2 i w (h.2 i w e)⟩
theorem le_nil:Le [] [] = True:=propext ⟨fun _=>trivial,fun _=>Le.refl _⟩
theorem le_cn (x:Option W) (a b:En):Le (none :: a) (x :: b) = Le a b:=by
  refine propext ⟨fun h=>⟨by have:=h.1; simpa using this,fun i w e=>by have:=h.2 (i + 1) w (by simpa using e); simpa using this⟩,fun h=>⟨by simp [h.1],fun i w e=>?_⟩⟩
  cases i with
  | zero=>simp at e
  | succ i=>simpa using h.2 i w (by simpa using e)
theorem le_cs (x:Option W) (a b:En):Le (x :: a) (x :: b) = Le a b:=by
  refine propext ⟨fun h=>⟨by have:=h.1; simpa using this,fun i w e=>by have:=h.2 (i + 1) w (by simpa using e); simpa using this⟩,fun h=>⟨by simp [h.1],fun i w e=>?_⟩⟩
  cases i with
  | zero=>simpa using e
  | succ i=>simpa using h.2 i w (by simpa using e)
theorem VR.le {K:W.Frag} {rl:RlT} {F₀ H₀ F H:Hp} {σ:St} {ρ ρ0:En} (R:VR K rl F₀ H₀ F H σ ρ) (h:Le ρ0 ρ):VR K rl F₀ H₀ F H σ ρ0 :=
  ⟨R.g,fun i w e=>R.sl i w (h.2 i w e),fun i j x y v n e1 e2=>R.ap i j x y v n (h.2 i x e1) (h.2 j y e2),fun i xs e=>R.np i xs (h.2 i _ e),h.1.trans R.len⟩
noncomputable def fo:List Nat -> En -> En
  | [],ρ=>ρ
  | i :: l,ρ=>fo l (ρ.set i none)
theorem le_set (ρ:En) (i:Nat):Le (ρ.set i none) ρ:=by
  refine ⟨by simp,fun j w e=>?_⟩
  rw [List.getElem?_set] at e
  split at e
  · split at e
    · cases e
    · cases e
  · exact e
theorem le_fo:∀ (l:List Nat) (ρ:En),Le (fo l ρ) ρ
  | [],ρ=>Le.refl ρ
  | i :: l,ρ=>(le_fo l (ρ.set i none)).trans (le_set ρ i)
theorem fo_nil (ρ:En):fo [] ρ = ρ:=rfl
theorem fo_cons (i:Nat) (l:List Nat) (ρ:En):fo (i :: l) ρ = fo l (ρ.set i none):=rfl
noncomputable def vLoopF (fl:List Nat) (g:TGv) (t:TSv):List PyData -> TSv
  | [],D,ρ=>D.nx ρ
  | x :: xs,D,ρ=>g x ρ fun ρ2=>t { D with nx:=fun ρ'=>vLoopF fl g t xs D (fo fl ρ'),ct:=fun ρ'=>vLoopF fl g t xs D (fo fl ρ'),bk:=fun ρ'=>D.nx (fo fl ρ') } ρ2
noncomputable def vForF (fl:List Nat) (fi:En -> (List PyData -> Prop) -> Prop) (g:TGv) (t:TSv):TSv:=fun D ρ=>fi ρ fun xs=>vLoopF fl g t xs D (fo fl ρ)
section
variable {X:Cx} {rl:RlT} {st:Stmt} {rest body:List Stmt} {t u:TSv} {a b c e:Expr} {es:List Expr} {fa fb:TV} {fs:TVs} {f:TB} {pos p:Pos}
theorem vs_forF (fl:List Nat) {tg iter:Expr} {fi:En -> (List PyData -> Prop) -> Prop} {g:TGv} (hp:PassesOwn (model X.prog X.w) X.A X.env X.xe) (hc:X.calm = true) (hi:PIV X rl tg iter fi) (hg:PGV X rl tg g) (hb:PSsV X rl body t)
    (hs:∀ x,foldedSetIterable iter X.env x = pure x:=by intro _; rfl):PSV X rl (.For tg iter body [] pos) (vForF fl fi g t):=by
  obtain ⟨wi,p0,k0⟩:=hi
  obtain ⟨G,p1,k1⟩:=hg
  obtain ⟨T,p2,k2⟩:=hb
  refine ⟨_,ps_for hp hc p0 p1 p2 hs,fun {F₀ H₀ F H σ ρ} R Dv D ok q=>k0 R _ _ q fun J xs F1 H1 g1 vi q1=>?_⟩
  refine ⟨fun i m σ H=>m = xs.length - i /\ i <= xs.length /\ ∃ F ρ,Same F1 F /\ VR X.K rl F₀ H₀ F H σ ρ /\ vLoopF fl g t (xs.drop i) Dv ρ,⟨xs.length,by simp,Nat.zero_le _,F1,fo fl ρ,.refl _,(R.grow g1).le (le_fo fl ρ),by simpa using q1⟩,?_⟩
  rintro i m σ H ⟨rfl,hi,F2,ρ2,s2,R2,j2⟩
  have sH:Same F1 H:=s2.trans R2.sub
  by_cases hlt:i < xs.length
  · have ei:xs[i]? = some xs[i]:=by simp [hlt]
    rw [List.drop_eq_getElem_cons hlt] at j2
    refine .inr ⟨vi.go i H _ ei sH,fun σ' H'=>∃ F ρ,Same F1 F /\ VR X.K rl F₀ H₀ F H' σ' ρ /\ vLoopF fl g t (xs.drop (i + 1)) Dv ρ,fun σ' H' z=>⟨xs.length - (i + 1),by omega,rfl,hlt,z⟩,fun v H' y=>?_⟩
    obtain ⟨Fy,gy,rv⟩:=vi.yld i H v H' _ F2 ei s2 R2.sub R2.reel y
    refine k1 (R2.grow gy) v _ _ _ rv j2 fun F3 H3 σ3 ρ3 s3 n3 R3 q3=>?_
    have s13:Same F1 F3:=s2.trans (gy.fs.trans s3.fs)
    exact k2 R3 { Dv with nx:=fun ρ'=>vLoopF fl g t (xs.drop (i + 1)) Dv (fo fl ρ'),ct:=fun ρ'=>vLoopF fl g t (xs.drop (i + 1)) Dv (fo fl ρ'),bk:=fun ρ'=>Dv.nx (fo fl ρ') } _
      ⟨fun F4 H4 σ4 ρ4 s4 R4 q4=>⟨F4,fo fl ρ4,s13.trans s4,R4.le (le_fo fl ρ4),q4⟩,ok.rt,fun F4 H4 σ4 ρ4 s4 R4 q4=>ok.nx _ _ _ _ (g1.fs.trans (s13.trans s4)) (R4.le (le_fo fl ρ4)) q4,fun F4 H4 σ4 ρ4 s4 R4 q4=>⟨F4,fo fl ρ4,s13.trans s4,R4.le (le_fo fl ρ4),q4⟩⟩ q3
  · have e:i = xs.length:=by omega
    subst e
    rw [List.drop_length] at j2
    exact .inl ⟨vi.stop _ H (Nat.le_refl _) sH,ok.nx _ _ _ _ (g1.fs.trans s2) R2 j2⟩
noncomputable def vWh (fl:List Nat) (f:TB) (t:TSv) (m:Nat):TSv:=fun D ρ=>f ρ fun b=>if b = true then t { D with nx:=fun ρ'=>∃ k,∃ h:k < m,vWh fl f t k D (fo fl ρ'),ct:=fun ρ'=>∃ k,∃ h:k < m,vWh fl f t k D (fo fl ρ'),bk:=fun ρ'=>D.nx (fo fl ρ') } ρ else D.nx ρ
termination_by m
noncomputable def vWhileF (fl:List Nat) (f:TB) (t:TSv):TSv:=fun D ρ=>∃ m,vWh fl f t m D (fo fl ρ)
theorem vWh_eq (fl:List Nat) (f:TB) (t:TSv) (m:Nat) (D:VEnds) (ρ:En):vWh fl f t m D ρ = f ρ fun b=>if b = true then t { D with nx:=fun ρ'=>∃ k,∃ h:k < m,vWh fl f t k D (fo fl ρ'),ct:=fun ρ'=>∃ k,∃ h:k < m,vWh fl f t k D (fo fl ρ'),bk:=fun ρ'=>D.nx (fo fl ρ') } ρ else D.nx ρ:=by
  conv=>lhs; unfold vWh
theorem vs_whileF (fl:List Nat) (hp:PassesOwn (model X.prog X.w) X.A X.env X.xe) (hc:PB X rl c f) (hb:PSsV X rl body t):PSV X rl (.While c body [] pos) (vWhileF fl f t):=by
  obtain ⟨t0,p0,k0⟩:=hc
  obtain ⟨t1,p1,k1⟩:=hb
  refine ⟨_,ps_while hp p0 p1,fun {F₀ H₀ F H σ ρ} R Dv D ok q=>?_⟩
  obtain ⟨m,j0⟩:=q
  refine ⟨fun m σ' H'=>∃ F' ρ',Same F F' /\ VR X.K rl F₀ H₀ F' H' σ' ρ' /\ vWh fl f t m Dv ρ',⟨m,F,fo fl ρ,.refl _,R.le (le_fo fl ρ),j0⟩,?_⟩
  rintro m σ2 H2 ⟨F2,ρ2,s2,R2,j⟩
  rw [vWh_eq] at j
  refine k0 R2 _ _ j fun b F1 H1 g1 q1=>?_
  cases b with
  | false=>exact ok.nx _ _ _ _ (s2.trans g1.fs) (R2.grow g1) q1
  | true =>
    refine ⟨fun σ' H'=>∃ F' ρ',Same F F' /\ VR X.K rl F₀ H₀ F' H' σ' ρ' /\ ∃ m',m' < m /\ vWh fl f t m' Dv ρ',fun σ' H' ⟨F',ρ',s',R',m',hm,j⟩=>⟨m',hm,F',ρ',s',R',j⟩,?_⟩
    exact k1 (R2.grow g1) { Dv with nx:=fun ρ'=>∃ k,∃ h:k < m,vWh fl f t k Dv (fo fl ρ'),ct:=fun ρ'=>∃ k,∃ h:k < m,vWh fl f t k Dv (fo fl ρ'),bk:=fun ρ'=>Dv.nx (fo fl ρ') } _
      ⟨fun F3 H3 σ3 ρ3 s3 R3 ⟨m',hm,q3⟩=>⟨F3,fo fl ρ3,(s2.trans g1.fs).trans s3,R3.le (le_fo fl ρ3),m',hm,q3⟩,ok.rt,fun F3 H3 σ3 ρ3 s3 R3 q3=>ok.nx _ _ _ _ ((s2.trans g1.fs).trans s3) (R3.le (le_fo fl ρ3)) q3,fun F3 H3 σ3 ρ3 s3 R3 ⟨m',hm,q3⟩=>⟨F3,fo fl ρ3,(s2.trans g1.fs).trans s3,R3.le (le_fo fl ρ3),m',hm,q3⟩⟩ q1
end
noncomputable def lpK (fl:List Nat) (k:En -> Mo Fl):Fl -> Mo Fl
  | .nx ρ=>k (fo fl ρ)
  | .ct ρ=>k (fo fl ρ)
  | .bk ρ=>ret (.nx (fo fl ρ))
  | .rt w=>ret (.rt w)
noncomputable def loopM (fl:List Nat) (b:PyData -> En -> Mo Fl):List PyData -> En -> Mo Fl
  | [],ρ=>ret (.nx ρ)
  | x :: xs,ρ=>bnd (b x ρ) (lpK fl (loopM fl b xs))
theorem loop_eq (fl:List Nat) (g:TGv) (t:TSv):∀ (xs:List PyData) (ρ:En),mS (vLoopF fl g t xs) ρ = loopM fl (fun x ρ=>bnd (g x ρ) (mS t)) xs ρ
  | [],ρ=>rfl
  | x :: xs,ρ=>by
    refine mo_ext fun Q=>?_
    show (g x ρ fun ρ2=>t ⟨fun ρ'=>mS (vLoopF fl g t xs) (fo fl ρ') Q,fun w=>Q (.rt w),fun ρ'=>Q (.nx (fo fl ρ')),fun ρ'=>mS (vLoopF fl g t xs) (fo fl ρ') Q⟩ ρ2) ↔ _
    simp only [loop_eq fl g t xs]
    exact Iff.rfl
noncomputable def bdy (g:TGv) (t:TSv):PyData -> En -> Mo Fl:=fun x ρ=>bnd (g x ρ) (mS t)
theorem bdy_ap (g:TGv) (t:TSv) (x:PyData) (ρ:En):bdy g t x ρ = bnd (g x ρ) (mS t):=nr rfl
theorem s_for (fl:List Nat) (fi:En -> (List PyData -> Prop) -> Prop) (g:TGv) (t:TSv) (ρ:En):mS (vForF fl fi g t) ρ = bnd (fi ρ) fun xs=>loopM fl (bdy g t) xs (fo fl ρ):=by
  refine mo_ext fun Q=>?_
  show (fi ρ fun xs=>mS (vLoopF fl g t xs) (fo fl ρ) Q) ↔ _
  simp only [loop_eq]
  exact Iff.rfl
noncomputable def lpQ (fl:List Nat) (J:En -> Prop) (Q:Fl -> Prop):Fl -> Prop
  | .nx ρ=>J (fo fl ρ)
  | .ct ρ=>J (fo fl ρ)
  | .bk ρ=>Q (.nx (fo fl ρ))
  | .rt w=>Q (.rt w)
section
variable {α σ:Type} {fl:List Nat} {b:PyData -> En -> Mo Fl}
theorem loop_inv (J:Nat -> En -> Prop) {Q:Fl -> Prop}:∀ {xs:List PyData} {ρ:En} (n:Nat),J n ρ -> (∀ i x ρ,xs[i]? = some x -> J (n + i) ρ -> ∀ k:Fl -> Prop,(∀ r,lpQ fl (J (n + i + 1)) Q r -> k r) -> b x ρ k) -> (∀ ρ,J (n + xs.length) ρ -> Q (.nx ρ)) -> loopM fl b xs ρ Q
  | [],ρ,n,h0,_,fin=>fin ρ h0
  | x :: xs,ρ,n,h0,step,fin=>by
    refine step 0 x ρ rfl h0 (fun r=>lpK fl (loopM fl b xs) r Q) fun r hr=>?_
    have rc:∀ ρ',J (n + 1) ρ' -> loopM fl b xs ρ' Q:=fun ρ' h'=>loop_inv J (n + 1) h' (fun i y ρ e j k hk=>step (i + 1) y ρ (by simpa using e) (by rw [show n + (i + 1) = n + 1 + i by omega]; exact j) k (by rw [show n + (i + 1) + 1 = n + 1 + i + 1 by omega]; exact hk)) (fun ρ j=>fin ρ (by rw [List.length_cons,show n + (xs.length + 1) = n + 1 + xs.length by omega]; exact j))
    cases r with
    | nx ρ'=>exact rc _ hr
    | ct ρ'=>exact rc _ hr
    | bk ρ'=>exact hr
    | rt w=>exact hr
theorem loop_by {xs:List α} {enc : α -> PyData} {ρ:En} {Q:Fl -> Prop} (J:Nat -> En -> Prop) (h0:J 0 ρ)
    (step:∀ i (h:i < xs.length) ρ,J i ρ -> ∀ k:Fl -> Prop,(∀ r,lpQ fl (J (i + 1)) Q r -> k r) -> b (enc xs[i]) ρ k) (fin:∀ ρ,J xs.length ρ -> Q (.nx ρ)):loopM fl b (xs.map enc) ρ Q:=by
  refine loop_inv J 0 h0 (fun i x ρ e j k hk=>?_) (fun ρ j=>fin ρ (by simpa using j))
  have hi:i < xs.length:=by have:=(List.getElem?_eq_some_iff.mp e).1; simpa using this
  rw [List.getElem?_map,List.getElem?_eq_getElem hi] at e
  cases e
  rw [Nat.zero_add] at j hk
  exact step i hi ρ j k hk
theorem loop_byR {lo:Int} {n:Nat} {ρ:En} {Q:Fl -> Prop} (J:Nat -> En -> Prop) (h0:J 0 ρ)
    (step:∀ i,i < n -> ∀ ρ,J i ρ -> ∀ k:Fl -> Prop,(∀ r,lpQ fl (J (i + 1)) Q r -> k r) -> b (.int (lo + i)) ρ k) (fin:∀ ρ,J n ρ -> Q (.nx ρ)):loopM fl b (rangeD lo n) ρ Q:=by
  refine loop_by (xs:=List.range n) J h0 (fun i h ρ j k hk=>?_) (fun ρ j=>fin ρ (by simpa using j))
  rw [List.getElem_range]
  exact step i (by simpa using h) ρ j k hk
end
noncomputable def whileM (fl:List Nat) (f:TB) (t:TSv) (ρ:En):Mo Fl:=fun Q=>∃ m,mS (vWh fl f t m) ρ Q
theorem s_while (fl:List Nat) (f:TB) (t:TSv) (ρ:En):mS (vWhileF fl f t) ρ = whileM fl f t (fo fl ρ):=nr rfl
theorem wh_eq (fl:List Nat) (f:TB) (t:TSv) (m:Nat) (ρ:En):mS (vWh fl f t m) ρ = bnd (f ρ) fun b=>if b = true then bnd (mS t ρ) (lpK fl fun ρ'=>fun Q=>∃ k,∃ h:k < m,mS (vWh fl f t k) ρ' Q) else ret (.nx ρ):=by
  refine mo_ext fun Q=>?_
  show vWh fl f t m _ ρ ↔ _
  rw [vWh_eq]
  simp only [bnd,ite_ap]
  exact Iff.rfl
theorem while_f {fl:List Nat} {f:TB} {t:TSv} {ρ:En} (h:f ρ = ret false):whileM fl f t ρ = ret (.nx ρ):=by
  refine mo_ext fun Q=>?_
  constructor
  · rintro ⟨m,q⟩; rw [wh_eq,h,bnd_ret,if_neg (by decide)] at q; exact q
  · intro q; refine ⟨0,?_⟩; rw [wh_eq,h,bnd_ret,if_neg (by decide)]; exact q
theorem while_t {fl:List Nat} {f:TB} {t:TSv} {ρ ρ':En} (h:f ρ = ret true) (h2:mS t ρ = ret (.nx ρ')):whileM fl f t ρ = whileM fl f t (fo fl ρ'):=by
  refine mo_ext fun Q=>?_
  constructor
  · rintro ⟨m,q⟩; rw [wh_eq,h,bnd_ret,if_pos rfl,h2,bnd_ret] at q; obtain ⟨k,_,q⟩:=q; exact ⟨k,q⟩
  · rintro ⟨m,q⟩; refine ⟨m + 1,?_⟩; rw [wh_eq,h,bnd_ret,if_pos rfl,h2,bnd_ret]; exact ⟨m,Nat.lt_succ_self m,q⟩
theorem while_det {σ:Type} {fl:List Nat} {f:TB} {t:TSv} (st : σ -> En) (c : σ -> Bool) (nxt : σ -> σ) (μ : σ -> Nat) (I : σ -> Prop)
    (hf:∀ s,I s -> f (st s) = ret (c s)) (ht:∀ s,I s -> c s = true -> I (nxt s) /\ μ (nxt s) < μ s /\ ∃ ρ',mS t (st s) = ret (.nx ρ') /\ fo fl ρ' = st (nxt s)) (s : σ) (hs:I s):∃ s',I s' /\ c s' = false /\ whileM fl f t (st s) = ret (.nx (st s')):=by
  induction hm : μ s using Nat.strongRecOn generalizing s with
  | ind n ih =>
    subst hm
    cases hc:c s with
    | false=>exact ⟨s,hs,hc,while_f (by rw [hf s hs,hc])⟩
    | true =>
      obtain ⟨i1,m1,ρ',e1,e2⟩:=ht s hs hc
      obtain ⟨s',a,b,e⟩:=ih _ m1 (nxt s) i1 rfl
      exact ⟨s',a,b,by rw [while_t (by rw [hf s hs,hc]) e1,e2,e]⟩
noncomputable def vGoR (ρ0:En) (g:TGv) (ft:TB) (fe:TV):List PyData -> List PyData -> (List PyData -> Prop) -> Prop
  | [],acc,Q=>Q acc
  | x :: xs,acc,Q=>g x ρ0 fun ρ2=>Le ρ0 ρ2 /\ ft ρ2 fun b=>if b = true then fe ρ2 fun w=>∃ d,w.fz = .d d /\ acc.length < sizeLine /\ vGoR ρ0 g ft fe xs (acc ++ [d]) Q else vGoR ρ0 g ft fe xs acc Q
noncomputable def vCompR (fi:En -> (List PyData -> Prop) -> Prop) (fr:List (Option Nat)) (g:TGv) (ft:TB) (fe:TV):TV:=fun ρ Q=>fi ρ fun xs=>vGoR (frEn fr ρ) g ft fe xs [] fun ds=>Q (.ml ds)
section
variable {X:Cx} {rl:RlT} {elt tg iter:Expr} {ifs:List Expr} {scope:Scope} {pos:Pos} {fi:En -> (List PyData -> Prop) -> Prop} {g:TGv} {ft:TB} {fe:TV}
theorem lcompR_k {N':List Str} {wi:TI} (fr:List (Option Nat)) (k0:∀ {F₀ H₀ F H:Hp} {σ:St} {ρ:En},VR X.K rl F₀ H₀ F H σ ρ -> ∀ (Qd:List PyData -> Prop) (R:It -> Hp -> Prop),fi ρ Qd ->
      (∀ J xs F' H',Grow rl F H F' H' -> VIt X.K rl F' J xs -> Qd xs -> R J H') -> wi σ H R)
    (hg:∀ y,PGV (blk X N' scope y) rl tg g) (ht:∀ y,PTVs (blk X N' scope y) rl ifs ft) (he:∀ y,PV (blk X N' scope y) rl elt fe)
    {F₀ H₀ F H:Hp} {σ:St} {ρ:En} (R:VR X.K rl F₀ H₀ F H σ ρ) (Qd:W -> Prop) (Q:VK) (q:vCompR fi fr g ft fe ρ Qd)
    (k:∀ v w F' H',Grow rl F H F' H' -> RelW X.K rl F' H' v w -> NewIn H v w -> Qd w -> Q v H'):tComp wi fr (fun y=>Classical.choose (hg y)) (fun y=>Classical.choose (ht y)) (fun y=>Classical.choose (he y)) σ H Q:=by
  refine k0 R _ _ q fun J xs F1 H1 g1 vi q1=>?_
  intro D hD
  have rD:rl.a ≠ some D:=fun e=>by obtain ⟨o,z⟩:=g1.reel.live e; rw [hD] at z; cases z
  have FD:F1 D = none:=g1.sub.free hD
  have gD:Grow rl F1 H1 F1 (upd H1 D (.lst [])):=Grow.laid g1.sub g1.reel hD
  have R1:=R.grow g1
  have n0:NoMl (frEn fr ρ):=noMl_block
  refine ⟨fun i m acc σc Hc=>m = xs.length - i /\ i <= xs.length /\ ∃ Fc ds,VR X.K rl F1 H1 Fc Hc σc (frEn fr ρ) /\ Hc D = some (.lst acc) /\ Fc D = none /\ Reps X.K Fc acc ds /\ vGoR (frEn fr ρ) g ft fe (xs.drop i) ds (fun ds=>Qd (.ml ds)),
    ⟨xs.length,by simp,Nat.zero_le _,F1,[],vr_block R1 gD,upd_same,FD,.nil,by simpa using q1⟩,?_⟩
  rintro z i m acc σc Hc ⟨rfl,hi,Fc,ds,Rc,hDc,fDc,rs,q2⟩
  have sH:Same F1 Hc:=Rc.g.fs.trans Rc.sub
  by_cases hlt:i < xs.length
  · have ei:xs[i]? = some xs[i]:=by simp [hlt]
    have ed:xs.drop i = xs[i] :: xs.drop (i + 1):=List.drop_eq_getElem_cons hlt
    rw [ed] at q2
    refine .inr ⟨vi.go i Hc _ ei sH,fun v H' y=>?_⟩
    obtain ⟨Fy,gy,rv⟩:=vi.yld i Hc v H' _ Fc ei Rc.g.fs Rc.sub Rc.reel y
    refine (Classical.choose_spec (hg z)).2 (Rc.grow gy) v _ _ _ rv q2 fun F3 H3 σ3 ρ3 g3 n3 R3 ⟨le3,q3⟩=>?_
    refine (Classical.choose_spec (ht z)).2 R3 _ _ q3 fun b F4 H4 g4 q4=>?_
    have R4:=R3.grow g4
    have g34:=(gy.trans g3).trans g4
    have keepD:∀ {Fx Hx:Hp},Grow rl Fc Hc Fx Hx -> Hx D = some (.lst acc) /\ Fx D = none:=fun gx=>⟨gx.same D _ hDc rD,by rw [gx.old D _ hDc]; exact fDc⟩
    cases b with
    | false=>exact ⟨xs.length - (i + 1),by omega,rfl,hlt,F4,ds,R4.le le3,(keepD g34).1,(keepD g34).2,rs.mono g34.fs,q4⟩
    | true =>
      refine (Classical.choose_spec (he z)).2 R4 _ _ q4 fun v5 w5 F5 H5 g5 r5 n5 ⟨d,ed5,hl,q5⟩=>?_
      obtain ⟨F6,g6,s6,r6⟩:=RelW.fz g5 r5 n5
      rw [ed5] at r6
      have g36:=g34.trans g6
      refine ⟨(keepD g36).1,by rw [rs.length]; exact hl,xs.length - (i + 1),by omega,rfl,hlt,F6,ds ++ [d],((R4.grow g6).le le3).other n0 hD (keepD g36).2 rD,upd_same,(keepD g36).2,(rs.mono g36.fs).snoc r6,q5⟩
  · have e:i = xs.length:=by omega
    subst e
    rw [List.drop_length] at q2
    refine .inl ⟨vi.stop _ Hc (Nat.le_refl _) sH,k _ (.ml ds) Fc Hc (g1.trans Rc.g) ⟨D,acc,rfl,fDc,rD,hDc,rs⟩ (fun a ea=>by cases ea; exact g1.freeB hD) q2⟩
theorem v_lcompR (N':List Str) (fr:List (Option Nat)) (hc:X.calm = true) (hi:PIV X rl tg iter fi)
    (hg:∀ y,PGV (blk X N' scope y) rl tg g) (ht:∀ y,PTVs (blk X N' scope y) rl ifs ft) (he:∀ y,PV (blk X N' scope y) rl elt fe)
    (hfr:frOk fr N' X.N scope X.env.scope = true:=by rfl) (hsc:scOk scope X.env.scope = true:=by rfl)
    (hs:∀ x,foldedSetIterable iter X.env x = pure x:=by intro _; rfl):PV X rl (.ListComp elt [⟨tg,iter,ifs,0⟩] scope pos) (vCompR fi fr g ft fe):=by
  obtain ⟨wi,p0,k0⟩:=hi
  exact ⟨_,pe_lcomp N' fr hc p0 hfr hsc (fun y=>(Classical.choose_spec (hg y)).1) (fun y=>(Classical.choose_spec (ht y)).1) (fun y=>(Classical.choose_spec (he y)).1) hs,fun R Qd Q q k=>lcompR_k fr k0 hg ht he R Qd Q q k⟩
end
noncomputable def itM (ρ0:En) (g:TGv) (ft:TB) (fe:TV) (x:PyData):Mo (Option PyData):=bnd (g x ρ0) fun ρ2=>grd (Le ρ0 ρ2) (bnd (ft ρ2) fun b=>if b = true then bnd (fe ρ2) fun w=>optM (asD w.fz) fun d=>ret (some d) else ret none)
noncomputable def compM (b:PyData -> Mo (Option PyData)):List PyData -> List PyData -> Mo (List PyData)
  | [],acc=>ret acc
  | x :: xs,acc=>bnd (b x) fun o=>match o with
    | some d=>grd (acc.length < sizeLine) (compM b xs (acc ++ [d]))
    | none=>compM b xs acc
theorem comp_eq (ρ0:En) (g:TGv) (ft:TB) (fe:TV):∀ (xs acc:List PyData),vGoR ρ0 g ft fe xs acc = compM (itM ρ0 g ft fe) xs acc
  | [],acc=>rfl
  | x :: xs,acc=>by
    refine mo_ext fun Q=>?_
    show (g x ρ0 fun ρ2=>Le ρ0 ρ2 /\ ft ρ2 fun b=>if b = true then fe ρ2 fun w=>∃ d,w.fz = .d d /\ acc.length < sizeLine /\ vGoR ρ0 g ft fe xs (acc ++ [d]) Q else vGoR ρ0 g ft fe xs acc Q) ↔ (bnd (itM ρ0 g ft fe x) _) Q
    simp only [comp_eq ρ0 g ft fe xs]
    have:∀ (ρ2:En) (b:Bool),(if b = true then fe ρ2 fun w=>∃ d,w.fz = .d d /\ acc.length < sizeLine /\ compM (itM ρ0 g ft fe) xs (acc ++ [d]) Q else compM (itM ρ0 g ft fe) xs acc Q) = (bnd (if b = true then bnd (fe ρ2) fun w=>optM (asD w.fz) fun d=>ret (some d) else ret none) fun o=>match o with
    | some d=>grd (acc.length < sizeLine) (compM (itM ρ0 g ft fe) xs (acc ++ [d]))
    | none=>compM (itM ρ0 g ft fe) xs acc) Q:=by
      intro ρ2 b
      cases b with
      | false=>rfl
      | true =>
        rw [if_pos rfl,if_pos rfl]
        show _ = fe ρ2 fun w=>_
        congr 1
        funext w
        refine propext ?_
        show _ ↔ (bnd (optM (asD w.fz) fun d=>ret (some d)) _) Q
        rw [bnd_opt,opt_iff]
        simp only [asD_of]
        exact Iff.rfl
    simp only [this]
    exact Iff.rfl
theorem m_comp (fi:En -> (List PyData -> Prop) -> Prop) (fr:List (Option Nat)) (g:TGv) (ft:TB) (fe:TV) (ρ:En):vCompR fi fr g ft fe ρ = bnd (fi ρ) fun xs=>bnd (compM (itM (frEn fr ρ) g ft fe) xs []) fun ds=>ret (.ml ds):=by
  refine mo_ext fun Q=>?_
  show (fi ρ fun xs=>vGoR (frEn fr ρ) g ft fe xs [] fun ds=>Q (.ml ds)) ↔ _
  simp only [comp_eq]
  exact Iff.rfl
section
variable {α:Type} {b:PyData -> Mo (Option PyData)}
theorem compM_acc {enc : α -> PyData} (f : α -> Option PyData):∀ (xs:List α) (acc:List PyData),(∀ x ∈ xs,b (enc x) = ret (f x)) -> acc.length + xs.length <= sizeLine -> compM b (xs.map enc) acc = ret (acc ++ xs.filterMap f)
  | [],acc,_,_=>by simp [compM]
  | x :: xs,acc,h,hl=>by
    show bnd (b (enc x)) _ = _
    rw [h x List.mem_cons_self,bnd_ret]
    simp at hl
    cases e:f x with
    | none =>
      show compM b (xs.map enc) acc = _
      rw [compM_acc f xs acc (fun y hy=>h y (List.mem_cons_of_mem _ hy)) (by omega),List.filterMap_cons_none e]
    | some d =>
      show grd (acc.length < sizeLine) (compM b (xs.map enc) (acc ++ [d])) = _
      rw [grd_t (by omega),compM_acc f xs (acc ++ [d]) (fun y hy=>h y (List.mem_cons_of_mem _ hy)) (by simp; omega),List.filterMap_cons_some e]
      simp
theorem comp_fm {xs:List α} {enc : α -> PyData} (f : α -> Option PyData) (h:∀ x ∈ xs,b (enc x) = ret (f x)) (hl:xs.length <= sizeLine):compM b (xs.map enc) [] = ret (xs.filterMap f):=by
  have:=compM_acc f xs [] h (by simpa using hl)
  simpa using this
theorem comp_map {xs:List α} {enc : α -> PyData} (f : α -> PyData) (h:∀ x ∈ xs,b (enc x) = ret (some (f x))) (hl:xs.length <= sizeLine):compM b (xs.map enc) [] = ret (xs.map f):=by
  rw [comp_fm (fun x=>some (f x)) h hl,List.filterMap_eq_map']
theorem comp_mapR {lo:Int} {n:Nat} (f:Nat -> PyData) (h:∀ j,j < n -> b (.int (lo + j)) = ret (some (f j))) (hl:n <= sizeLine):compM b (rangeD lo n) [] = ret ((List.range n).map f) :=
  comp_map (xs:=List.range n) f (fun j hj=>h j (List.mem_range.mp hj)) (by simpa using hl)
end
section
variable (c:Prop) [Decidable c]
theorem ite_nx (a b:En):(if c then ret (Fl.nx a) else ret (Fl.nx b)) = ret (Fl.nx (if c then a else b)):=by split <;> rfl
theorem ite_rt (a b:W):(if c then ret (Fl.rt a) else ret (Fl.rt b)) = ret (Fl.rt (if c then a else b)):=by split <;> rfl
theorem ite_retd (a b:PyData):(if c then ret (W.d a) else ret (W.d b)) = ret (W.d (if c then a else b)):=by split <;> rfl
theorem ite_retb (a b:Bool):(if c then ret a else ret b) = ret (if c then a else b):=by split <;> rfl
theorem ite_rets (a b:PyData):(if c then ret (some a) else ret (some b)) = ret (some (if c then a else b)):=by split <;> rfl
theorem ite_cons {α:Type} (x y : α) (l m:List α):(if c then x :: l else y :: m) = (if c then x else y) :: (if c then l else m):=by split <;> rfl
theorem ite_some {α:Type} (x y : α):(if c then some x else some y) = some (if c then x else y):=by split <;> rfl
theorem ite_d (a b:PyData):(if c then W.d a else W.d b) = W.d (if c then a else b):=by split <;> rfl
theorem ite_pi (a b:Int):(if c then PyData.int a else PyData.int b) = PyData.int (if c then a else b):=by split <;> rfl
theorem ite_pb (a b:Bool):(if c then PyData.bool a else PyData.bool b) = PyData.bool (if c then a else b):=by split <;> rfl
theorem itb_tt (b y:Bool):(if b = true then true else y) = (b || y):=by cases b <;> rfl
theorem itb_ff (b y:Bool):(if b = true then y else false) = (b && y):=by cases b <;> rfl
theorem itb_ft (b y:Bool):(if b = true then false else y) = (!b && y):=by cases b <;> rfl
theorem itb_tf (b y:Bool):(if b = true then y else true) = (!b || y):=by cases b <;> rfl
end
theorem len_ok {n:Nat} (h:n <= 1000):(n <= sizeLine) = True:=by have:=PySem.sizeLine_eq; exact propext ⟨fun _=>trivial,fun _=>by omega⟩
theorem tup2 (x y:PyData):(match [x,y] with | [x,y]=>some (x,y) | _=>none) = some (x,y):=rfl
theorem bnd_tt {α β:Type} (a : α) (f : α -> Mo β):bnd (fun Q=>Q a) f = f a:=nr rfl
section
variable {α β:Type}
theorem any_step {P : α -> Prop} {f : α -> Mo β} {Q : β -> Prop} (h:∀ a,P a -> f a Q):bnd (anyM P) f Q:=h
theorem grd_step {P:Prop} {m:Mo α} {Q : α -> Prop} (h:P) (h':m Q):grd P m Q:=⟨h,h'⟩
theorem ite_step {c:Prop} [Decidable c] {a b:Mo α} {Q : α -> Prop} (h:c -> a Q) (h':¬ c -> b Q):(if c then a else b) Q:=by split <;> simp_all
theorem itb_step {b:Bool} {x y:Mo α} {Q : α -> Prop} (h:b = true -> x Q) (h':b = false -> y Q):(if b = true then x else y) Q:=by cases b <;> simp_all
end
theorem rt_end {Q:PyData -> Prop} {d:PyData} (h:Q d):ret (Fl.rt (.d d)) (endQ Q):=⟨d,rfl,h⟩
theorem rt_endL {Q:PyData -> Prop} {d:List PyData} (h:Q (.list d)):ret (Fl.rt (.ml d)) (endQ Q):=⟨_,rfl,h⟩
section
variable {α:Type} {k:En -> Mo Fl} {Q:Fl -> Prop}
theorem sqb {m:Mo α} {h : α -> Mo Fl} (z:bnd m (fun a=>sq (h a) k) Q):sq (bnd m h) k Q:=z
theorem sqo {o:Option α} {h : α -> Mo Fl} (z:optM o (fun a=>sq (h a) k) Q):sq (optM o h) k Q:=by rw [sq_opt]; exact z
noncomputable def kc (k1 k2:En -> Mo Fl):En -> Mo Fl:=fun ρ=>sq (k1 ρ) k2
theorem kc_ap (k1 k2:En -> Mo Fl) (ρ:En):kc k1 k2 ρ = sq (k1 ρ) k2:=nr rfl
theorem sq_sq (m:Mo Fl) (k1 k2:En -> Mo Fl):sq (sq m k1) k2 = sq m (kc k1 k2):=by
  refine mo_ext fun Q=>?_
  show m _ ↔ m _
  have:∀ fl:Fl,(sq (match fl with | .nx ρ=>k1 ρ | .rt w=>ret (.rt w) | .bk ρ=>ret (.bk ρ) | .ct ρ=>ret (.ct ρ)) k2) Q = (match fl with | .nx ρ=>kc k1 k2 ρ | .rt w=>ret (.rt w) | .bk ρ=>ret (.bk ρ) | .ct ρ=>ret (.ct ρ):Mo Fl) Q:=by intro fl; cases fl <;> rfl
  exact Iff.of_eq (congrArg m (funext this))
theorem sqb_any {P : α -> Prop} {f : α -> Mo Fl} (z:∀ a,P a -> sq (f a) k Q):sq (bnd (anyM P) f) k Q:=z
end
end L2.VL

namespace L2.VL
open PySem PySem.Spec PyProof.Rows
theorem pk_sc (x:List Int):L2.VL.W.peek (.sc x) = .sc x:=rfl
theorem fz_sc (x:List Int):(W.sc x).fz = .sc x:=rfl
theorem arg_sc (x:List Int):argOk (.sc x) = true:=rfl
theorem isPk_sc (x:List Int):(W.sc x).isPk = false:=rfl
section
variable {X:Cx} {rl:RlT} {a b c e:Expr} {es:List Expr} {fa fb fc:TV} {fs:TVs} {pos p p2:Pos} {ρ:En}
noncomputable def asSc:W -> Option (List Int)
  | .sc ns=>some ns
  | _=>none
theorem asSc_s (ns:List Int):asSc (.sc ns) = some ns:=rfl
theorem asSc_of {w:W} {i:List Int}:asSc w = some i ↔ w = .sc i:=by
  constructor
  · intro h; unfold asSc at h; split at h <;> simp_all
  · rintro rfl; rfl
theorem atI_map {α β:Type} (f : α -> β) (xs:List α) (i:Int):atI (xs.map f) i = (atI xs i).map f:=by
  unfold atI
  rw [List.length_map]
  cases ixN xs.length i <;> simp
theorem reps_is {K:W.Frag} {F:Hp}:∀ ns:List Int,Reps K F (ns.map V.int) (ns.map PyData.int)
  | []=>.nil
  | n :: ns=>.cons (.int n) (reps_is ns)
noncomputable def vSlS (fa:TV) (fl fh:TOv):TV:=fun ρ Q=>fa ρ fun w=>fl ρ fun l=>fh ρ fun h=>∃ ns:List Int,w = .sc ns /\ Q (.ml (cutD (ns.map .int) l h))
theorem v_slSc {lo hi:Option Expr} {fl fh:TOv} (ha:PV X rl a fa) (hl:PVO X rl lo fl) (hh:PVO X rl hi fh):PV X rl (.Subscript a (.Slice lo hi none p2) pos) (vSlS fa fl fh):=by
  obtain ⟨t,p,k⟩:=ha
  obtain ⟨tl,pl,kl⟩:=hl
  obtain ⟨th,ph,kh⟩:=hh
  refine ⟨_,pe_slice sl_list p pl ph,fun R Qd Q q h=>k R _ _ q fun v w F1 H1 g1 r1 n1 q1=>?_⟩
  refine kl (R.grow g1) _ _ q1 fun l F2 H2 g2 q2=>kh ((R.grow g1).grow g2) _ _ q2 fun u F3 H3 g3 q3=>?_
  obtain ⟨ns,rfl,q3⟩:=q3
  obtain ⟨a,rfl,sq⟩:=(r1.grow g2).grow g3
  have g:=(g1.trans g2).trans g3
  exact ⟨a,_,rfl,sameL g3.sub sq,fun p hp=>h _ (.ml _) _ _ (g.trans (Grow.laid g3.sub g3.reel hp)) (own_laid g3.sub g3.reel hp ((reps_is ns).cut l u)) (fun a ea=>by cases ea; exact g.freeB hp) q3⟩
theorem m_vSlS {fl fh:TOv}:vSlS fa fl fh ρ = bnd (fa ρ) fun w=>bnd (fl ρ) fun l=>bnd (fh ρ) fun h=>optM (asSc w) fun ns=>ret (.ml (cutD (ns.map .int) l h)):=by
  refine mo_ext fun Q=>?_
  simp only [vSlS,bnd,opt_iff,asSc_of,ret]
end
noncomputable def spR (K:W.Frag) (pre:List W -> Prop):Sp:=fun vs H Q _=>∃ F ws,Same F H /\ RelWs K RlT.no F H vs ws /\ ws.all argOk = true /\ pre ws /\ ∀ r n' F' H',H r = none -> Grow RlT.no F H F' H' -> RAt (RlT.at' r n') F' H' -> Q (.ref r) H'
structure DfnR (P:Program) (w:World) (K:W.Frag) (mg:Str -> Option Value) (base:Heap) (x:Str) (ps:List Str) (k:Nat) (pre:List W -> Prop):Prop where
  ex:∃ f fd,mg x = some (.ref f) /\ W.keepIn K (.ref f) = true /\ Binds K fd ps [] /\ FnOk P w K mg base CX0 k f fd ps (spR K pre)
noncomputable def nR1:Option W -> Option W
  | some .reel=>none
  | o=>o
noncomputable def nR (ρ:En):En:=ρ.map nR1
noncomputable def W.isR:W -> Bool
  | .reel=>true
  | _=>false
noncomputable def vNewR (i:Nat) (pre:List W -> Prop) (fs:TVs) (t:TSv):TSv:=fun D ρ=>fs ρ fun ws=>ws.all argOk = true /\ pre ws /\ t ⟨fun ρ'=>D.nx (nR ρ'),fun w=>w.isR = false /\ D.rt w,fun ρ'=>D.bk (nR ρ'),fun ρ'=>D.ct (nR ρ')⟩ (ρ.set i (some .reel))
theorem grow_in {F₀ H₀ F H:Hp} {r:Addr} {n':Nat × List Int} (g:Grow RlT.no F₀ H₀ F H) (ra:RAt (RlT.at' r n') F H):Grow (RlT.at' r n') F₀ H₀ F H:=⟨fun b o e _=>g.same b o e (by simp),g.fs,g.sub,g.old,ra⟩
theorem grow_out {F₀ H₀ F H:Hp} {r:Addr} {n':Nat × List Int} (g:Grow (RlT.at' r n') F₀ H₀ F H) (n:H₀ r = none):Grow RlT.no F₀ H₀ F H:=⟨fun b o e _=>g.same b o e (fun z=>by cases z; rw [n] at e; cases e),g.fs,g.sub,g.old,fun _ z=>by cases z⟩
theorem rel_in {K:W.Frag} {F H:Hp} {r:Addr} {n':Nat × List Int} {v:V} {w:W} (h:RelW K RlT.no F H v w) (ne:∀ a,w.own = true \/ (∃ xs,w = .pk xs) -> v = .ref a -> a ≠ r):RelW K (RlT.at' r n') F H v w:=by
  cases w with
  | d x=>exact h
  | ml xs=>obtain ⟨a,vs,e,f,_,g⟩:=h; exact ⟨a,vs,e,f,fun z=>ne a (.inl rfl) e (by cases z; rfl),g⟩
  | pk xs=>obtain ⟨a,vs,e,f,_,g⟩:=h; exact ⟨a,vs,e,f,fun z=>ne a (.inr ⟨_,rfl⟩) e (by cases z; rfl),g⟩
  | reel=>obtain ⟨_,z,_⟩:=h; cases z
  | vv u=>exact h
  | md kvs=>obtain ⟨a,vs,e,f,_,g⟩:=h; exact ⟨a,vs,e,f,fun z=>ne a (.inl rfl) e (by cases z; rfl),g⟩
  | mk kvs=>obtain ⟨a,vs,e,f,_,g⟩:=h; exact ⟨a,vs,e,f,fun z=>ne a (.inl rfl) e (by cases z; rfl),g⟩
  | nt ds=>exact h
  | lk=>trivial
  | sc ns=>exact h
  | fd _=>exact h
  | fw _=>exact h
  | ft _=>exact h
  | xc _ _=>exact h
  | dp _ _=>exact h
theorem rel_out {K:W.Frag} {F H:Hp} {r:Addr} {n':Nat × List Int} {v:V} {w:W} (h:RelW K (RlT.at' r n') F H v w) (n:w.isR = false):RelW K RlT.no F H v w:=by
  cases w with
  | d x=>exact h
  | ml xs=>obtain ⟨a,vs,e,f,_,g⟩:=h; exact ⟨a,vs,e,f,by simp,g⟩
  | pk xs=>obtain ⟨a,vs,e,f,_,g⟩:=h; exact ⟨a,vs,e,f,by simp,g⟩
  | reel=>cases n
  | vv u=>exact h
  | md kvs=>obtain ⟨a,vs,e,f,_,g⟩:=h; exact ⟨a,vs,e,f,by simp,g⟩
  | mk kvs=>obtain ⟨a,vs,e,f,_,g⟩:=h; exact ⟨a,vs,e,f,by simp,g⟩
  | nt ds=>exact h
  | lk=>trivial
  | sc ns=>exact h
  | fd _=>exact h
  | fw _=>exact h
  | ft _=>exact h
  | xc _ _=>exact h
  | dp _ _=>exact h
theorem nR_get {ρ:En} {i:Nat} {w:W} (h:(nR ρ)[i]? = some (some w)) : ρ[i]? = some (some w) /\ w.isR = false:=by
  unfold nR at h
  rw [List.getElem?_map] at h
  cases e : ρ[i]? with
  | none=>rw [e] at h; cases h
  | some o =>
    rw [e] at h
    cases o with
    | none=>cases h
    | some u=>cases u <;> first | (cases h; exact ⟨rfl,rfl⟩) | cases h
theorem VR.out {K:W.Frag} {r:Addr} {n':Nat × List Int} {F₀ H₀ F H:Hp} {σ:St} {ρ:En} (R:VR K (RlT.at' r n') F₀ H₀ F H σ ρ) (n:H₀ r = none):VR K RlT.no F₀ H₀ F H σ (nR ρ):=by
  refine ⟨grow_out R.g n,fun i w e=>?_,fun i j x y v hn e1 e2=>R.ap i j x y v hn (nR_get e1).1 (nR_get e2).1,fun i xs e=>R.np i xs (nR_get e).1,?_⟩
  · obtain ⟨e1,e2⟩:=nR_get e
    obtain ⟨v,h1,h2,h3⟩:=R.sl i w e1
    exact ⟨v,h1,rel_out h2 e2,h3⟩
  · have:=R.len; simpa [nR] using this
theorem VR.into {K:W.Frag} {r:Addr} {n':Nat × List Int} {F₀ H₀ F H F' H':Hp} {σ:St} {ρ:En} (R:VR K RlT.no F₀ H₀ F H σ ρ) (n:H r = none) (g:Grow RlT.no F H F' H') (ra:RAt (RlT.at' r n') F' H') (i:Nat):VR K (RlT.at' r n') F₀ H₀ F' H' (σ.set i (some (.ref r))) (ρ.set i (some .reel)):=by
  have R1:=R.grow g
  refine ⟨grow_in R1.g ra,fun j w e=>?_,fun j k x y v hn e1 e2 o1 o2 s1 s2=>?_,fun j xs e=>?_,by simp [R.len]⟩
  · by_cases hj:i = j
    · subst hj
      have hi:i < ρ.length:=by
        rw [List.getElem?_set] at e
        by_cases hi:i < ρ.length
        · exact hi
        · simp [hi] at e
      rw [List.getElem?_set_self hi] at e
      cases e
      exact ⟨.ref r,by rw [List.getElem?_set_self (by rw [<- R.len]; exact hi)],⟨r,rfl,rfl⟩,trivial⟩
    · rw [List.getElem?_set_ne hj] at e
      obtain ⟨v,h1,h2,h3⟩:=R1.sl j w e
      refine ⟨v,by rw [List.getElem?_set_ne hj]; exact h1,rel_in h2 fun a ow ea z=>?_,h3⟩
      obtain ⟨v0,h10,h20,_⟩:=R.sl j w e
      rw [h1] at h10
      cases h10
      rcases ow with ow | ⟨xs,rfl⟩
      · obtain ⟨b,o,eb,hb⟩:=h20.live ow
        rw [ea] at eb
        cases eb
        rw [z,n] at hb
        cases hb
      · exact absurd e (R.np j xs)
  · have key:∀ (m:Nat) (z:W),(ρ.set i (some W.reel))[m]? = some (some z) -> z.own = true -> i ≠ m /\ ρ[m]? = some (some z):=fun m z e o=>by
      by_cases hm:i = m
      · subst hm
        rw [List.getElem?_set] at e
        split at e
        · split at e
          · cases e; cases o
          · cases e
        · exact absurd rfl (by assumption)
      · rw [List.getElem?_set_ne hm] at e; exact ⟨hm,e⟩
    obtain ⟨n1,d1⟩:=key j x e1 o1
    obtain ⟨n2,d2⟩:=key k y e2 o2
    rw [List.getElem?_set_ne n1] at s1
    rw [List.getElem?_set_ne n2] at s2
    exact R1.ap j k x y v hn d1 d2 o1 o2 s1 s2
  · rw [List.getElem?_set] at e
    split at e
    · split at e
      · cases e
      · cases e
    · exact R1.np j xs e
section
variable {X:Cx} {st:Stmt} {rest body:List Stmt} {t u:TSv} {a b c e:Expr} {es:List Expr} {fa fb:TV} {fs:TVs} {pos p px cpos:Pos} {ρ:En}
theorem vs_newR (i:Nat) {x f:Str} {ps:List Str} {k:Nat} {pre:List W -> Prop} (D:DfnR X.prog X.w X.K X.mg X.base f ps k pre) (hr:Room k X.A) (hN:X.N.Nodup) (ha:PVs X RlT.no (e :: es) fs) (hrest:∀ r n',PSsV X (RlT.at' r n') rest t)
    (hi:X.N[i]? = some x:=by rfl) (hx:Loc X.env.scope x:=by first | exact Or.inl rfl | exact Or.inr rfl) (hg:Gl X f:=by rfl) (hdb:(f == ("__debug__" : Str)) = false:=by decide)
    (he:starEach (e :: es) X.env = (false,eval e X.env) :: starEach es X.env:=by rfl) (hpl:(backTo cpos (starEach es X.env)).any (·.1) = false:=by rfl)
    (hs:swapsWith (.Call (.Name f p) (e :: es) [] cpos) (some (.Name x px)) pos.line X.env = pure false:=by rfl) (hf:X.fn x = true \/ X.env.scope.names.lookup x = some .local:=by first | exact .inl rfl | exact .inr rfl) :
    PSsV X RlT.no (.Assign [.Name x px] (.Call (.Name f p) (e :: es) [] cpos) pos :: rest) (vNewR i pre fs t):=by
  obtain ⟨fa,fd,hm,hk,hb,F⟩:=D.ex
  obtain ⟨ta,p1,k1⟩:=ha
  refine ⟨_,pss_cons (ps_set hN hi hx (pe_call F hr hg hm hk hb .nil pass0 p1 hdb he hpl) hs hf) (pss_any X rest),fun {F₀ H₀ F H σ ρ} R Dv D ok q=>k1 R _ _ q fun vs ws F1 H1 g1 r1 ⟨ao,pw,q1⟩=>?_⟩
  have R1:=R.grow g1
  refine ⟨F1,ws,g1.sub,by rw [List.append_nil]; exact r1,ao,pw,fun r n' F2 H2 hr2 g2 ra=>?_⟩
  intro pins s I
  obtain ⟨T,pT,kT⟩:=hrest r n'
  have h0:H₀ r = none:=R1.g.freeB hr2
  refine pT pins s _ H2 D I (kT (R1.into hr2 g2 ra i) _ D ⟨fun F3 H3 σ3 ρ3 s3 R3 q3=>?_,fun v w F3 H3 g3 r3 n3 q3=>?_,fun F3 H3 σ3 ρ3 s3 R3 q3=>?_,fun F3 H3 σ3 ρ3 s3 R3 q3=>?_⟩ q1)
  · exact ok.nx F3 H3 σ3 _ (g1.fs.trans (g2.fs.trans s3)) (R3.out h0) q3
  · exact ok.rt v w F3 H3 (grow_out g3 h0) (rel_out r3 q3.1) n3 q3.2
  · exact ok.bk F3 H3 σ3 _ (g1.fs.trans (g2.fs.trans s3)) (R3.out h0) q3
  · exact ok.ct F3 H3 σ3 _ (g1.fs.trans (g2.fs.trans s3)) (R3.out h0) q3
end
noncomputable def unR:Fl -> Mo Fl
  | .nx ρ=>ret (.nx (nR ρ))
  | .rt w=>grd (w.isR = false) (ret (.rt w))
  | .bk ρ=>ret (.bk (nR ρ))
  | .ct ρ=>ret (.ct (nR ρ))
theorem s_newR (i:Nat) (pre:List W -> Prop) (fs:TVs) (t:TSv) (ρ:En):mS (vNewR i pre fs t) ρ = bnd (fs ρ) fun ws=>grd (ws.all argOk = true) (grd (pre ws) (bnd (mS t (ρ.set i (some .reel))) unR)):=nr rfl
theorem nR_nil:nR [] = []:=rfl
theorem nR_r (l:En):nR (some .reel :: l) = none :: nR l:=rfl
theorem nR_n (l:En):nR (none :: l) = none :: nR l:=rfl
theorem nR_d (x:PyData) (l:En):nR (some (.d x) :: l) = some (.d x) :: nR l:=rfl
theorem nR_ml (x:List PyData) (l:En):nR (some (.ml x) :: l) = some (.ml x) :: nR l:=rfl
theorem nR_sc (x:List Int) (l:En):nR (some (.sc x) :: l) = some (.sc x) :: nR l:=rfl
noncomputable def spLaw2 (K:W.Frag):Sp:=fun vs H Q _=>∃ (a:Addr) (ns:List Int),vs = [.ref a] /\ SqL K H a (ns.map V.int) /\ ns.length <= 63 /\ ∀ H',Q (.bl true) H'
noncomputable def lawE:VEnds:=⟨fun _=>False,fun w=>w = .d (.bool true),fun _=>False,fun _=>False⟩
noncomputable def lawQ:Fl -> Prop
  | .rt w=>w = .d (.bool true)
  | _=>False
theorem un_law (m:Mo Fl):bnd m unR lawQ = m lawQ:=by
  show m (fun fl=>unR fl lawQ) = m lawQ
  congr 1
  funext fl
  cases fl with
  | rt w=>exact propext ⟨fun ⟨_,h⟩=>h,fun h=>⟨by rw [show w = .d (.bool true) from h]; rfl,h⟩⟩
  | _=>rfl
theorem law_end:ret (Fl.rt (.d (.bool true))) lawQ:=rfl
section
variable {P:Program} {w:World} {K:W.Frag} {mg:Str -> Option Value} {base:Heap} {st:Stmt} {N:List Str} {k:Nat} {t:TSv} {x:Str}
theorem ok_law2 {f:Addr} {fd:FuncData} (F:Fun K "law" "law" st f fd) (S:FnScope N [x] (defScope st))
    (hbody:∀ (cdv:Value) (A:Around) (outer:List Env) (s:Shared) (H:Hp) (E:XK),Room k (A.deeper (envOfC "law" (defScope st) s.heap.objs.size f cdv)) -> PSsV (cxOf CX0 P w K mg base N "law" (defScope st) f cdv A outer s H E).nox RlT.no (defBody st) t)
    (hread:∀ ns:List Int,ns.length <= 63 -> mS t (startV N [.sc ns]) lawQ):FnOk P w K mg base CX0 (k + 1) f fd [x] (spLaw2 K):=by
  refine F.ok S (fun vs H Q E h=>?_) (fun cdv A outer s H vs Q E hr h=>?_)
  · obtain ⟨a,ns,rfl,_⟩:=h
    rfl
  · obtain ⟨a,ns,rfl,hS,hl,kq⟩:=h
    obtain ⟨T,p,kk⟩:=hbody cdv A outer s H E hr
    have rw0:RelWs K RlT.no H H [.ref a] [.sc ns]:=.cons ⟨a,rfl,hS⟩ .nil
    have R:VR K RlT.no H H H H (start N [.ref a]) (startV N [.sc ns]):=vr_start (.refl H) (fun _ z=>by cases z) rw0 rfl
    refine ⟨T,p,kk R lawE _ ⟨fun _ _ _ _ _ _ z=>False.elim z,?_,fun _ _ _ _ _ _ z=>False.elim z,fun _ _ _ _ _ _ z=>False.elim z⟩ (hread ns hl)⟩
    rintro v w1 F1 H1 g1 r1 n1 z
    have z:w1 = .d (.bool true):=z
    subst z
    have e:=rep_bl r1
    subst e
    exact kq H1
end
end L2.VL

namespace L2.VL
open PySem PySem.Spec PyProof.Rows
noncomputable def vSetZ (i:Nat) (fa:TV):TSv:=fun D ρ=>fa ρ fun w=>∃ d,w.fz = .d d /\ D.nx (ρ.set i (some (.d d)))
section
variable {X:Cx} {rl:RlT} {st:Stmt} {rest body:List Stmt} {t u:TSv} {a b c e:Expr} {es:List Expr} {fa fb:TV} {fs:TVs} {f:TB} {pos p:Pos} {ρ:En}
theorem vs_setZ (i:Nat) {x:Str} {pos':Pos} (hN:X.N.Nodup) (he:PV X rl e fa) (hi:X.N[i]? = some x:=by rfl) (hx:Loc X.env.scope x:=by first | exact Or.inl rfl | exact Or.inr rfl)
    (hs:swapsWith e (some (.Name x pos')) pos.line X.env = pure false:=by rfl) (hf:X.fn x = true \/ X.env.scope.names.lookup x = some .local:=by first | exact .inl rfl | exact .inr rfl) :
    PSV X rl (.Assign [.Name x pos'] e pos) (vSetZ i fa):=by
  obtain ⟨t,p,k⟩:=he
  refine ⟨_,ps_set hN hi hx p hs hf,fun R Dv D ok q=>k R _ _ q fun v w F1 H1 g1 r1 n1 ⟨d,ed,q1⟩=>?_⟩
  obtain ⟨F2,g2,s2,r2⟩:=RelW.fz g1 r1 n1
  rw [ed] at r2
  exact ok.nx _ _ _ _ g2.fs (R.set g2 r2 trivial (fun xs z=>by cases z) i) q1
theorem s_setZ (i:Nat):mS (vSetZ i fa) ρ = bnd (fa ρ) fun w=>optM (asD w.fz) fun d=>ret (.nx (ρ.set i (some (.d d)))):=by
  show (bnd (fa ρ) fun w=>fun (Q:Fl -> Prop)=>∃ d,w.fz = .d d /\ Q (.nx (ρ.set i (some (.d d))))) = _
  congr 1; funext w
  refine mo_ext fun Q=>?_
  simp only [opt_iff,asD_of,ret]
end
section
variable {X:Cx} {rl:RlT} {elt tg iter:Expr} {ifs:List Expr} {scope:Scope} {pos:Pos} {fi:En -> (List PyData -> Prop) -> Prop} {g:TGv} {ft:TB} {fe:TV}
end
noncomputable def tupI (xs:List Int):PyData:=.tuple (xs.map .int)
noncomputable def lstI (xs:List Int):PyData:=.list (xs.map .int)
theorem map_int_inj:∀ {xs ys:List Int},xs.map PyData.int = ys.map PyData.int ↔ xs = ys:=by
  intro xs ys
  constructor
  · intro h
    have:=congrArg intsD h
    rw [intsD_map,intsD_map] at this
    exact Option.some.inj this
  · rintro rfl; rfl
theorem tupI_inj {xs ys:List Int}:tupI xs = tupI ys ↔ xs = ys:=by
  unfold tupI
  rw [PyData.tuple.injEq,map_int_inj]
theorem lstI_inj {xs ys:List Int}:lstI xs = lstI ys ↔ xs = ys:=by
  unfold lstI
  rw [PyData.list.injEq,map_int_inj]
theorem map_inj_of {α:Type} {f : α -> PyData} (h:∀ a b,f a = f b ↔ a = b):∀ {xs ys:List α},xs.map f = ys.map f ↔ xs = ys
  | [],[]=>by simp
  | [],_ :: _=>by simp
  | _ :: _,[]=>by simp
  | x :: xs,y :: ys=>by simp [h,map_inj_of h (xs:=xs) (ys:=ys)]
noncomputable def tupT (xs:List (List Int)):PyData:=.tuple (xs.map tupI)
theorem tupT_inj {xs ys:List (List Int)}:tupT xs = tupT ys ↔ xs = ys:=by
  unfold tupT
  rw [PyData.tuple.injEq,map_inj_of fun _ _=>tupI_inj]
theorem atI_at {α:Type} {xs:List α} {i:Int} (h0 : 0 <= i) (h1:i < (xs.length:Int)):atI xs i = some (xs[i.toNat]'(by omega)):=by
  obtain ⟨n,rfl⟩:=Int.eq_ofNat_of_zero_le h0
  exact atI_nat (List.getElem?_eq_getElem (by omega))
end L2.VL

namespace L2.VL
open PySem PySem.Spec PyProof.Rows
section
variable {α σ:Type} {fl:List Nat} {b:PyData -> En -> Mo Fl} {k:En -> Mo Fl} {Q:Fl -> Prop} {ρ:En}
theorem while_go {f:TB} {t:TSv} (st : σ -> En) (c : σ -> Bool) (nxt : σ -> σ) (μ : σ -> Nat) (I : σ -> Prop) (s : σ) (h0 : ρ = st s) (hs:I s)
    (hf:∀ s,I s -> f (st s) = ret (c s)) (ht:∀ s,I s -> c s = true -> I (nxt s) /\ μ (nxt s) < μ s /\ ∃ ρ',mS t (st s) = ret (.nx ρ') /\ fo fl ρ' = st (nxt s)) (fin:∀ s,I s -> c s = false -> k (st s) Q):sq (whileM fl f t ρ) k Q:=by
  subst h0
  obtain ⟨s',a,b,e⟩:=while_det st c nxt μ I hf ht s hs
  rw [e]
  exact fin s' a b
noncomputable def lpS (fl:List Nat) (J:En -> Prop) (k:En -> Mo Fl) (Q:Fl -> Prop):Fl -> Prop
  | .nx ρ=>J (fo fl ρ)
  | .ct ρ=>J (fo fl ρ)
  | .bk ρ=>k (fo fl ρ) Q
  | .rt w=>Q (.rt w)
theorem lpS_nx {J:En -> Prop} {ρ:En} (h:J (fo fl ρ)):lpS fl J k Q (.nx ρ):=h
theorem inv_go {xs:List α} {enc : α -> PyData} {xs':List PyData} (J:Nat -> En -> Prop) (hx:xs' = xs.map enc) (h0:J 0 ρ)
    (step:∀ i (h:i < xs.length) ρ,J i ρ -> ∀ K:Fl -> Prop,(∀ r,lpS fl (J (i + 1)) k Q r -> K r) -> b (enc xs[i]) ρ K) (fin:∀ ρ,J xs.length ρ -> k ρ Q):sq (loopM fl b xs' ρ) k Q:=by
  subst hx
  refine loop_by (Q:=fun r=>(match r with | .nx ρ=>k ρ | .rt w=>ret (.rt w) | .bk ρ=>ret (.bk ρ) | .ct ρ=>ret (.ct ρ):Mo Fl) Q) J h0 (fun i hi ρ j K hK=>step i hi ρ j K fun r hr=>hK r ?_) fin
  cases r <;> exact hr
theorem invR_go {lo:Int} {n:Nat} (J:Nat -> En -> Prop) (h0:J 0 ρ)
    (step:∀ i,i < n -> ∀ ρ,J i ρ -> ∀ K:Fl -> Prop,(∀ r,lpS fl (J (i + 1)) k Q r -> K r) -> b (.int (lo + i)) ρ K) (fin:∀ ρ,J n ρ -> k ρ Q):sq (loopM fl b (rangeD lo n) ρ) k Q:=by
  refine loop_byR (Q:=fun r=>(match r with | .nx ρ=>k ρ | .rt w=>ret (.rt w) | .bk ρ=>ret (.bk ρ) | .ct ρ=>ret (.ct ρ):Mo Fl) Q) J h0 (fun i hi ρ j K hK=>step i hi ρ j K fun r hr=>hK r ?_) fin
  cases r <;> exact hr
theorem eachR_go {lo:Int} {n:Nat} (step:∀ i,i < n -> ∀ K:Fl -> Prop,(∀ r,lpS fl (fun ρ'=>ρ' = ρ) k Q r -> K r) -> b (.int (lo + i)) ρ K) (fin:k ρ Q):sq (loopM fl b (rangeD lo n) ρ) k Q :=
  invR_go (fun _ ρ'=>ρ' = ρ) rfl (fun i h ρ' e K hK=>by subst e; exact step i h K hK) fun ρ' e=>by subst e; exact fin
end
section
variable {α β:Type} {b:PyData -> Mo (Option PyData)} {k:List PyData -> Mo β} {Q : β -> Prop}
theorem cmap_go {xs:List α} {enc : α -> PyData} {xs':List PyData} (f : α -> PyData) (hx:xs' = xs.map enc) (h:∀ x ∈ xs,b (enc x) = ret (some (f x))) (hl:xs.length <= sizeLine) (fin:k (xs.map f) Q):bnd (compM b xs' []) k Q:=by
  subst hx; rw [comp_map f h hl]; exact fin
theorem cmapR_go {lo:Int} {n:Nat} (f:Nat -> PyData) (h:∀ j,j < n -> b (.int (lo + j)) = ret (some (f j))) (hl:n <= sizeLine) (fin:k ((List.range n).map f) Q):bnd (compM b (rangeD lo n) []) k Q:=by
  rw [comp_mapR f h hl]; exact fin
end
section
variable {α β:Type}
theorem menu_step {xs:List PyData} {i:Int} {k:PyData -> Mo β} {Q : β -> Prop} (h0 : 0 <= i) (h1:i < (xs.length:Int)) (h:∀ z ∈ xs,k z Q):optM (atI xs i) k Q:=by
  obtain ⟨z,e,m⟩:=at_in h0 h1
  rw [e]
  exact h z m
theorem menuA_step {xs:List α} {enc : α -> PyData} {xs':List PyData} {i:Int} {k:PyData -> Mo β} {Q : β -> Prop} (P : α -> Prop) (hx:xs' = xs.map enc) (h0 : 0 <= i) (h1:i < (xs.length:Int)) (hP:∀ z ∈ xs,P z) (h:∀ z,P z -> k (enc z) Q):optM (atI xs' i) k Q:=by
  subst hx
  refine menu_step h0 (by simpa using h1) fun z mz=>?_
  obtain ⟨x,hx,rfl⟩:=List.mem_map.mp mz
  exact h x (hP x hx)
end
end L2.VL

namespace L2.VL
open PySem PySem.Spec PyProof.Rows
section
variable {X:Cx} {rl:RlT} {a b c o e:Expr} {es:List Expr} {fa fb:TV} {fs:TVs} {pos p apos cpos:Pos} {ρ:En}
end
end L2.VL
namespace L2
open PySem PySem.Spec PyProof.Rows
section
variable {X:Cx} {pos:Pos}
end
end L2
namespace L2.VL
open PySem PySem.Spec PyProof.Rows
section
variable {X:Cx} {rl:RlT} {es:List Expr} {pos:Pos} {ρ:En}
end
end L2.VL

namespace L2.VL
open PySem PySem.Spec PyProof.Rows
noncomputable def BMON0:=And.intro @bnd_tt (And.intro @bnd_ret (And.intro @bnd_bnd (And.intro @bnd_grd (And.intro @bnd_stk (And.intro @bnd_ite (And.intro @bnd_opt (And.intro @opt_some (And.intro @opt_none (And.intro @grd_T (And.intro @sq_nx (And.intro @sq_rt (And.intro @sq_bk (And.intro @sq_ct (And.intro @sq_grd (And.intro @sq_stk (And.intro @sq_ite (And.intro @sq_sq (@kc_ap))))))))))))))))))
noncomputable def BITE0:=And.intro @ite_nx (And.intro @ite_rt (And.intro @ite_retd (And.intro @ite_retb (And.intro @ite_rets (And.intro @ite_cons (And.intro @ite_some (And.intro @ite_d (And.intro @ite_pi (And.intro @ite_pb (And.intro @itb_tt (And.intro @itb_ff (And.intro @itb_ft (And.intro @itb_tf (@ite_self.{1}))))))))))))))
noncomputable def BEXP0:=And.intro @m_vC (And.intro @m_vVar (And.intro @m_vNil (And.intro @m_vCons (And.intro @m_vOp (And.intro @m_gI (And.intro @m_gI0 (And.intro @m_vNeg (And.intro @m_vTest (And.intro @m_gEqD (And.intro @m_vAnd (And.intro @m_vOr (And.intro @m_vNot (And.intro @m_vOrV (And.intro @m_vIf (And.intro @m_vTup (And.intro @m_vLst (And.intro @m_gIx (And.intro @m_vCall (And.intro @m_gAbs (@m_gLen))))))))))))))))))))
noncomputable def BEXP1:=And.intro @m_gRepr (And.intro @m_gIsi (And.intro @m_gTupO (And.intro @m_gLstO (And.intro @m_oNo (And.intro @m_oIt (And.intro @m_vSlL (And.intro @m_gCatD (And.intro @m_gCatA (And.intro @m_vLR1 (And.intro @m_iL (And.intro @m_iT (@m_iR1))))))))))))
noncomputable def BEXP2:=And.intro @m_vUse (And.intro @m_gRepL (And.intro @m_gEqS (And.intro @m_comp (@m_vSlS))))
noncomputable def BSTM0:=And.intro @s_next (And.intro @s_seq (And.intro @s_ret (And.intro @s_ifS (And.intro @s_set (And.intro @s_setZ (And.intro @s_never (And.intro @s_asg (And.intro @s_par (And.intro @s_aug (And.intro @s_frz (And.intro @s_mut (And.intro @s_retO (And.intro @s_for (And.intro @bdy_ap (And.intro @s_while (And.intro @s_newR (And.intro @m_hName (@m_hNil_n))))))))))))))))))
noncomputable def BSTM1:=And.intro @m_hCons_c (And.intro @m_hTup (@m_gApp))
noncomputable def BPRJ0:=And.intro @pk_sc (And.intro @fz_sc (And.intro @arg_sc (And.intro @isPk_sc (And.intro @asI_d (And.intro @asB_d (And.intro @asS_d (And.intro @asD_d (And.intro @asT_d (And.intro @asL_d (And.intro @asL_ml (And.intro @asL_pk (And.intro @asQ_d (And.intro @asQ_ml (And.intro @asQ_pk (And.intro @lstD_l (And.intro @tupD_t (And.intro @toI_i (And.intro @toI_b (And.intro @isiT_t (And.intro @asM_ml (And.intro @asSc_s (And.intro @two_d (@fz_d)))))))))))))))))))))))
noncomputable def BPRJ1:=And.intro @fz_ml (And.intro @fz_pk (And.intro @fz_reel (And.intro @fz_vv (And.intro @pk_d (And.intro @pk_ml (And.intro @pk_reel (And.intro @pk_vv (And.intro @dat_d (And.intro @dat_ml (And.intro @dat_pk (And.intro @isPk_d (And.intro @isPk_ml (And.intro @isPk_reel (And.intro @dats_nil (And.intro @dats_d (And.intro @arg_d (And.intro @arg_reel (And.intro @item_l (And.intro @item_t (And.intro @len_l (And.intro @len_t (And.intro @seq_l (@seq_t)))))))))))))))))))))))
noncomputable def BPRJ2:=And.intro @at0 (And.intro @at1 (And.intro @blsD_map (And.intro @tup2 (And.intro @fo_nil (And.intro @fo_cons (And.intro @nR_nil (And.intro @nR_r (And.intro @nR_n (And.intro @nR_d (And.intro @nR_ml (And.intro @nR_sc (And.intro @le_nil (And.intro @le_cn (And.intro @le_cs (And.intro @end_d (And.intro @end_ml (And.intro @end_nx (@un_law))))))))))))))))))
noncomputable def BLST0:=And.intro @List.map_cons.{0,0} (And.intro @List.map_nil.{0,0} (And.intro @List.length_cons.{0} (And.intro @List.length_nil.{0} (And.intro @List.getElem?_cons_zero.{0} (And.intro @List.getElem?_cons_succ.{0} (And.intro @List.set_cons_zero.{0} (And.intro @List.set_cons_succ.{0} (And.intro @List.set_nil.{0} (And.intro @List.cons_append.{0} (And.intro @List.nil_append.{0} (And.intro @List.all_cons.{0} (And.intro @List.all_nil.{0} (And.intro @List.head?_cons.{0} (And.intro @Bool.and_true (And.intro @Option.some.injEq.{0} (And.intro @Option.map_some.{0,0} (And.intro @Option.bind_some.{0,0} (And.intro @Option.bind_none.{0,0} (And.intro @Option.join_some.{0} (And.intro @Option.join_none.{0} (And.intro @Bool.false_eq_true (And.intro @and_self (@and_true)))))))))))))))))))))))
noncomputable def BLST1:=And.intro @true_and (And.intro @shaped_i (And.intro @eqv_ii (And.intro @shaped_b (And.intro @Bool.true_and (And.intro @Bool.and_self (And.intro @Bool.not_true (And.intro @Bool.not_false (And.intro @List.length_map.{0,0} (And.intro @Int.toNat_natCast (And.intro @Bool.true_eq_false (And.intro @decide_true (And.intro @decide_false (And.intro @List.isEmpty_cons.{0} (And.intro @List.isEmpty_nil.{0} (@List.isEmpty_map.{0,0})))))))))))))))
end L2.VL

namespace L2.VL
open PySem PySem.Spec PyProof.Rows

noncomputable def kC:Key:=Sum.inr "cells"
noncomputable def kA:Key:=Sum.inr "at"
noncomputable def kL:Key:=Sum.inr "left"
noncomputable def kT:Key:=Sum.inr "turn"
theorem k_ca:¬ kC = kA:=by decide +kernel
theorem k_cl:¬ kC = kL:=by decide +kernel
theorem k_ct:¬ kC = kT:=by decide +kernel
theorem k_al:¬ kA = kL:=by decide +kernel
theorem k_at:¬ kA = kT:=by decide +kernel
theorem k_lt:¬ kL = kT:=by decide +kernel
noncomputable def reelKv (c:Addr) (a l t:Int):List (Key × V):=[(kC,.ref c),(kA,.int a),(kL,.int l),(kT,.int t)]
theorem valV_cons_ne {p:Key × V} {r:List (Key × V)} {k:Key} (e:¬ p.1 = k):valV (p :: r) k = valV r k:=by
  unfold valV
  rw [List.find?_cons]
  simp [e]
theorem reel_c (c:Addr) (a l t:Int):valV (reelKv c a l t) kC = some (.ref c):=valV_pos rfl
theorem reel_a (c:Addr) (a l t:Int):valV (reelKv c a l t) kA = some (.int a):=by unfold reelKv; rw [valV_cons_ne k_ca]; exact valV_pos rfl
theorem reel_l (c:Addr) (a l t:Int):valV (reelKv c a l t) kL = some (.int l):=by unfold reelKv; rw [valV_cons_ne k_cl,valV_cons_ne k_al]; exact valV_pos rfl
theorem reel_t (c:Addr) (a l t:Int):valV (reelKv c a l t) kT = some (.int t):=by unfold reelKv; rw [valV_cons_ne k_ct,valV_cons_ne k_at,valV_cons_ne k_lt]; exact valV_pos rfl
theorem ne' {a b:Key} (h:¬ a = b):¬ b = a:=fun e=>h e.symm
theorem put_a (c:Addr) (a l t n:Int):putK (reelKv c a l t) kA (.int n) = reelKv c n l t:=by
  unfold putK reelKv
  rw [if_pos (by simp)]
  simp [k_ca,ne' k_al,ne' k_at]
theorem put_l (c:Addr) (a l t n:Int):putK (reelKv c a l t) kL (.int n) = reelKv c a n t:=by
  unfold putK reelKv
  rw [if_pos (by simp)]
  simp [k_cl,k_al,ne' k_lt]
theorem put_t (c:Addr) (a l t n:Int):putK (reelKv c a l t) kT (.int n) = reelKv c a l n:=by
  unfold putK reelKv
  rw [if_pos (by simp)]
  simp [k_ct,k_at,k_lt]
theorem ReelOk.kv {c:Nat × List Int} {F H:Hp} {r:Addr} (h:ReelOk c F H r):∃ (a l t:Int),H r = some (.dK (reelKv c.1 a l t)) /\ F c.1 = some (.lst (c.2.map V.int)) /\ c.2.length <= 63 /\ 0 <= a /\ 0 <= l /\ 0 <= t:=by
  obtain ⟨o,e,a,l,t,rfl,q⟩:=h.ex
  exact ⟨a,l,t,e,q⟩
theorem RAt.put {rl:RlT} {F₀ H₀ F H:Hp} {K:W.Frag} {σ:St} {ρ:En} {r:Addr} {a l t:Int} (R:VR K rl F₀ H₀ F H σ ρ) (e:rl.a = some r) (h:F rl.b.1 = some (.lst (rl.b.2.map V.int)) /\ rl.b.2.length <= 63 /\ 0 <= a /\ 0 <= l /\ 0 <= t) :
    VR K rl F₀ H₀ F (upd H r (.dK (reelKv rl.b.1 a l t))) σ ρ:=by
  have fr:F r = none:=(R.reel r e).1
  have neF:∀ b u,F b = some u -> b ≠ r:=fun b u q z=>by subst z; rw [fr] at q; cases q
  have g:Grow rl F H F (upd H r (.dK (reelKv rl.b.1 a l t))):=by
    refine ⟨fun b o q n=>by rw [upd_ne (fun z=>n (by rw [z]; exact e))]; exact q,.refl F,fun b o q=>by rw [upd_ne (neF b o q)]; exact R.sub b o q,fun _ _ _=>rfl,fun y z=>?_⟩
    have:y = r:=Option.some.inj (z.symm.trans e)
    subst this
    exact ⟨fr,⟨_,upd_same,a,l,t,rfl,h⟩⟩
  exact R.grow g
section
variable {X:Cx} {rl:RlT} {e:Expr} {fa:TV} {pos p p1 p2:Pos}
noncomputable def vRN (i:Nat):TV:=fun ρ Q=>ρ[i]? = some (some .reel) /\ ∀ n:Int,0 <= n -> Q (.d (.int n))
noncomputable def vRC (cs:List Int) (i:Nat):TV:=fun ρ Q=>ρ[i]? = some (some .reel) /\ (cs.length <= 63 -> Q (.d (.list (cs.map .int))))
theorem reps_ints {K:W.Frag} {F:Hp}:∀ ns:List Int,Reps K F (ns.map V.int) (ns.map PyData.int)
  | []=>.nil
  | n :: ns=>.cons (.int n) (reps_ints ns)
theorem v_rget {i:Nat} {x:Str} {k:Str} {j} (hr:Room 0 X.A) (hk:(Sum.inr k:Key) = kA \/ (Sum.inr k:Key) = kL \/ (Sum.inr k:Key) = kT) (hN:X.N[i]? = some x:=by rfl) (hv:Vis X.env.scope x:=by first | exact Or.inl rfl | exact Or.inr (Or.inl rfl) | exact Or.inr (Or.inr rfl))
    (hd:(x == ("__debug__" : Str)) = false:=by decide) (hcd:(x == ("__classdict__" : Str)) = false:=by decide) (hs:NoSl (.Constant (.str k) j p2):=by exact fun _ _=>rfl):PV X rl (.Subscript (.Name x p1) (.Constant (.str k) j p2) pos) (vRN i):=by
  refine ⟨_,pe_dget (hu_of hr) (pe_var hN hv hd hcd) pe_str hs,fun {F₀ H₀ F H σ ρ} R Qd Q ⟨e1,q⟩ h=>?_⟩
  obtain ⟨v,s1,⟨r,er,ev⟩,_⟩:=R.sl i _ e1
  subst ev
  obtain ⟨_,ok⟩:=R.reel r er
  obtain ⟨a,l,t,hH,_,_,b1,b2,b3⟩:=ok.kv
  have go:∀ n:Int,0 <= n -> valV (reelKv rl.b.1 a l t) (Sum.inr k) = some (.int n) -> tDGet (tVar i) (tC (.str k)) σ H Q:=fun n hn e=>by
    refine ⟨.ref r,s1,r,.int n,rfl,?_,h _ (.d _) F H (Grow.refl R.sub R.reel) (.int n) trivial (q n hn)⟩
    have g:=DGet.k (k:=(Sum.inr k:Key)) hH
    rw [e] at g
    exact g
  rcases hk with hk | hk | hk
  · exact go a b1 (by rw [hk]; exact reel_a rl.b.1 a l t)
  · exact go l b2 (by rw [hk]; exact reel_l rl.b.1 a l t)
  · exact go t b3 (by rw [hk]; exact reel_t rl.b.1 a l t)
theorem v_rcells {i:Nat} {x:Str} {j} (hr:Room 0 X.A) (hN:X.N[i]? = some x:=by rfl) (hv:Vis X.env.scope x:=by first | exact Or.inl rfl | exact Or.inr (Or.inl rfl) | exact Or.inr (Or.inr rfl))
    (hd:(x == ("__debug__" : Str)) = false:=by decide) (hcd:(x == ("__classdict__" : Str)) = false:=by decide) (hs:NoSl (.Constant (.str "cells") j p2):=by exact fun _ _=>rfl):PV X rl (.Subscript (.Name x p1) (.Constant (.str "cells") j p2) pos) (vRC rl.b.2 i):=by
  refine ⟨_,pe_dget (hu_of hr) (pe_var hN hv hd hcd) pe_str hs,fun {F₀ H₀ F H σ ρ} R Qd Q ⟨e1,q⟩ h=>?_⟩
  obtain ⟨v,s1,⟨r,er,ev⟩,_⟩:=R.sl i _ e1
  subst ev
  obtain ⟨_,ok⟩:=R.reel r er
  obtain ⟨a,l,t,hH,hc,hl,_⟩:=ok.kv
  refine ⟨.ref r,s1,r,.ref rl.b.1,rfl,?_,h _ (.d _) F H (Grow.refl R.sub R.reel) (Rep.lst hc (reps_ints _)) trivial (q hl)⟩
  have g:=DGet.k (k:=kC) hH
  rw [reel_c] at g
  exact g
noncomputable def vRPut (i:Nat) (fa:TV):TSv:=fun D ρ=>fa ρ fun w=>∃ n,w = .d (.int n) /\ 0 <= n /\ ρ[i]? = some (some .reel) /\ D.nx ρ
theorem vs_rput {i:Nat} {x:Str} {k:Str} {j} {pos':Pos} (hr:Room 0 X.A) (hk:(Sum.inr k:Key) = kA \/ (Sum.inr k:Key) = kL \/ (Sum.inr k:Key) = kT) (ha:PV X rl e fa) (hN:X.N[i]? = some x:=by rfl) (hv:Vis X.env.scope x:=by first | exact Or.inl rfl | exact Or.inr (Or.inl rfl) | exact Or.inr (Or.inr rfl))
    (hd:(x == ("__debug__" : Str)) = false:=by decide) (hcd:(x == ("__classdict__" : Str)) = false:=by decide) (hsw:swapsWith e (some (.Subscript (.Name x p1) (.Constant (.str k) j p2) pos')) pos.line X.env = pure false:=by rfl) :
    PSV X rl (.Assign [.Subscript (.Name x p1) (.Constant (.str k) j p2) pos'] e pos) (vRPut i fa):=by
  obtain ⟨t,p3,kk⟩:=ha
  refine ⟨_,ps_dput (hu_of hr) (pe_var hN hv hd hcd) pe_str p3 hsw,fun {F₀ H₀ F H σ ρ} R Dv D ok q=>kk R _ _ q fun v w F1 H1 g1 r1 n1 ⟨n,ew,hn,e1,q1⟩=>?_⟩
  subst ew
  have ev:=rep_int r1
  subst ev
  have R1:=R.grow g1
  obtain ⟨v,s1,⟨r,er,ev⟩,_⟩:=R1.sl i _ e1
  subst ev
  obtain ⟨_,okr⟩:=R1.reel r er
  obtain ⟨a,l,t,hH,hc,hl,b1,b2,b3⟩:=okr.kv
  refine ⟨.ref r,s1,r,_,rfl,DPut.k (k:=(Sum.inr k:Key)) hH (small1000 (by show 4 <= 1000; decide)),?_⟩
  have go:∀ a' l' t':Int,0 <= a' -> 0 <= l' -> 0 <= t' -> putK (reelKv rl.b.1 a l t) (Sum.inr k) (.int n) = reelKv rl.b.1 a' l' t' -> D.nx σ (upd H1 r (.dK (putK (reelKv rl.b.1 a l t) (Sum.inr k) (.int n)))):=fun a' l' t' x1 x2 x3 e=>by
    rw [e]
    exact ok.nx _ _ _ _ g1.fs (RAt.put R1 er ⟨hc,hl,x1,x2,x3⟩) q1
  rcases hk with hk | hk | hk
  · exact go n l t hn b2 b3 (by rw [hk]; exact put_a rl.b.1 a l t n)
  · exact go a n t b1 hn b3 (by rw [hk]; exact put_l rl.b.1 a l t n)
  · exact go a l n b1 b2 hn (by rw [hk]; exact put_t rl.b.1 a l t n)
end
theorem merge_reel (c:Addr):mergeK [] [(kC,V.ref c),(kA,.int 0),(kL,.int 0),(kT,.int 0)] = reelKv c 0 0 0:=by
  unfold mergeK reelKv
  simp only [List.foldl_cons,List.foldl_nil]
  have p0:putK ([]:List (Key × V)) kC (V.ref c) = [(kC,V.ref c)]:=rfl
  rw [p0]
  unfold putK
  simp [k_ca,k_cl,k_ct,k_al,k_at,k_lt]
end L2.VL

namespace L2.VL
open PySem PySem.Spec PyProof.Rows
section
variable {X:Cx} {rl:RlT} {e:Expr} {fa:TV} {pos p p1 p2:Pos} {ρ:En}
noncomputable def asR:W -> Option Unit
  | .reel=>some ()
  | _=>none
theorem asR_r:asR .reel = some ():=rfl
theorem slR_of {i:Nat}:(((ρ[i]?).join).bind asR = some ()) ↔ ρ[i]? = some (some .reel):=by
  constructor
  · intro h
    cases q : ρ[i]? with
    | none=>rw [q] at h; cases h
    | some o=>rw [q] at h; cases o with
      | none=>cases h
      | some w=>cases w <;> first | rfl | cases h
  · intro h; rw [h]; rfl
theorem slR_ex {β:Type} {i:Nat} {k:Unit -> Mo β} {Q : β -> Prop}:optM (((ρ[i]?).join).bind asR) k Q ↔ ρ[i]? = some (some .reel) /\ k () Q:=by
  rw [opt_iff]
  exact ⟨fun ⟨u,a,q⟩=>⟨slR_of.mp a,q⟩,fun ⟨a,q⟩=>⟨(),slR_of.mpr a,q⟩⟩
theorem m_vRN (i:Nat):vRN i ρ = optM (((ρ[i]?).join).bind asR) fun _=>bnd (anyM fun n:Int=>0 <= n) fun n=>ret (.d (.int n)):=mo_ext fun Q=>(Iff.intro (fun ⟨a,q⟩=>slR_ex.mpr ⟨a,fun n h=>q n h⟩) fun h=>⟨(slR_ex.mp h).1,fun n hn=>(slR_ex.mp h).2 n hn⟩)
theorem m_vRC (cs:List Int) (i:Nat):vRC cs i ρ = optM (((ρ[i]?).join).bind asR) fun _=>bnd (anyM fun _:Unit=>cs.length <= 63) fun _=>ret (.d (lstI cs)):=mo_ext fun Q=>(Iff.intro (fun ⟨a,q⟩=>slR_ex.mpr ⟨a,fun _ h=>q h⟩) fun h=>⟨(slR_ex.mp h).1,fun hn=>(slR_ex.mp h).2 () hn⟩)
theorem s_rput (i:Nat):mS (vRPut i fa) ρ = bnd (fa ρ) fun w=>optM (asI w) fun n=>grd (0 <= n) (optM (((ρ[i]?).join).bind asR) fun _=>ret (.nx ρ)):=by
  show (bnd (fa ρ) fun w=>fun (Q:Fl -> Prop)=>∃ n,w = .d (.int n) /\ 0 <= n /\ ρ[i]? = some (some .reel) /\ Q (.nx ρ)) = _
  congr 1; funext w
  refine mo_ext fun Q=>?_
  simp only [opt_iff (o:=asI w),asI_of,grd,slR_ex,ret]
end
theorem lenD_l (xs:List Int):lenD (lstI xs) = some xs.length:=by show some (xs.map PyData.int).length = _; rw [List.length_map]
theorem item_li (xs:List Int) (i:Int):itemAt (lstI xs) i = (atI xs i).map .int:=atI_map _ _ _
end L2.VL

namespace L2.VL
open PySem PySem.Spec PyProof.Rows
section
variable {X:Cx} {rl:RlT} {e:Expr} {fa:TV} {pos dpos q1 q2 q3 q4:Pos} {ρ:En} {j1 j2 j3 j4:Nat} {a b x y:Str}
end
end L2.VL

namespace L2
open PySem PySem.Spec PyProof.Rows
theorem comp_loopD {prog:Program} {w:World} {A:Around} {R:Result -> Shared -> Prop} {s:Shared} {kx vx target iter:Expr} {ifs:List Expr} {scope:Scope} {pos:Pos} {it:Value} {D:Addr} {env:Env} (I:Nat -> Shared -> Prop)
    (turn:∀ n s,I n s -> wpAny (model prog w) A (pyNext it) (fun r s₁=>(r = none /\ R (.ok .next) s₁) \/ ∃ v,r = some v /\
      wpAny (model prog w) A (letOwnedTupleGo target it v) (fun _ s₂=>wpAny (model prog w) A (assign target env v) (fun _ s₃=>wpAny (model prog w) A (testsOf ifs env) (fun ok s₄ =>
        if ok = true then wpAny (model prog w) A (eval kx env) (fun x s₅=>wpAny (model prog w) A (eval vx env) (fun y s₆=>wpAny (model prog w) A (dictSet D x y) (fun _ s₇=>∃ m,m < n /\ I m s₇) (fun _ _=>False) s₆) (fun _ _=>False) s₅) (fun _ _=>False) s₄
        else ∃ m,m < n /\ I m s₄) (fun _ _=>False) s₃) (fun _ _=>False) s₂) (fun _ _=>False) s₁) (fun _ _=>False) s)
    (n:Nat) (h:I n s):codeAny (model prog w) A (.compLoop (.DictComp kx vx [⟨target,iter,ifs,0⟩] scope pos) 0 it (.ref D) env) R s:=by
  refine codeAny_loop rfl I (fun n s hI=>?_) n h
  show wpAny _ A ((compTurn (.DictComp kx vx [⟨target,iter,ifs,0⟩] scope pos) 0 it (.ref D) env).onRaise (fun x=>do noteFrame x env; theTreesLotGoes x)) _ _ s
  refine wpAny_noted ?_
  rw [compTurn_dict]
  refine wpAny_bind (wpAny_standAt (wpAny_bind (wpAny_mono (turn n s hI) (fun r s₁ h₁=>?_) fun _ _ h'=>h'.elim)))
  rcases h₁ with ⟨rfl,h₁⟩ | ⟨v,rfl,h₁⟩
  · exact wpAny_pure h₁
  · refine wpAny_bind (wpAny_mono h₁ (fun _ s₂ h₂=>wpAny_bind (wpAny_mono h₂ (fun _ s₃ h₃=>wpAny_bind (wpAny_mono h₃ (fun ok s₄ h₄=>?_) fun _ _ z=>z.elim)) fun _ _ z=>z.elim)) fun _ _ z=>z.elim)
    cases ok with
    | false=>exact wpAny_pure ⟨rfl,h₄⟩
    | true=>exact wpAny_bind (wpAny_bind (wpAny_mono h₄ (fun x s₅ h₅=>wpAny_bind (wpAny_holding (wpAny_mono h₅ (fun y s₆ h₆=>wpAny_bind (wpAny_standAt (wpAny_holding (wpAny_mono h₆ (fun _ s₇ h₇=>wpAny_pure ⟨rfl,h₇⟩) fun _ _ z=>z.elim)))) fun _ _ z=>z.elim))) fun _ _ z=>z.elim))
noncomputable def tCompD (wi:TI) (fr:List (Option Nat)) (g:CompA -> TG) (tt:CompA -> TT) (tk te:CompA -> TE):TE:=fun σ H Q=>wi σ H fun J H1=>∀ D,H1 D = none -> ∃ Wv:Nat -> Nat -> List (Key × V) -> St -> Hp -> Prop,(∃ m,Wv 0 m [] (frIn fr σ) (upd H1 D (.dK []))) /\
  ∀ (z:CompA) i m acc σc H,Wv i m acc σc H -> (J.stop i H /\ Q (.ref D) H) \/ (J.go i H /\ ∀ x H',J.yld i H x H' -> g z x σc H' fun σ2 H2=>tt z σ2 H2 fun b H3 =>
    if b = true then tk z σ2 H3 fun ky H4=>te z σ2 H4 fun y H5=>∃ k:Key,ky = kV k /\ H5 D = some (.dK acc) /\ acc.length < sizeLine /\ ∃ m',m' < m /\ Wv (i + 1) m' (putK acc k y) σ2 (upd H5 D (.dK (putK acc k y))) else ∃ m',m' < m /\ Wv (i + 1) m' acc σ2 H3)
theorem comp_blockD {X:Cx} {kx vx tg iter:Expr} {ifs:List Expr} {scope:Scope} {pos:Pos} {g:TG} {tt:TT} {tk te:TE} {pins:List (Addr × Obj)} {σ:St} {H3:Hp} {s3:Shared} {it D:Addr} {fp:List Addr} {tn:Nat -> Heap -> Prop} {J:It} {Q:VK}
    {cl:List (Str × Addr)} (N':List Str) (fr:List (Option Nat)) (hc:X.calm = true) (hkind:scope.kind = .function) (hcell:∀ y ∈ scope.names,y.2 = .cell -> scope.names.lookup y.1 = some .cell)
    (hfree:∀ y ∈ scope.names,y.2 = .free -> X.env.kindOf y.1 = some .cell \/ X.env.kindOf y.1 = some .free) (frl:fr.length = N'.length)
    (frg:∀ (i j:Nat),fr[i]? = some (some j) -> ∃ x,N'[i]? = some x /\ X.N[j]? = some x /\ scope.names.lookup x = some .free /\ (X.env.scope.names.lookup x = some .cell \/ X.env.scope.names.lookup x = some .free))
    (cl1:∀ x c,cl.lookup x = some c -> X.env.cells.lookup x = some c) (cl2:∀ x,(x,NameKind.free) ∈ scope.names -> (cl.lookup x).isSome = true)
    (I3:Inv X pins σ H3 s3) (T:Turn X.prog X.w X.K tg J fp it tn) (tn3:tn 0 s3.heap) (fpD:∀ b ∈ fp,H3 b = none) (fp3:∀ b ∈ fp,b < s3.heap.objs.size)
    (fpk:∀ b ∈ fp,b ≠ X.env.locals /\ b ∉ X.fs /\ (b ∈ X.ex \/ X.s₀.heap.objs.size <= b) /\ (∀ x c,X.env.cells.lookup x = some c -> c ≠ b) /\ ∀ p ∈ X.pn ++ pins,p.1 ≠ b)
    (hg:PG (compCx X N' scope cl fp (X.pn ++ pins) s3 H3) tg g) (ht:PTs (compCx X N' scope cl fp (X.pn ++ pins) s3 H3) ifs tt) (hk:PE (compCx X N' scope cl fp (X.pn ++ pins) s3 H3) kx tk) (he:PE (compCx X N' scope cl fp (X.pn ++ pins) s3 H3) vx te)
    {Wv:Nat -> Nat -> List (Key × V) -> St -> Hp -> Prop} {m0:Nat} (w0:Wv 0 m0 [] (frIn fr σ) H3)
    (turn:∀ i m acc σc H,Wv i m acc σc H -> (J.stop i H /\ Q (.ref D) H) \/ (J.go i H /\ ∀ x H',J.yld i H x H' -> g x σc H' fun σ2 H2=>tt σ2 H2 fun b H3 =>
      if b = true then tk σ2 H3 fun ky H4=>te σ2 H4 fun y H5=>∃ k:Key,ky = kV k /\ H5 D = some (.dK acc) /\ acc.length < sizeLine /\ ∃ m',m' < m /\ Wv (i + 1) m' (putK acc k y) σ2 (upd H5 D (.dK (putK acc k y))) else ∃ m',m' < m /\ Wv (i + 1) m' acc σ2 H3))
    {Rp:Addr -> Result -> Shared -> Prop} (fin:∀ s5 H4 m,s5.heap.Ns s3.heap.objs.size m -> (∀ h',Heap.SameBut s3.heap.objs.size s5.heap h' -> Inv X pins σ H4 { s5 with heap:=h' }) -> FpOk X pins H4 s3.heap.objs.size -> Q (.ref D) H4 -> Rp s3.heap.objs.size (.ok .next) s5) :
    wpAny (model X.prog X.w) X.A (newFunctionEnv scope X.env.globals cl [] X.env.qual none .none (some X.env)) (fun cenv s₄ =>
      codeAny (model X.prog X.w) X.A (.compStart (.DictComp kx vx [⟨tg,iter,ifs,0⟩] scope pos) 0 (.ref it) (.ref D) { cenv with scope:=relabel scope X.env })
        (Rp cenv.locals) s₄) X.xe s3:=by
  refine comp_blockG N' fr hc hkind hcell hfree frl frg cl1 cl2 I3 T tn3 fpD fp3 fpk (fun s' IY tY stat=>?_) fin
  have loop:codeAny (model X.prog X.w) X.A (.compLoop (.DictComp kx vx [⟨tg,iter,ifs,0⟩] scope pos) 0 (.ref it) (.ref D) (compCx X N' scope cl fp (X.pn ++ pins) s3 H3).env)
      (fun r s5=>r = .ok .next /\ ∃ σ5 H4,Inv (compCx X N' scope cl fp (X.pn ++ pins) s3 H3) [] σ5 H4 s5 /\ Q (.ref D) H4) s':=by
    refine comp_loopD (fun n s'=>∃ i acc σ' H',Inv (compCx X N' scope cl fp (X.pn ++ pins) s3 H3) [] σ' H' s' /\ tn i s'.heap /\ (∀ b ∈ fp,H' b = none) /\ Wv i n acc σ' H') ?_ m0
      ⟨0,[],_,_,IY,tY,fpD,w0⟩
    rintro n s4 ⟨i,acc,σ4,H4,I4,st4,fr4,w4⟩
    rcases turn i n acc σ4 H4 w4 with ⟨stop,qn⟩ | ⟨go,step⟩
    · exact thn (T.done (compCx X N' scope cl fp (X.pn ++ pins) s3 H3) rfl rfl rfl hc i [] s4 σ4 H4 (fun _ _=>False) I4 (stat fr4) st4 stop) fun r s5 ⟨hr,I5⟩=>.inl ⟨hr,rfl,σ4,H4,I5,qn⟩
    · refine thn (T.item (compCx X N' scope cl fp (X.pn ++ pins) s3 H3) rfl rfl rfl hc i [] s4 σ4 H4 (fun _ _=>False) I4 (stat fr4) st4 go) fun r s5 ⟨u,hr,h5⟩=>.inr ⟨u,hr,?_⟩
      refine thn h5 fun _ s6 ⟨x,H6,I6,r6,y6,st6,fr6⟩=>?_
      have I6':=I6.pinned (stat fr6) (T.obj _ _ st6)
      have again:∀ {σ7:St} {H7:Hp} {s7:Shared},Inv (compCx X N' scope cl fp (X.pn ++ pins) s3 H3) ([] ++ pinsAt fp s6.heap) σ7 H7 s7 -> ∀ {acc':List (Key × V)} {m':Nat},m' < n -> Wv (i + 1) m' acc' σ7 H7 ->
          ∃ m,m < n /\ ∃ i acc σ' H',Inv (compCx X N' scope cl fp (X.pn ++ pins) s3 H3) [] σ' H' s7 /\ tn i s7.heap /\ (∀ b ∈ fp,H' b = none) /\ Wv i m acc σ' H':=fun {σ7 H7 s7} I7 {acc' m'} hm w7=>by
        refine ⟨m',hm,i + 1,acc',σ7,H7,I7.unpinned,T.keep _ _ _ st6 fun b hb o e=>(I7.pin (b,o) (List.mem_append_right _ (List.mem_append_right _ (mem_pinsAt hb e)))).1,fun b hb=>?_,w7⟩
        obtain ⟨o,e,d⟩:=T.obj _ _ st6 b hb
        exact (I7.pin (b,o) (List.mem_append_right _ (List.mem_append_right _ (mem_pinsAt hb e)))).2.1
      refine thn (hg _ s6 σ4 H6 x u _ I6' r6 (step x H6 y6)) fun _ s7 ⟨σ7,H7,I7,q7⟩=>?_
      refine thn (ht _ s7 σ7 H7 _ I7 q7) fun ok s8 ⟨H8,I8,q8⟩=>?_
      cases ok with
      | false =>
        rw [if_neg Bool.false_ne_true] at q8 ⊢
        obtain ⟨m',hm,w8⟩:=q8
        exact again I8 hm w8
      | true =>
        rw [if_pos rfl] at q8 ⊢
        refine thn (hk _ s8 σ7 H8 _ I8 q8) fun ku s9 ⟨ky,H9,I9,rk,q9⟩=>?_
        refine thn (he _ s9 σ7 H9 _ I9 q9) fun y s10 ⟨yv,H10,I10,r10,k,ek,eD,hl,m',hm,w10⟩=>?_
        subst ek
        obtain ⟨z,hd,vs,rel,dd⟩:=dk_of I10.hok eD
        have hz:vs.length <= sizeLine:=by rw [<- rel.length]; exact z
        have hl2:(putK acc k yv).length <= sizeLine:=by have:=length_putK acc k yv; omega
        refine wpAny_dictSet_pairs (hsz:=hz) (kV_is rk) dd fun h' dd' hs=>?_
        have hex:∃ q,h'.get? D = some q:=let ⟨q,_,_,hq,_⟩:=dd'; ⟨q,hq⟩
        exact again (d_write I10 (by rw [eD]; exact True.intro) hs hex (dk_new hl2 hd (rel.put k r10) dd')) hm w10
  exact codeAny_compStart_dict loop (T.self X.A 0 _ _ _ tY loop)
section
variable {X:Cx} {kx vx tg iter:Expr} {ifs:List Expr} {scope:Scope} {pos:Pos} {wi:TI} {g:CompA -> TG} {tt:CompA -> TT} {tk te:CompA -> TE}
theorem pe_dcomp (N':List Str) (fr:List (Option Nat)) (hc:X.calm = true) (hi:PI X tg iter wi) (hfr:frOk fr N' X.N scope X.env.scope = true) (hsc:scOk scope X.env.scope = true)
    (hg:∀ y,PG (blk X N' scope y) tg (g y)) (ht:∀ y,PTs (blk X N' scope y) ifs (tt y)) (hk:∀ y,PE (blk X N' scope y) kx (tk y)) (he:∀ y,PE (blk X N' scope y) vx (te y))
    (hs:∀ x,foldedSetIterable iter X.env x = pure x:=by intro _; rfl):PE X (.DictComp kx vx [⟨tg,iter,ifs,0⟩] scope pos) (tCompD wi fr g tt tk te):=by
  intro pins s σ H Q I h
  obtain ⟨sk,sn⟩:=Bool.and_eq_true_iff.mp hsc
  have hkind:scope.kind = .function:=of_decide_eq_true sk
  have hall:=List.all_eq_true.mp sn
  have hcell:∀ y ∈ scope.names,y.2 = .cell -> scope.names.lookup y.1 = some .cell:=fun y hy hl=>by
    rcases Bool.or_eq_true_iff.mp (Bool.and_eq_true_iff.mp (Bool.and_eq_true_iff.mp (hall y hy)).1).1 with z | z
    · exact absurd hl (of_decide_eq_true z)
    · exact of_decide_eq_true z
  have hnames:∀ y ∈ scope.names,y.2 = .local -> scope.names.lookup y.1 = some .local:=fun y hy hl=>by
    rcases Bool.or_eq_true_iff.mp (Bool.and_eq_true_iff.mp (Bool.and_eq_true_iff.mp (hall y hy)).1).2 with z | z
    · exact absurd hl (of_decide_eq_true z)
    · exact of_decide_eq_true z
  have hfree:∀ y ∈ scope.names,y.2 = .free -> X.env.kindOf y.1 = some .cell \/ X.env.kindOf y.1 = some .free:=fun y hy hl=>by
    rcases Bool.or_eq_true_iff.mp (Bool.and_eq_true_iff.mp (hall y hy)).2 with z | z
    · exact absurd hl (of_decide_eq_true z)
    · exact (Bool.or_eq_true_iff.mp z).imp of_decide_eq_true of_decide_eq_true
  obtain ⟨frl,frg⟩:=frOk.get hfr
  obtain ⟨cl,hclos,cl1,cl2⟩:=closure_for (env:=X.env) (scope:=scope) fun y hy hl=>I.ok.has y.1 (hfree y hy hl)
  rw [arm_eval_DictComp]
  refine wpAny_comprehension_free (use:=none) rfl hs hclos hkind hnames (thn (hi pins s σ H _ I h) fun v s1 h1=>thn h1 fun itv s2 h2=>?_)
  obtain ⟨it,fp,tn,J,H2,e,I2,T,st2,f2,q2⟩:=h2
  subst e
  refine wpAny_newObj_type ?_
  have hD:H2 s2.heap.objs.size = none:=I2.hok.fresh (Nat.le_refl _)
  have I3:Inv X pins σ (upd H2 s2.heap.objs.size (.dK [])) { s2 with heap:=s2.heap.push { cls:=.type "dict", data:=.dict #[] } } :=
    I2.laid (t':=s2.toks) (fun b u e=>Heap.get?_push_of_some _ e) (Nat.le_refl _) (dk_empty s2.heap I2.big)
  obtain ⟨Wv,⟨m0,w0⟩,turn⟩:=q2 _ hD
  have tn3:tn 0 (s2.heap.push { cls:=.type "dict", data:=.dict #[] }):=T.keep _ _ _ st2 fun b _ o e=>Heap.get?_push_of_some _ e
  have fpD:∀ b ∈ fp,(upd H2 s2.heap.objs.size (.dK [])) b = none:=fun b hb=>by
    obtain ⟨o,e,_⟩:=T.obj _ _ st2 b hb
    rw [upd_ne (Nat.ne_of_lt (Heap.lt_size e))]
    exact (f2 b hb).1
  have fp3:∀ b ∈ fp,b < (s2.heap.push { cls:=.type "dict", data:=.dict #[] }).objs.size:=fun b hb=>by
    obtain ⟨o,e,_⟩:=T.obj _ _ tn3 b hb
    exact Heap.lt_size e
  exact comp_blockD N' fr hc hkind hcell hfree frl frg cl1 cl2 I3 T tn3 fpD fp3 (fun b hb=>(f2 b hb).2) (hg ⟨cl,fp,X.pn ++ pins,_,_⟩) (ht ⟨cl,fp,X.pn ++ pins,_,_⟩) (hk ⟨cl,fp,X.pn ++ pins,_,_⟩) (he ⟨cl,fp,X.pn ++ pins,_,_⟩) w0 (turn ⟨cl,fp,X.pn ++ pins,_,_⟩)
    (Rp:=compPost (model X.prog X.w) X.A X.xe none (EP X pins σ Q) (.ref s2.heap.objs.size)) fun s5 H4 m hn k _ qn=>⟨m,hn,fun h' hs'=>⟨.ref _,H4,k h' hs',rfl,qn⟩⟩
theorem ps_setdcomp {b:Bool} {x:Str} {px spos:Pos} {ix:Nat} (N':List Str) (fr:List (Option Nat)) (hc:X.calm = true) (hi:PI X tg iter wi) (hfr:frOk fr N' X.N scope X.env.scope = true) (hsc:scOk scope X.env.scope = true)
    (hg:∀ y,PG (blk X N' scope y) tg (g y)) (ht:∀ y,PTs (blk X N' scope y) ifs (tt y)) (hk:∀ y,PE (blk X N' scope y) kx (tk y)) (he:∀ y,PE (blk X N' scope y) vx (te y)) (hN:X.N.Nodup) (hix:X.N[ix]? = some x) (hx:Loc X.env.scope x)
    (hf:X.fn x = true \/ X.env.scope.names.lookup x = some .local) (hsw:swapsWith (.DictComp kx vx [⟨tg,iter,ifs,0⟩] scope pos) (some (.Name x px)) spos.line X.env = pure b)
    (hs:∀ x,foldedSetIterable iter X.env x = pure x):PS X (.Assign [.Name x px] (.DictComp kx vx [⟨tg,iter,ifs,0⟩] scope pos) spos) (tAsg (tCompD wi fr g tt tk te) (gName ix)):=by
  cases b with
  | false=>exact ps_set hN hix hx (pe_dcomp N' fr hc hi hfr hsc hg ht hk he hs) hsw hf
  | true =>
  intro pins s σ H DD I h
  obtain ⟨sk,sn⟩:=Bool.and_eq_true_iff.mp hsc
  have hkind:scope.kind = .function:=of_decide_eq_true sk
  have hall:=List.all_eq_true.mp sn
  have hcell:∀ y ∈ scope.names,y.2 = .cell -> scope.names.lookup y.1 = some .cell:=fun y hy hl=>by
    rcases Bool.or_eq_true_iff.mp (Bool.and_eq_true_iff.mp (Bool.and_eq_true_iff.mp (hall y hy)).1).1 with z | z
    · exact absurd hl (of_decide_eq_true z)
    · exact of_decide_eq_true z
  have hnames:∀ y ∈ scope.names,y.2 = .local -> scope.names.lookup y.1 = some .local:=fun y hy hl=>by
    rcases Bool.or_eq_true_iff.mp (Bool.and_eq_true_iff.mp (Bool.and_eq_true_iff.mp (hall y hy)).1).2 with z | z
    · exact absurd hl (of_decide_eq_true z)
    · exact of_decide_eq_true z
  have hfree:∀ y ∈ scope.names,y.2 = .free -> X.env.kindOf y.1 = some .cell \/ X.env.kindOf y.1 = some .free:=fun y hy hl=>by
    rcases Bool.or_eq_true_iff.mp (Bool.and_eq_true_iff.mp (hall y hy)).2 with z | z
    · exact absurd hl (of_decide_eq_true z)
    · exact (Bool.or_eq_true_iff.mp z).imp of_decide_eq_true of_decide_eq_true
  obtain ⟨frl,frg⟩:=frOk.get hfr
  obtain ⟨cl,hclos,cl1,cl2⟩:=closure_for (env:=X.env) (scope:=scope) fun y hy hl=>I.ok.has y.1 (hfree y hy hl)
  rw [exec_Assign_Name_used _ _ _ _ hsw]
  refine wpAny_bind (wpAny_standAt (wpAny_bind ?_))
  show wpAny _ X.A (do let _ <- comprehension (.DictComp kx vx [⟨tg,iter,ifs,0⟩] scope pos) scope X.env _ newDict false (eval iter X.env) (some (assign (.Name x px) X.env))) _ _ s
  refine wpAny_bind (wpAny_mono (wpAny_comprehension_free (use:=some (assign (.Name x px) X.env)) (Q:=fun _ s'=>SP X pins DD .next s') rfl hs hclos hkind hnames
    (thn (hi pins s σ H _ I h) fun v s1 h1=>thn h1 fun itv s2 h2=>?_)) (fun _ s' hq=>wpAny_pure (wpAny_pure hq)) fun _ _ e=>e)
  obtain ⟨it,fp,tn,J,H2,e,I2,T,st2,f2,q2⟩:=h2
  subst e
  refine wpAny_newObj_type ?_
  have hD:H2 s2.heap.objs.size = none:=I2.hok.fresh (Nat.le_refl _)
  have I3:Inv X pins σ (upd H2 s2.heap.objs.size (.dK [])) { s2 with heap:=s2.heap.push { cls:=.type "dict", data:=.dict #[] } } :=
    I2.laid (t':=s2.toks) (fun b u e=>Heap.get?_push_of_some _ e) (Nat.le_refl _) (dk_empty s2.heap I2.big)
  obtain ⟨Wv,⟨m0,w0⟩,turn⟩:=q2 _ hD
  have tn3:tn 0 (s2.heap.push { cls:=.type "dict", data:=.dict #[] }):=T.keep _ _ _ st2 fun b _ o e=>Heap.get?_push_of_some _ e
  have fpD:∀ b ∈ fp,(upd H2 s2.heap.objs.size (.dK [])) b = none:=fun b hb=>by
    obtain ⟨o,e,_⟩:=T.obj _ _ st2 b hb
    rw [upd_ne (Nat.ne_of_lt (Heap.lt_size e))]
    exact (f2 b hb).1
  have fp3:∀ b ∈ fp,b < (s2.heap.push { cls:=.type "dict", data:=.dict #[] }).objs.size:=fun b hb=>by
    obtain ⟨o,e,_⟩:=T.obj _ _ tn3 b hb
    exact Heap.lt_size e
  refine comp_blockD (Q:=fun v H1=>gName ix v σ H1 DD.nx) N' fr hc hkind hcell hfree frl frg cl1 cl2 I3 T tn3 fpD fp3 (fun b hb=>(f2 b hb).2) (hg ⟨cl,fp,X.pn ++ pins,_,_⟩) (ht ⟨cl,fp,X.pn ++ pins,_,_⟩) (hk ⟨cl,fp,X.pn ++ pins,_,_⟩) (he ⟨cl,fp,X.pn ++ pins,_,_⟩) w0 (turn ⟨cl,fp,X.pn ++ pins,_,_⟩)
    (Rp:=compPost (model X.prog X.w) X.A X.xe (some (assign (.Name x px) X.env)) (fun _ s'=>SP X pins DD .next s') (.ref s2.heap.objs.size)) fun s5 H4 m hn k fpo qn=>?_
  show wpAny _ X.A (assign (.Name x px) X.env (.ref s2.heap.objs.size)) _ _ s5
  have I5:Inv X pins σ H4 s5:=k s5.heap (Heap.SameBut.refl _ _)
  obtain ⟨f0,f1,f2',f3,f4,f5⟩:=fpo
  refine wpAny_assign_Name (store_ok2 I5 hN hix hx (v:=.ref s2.heap.objs.size) rfl (fun s6 I6 sb=>?_) hf)
  obtain ⟨a,sb,ha⟩:=sb
  have hne:(s2.heap.push { cls:=.type "dict", data:=.dict #[] }).objs.size ≠ a:=by
    rcases ha with rfl | ha
    · exact f1
    · exact fun z=>f4 x a ha z.symm
  refine ⟨m,hn.at' fun o e=>sb.extBut _ o hne e,fun h' hs'=>?_⟩
  exact ⟨_,H4,I6.turned (t':=s6.toks) (fun b o hb e=>hs'.extBut b o hb e) f0 f1 f3 f4 f5,qn⟩
end
end L2

namespace L2
open PySem PySem.Spec PyProof.Rows
noncomputable def runMax:Option Int -> List Int -> Option Int
  | o,[]=>o
  | none,n :: r=>runMax (some n) r
  | some m,n :: r=>runMax (some (if n > m then n else m)) r
theorem args_maxD (a d:Value):argsOk "max" ⟨[a],[(Str.ofString "default", d)]⟩:=by unfold argsOk; kernel_rfl
section
variable {prog:Program} {w:World} {A:Around} {E:Value -> Shared -> Prop}
noncomputable def BestIs (o:Option Int) (arr:Array Value):Prop:=match o with
  | none=>arr = #[]
  | some m=>∃ t,arr = #[.int m t,.int m t]
theorem maxD_loop {R:Result -> Shared -> Prop} {I l S:Addr} {vs:List Value} {ns:List Int} {d:Value} (hh:A.handled = none) (hI:IntsAre vs ns) (hl:l ≠ I) (hSI:S ≠ I) (hSl:S ≠ l) :
    ∀ (k j:Nat) (s:Shared) (o:Option Int) (arr:Array Value) (c:Nat),vs.length - j = k -> j <= vs.length -> BestIs o arr -> s.heap.IsListIter I l j -> s.heap.IsList l vs.toArray ->
      s.heap.get? S = some { cls:=.type "list", dict:=none,data:=.seq arr c,slots:=#[] } ->
      (∀ v h' tk,(runMax o (ns.drop j) = none /\ v = d \/ ∃ m t,runMax o (ns.drop j) = some m /\ v = .int m t) -> (∀ b q,b ≠ I -> b ≠ S -> s.heap.get? b = some q -> h'.get? b = some q) -> R (.ok (.ret v)) { s with heap:=h',toks:=tk }) ->
      codeAny (model prog w) A (.builtin "max.loop" ⟨[.ref I,.none,.ref S],[(Str.ofString "default", d)]⟩) R s:=by
  have hn:(toString "max" ++ toString ".loop" : String) = "max.loop" := by decide
  have W:=Walks.list (prog:=prog) (w:=w) (A:=A.in1) hh I l hl vs.toArray
  have hz:vs.toArray.size = vs.length:=List.size_toArray ..
  have len:vs.length = ns.length:=hI.length
  intro k
  induction k with
  | zero =>
    intro j s o arr c hk hj hb h1 h2 hS hR
    have ej:j = vs.length:=by omega
    subst ej
    have ed:ns.drop vs.length = []:=by rw [len]; exact List.drop_length
    rw [ed] at hR
    refine codeAny_builtin (PySem.F.entry_max_loop) ?_; rw [Around.under_plainId PySem.F.plain_max_loop _]
    show wpAny _ A.in1 (seqItems? (.ref S) >>= _) _ _ s; refine wpAny_bind (wpAny_seqItems hS rfl ?_)
    show wpAny _ A.in1 (tryCatch (pyNext (.ref I)) _ >>= _) _ _ s; refine wpAny_bind (wpAny_tryCatch (W.done s _ _ (by rw [hz]; exact ⟨h1,h2⟩) fun h' tk kp=>?_))
    have kp':∀ b q,b ≠ I -> s.heap.get? b = some q -> h'.get? b = some q:=fun b q n e=>kp b q (by simpa using n) e
    cases o with
    | none =>
      cases (show arr = #[] from hb)
      exact wpAny_bind (wpAny_rule (wpAny_pure (hR d h' tk (.inl ⟨rfl,rfl⟩) fun b q n _ e=>kp' b q n e)))
    | some m =>
      obtain ⟨t,rfl⟩:=(show ∃ t,arr = #[.int m t,.int m t] from hb)
      show wpAny _ A.in1 (updateSeq S (fun _=>#[]) >>= _) _ _ _; refine wpAny_bind (wpAny_updateSeq (kp' S _ hSI hS) rfl (wpAny_bind (wpAny_letGo (wpAny_pure ?_))))
      exact hR _ _ tk (.inr ⟨m,t,rfl,rfl⟩) fun b q n n2 e=>(Heap.get?_update_other _ _ n2.symm).trans (kp' b q n e)
  | succ k ih =>
    intro j s o arr c hk hj hb h1 h2 hS hR
    have hlt:j < vs.length:=by omega
    refine codeAny_builtin (PySem.F.entry_max_loop) ?_; rw [Around.under_plainId PySem.F.plain_max_loop _]
    show wpAny _ A.in1 (seqItems? (.ref S) >>= _) _ _ s; refine wpAny_bind (wpAny_seqItems hS rfl ?_)
    show wpAny _ A.in1 (tryCatch (pyNext (.ref I)) _ >>= _) _ _ s; refine wpAny_bind (wpAny_tryCatch (W.item j s _ _ (by rw [hz]; exact hlt) ⟨h1,h2⟩ fun v h' tk hP st kp=>?_))
    have kp':∀ b q,b ≠ I -> s.heap.get? b = some q -> h'.get? b = some q:=fun b q n e=>kp b q (by simpa using n) e
    have hS':=kp' S _ hSI hS
    have hv:vs[j]? = some v:=by simpa using hP
    obtain ⟨n,t,en,rfl⟩:∃ n t,ns[j]? = some n /\ v = .int n t:=by
      have hv':=hv
      clear hR ih hk hj hlt h1 h2 hP st W hz len
      induction hI generalizing j with
      | nil=>simp at hv'
      | cons n t r ih2 =>
        cases j with
        | zero=>simp at hv'; subst hv'; exact ⟨n,t,rfl,rfl⟩
        | succ j=>simp at hv'; simpa using ih2 j (by simpa using hv) hv'
    have ed:ns.drop j = n :: ns.drop (j + 1):=by
      have hj2:j < ns.length:=by omega
      rw [List.drop_eq_getElem_cons hj2]
      rw [List.getElem?_eq_getElem hj2] at en
      cases en
      rfl
    rw [ed] at hR
    have put:∀ (o2:Option Int) (t2:Tok),o2 = some n -> t2 = t -> runMax o (n :: ns.drop (j + 1)) = runMax (some n) (ns.drop (j + 1)) ->
        codeAny (model prog w) A (.builtin "max.loop" ⟨[.ref I,.none,.ref S],[(Str.ofString "default", d)]⟩) R { s with heap:=h'.update S (Obj.mapSeq fun _=>#[.int n t,.int n t]),toks:=tk }:=fun o2 t2 _ _ er=>by
      refine ih (j + 1) _ (some n) #[.int n t,.int n t] _ (by omega) (by omega) ⟨t,rfl⟩ (st.1.at fun q e=>(Heap.get?_update_other _ _ hSI).trans e) (st.2.at fun q e=>(Heap.get?_update_other _ _ hSl).trans e) (Heap.get?_update_self _ hS' rfl) fun v2 h2 tk2 hv2 kp2=>?_
      rw [<- er] at hv2
      exact hR v2 h2 tk2 hv2 fun b q n1 n2 e=>kp2 b q n1 n2 ((Heap.get?_update_other _ _ n2.symm).trans (kp' b q n1 e))
    cases o with
    | none =>
      cases (show arr = #[] from hb)
      show wpAny _ A.in1 (updateSeq S (fun _=>#[.int n t,.int n t]) >>= _) _ _ _; refine wpAny_bind (wpAny_updateSeq hS' rfl ?_)
      rw [hn]
      exact wpAny_pure ⟨plainId_quiet PySem.F.plain_max_loop _,put _ _ rfl rfl rfl⟩
    | some m =>
      obtain ⟨t0,rfl⟩:=(show ∃ t,arr = #[.int m t,.int m t] from hb)
      show wpAny _ A.in1 (tryCatch (holding [.int n t,.int n t] (richCompare .Gt (.int n t) (.int m t0) >>= _)) _ >>= _) _ _ _
      have cm:CmpOf prog w A.in1 .Gt (fun i v=>∃ x t,v = Value.int x t /\ x = (if i = 0 then m else n)) (fun i j=>decide ((if i = 0 then m else n) > (if j = 0 then m else n))):=PySem.CmpOf.ints_gt (fun i=>if i = 0 then m else n) fun i v ⟨x,t,e,e2⟩=>⟨t,by rw [e,e2]⟩
      refine wpAny_bind (wpAny_tryCatch (wpAny_holding (wpAny_bind (cm 1 0 _ _ _ _ _ ⟨n,t,rfl,rfl⟩ ⟨m,t0,rfl,rfl⟩ ?_))))
      refine wpAny_bind (wpAny_holding (wpAny_truthy_bool (wpAny_bind (wpAny_letGo (wpAny_pure ?_)))))
      by_cases hg:n > m
      · simp only [if_neg (show ¬ ((1:Nat) = 0) by decide),if_pos (show (0:Nat) = 0 from rfl),decide_eq_true hg,if_true]
        refine wpAny_bind (wpAny_updateSeq hS' rfl (wpAny_bind (wpAny_letGo ?_)))
        rw [hn]
        exact wpAny_pure ⟨plainId_quiet PySem.F.plain_max_loop _,put _ _ rfl rfl (by simp only [runMax,if_pos hg])⟩
      · simp only [if_neg (show ¬ ((1:Nat) = 0) by decide),if_pos (show (0:Nat) = 0 from rfl),if_true,decide_eq_false hg,Bool.false_eq_true,if_false]
        refine wpAny_bind (wpAny_letGo ?_)
        rw [hn]
        refine wpAny_pure ⟨plainId_quiet PySem.F.plain_max_loop _,ih (j + 1) _ (some m) _ c (by omega) (by omega) ⟨t0,rfl⟩ st.1 st.2 hS' fun v2 h2 tk2 hv2 kp2=>?_⟩
        refine hR v2 h2 tk2 ?_ fun b q n1 n2 e=>kp2 b q n1 n2 (kp' b q n1 e)
        simp only [runMax,if_neg hg]
        exact hv2
theorem max_default {s:Shared} {l:Addr} {vs:List Value} {ns:List Int} {d:Value} {Q:Value -> Shared -> Prop} (hh:A.handled = none) (hI:IntsAre vs ns) (hls:s.heap.IsList l vs.toArray)
    (hQ:∀ v h' tk,(runMax none ns = none /\ v = d \/ ∃ m t,runMax none ns = some m /\ v = .int m t) -> (∀ b q,s.heap.get? b = some q -> h'.get? b = some q) -> Q v { s with heap:=h',toks:=tk }) :
    wpAny (model prog w) A (call (.builtin "max") [.ref l] [(Str.ofString "default", d)]) Q E s:=by
  have hn:(toString "max" ++ toString ".loop" : String) = "max.loop" := by decide
  obtain ⟨ol,hol,_⟩:=id hls
  have hll:l < s.heap.objs.size:=Heap.lt_size hol
  refine PyProof.Rows.kmk_tree (PySem.F.kind_max) PySem.F.plain_max PySem.F.entry_max (args_maxD _ _) ?_
  show wpAny _ A.in1 (Builtin.Builtins.bindParams "max" ["key", "default"] 0 ⟨[],[(Str.ofString "default", d)]⟩ >>= _) _ _ s
  refine wpAny_bind (wpAny_of_eq (show Builtin.Builtins.bindParams "max" ["key", "default"] 0 ⟨[],[(Str.ofString "default", d)]⟩ = pure [none,some d] from rfl) ?_)
  refine wpAny_bind (wpAny_pure (wpAny_bind (wpAny_pyIter_list hls (wpAny_bind (wpAny_newList ?_ (Nat.zero_le _))))))
  rw [hn]
  have zI:(s.heap.push { cls:=.type "list_iterator", data:=.fields #[.ref l,.int 0 0] }).objs.size = s.heap.objs.size + 1:=size_push' ..
  refine wpAny_pure ⟨plainId_quiet PySem.F.plain_max_loop _,?_⟩
  refine maxD_loop (I:=s.heap.objs.size) (l:=l) hh hI (Nat.ne_of_lt hll) (by rw [zI]; exact Nat.ne_of_gt (Nat.lt_succ_self _)) (by rw [zI]; exact Nat.ne_of_gt (Nat.lt_succ_of_lt hll)) vs.length 0 _ none #[] 0 (by omega) (Nat.zero_le _) rfl
    ⟨_,Heap.get?_push_of_some _ (Heap.get?_push_size _ rfl),rfl,rfl⟩ (hls.at fun q e=>Heap.get?_push_of_some _ (Heap.get?_push_of_some _ e)) (Heap.get?_push_size _ rfl) fun v h' tk hv kp=>?_
  refine hQ v h' tk (by simpa using hv) fun b q e=>?_
  have hb:=Heap.lt_size e
  exact kp b q (Nat.ne_of_lt hb) (by rw [zI]; exact Nat.ne_of_lt (Nat.lt_succ_of_lt hb)) (Heap.get?_push_of_some _ (Heap.get?_push_of_some _ e))
end
end L2

namespace L2
open PySem PySem.Spec PyProof.Rows
section
variable {X:Cx}
theorem intsAre_items {P:Program} {w:World}:∀ {vs:List (Key × Value)} {ns:List Int} {l:List Value},vs.map (·.1) = ns.map Sum.inl -> l.length = vs.length ->
    (∀ (i:Nat) v,l[i]? = some v -> ∃ k x,vs[i]? = some (k,x) /\ (mixKind P w).is k v = true) -> IntsAre l ns
  | [],[],[],_,_,_=>.nil
  | [],[],_ :: _,_,h,_=>by simp at h
  | [],_ :: _,_,h,_,_=>by simp at h
  | _ :: _,[],_,h,_,_=>by simp at h
  | _ :: _,_ :: _,[],_,h,_=>by simp at h
  | (k,x) :: vs,n :: ns,v :: l,h1,h2,h3=>by
    simp only [List.map_cons,List.cons.injEq] at h1
    obtain ⟨k',x',e,hv⟩:=h3 0 v rfl
    simp at e
    obtain ⟨rfl,rfl⟩:=e
    rw [h1.1] at hv
    have hv:keyIs (Sum.inl n) v = true:=hv
    rcases keyIs_shape hv with ⟨i,t,e1,e2⟩ | ⟨y,t,e1,e2⟩
    · cases e1
      subst e2
      exact .cons n t (intsAre_items (P:=P) (w:=w) h1.2 (by simpa using h2) fun i v hv=>by simpa using h3 (i + 1) v (by simpa using hv))
    · cases e1
theorem sorted_dict {prog:Program} {w:World} {A:Around} {E:Value -> Shared -> Prop} {s:Shared} {a:Addr} {vs:List (Key × Value)} {ns:List Int} {Q:Value -> Shared -> Prop} (hh:A.handled = none) (hd:(a == sysModules) = false)
    (dd:s.heap.DictOf (mixKind prog w) a vs) (hk:vs.map (·.1) = ns.map Sum.inl) (h64:ns.length < 64)
    (h:∀ (h0 h':Heap) (tk:Nat) (out:Array Value) (ns':List Int) (c:Nat),(∀ b o,s.heap.get? b = some o -> h0.get? b = some o) -> (∀ b o,h0.get? b = some o -> h'.get? b = some o) -> h'.get? h0.objs.size = some (seqObj "list" out c) ->
      IntsAre out.toList ns' -> ns'.Perm ns -> ns'.Pairwise (· <= ·) -> Q (.ref h0.objs.size) { s with heap:=h',toks:=tk }) :
    wpAny (model prog w) A (call (.builtin "sorted") [.ref a]) Q E s:=by
  obtain ⟨ep,da⟩:=dd.dictAt
  have sz:=PySem.sizeLine_eq
  have hl:vs.length = ns.length:=by have:=congrArg List.length hk; simpa using this
  refine Calls.call_function_entry kind_sorted plain_sorted entry_sorted (args_sorted1 (.ref a)) ?_; unfold Builtin.«sorted»
  refine wpAny_bind (m:=checkCount "sorted" 1 1 _) (wpAny_pure (wpAny_bind (W.kdu_collect (A:=A.in1) (W.kdl_dict (knd:=mixKind prog w) (kvs:=vs) (ep:=ep) hd) hh da (by omega) fun h0 tk acc k0 hacc=>wpAny_bind (wpAny_newList ?_ ?_))))
  · have iA:IntsAre acc.toList ns:=intsAre_items (P:=prog) (w:=w) hk (by rw [Array.length_toList]; exact hacc.1) fun i v e=>hacc.2 i v (by rw [<- Array.getElem?_toList]; exact e)
    have l64:acc.toList.length < 64:=by rw [iA.length]; exact h64
    have hoL:(h0.push (seqObj "list" acc.toList.toArray 0)).get? h0.objs.size = some (seqObj "list" acc.toList.toArray 0):=Heap.get?_push_size _ rfl
    show wpAny _ _ _ _ _ { s with heap:=h0.push (seqObj "list" acc.toList.toArray 0),toks:=tk }
    refine wpAny_bind (wpAny_holding (wpAny_call_entry slot_list_sort ⟨_,hoL,rfl⟩ entry_list_sort (list_sort_tree (s:={ s with heap:=h0.push (seqObj "list" acc.toList.toArray 0),toks:=tk }) hoL iA l64 fun out ns' q1 q2 q3=>⟨_,rfl,?_⟩) (args_list_sort _)))
    have e1:=get?_update_seq hoL (fun _=>#[])
    have e2:((((h0.push (seqObj "list" acc.toList.toArray 0)).update h0.objs.size (Obj.mapSeq fun _=>#[])).push (seqObj "tuple" acc.toList.toArray 0)).push (seqObj "list" #[] 0)).get? h0.objs.size = _ :=
      Heap.get?_push_of_some _ (Heap.get?_push_of_some _ e1)
    have e3:=get?_update_seq e2 (fun _=>out)
    refine wpAny_pure ⟨_,rfl,h h0 _ _ out ns' _ k0 (fun b ob eb=>?_) e3 q1 q2 q3⟩
    have ne:h0.objs.size ≠ b:=Nat.ne_of_gt (Heap.lt_size eb)
    exact (Heap.get?_update_other _ _ ne).trans (Heap.get?_push_of_some _ (Heap.get?_push_of_some _ ((Heap.get?_update_other _ _ ne).trans (Heap.get?_push_of_some _ eb))))
  · rw [Array.length_toList,hacc.1]; omega
theorem call_sortedK (hc:X.calm = true):CallR X (.builtin "sorted") (fun xs H Q=>∃ (a:Addr) (us:List (Key × V)) (ns:List Int),xs = [.ref a] /\ Rd H a (.dK us) /\ us.map (·.1) = ns.map Sum.inl /\ ns.length < 64 /\
    ∀ ns':List Int,ns'.Perm ns -> ns'.Pairwise (· <= ·) -> ∀ l,H l = none -> Q (.ref l) (upd H l (.lst (ns'.map V.int)))):=by
  intro pins s σ H xs us Q I r ⟨a,vs,ns,ex,hq,hk,h64,q⟩
  subst ex
  obtain ⟨u,rfl,ru⟩:=vals1 r
  cases ru
  obtain ⟨z,hd,ws,rel,dd⟩:=dk_rd I.hok hq
  have sz:=PySem.sizeLine_eq
  refine sorted_dict (I.ok.hd hc) hd dd (by rw [<- rel.keys]; exact hk) h64 fun h0 h' tk out ns' c k0 k1 e a1 a2 a3=>?_
  have I1:Inv X pins σ H { s with heap:=h0 }:=I.kept (t':=s.toks) k0
  refine ⟨.ref h0.objs.size,_,I1.laid (t':=tk) (o:=.lst (ns'.map V.int)) k1 (Nat.le_refl _) ⟨?_,out.toList,c,vals_intsA a1,by rw [Array.toArray_toList]; exact e⟩,rfl,q ns' a2 a3 _ (I1.hok.fresh (Nat.le_refl _))⟩
  rw [List.length_map,a2.length_eq]
  omega
noncomputable def mxV (d:V) (ns:List Int):V:=match runMax none ns with
  | none=>d
  | some m=>.int m
noncomputable def tMaxD (K:W.Frag) (t tk:TA):TE:=fun σ H Q=>t σ H fun vs H1=>tk σ H1 fun zs H2=>∃ l ns d,vs = [.ref l] /\ zs = [d] /\ SqL K H2 l (ns.map V.int) /\ Q (mxV d ns) H2
theorem pe_maxD {e c:Expr} {t tk:TA} {p pos kpos:Pos} (hc:X.calm = true) (hm:X.mg "max" = none) (ha:PA X [e] t) (hk:PK X [⟨some "default", c,kpos⟩] tk) (hg:Gl X "max")
    (he:backTo pos (starEach [e] X.env) = (false,eval e X.env) :: backTo pos (starEach [] X.env):=by rfl) (hpl:(backTo pos (starEach [e] X.env)).any (·.1) = false:=by rfl) :
    PE X (.Call (.Name "max" p) [e] [⟨some "default", c,kpos⟩] pos) (tMaxD X.K t tk):=by
  intro pins s σ H Q I h
  refine wpAny_Call_Name_kw (ld_blt I hg hm (by rfl) ?_ (by decide) (by decide))
  refine PyProof.Rows.callWith_kw (thn (ha pos pins s σ H _ I h) fun us s1 ⟨vs,H1,I1,r1,q1⟩=>?_) he hpl
  refine thn (hk pos pins s1 σ H1 _ I1 q1) fun ws s2 ⟨zs,H2,I2,r2,l,ns,d,e1,e2,sq,q2⟩=>?_
  subst e1 e2
  obtain ⟨u,rfl,ru⟩:=vals1 r1
  obtain ⟨w',rfl,rw'⟩:=vals1 r2
  cases ru
  obtain ⟨its,rv,pl,hz⟩:=I2.list sq
  show wpAny _ _ (call (.builtin "max") [.ref l] [(Str.ofString "default", w')]) _ _ _
  refine max_default (I.ok.hd hc) (intsAre_of rv) pl.isList fun v h' tk hv kp=>⟨mxV d ns,H2,I2.kept kp,?_,q2⟩
  rcases hv with ⟨e,rfl⟩ | ⟨m,t,e,rfl⟩
  · unfold mxV; rw [e]; exact rw'
  · unfold mxV; rw [e]; exact ⟨t,rfl⟩
end
end L2
theorem L2.Room.un1 {k:Nat} {A:PySem.Around} (r:L2.Room k A):A.units + 1 < PySem.cLine:=by have:=r.un; omega
namespace L2.VL
open PySem PySem.Spec PyProof.Rows
noncomputable def valF (kvs:List (Key × PyData)) (k:Key):Option PyData:=(kvs.find? fun kv=>decide (kv.1 = k)).map (·.2)
noncomputable def putF (kvs:List (Key × PyData)) (k:Key) (x:PyData):List (Key × PyData) :=
  if (kvs.any fun kv=>decide (kv.1 = k)) = true then kvs.map (fun kv=>if kv.1 = k then (kv.1,x) else kv) else kvs ++ [(k,x)]
section
variable {K:W.Frag} {F:Hp} {us:List (Key × V)} {kvs:List (Key × PyData)}
theorem KDk.val (r:KDk K F us kvs) (k:Key):(valV us k = none /\ valF kvs k = none) \/ ∃ v d,valV us k = some v /\ valF kvs k = some d /\ Rep K F v d:=by
  induction r with
  | nil=>exact .inl ⟨rfl,rfl⟩
  | @cons p q ps qs h t ih =>
    unfold valV valF at *
    rw [List.find?_cons,List.find?_cons,h.1]
    by_cases e:q.1 = k
    · simp only [e,decide_true]
      exact .inr ⟨p.2,q.2,rfl,rfl,h.2⟩
    · simp only [e,decide_false]
      exact ih
theorem KDk.any (r:KDk K F us kvs) (k:Key):(us.any fun kv=>decide (kv.1 = k)) = kvs.any fun kv=>decide (kv.1 = k):=by
  induction r with
  | nil=>rfl
  | cons h t ih=>rw [List.any_cons,List.any_cons,ih,h.1]
theorem KDk.keys (r:KDk K F us kvs):us.map (·.1) = kvs.map (·.1):=by
  induction r with
  | nil=>rfl
  | cons h t ih=>rw [List.map_cons,List.map_cons,ih,h.1]
theorem KDk.repl (r:KDk K F us kvs) (k:Key) {v:V} {d:PyData} (rv:Rep K F v d):KDk K F (us.map fun kv=>if kv.1 = k then (kv.1,v) else kv) (kvs.map fun kv=>if kv.1 = k then (kv.1,d) else kv):=by
  induction r with
  | nil=>exact .nil
  | @cons p q ps qs h t ih =>
    refine .cons ?_ ih
    show (if p.1 = k then (p.1,v) else p).1 = (if q.1 = k then (q.1,d) else q).1 /\ Rep K F (if p.1 = k then (p.1,v) else p).2 (if q.1 = k then (q.1,d) else q).2
    by_cases e:q.1 = k
    · have e':p.1 = k:=h.1.trans e
      rw [if_pos e,if_pos e']
      exact ⟨h.1,rv⟩
    · have e':¬ p.1 = k:=fun z=>e (h.1.symm.trans z)
      rw [if_neg e,if_neg e']
      exact h
theorem KDk.snoc (r:KDk K F us kvs) (k:Key) {v:V} {d:PyData} (rv:Rep K F v d):KDk K F (us ++ [(k,v)]) (kvs ++ [(k,d)]):=by
  induction r with
  | nil=>exact .cons ⟨rfl,rv⟩ .nil
  | cons h t ih=>exact .cons h ih
theorem KDk.put (r:KDk K F us kvs) (k:Key) {v:V} {d:PyData} (rv:Rep K F v d):KDk K F (putK us k v) (putF kvs k d):=by
  unfold putK putF
  rw [r.any k]
  split
  · exact r.repl k rv
  · exact r.snoc k rv
theorem KDk.mono {F':Hp} (s:Same F F') (r:KDk K F us kvs):KDk K F' us kvs:=Paired.mapP r fun _ _ z=>⟨z.1,z.2.mono s⟩
end
noncomputable def keyW:W -> Option Key
  | .d (.int i)=>some (.inl i)
  | .d (.str x)=>some (.inr x)
  | _=>none
noncomputable def asFd:W -> Option (List (Key × PyData))
  | .fd kvs=>some kvs
  | _=>none
theorem keyW_i (i:Int):keyW (.d (.int i)) = some (.inl i):=rfl
theorem keyW_s (x:Str):keyW (.d (.str x)) = some (.inr x):=rfl
theorem asFd_f (kvs:List (Key × PyData)):asFd (.fd kvs) = some kvs:=rfl
theorem asFd_of {w:W} {kvs:List (Key × PyData)}:asFd w = some kvs ↔ w = .fd kvs:=by
  constructor
  · intro h; unfold asFd at h; split at h <;> simp_all
  · rintro rfl; rfl
theorem keyW_rel {K:W.Frag} {rl:RlT} {F H:Hp} {v:V} {w:W} {k:Key} (e:keyW w = some k) (r:RelW K rl F H v w):v = kV k:=by
  unfold keyW at e
  split at e
  · cases e; exact rep_int r
  · cases e; exact rep_str r
  · cases e
theorem isPk_fd (kvs:List (Key × PyData)):(W.fd kvs).isPk = false:=rfl
theorem fz_fd (kvs:List (Key × PyData)):(W.fd kvs).fz = .fd kvs:=rfl
theorem pk_fd (kvs:List (Key × PyData)):(W.fd kvs).peek = .fd kvs:=rfl
noncomputable def vGoD (ρ0:En) (g:TGv) (ft:TB) (fk fe:TV):List PyData -> List (Key × PyData) -> (List (Key × PyData) -> Prop) -> Prop
  | [],acc,Q=>Q acc
  | x :: xs,acc,Q=>g x ρ0 fun ρ2=>Le ρ0 ρ2 /\ ft ρ2 fun b=>if b = true then fk ρ2 fun wk=>∃ k,keyW wk = some k /\ fe ρ2 fun w=>∃ d,w.fz = .d d /\ acc.length < sizeLine /\ vGoD ρ0 g ft fk fe xs (putF acc k d) Q else vGoD ρ0 g ft fk fe xs acc Q
noncomputable def vCompD (fi:En -> (List PyData -> Prop) -> Prop) (fr:List (Option Nat)) (g:TGv) (ft:TB) (fk fe:TV):TV:=fun ρ Q=>fi ρ fun xs=>vGoD (frEn fr ρ) g ft fk fe xs [] fun kvs=>Q (.fd kvs)
section
variable {X:Cx} {rl:RlT} {kx vx tg iter:Expr} {ifs:List Expr} {scope:Scope} {pos:Pos} {fi:En -> (List PyData -> Prop) -> Prop} {g:TGv} {ft:TB} {fk fe:TV}
theorem dcomp_k {N':List Str} {wi:TI} (fr:List (Option Nat)) (k0:∀ {F₀ H₀ F H:Hp} {σ:St} {ρ:En},VR X.K rl F₀ H₀ F H σ ρ -> ∀ (Qd:List PyData -> Prop) (R:It -> Hp -> Prop),fi ρ Qd ->
      (∀ J xs F' H',Grow rl F H F' H' -> VIt X.K rl F' J xs -> Qd xs -> R J H') -> wi σ H R)
    (hg:∀ y,PGV (blk X N' scope y) rl tg g) (ht:∀ y,PTVs (blk X N' scope y) rl ifs ft) (hk:∀ y,PV (blk X N' scope y) rl kx fk) (he:∀ y,PV (blk X N' scope y) rl vx fe)
    {F₀ H₀ F H:Hp} {σ:St} {ρ:En} (R:VR X.K rl F₀ H₀ F H σ ρ) (Qd:W -> Prop) (Q:VK) (q:vCompD fi fr g ft fk fe ρ Qd)
    (k:∀ v w F' H',Grow rl F H F' H' -> RelW X.K rl F' H' v w -> NewIn H v w -> Qd w -> Q v H'):tCompD wi fr (fun y=>Classical.choose (hg y)) (fun y=>Classical.choose (ht y)) (fun y=>Classical.choose (hk y)) (fun y=>Classical.choose (he y)) σ H Q:=by
  refine k0 R _ _ q fun J xs F1 H1 g1 vi q1=>?_
  intro D hD
  have rD:rl.a ≠ some D:=fun e=>by obtain ⟨o,z⟩:=g1.reel.live e; rw [hD] at z; cases z
  have FD:F1 D = none:=g1.sub.free hD
  have gD:Grow rl F1 H1 F1 (upd H1 D (.dK [])):=Grow.laid g1.sub g1.reel hD
  have R1:=R.grow g1
  have n0:NoMl (frEn fr ρ):=noMl_block
  refine ⟨fun i m acc σc Hc=>m = xs.length - i /\ i <= xs.length /\ ∃ Fc ds,VR X.K rl F1 H1 Fc Hc σc (frEn fr ρ) /\ Hc D = some (.dK acc) /\ Fc D = none /\ KDk X.K Fc acc ds /\ vGoD (frEn fr ρ) g ft fk fe (xs.drop i) ds (fun ds=>Qd (.fd ds)),
    ⟨xs.length,by simp,Nat.zero_le _,F1,[],vr_block R1 gD,upd_same,FD,.nil,by simpa using q1⟩,?_⟩
  rintro z i m acc σc Hc ⟨rfl,hi,Fc,ds,Rc,hDc,fDc,rs,q2⟩
  have sH:Same F1 Hc:=Rc.g.fs.trans Rc.sub
  by_cases hlt:i < xs.length
  · have ei:xs[i]? = some xs[i]:=by simp [hlt]
    have ed:xs.drop i = xs[i] :: xs.drop (i + 1):=List.drop_eq_getElem_cons hlt
    rw [ed] at q2
    refine .inr ⟨vi.go i Hc _ ei sH,fun v H' y=>?_⟩
    obtain ⟨Fy,gy,rv⟩:=vi.yld i Hc v H' _ Fc ei Rc.g.fs Rc.sub Rc.reel y
    refine (Classical.choose_spec (hg z)).2 (Rc.grow gy) v _ _ _ rv q2 fun F3 H3 σ3 ρ3 g3 n3 R3 ⟨le3,q3⟩=>?_
    refine (Classical.choose_spec (ht z)).2 R3 _ _ q3 fun b F4 H4 g4 q4=>?_
    have R4:=R3.grow g4
    have g34:=(gy.trans g3).trans g4
    have keepD:∀ {Fx Hx:Hp},Grow rl Fc Hc Fx Hx -> Hx D = some (.dK acc) /\ Fx D = none:=fun gx=>⟨gx.same D _ hDc rD,by rw [gx.old D _ hDc]; exact fDc⟩
    cases b with
    | false=>exact ⟨xs.length - (i + 1),by omega,rfl,hlt,F4,ds,R4.le le3,(keepD g34).1,(keepD g34).2,rs.mono g34.fs,q4⟩
    | true =>
      refine (Classical.choose_spec (hk z)).2 R4 _ _ q4 fun vk wk Fk Hk gk rk nk ⟨kk,ekk,qk⟩=>?_
      have evk:=keyW_rel ekk rk
      have R5:=R4.grow gk
      refine (Classical.choose_spec (he z)).2 R5 _ _ qk fun v5 w5 F5 H5 g5 r5 n5 ⟨d,ed5,hl,q5⟩=>?_
      obtain ⟨F6,g6,s6,r6⟩:=RelW.fz g5 r5 n5
      rw [ed5] at r6
      have g36:=(g34.trans gk).trans g6
      have lds:acc.length = ds.length:=Paired.length rs
      refine ⟨kk,evk,(keepD g36).1,by rw [lds]; exact hl,xs.length - (i + 1),by omega,rfl,hlt,F6,putF ds kk d,((R5.grow g6).le le3).other n0 hD (keepD g36).2 rD,upd_same,(keepD g36).2,(rs.mono g36.fs).put kk r6,q5⟩
  · have e:i = xs.length:=by omega
    subst e
    rw [List.drop_length] at q2
    have neF:∀ b u,Fc b = some u -> b ≠ D:=fun b u q z=>by subst z; rw [fDc] at q; cases q
    have fsm:Same Fc (upd Fc D (.dK acc)):=fun b u z=>by rw [upd_ne (neF b u z)]; exact z
    refine .inl ⟨vi.stop _ Hc (Nat.le_refl _) sH,k _ (.fd ds) (upd Fc D (.dK acc)) Hc ((g1.trans Rc.g).freeze (g1.freeB hD) hDc fDc rD) ⟨D,acc,rfl,upd_same,rs.mono fsm⟩ trivial q2⟩
theorem vs_setdcomp (i:Nat) {b:Bool} {x:Str} {px spos:Pos} (hN:X.N.Nodup) (N':List Str) (fr:List (Option Nat)) (hc:X.calm = true) (hi:PIV X rl tg iter fi)
    (hg:∀ y,PGV (blk X N' scope y) rl tg g) (ht:∀ y,PTVs (blk X N' scope y) rl ifs ft) (hk:∀ y,PV (blk X N' scope y) rl kx fk) (he:∀ y,PV (blk X N' scope y) rl vx fe)
    (hsw:swapsWith (.DictComp kx vx [⟨tg,iter,ifs,0⟩] scope pos) (some (.Name x px)) spos.line X.env = pure b:=by rfl)
    (hix:X.N[i]? = some x:=by rfl) (hx:Loc X.env.scope x:=by first | exact Or.inl rfl | exact Or.inr rfl) (hf:X.fn x = true \/ X.env.scope.names.lookup x = some .local:=by first | exact .inl rfl | exact .inr rfl)
    (hfr:frOk fr N' X.N scope X.env.scope = true:=by rfl) (hsc:scOk scope X.env.scope = true:=by rfl)
    (hs:∀ x,foldedSetIterable iter X.env x = pure x:=by intro _; rfl):PSV X rl (.Assign [.Name x px] (.DictComp kx vx [⟨tg,iter,ifs,0⟩] scope pos) spos) (vSet i (vCompD fi fr g ft fk fe)):=by
  obtain ⟨wi,p0,k0⟩:=hi
  refine ⟨_,ps_setdcomp N' fr hc p0 hfr hsc (fun y=>(Classical.choose_spec (hg y)).1) (fun y=>(Classical.choose_spec (ht y)).1) (fun y=>(Classical.choose_spec (hk y)).1) (fun y=>(Classical.choose_spec (he y)).1) hN hix hx hf hsw hs,fun R Dv D ok q=>dcomp_k fr k0 hg ht hk he R _ _ q fun v w F1 H1 g1 r1 n1 ⟨hp,q1⟩=>?_⟩
  exact ok.nx _ _ _ _ g1.fs (R.set g1 r1 n1 (fun xs z=>by subst z; cases hp) i) q1
end
noncomputable def itD (ρ0:En) (g:TGv) (ft:TB) (fk fe:TV) (x:PyData):Mo (Option (Key × PyData)):=bnd (g x ρ0) fun ρ2=>grd (Le ρ0 ρ2) (bnd (ft ρ2) fun b=>if b = true then bnd (fk ρ2) fun wk=>optM (keyW wk) fun k=>bnd (fe ρ2) fun w=>optM (asD w.fz) fun d=>ret (some (k,d)) else ret none)
noncomputable def compD (b:PyData -> Mo (Option (Key × PyData))):List PyData -> List (Key × PyData) -> Mo (List (Key × PyData))
  | [],acc=>ret acc
  | x :: xs,acc=>bnd (b x) fun o=>match o with
    | some d=>grd (acc.length < sizeLine) (compD b xs (putF acc d.1 d.2))
    | none=>compD b xs acc
theorem compD_eq (ρ0:En) (g:TGv) (ft:TB) (fk fe:TV):∀ (xs:List PyData) (acc:List (Key × PyData)),vGoD ρ0 g ft fk fe xs acc = compD (itD ρ0 g ft fk fe) xs acc
  | [],acc=>rfl
  | x :: xs,acc=>by
    refine mo_ext fun Q=>?_
    show (g x ρ0 fun ρ2=>Le ρ0 ρ2 /\ ft ρ2 fun b=>if b = true then fk ρ2 fun wk=>∃ k,keyW wk = some k /\ fe ρ2 fun w=>∃ d,w.fz = .d d /\ acc.length < sizeLine /\ vGoD ρ0 g ft fk fe xs (putF acc k d) Q else vGoD ρ0 g ft fk fe xs acc Q) ↔ (bnd (itD ρ0 g ft fk fe x) _) Q
    simp only [compD_eq ρ0 g ft fk fe xs]
    have:∀ (ρ2:En) (b:Bool),(if b = true then fk ρ2 fun wk=>∃ k,keyW wk = some k /\ fe ρ2 fun w=>∃ d,w.fz = .d d /\ acc.length < sizeLine /\ compD (itD ρ0 g ft fk fe) xs (putF acc k d) Q else compD (itD ρ0 g ft fk fe) xs acc Q) = (bnd (if b = true then bnd (fk ρ2) fun wk=>optM (keyW wk) fun k=>bnd (fe ρ2) fun w=>optM (asD w.fz) fun d=>ret (some (k,d)) else ret none) fun o=>match o with
    | some d=>grd (acc.length < sizeLine) (compD (itD ρ0 g ft fk fe) xs (putF acc d.1 d.2))
    | none=>compD (itD ρ0 g ft fk fe) xs acc) Q:=by
      intro ρ2 b
      cases b with
      | false=>rfl
      | true =>
        rw [if_pos rfl,if_pos rfl]
        show _ = fk ρ2 fun wk=>_
        congr 1
        funext wk
        refine propext ?_
        show _ ↔ (bnd (optM (keyW wk) fun k=>bnd (fe ρ2) fun w=>optM (asD w.fz) fun d=>ret (some (k,d))) _) Q
        rw [bnd_opt,opt_iff]
        have e2:∀ (k:Key),(fe ρ2 fun w=>∃ d,w.fz = .d d /\ acc.length < sizeLine /\ compD (itD ρ0 g ft fk fe) xs (putF acc k d) Q) = (bnd (bnd (fe ρ2) fun w=>optM (asD w.fz) fun d=>ret (some (k,d))) fun o=>match o with
          | some d=>grd (acc.length < sizeLine) (compD (itD ρ0 g ft fk fe) xs (putF acc d.1 d.2))
          | none=>compD (itD ρ0 g ft fk fe) xs acc) Q:=fun k=>by
          show _ = fe ρ2 fun w=>_
          congr 1
          funext w
          refine propext ?_
          show _ ↔ (bnd (optM (asD w.fz) fun d=>ret (some (k,d))) _) Q
          rw [bnd_opt,opt_iff]
          simp only [asD_of]
          exact Iff.rfl
        simp only [e2]
    simp only [this]
    exact Iff.rfl
theorem m_compD (fi:En -> (List PyData -> Prop) -> Prop) (fr:List (Option Nat)) (g:TGv) (ft:TB) (fk fe:TV) (ρ:En):vCompD fi fr g ft fk fe ρ = bnd (fi ρ) fun xs=>bnd (compD (itD (frEn fr ρ) g ft fk fe) xs []) fun kvs=>ret (.fd kvs):=by
  refine mo_ext fun Q=>?_
  show (fi ρ fun xs=>vGoD (frEn fr ρ) g ft fk fe xs [] fun ds=>Q (.fd ds)) ↔ _
  simp only [compD_eq]
  exact Iff.rfl
theorem putF_len (kvs:List (Key × PyData)) (k:Key) (x:PyData):(putF kvs k x).length <= kvs.length + 1:=by
  unfold putF; split <;> simp
section
variable {α:Type} {b:PyData -> Mo (Option (Key × PyData))}
theorem compD_acc {enc : α -> PyData} (f : α -> Key × PyData):∀ (xs:List α) (acc:List (Key × PyData)),(∀ x ∈ xs,b (enc x) = ret (some (f x))) -> acc.length + xs.length <= sizeLine -> compD b (xs.map enc) acc = ret ((xs.map f).foldl (fun a p=>putF a p.1 p.2) acc)
  | [],acc,_,_=>rfl
  | x :: xs,acc,h,hl=>by
    show bnd (b (enc x)) _ = _
    rw [h x List.mem_cons_self,bnd_ret]
    show grd (acc.length < sizeLine) (compD b (xs.map enc) (putF acc (f x).1 (f x).2)) = _
    simp only [List.length_cons] at hl
    have:=putF_len acc (f x).1 (f x).2
    rw [grd_t (by omega),compD_acc f xs _ (fun y hy=>h y (List.mem_cons_of_mem _ hy)) (by omega)]
    rfl
theorem dmap_go {β:Type} {Q : β -> Prop} {k:List (Key × PyData) -> Mo β} {xs:List α} {enc : α -> PyData} {xs':List PyData} (f : α -> Key × PyData) (hx:xs' = xs.map enc) (h:∀ x ∈ xs,b (enc x) = ret (some (f x))) (hl:xs.length <= sizeLine)
    (fin:k ((xs.map f).foldl (fun a p=>putF a p.1 p.2) []) Q):bnd (compD b xs' []) k Q:=by
  subst hx
  rw [compD_acc f xs [] h (by simpa using hl)]
  exact fin
end
section
variable {X:Cx} {rl:RlT} {a c e o i:Expr} {es:List Expr} {fa fb:TV} {fs:TVs} {pos p kpos:Pos} {ρ:En}
noncomputable def vDGetF (fa fb:TV):TV:=fun ρ Q=>fa ρ fun x=>fb ρ fun y=>∃ kvs k d,x = .fd kvs /\ keyW y = some k /\ valF kvs k = some d /\ Q (.d d)
theorem v_dgetF (hu:X.A.units + 1 < cLine) (ho:PV X rl o fa) (hi:PV X rl i fb) (hs:NoSl i:=by intro _ _; rfl):PV X rl (.Subscript o i pos) (vDGetF fa fb):=by
  obtain ⟨t1,p1,k1⟩:=ho
  obtain ⟨t2,p2,k2⟩:=hi
  refine ⟨_,pe_dget hu p1 p2 hs,fun R Qd Q q h=>k1 R _ _ q fun v w F1 H1 g1 r1 n1 q1=>k2 (R.grow g1) _ _ q1 fun v2 w2 F2 H2 g2 r2 n2 ⟨kvs,k,d,ex,ek,ed,q2⟩=>?_⟩
  subst ex
  obtain ⟨x,us,rfl,hx,rk⟩:=r1.grow g2
  have ev:=keyW_rel ek r2
  subst ev
  rcases rk.val k with ⟨_,z⟩ | ⟨v3,d3,e1,e2,r3⟩
  · rw [ed] at z; cases z
  · rw [ed] at e2
    cases e2
    refine ⟨x,v3,rfl,?_,h v3 (.d d) F2 H2 (g1.trans g2) r3 trivial q2⟩
    rw [<- e1]
    exact DGet.k (g2.sub _ _ hx)
theorem m_vDGetF:vDGetF fa fb ρ = bnd (fa ρ) fun x=>bnd (fb ρ) fun y=>optM (asFd x) fun kvs=>optM (keyW y) fun k=>optM (valF kvs k) fun d=>ret (.d d):=by
  refine mo_ext fun Q=>?_
  simp only [vDGetF,bnd,opt_iff,asFd_of,ret]
  constructor
  · intro h; refine cast ?_ h; congr 1; funext x; congr 1; funext y; exact propext ⟨fun ⟨a,b,c,d,e,f,g⟩=>⟨a,d,b,e,c,f,g⟩,fun ⟨a,d,b,e,c,f,g⟩=>⟨a,b,c,d,e,f,g⟩⟩
  · intro h; refine cast ?_ h; congr 1; funext x; congr 1; funext y; exact propext ⟨fun ⟨a,d,b,e,c,f,g⟩=>⟨a,b,c,d,e,f,g⟩,fun ⟨a,b,c,d,e,f,g⟩=>⟨a,d,b,e,c,f,g⟩⟩
noncomputable def gSrtK:List W -> (W -> Prop) -> Prop:=fun ws Q=>∃ (kvs:List (Key × PyData)) (ns:List Int),ws = [.fd kvs] /\ kvs.map (·.1) = ns.map Sum.inl /\ ns.length < 64 /\ ∀ ns':List Int,ns'.Perm ns -> ns'.Pairwise (· <= ·) -> Q (.ml (ns'.map .int))
theorem v_sortedK (hc:X.calm = true) (hm:X.mg "sorted" = none) (ha:PVs X rl [a] fs) (hg:Gl X "sorted" := by rfl) (he:starEach [a] X.env = (false,eval a X.env) :: starEach [] X.env:=by rfl) (hpl:(backTo pos (starEach [] X.env)).any (·.1) = false:=by rfl) :
    PV X rl (.Call (.Name "sorted" p) [a] [] pos) (vCall gSrtK fs):=by
  refine v_callB (call_sortedK hc) (fun {F H vs ws} Qd Q s ra r ⟨kvs,ns,ew,ek,hl,q⟩ k=>?_) hm (by rfl) ha hg (by decide) (by decide) he hpl
  subst ew
  obtain ⟨v,rfl,b,us,rfl,hb,rk⟩:=rel1 r
  exact ⟨b,us,ns,rfl,.inl (s _ _ hb),by rw [rk.keys]; exact ek,hl,fun ns' h1 h2 l hl=>k _ (.ml _) _ _ (Grow.laid s ra hl) (own_laid s ra hl int_reps) (fun a ea=>by cases ea; exact hl) (q ns' h1 h2)⟩
theorem srtK_go {α:Type} {Q : α -> Prop} {K:W -> Mo α} {kvs:List (Key × PyData)} (ns:List Int) (e:kvs.map (·.1) = ns.map Sum.inl) (hl:ns.length < 64) (h:∀ ns':List Int,ns'.Perm ns -> ns'.Pairwise (· <= ·) -> K (.ml (ns'.map .int)) Q):bnd (gSrtK [.fd kvs]) K Q :=
  ⟨kvs,ns,rfl,e,hl,fun ns' h1 h2=>h ns' h1 h2⟩
noncomputable def mxI (d:Int) (ns:List Int):Int:=(runMax none ns).getD d
noncomputable def vMaxD (fs:TVs) (fc:TV):TV:=fun ρ Q=>fs ρ fun ws=>fc ρ fun y=>∃ ns d,dats ws = some [.list (ns.map .int)] /\ y = .d (.int d) /\ Q (.d (.int (mxI d ns)))
theorem v_maxD (hc:X.calm = true) (hm:X.mg "max" = none) (ha:PVs X rl [e] fs) (hk:PV X rl c fb) (hg:Gl X "max" := by rfl)
    (he:backTo pos (starEach [e] X.env) = (false,eval e X.env) :: backTo pos (starEach [] X.env):=by rfl) (hpl:(backTo pos (starEach [e] X.env)).any (·.1) = false:=by rfl) :
    PV X rl (.Call (.Name "max" p) [e] [⟨some "default", c,kpos⟩] pos) (vMaxD fs fb):=by
  obtain ⟨t1,p1,k1⟩:=ha
  obtain ⟨t2,p2,k2⟩:=hk
  refine ⟨_,pe_maxD hc hm p1 (pk_cons p2 pk_nil) hg he hpl,fun R Qd Q q h=>k1 R _ _ q fun vs ws F1 H1 g1 r1 q1=>k2 (R.grow g1) _ _ q1 fun v2 w2 F2 H2 g2 r2 n2 ⟨ns,d,ed,ew,q2⟩=>?_⟩
  subst ew
  have e2:=rep_int r2
  subst e2
  have rs:=dats_rel r1 ed
  cases rs with
  | cons rx rs =>
    cases rs
    cases rx with
    | @lst l us _ hb ry =>
      have eu:=reps_int ry
      subst eu
      refine ⟨l,ns,.int d,rfl,rfl,.inl (.inl (g2.sub _ _ (g2.fs _ _ hb))),h _ (.d (.int (mxI d ns))) F2 H2 (g1.trans g2) ?_ trivial q2⟩
      have:mxV (.int d) ns = .int (mxI d ns):=by unfold mxV mxI; cases runMax none ns <;> rfl
      rw [this]
      exact .int _
noncomputable def oneIs (ws:List W):Option (List Int):=match dats ws with
  | some [.list xs]=>intsD xs
  | _=>none
theorem m_vMaxD {fc:TV}:vMaxD fs fc ρ = bnd (fs ρ) fun ws=>bnd (fc ρ) fun y=>optM (oneIs ws) fun ns=>optM (asI y) fun d=>ret (.d (.int (mxI d ns))):=by
  have key:∀ (ws:List W) (ns:List Int),oneIs ws = some ns ↔ dats ws = some [.list (ns.map .int)]:=by
    intro ws ns
    unfold oneIs
    constructor
    · intro h
      split at h
      · rename_i xs e; rw [e,intsD_of h]
      · cases h
    · intro h; rw [h]; exact intsD_map ns
  refine mo_ext fun Q=>?_
  simp only [vMaxD,bnd,opt_iff,asI_of,ret,key]
  constructor
  · intro h; refine cast ?_ h; congr 1; funext x; congr 1; funext y; exact propext ⟨fun ⟨a,b,c,d,e⟩=>⟨a,c,b,d,e⟩,fun ⟨a,c,b,d,e⟩=>⟨a,b,c,d,e⟩⟩
  · intro h; refine cast ?_ h; congr 1; funext x; congr 1; funext y; exact propext ⟨fun ⟨a,c,b,d,e⟩=>⟨a,b,c,d,e⟩,fun ⟨a,b,c,d,e⟩=>⟨a,c,b,d,e⟩⟩
theorem oneIs_l (ns:List Int):oneIs [.d (.list (ns.map .int))] = some ns:=by
  unfold oneIs dats
  exact intsD_map ns
end
noncomputable def BDD:=And.intro @m_compD (And.intro @m_vDGetF (And.intro @m_vMaxD (And.intro @keyW_i (And.intro @keyW_s (And.intro @asFd_f (And.intro @isPk_fd (And.intro @fz_fd (And.intro @pk_fd (@oneIs_l)))))))))
end L2.VL

namespace L2
open PySem PySem.Spec PyProof.Rows
noncomputable def iSeq (K:W.Frag) (tl:TE):TI:=fun σ H R=>tl σ H fun x H1=>∃ a,x = .ref a /\ (((∃ xs,SqL K H1 a xs) /\ R (Itl K a) H1) \/ ((∃ xs,SqT K H1 a xs) /\ R (Itt K a) H1))
theorem pi_seq {X:Cx} {tg l:Expr} {tl:TE} (hl:PE X l tl):PI X tg l (iSeq X.K tl):=by
  intro pins s σ H R I h
  refine thn (hl pins s σ H _ I h) fun v s1 ⟨x,H1,I1,r1,q1⟩=>?_
  obtain ⟨a,e,q1⟩:=q1
  subst e
  cases r1
  have fin:∀ b ∈ [s1.heap.objs.size],FpOk X pins H1 b:=fun b hb=>by
    have e:b = s1.heap.objs.size:=by simpa using hb
    subst e
    exact I1.fpOk (Nat.le_refl _) (I1.hok.fresh (Nat.le_refl _))
  rcases q1 with ⟨⟨xs,hq⟩,q⟩ | ⟨⟨xs,hq⟩,q⟩
  · obtain ⟨its,rv,p,hz⟩:=I1.list hq
    exact wpAny_pyIter_list p.isList ⟨s1.heap.objs.size,[s1.heap.objs.size],_,_,H1,rfl,I1.kept (t':=s1.toks) fun b o e=>Heap.get?_push_of_some _ e,turn_list a _,⟨_,Heap.get?_push_size _ rfl,rfl,rfl⟩,fin,q⟩
  · obtain ⟨its,rv,p,hz⟩:=I1.tuple hq
    exact wpAny_pyIter_tuple (show s1.heap.IsTuple a its.toArray from p) ⟨s1.heap.objs.size,[s1.heap.objs.size],_,_,H1,rfl,I1.kept (t':=s1.toks) fun b o e=>Heap.get?_push_of_some _ e,turn_tuple a _,⟨_,Heap.get?_push_size _ rfl,rfl,rfl⟩,fin,q⟩
end L2
namespace L2.VL
open PySem PySem.Spec PyProof.Rows
section
variable {X:Cx} {rl:RlT} {tg:Expr} {fa:TV} {ρ:En}
noncomputable def iS (fa:TV):En -> (List PyData -> Prop) -> Prop:=fun ρ Q=>fa ρ fun w=>∃ xs,(w.fz = .d (.list xs) \/ w.fz = .d (.tuple xs)) /\ Q xs
theorem vi_seq {l:Expr} (hl:PV X rl l fa):PIV X rl tg l (iS fa):=by
  obtain ⟨t,p,k⟩:=hl
  refine ⟨_,pi_seq p,fun R Qd Q q h=>k R _ _ q fun v w F1 H1 g1 r1 n1 ⟨xs,ew,q1⟩=>?_⟩
  obtain ⟨F2,g2,s2,r2⟩:=RelW.fz g1 r1 n1
  rcases ew with ew | ew
  · rw [ew] at r2
    cases (show Rep X.K F2 v (.list xs) from r2) with
    | @lst a vs _ sq rs =>
      have sqH:∀ H,Same F2 H -> SqL X.K H a vs:=fun H s=>.inl (.inl (s _ _ sq))
      refine ⟨a,rfl,.inl ⟨⟨vs,sqH H1 g2.sub⟩,h _ xs F2 H1 g2 (.of (fun i H x e s=>?_) (fun i H hl s=>⟨vs,sqH H s,by rw [rs.length]; exact hl⟩) (fun i H v H' x e s y=>?_)) q1⟩⟩
      · obtain ⟨v,ev,_⟩:=rs.get e
        exact ⟨vs,v,sqH H s,ev⟩
      · obtain ⟨e',hy⟩:=y
        obtain ⟨v',ev,rv⟩:=rs.get e
        have:=hy vs (sqH H s)
        rw [ev] at this
        cases this
        exact ⟨e',rv⟩
  · rw [ew] at r2
    cases (show Rep X.K F2 v (.tuple xs) from r2) with
    | @tup a vs _ sq rs =>
      have sqH:∀ H,Same F2 H -> SqT X.K H a vs:=fun H s=>sameT s sq
      refine ⟨a,rfl,.inr ⟨⟨vs,sqH H1 g2.sub⟩,h _ xs F2 H1 g2 (.of (fun i H x e s=>?_) (fun i H hl s=>⟨vs,sqH H s,by rw [rs.length]; exact hl⟩) (fun i H v H' x e s y=>?_)) q1⟩⟩
      · obtain ⟨v,ev,_⟩:=rs.get e
        exact ⟨vs,v,sqH H s,ev⟩
      · obtain ⟨e',hy⟩:=y
        obtain ⟨v',ev,rv⟩:=rs.get e
        have:=hy vs (sqH H s)
        rw [ev] at this
        cases this
        exact ⟨e',rv⟩
noncomputable def seqW:W -> Option (List PyData)
  | .d (.list xs)=>some xs
  | .d (.tuple xs)=>some xs
  | _=>none
theorem seqW_l (xs:List PyData):seqW (.d (.list xs)) = some xs:=rfl
theorem seqW_t (xs:List PyData):seqW (.d (.tuple xs)) = some xs:=rfl
theorem seqW_of {w:W} {xs:List PyData}:seqW w = some xs ↔ (w = .d (.list xs) \/ w = .d (.tuple xs)):=by
  constructor
  · intro h; unfold seqW at h; split at h <;> simp_all
  · rintro (rfl | rfl) <;> rfl
theorem m_iS:iS fa ρ = bnd (fa ρ) fun w=>optM (seqW w.fz) ret:=by
  refine mo_ext fun Q=>?_
  simp only [iS,bnd,opt_iff,seqW_of,ret]
noncomputable def BVS:=And.intro @m_iS (And.intro @seqW_l (@seqW_t))
end
end L2.VL

namespace L2
open PySem PySem.Spec PyProof.Rows
noncomputable def insAt {α:Type} (xs:List α) (k:Nat) (y : α):List α:=xs.take k ++ y :: xs.drop k
variable {X:Cx}
end L2
namespace L2.VL
open PySem PySem.Spec PyProof.Rows
section
variable {X:Cx} {rl:RlT} {a e:Expr} {es:List Expr} {fs:TVs} {pos:Pos}
noncomputable def insW (ws:List W):Option (Int × PyData):=match dats ws with
  | some [.int i,x]=>some (i,x)
  | _=>none
theorem insW_d (i:Int) (x:PyData):insW [.d (.int i),.d x] = some (i,x):=rfl
noncomputable def BLI:=@insW_d
end
end L2.VL

namespace L2.VL
open PySem PySem.Spec PyProof.Rows
structure MEnds where
  nx:List (List PyData) -> En -> Prop
  rt:W -> Prop
abbrev TSm:=Addr -> MEnds -> List (List PyData) -> En -> Prop
section
variable {X:Cx} {rl:RlT} {st:Stmt} {rest body:List Stmt} {t:TSv} {u v:TSm} {e:Expr} {fa:TV} {pos p:Pos}
end
section
variable {X:Cx} {rl:RlT} {rest:List Stmt} {u:TSm} {tg iter:Expr} {scope:Scope} {fi:En -> (List PyData -> Prop) -> Prop}
end
section
end
end L2.VL

namespace L2.VL
open PySem PySem.Spec PyProof.Rows
section
variable {X:Cx} {e1:Expr} {f1:TV} {pos dpos q1 q2 q3 q4 q5 q6 q7:Pos} {j1 j2 j3 j4 j5 j6 j7:Nat}
theorem feed_body {j1 j2 j3 j4 j5 j6 j7} (h1:PV X RlT.no e1 f1) :
    ∃ T,PSs X [.Return (some (.Dict [some (.Constant (.str "cells") j1 q1),some (.Constant (.str "at") j2 q2),some (.Constant (.str "left") j3 q3),some (.Constant (.str "turn") j6 q6)] [e1,.Constant (.int 0) j4 q4,.Constant (.int 0) j5 q5,.Constant (.int 0) j7 q7] dpos)) pos] T /\
      ∀ {F H:Hp} {σ:St} {ρ:En},VR X.K RlT.no F H F H σ ρ -> ∀ D:Ends,(f1 ρ fun w=>∃ ns:List Int,w = .ml (ns.map .int) /\ ns.length <= 63) ->
        (∀ r n' F' H',H r = none -> Grow RlT.no F H F' H' -> RAt (RlT.at' r n') F' H' -> D.rt (.ref r) H') -> T D σ H:=by
  obtain ⟨g1,pe1,ke1⟩:=h1
  refine ⟨_,pss_one (ps_ret (pe_disp (pps_cons pe_str pe1 (pps_cons pe_str pe_int (pps_cons pe_str pe_int (pps_cons pe_str pe_int pps_nil)))) rfl rfl (by intro z; cases z) (by show 4 <= 15; decide))),fun {F H σ ρ} R D q fin=>?_⟩
  intro p hp
  have gp:Grow RlT.no F H F (upd H p (.dK [])):=Grow.laid R.sub R.reel hp
  refine ke1 (R.grow gp) _ _ q fun v1 w1 F3 H3 g3 r1 n1 qc=>?_
  obtain ⟨ns,rfl,hl⟩:=qc
  obtain ⟨F4,g4,s4,r4⟩:=RelW.fz (w:=.ml (ns.map .int)) g3 r1 n1
  have r4:Rep X.K F4 v1 (.list (ns.map .int)):=r4
  cases r4 with
  | @lst a vs _ hc rs =>
    have ev:=reps_int rs
    subst ev
    have hp5:H3 p = some (.dK []):=g3.same p _ upd_same (by simp)
    refine ⟨hp5,[(kC,.ref a),(kA,.int 0),(kL,.int 0),(kT,.int 0)],rfl,(by show 4 <= 15; decide),?_⟩
    rw [merge_reel]
    have f5:F4 p = none:=by rw [g4.old p _ upd_same]; exact R.sub.free hp
    have g0:Grow RlT.no F H F4 H3:=gp.trans g4
    refine fin p (a,ns) F4 _ hp ⟨fun b o eb _=>by rw [upd_ne (ne_of_none eb hp)]; exact g0.same b o eb (by simp),g0.fs,fun b o eb=>?_,g0.old,fun _ z=>by cases z⟩ (fun r er=>?_)
    · have:b ≠ p:=fun z=>by subst z; rw [f5] at eb; cases eb
      rw [upd_ne this]
      exact g0.sub b o eb
    · cases er
      exact ⟨f5,⟨_,upd_same,0,0,0,rfl,hc,hl,by omega,by omega,by omega⟩⟩
end
end L2.VL

namespace L2
open PySem PySem.Spec PyProof.Rows
abbrev lc2 (elt t1 i1:Expr) (f1:List Expr) (t2 i2:Expr) (f2:List Expr) (scope:Scope) (pos:Pos):Expr:=.ListComp elt [⟨t1,i1,f1,0⟩,⟨t2,i2,f2,0⟩] scope pos
theorem turn2_0 (elt t1 i1:Expr) (f1:List Expr) (t2 i2:Expr) (f2:List Expr) (scope:Scope) (pos:Pos) (it acc:Value) (env:Env) :
    compTurn (lc2 elt t1 i1 f1 t2 i2 f2 scope pos) 0 it acc env = (standAt i1.pos >>= fun _=>pyNext it >>= fun r=>match r with
      | none=>pure (.done .next)
      | some v=>letOwnedTupleGo t1 it v >>= fun _=>assign t1 env v >>= fun _=>testsOf f1 env >>= fun ok=>(if ok = true then
          (eval i2 env >>= fun x=>standAt i2.pos >>= fun _=>foldedSetIterable i2 env x >>= fun x=>holding [x] (pyIter x) >>= fun y=>runOwn (.compStart (lc2 elt t1 i1 f1 t2 i2 f2 scope pos) 1 y acc env) env >>= fun _=>again (.compLoop (lc2 elt t1 i1 f1 t2 i2 f2 scope pos) 0 it acc env))
          else again (.compLoop (lc2 elt t1 i1 f1 t2 i2 f2 scope pos) 0 it acc env))):=by rfl
theorem turn2_1 (elt t1 i1:Expr) (f1:List Expr) (t2 i2:Expr) (f2:List Expr) (scope:Scope) (pos:Pos) (it acc:Value) (env:Env) :
    compTurn (lc2 elt t1 i1 f1 t2 i2 f2 scope pos) 1 it acc env = (standAt i2.pos >>= fun _=>pyNext it >>= fun r=>match r with
      | none=>pure (.done .next)
      | some v=>letOwnedTupleGo t2 it v >>= fun _=>assign t2 env v >>= fun _=>testsOf f2 env >>= fun ok=>(if ok = true then
          ((eval elt env >>= fun x=>call (.builtin "list.append") [acc,x] >>= fun _=>pure ()) >>= fun _=>again (.compLoop (lc2 elt t1 i1 f1 t2 i2 f2 scope pos) 1 it acc env))
          else again (.compLoop (lc2 elt t1 i1 f1 t2 i2 f2 scope pos) 1 it acc env))):=by rfl
section
variable {prog:Program} {w:World} {A:Around} {R:Result -> Shared -> Prop} {s:Shared} {elt t1 i1 t2 i2:Expr} {f1 f2:List Expr} {scope:Scope} {pos:Pos} {it acc:Value} {env:Env}
theorem loop2_0 (I:Nat -> Shared -> Prop) (hs:∀ x,foldedSetIterable i2 env x = pure x)
    (turn:∀ n s,I n s -> wpAny (model prog w) A (pyNext it) (fun r s₁=>(r = none /\ R (.ok .next) s₁) \/ ∃ v,r = some v /\
      wpAny (model prog w) A (letOwnedTupleGo t1 it v) (fun _ s₂=>wpAny (model prog w) A (assign t1 env v) (fun _ s₃=>wpAny (model prog w) A (testsOf f1 env) (fun ok s₄ =>
        if ok = true then wpAny (model prog w) A (eval i2 env) (fun x s₅=>wpAny (model prog w) A (pyIter x) (fun y s₆=>codeAny (model prog w) A (.compStart (lc2 elt t1 i1 f1 t2 i2 f2 scope pos) 1 y acc env) (fun r s₇=>r = .ok .next /\ ∃ m,m < n /\ I m s₇) s₆) (fun _ _=>False) s₅) (fun _ _=>False) s₄
        else ∃ m,m < n /\ I m s₄) (fun _ _=>False) s₃) (fun _ _=>False) s₂) (fun _ _=>False) s₁) (fun _ _=>False) s)
    (n:Nat) (h:I n s):codeAny (model prog w) A (.compLoop (lc2 elt t1 i1 f1 t2 i2 f2 scope pos) 0 it acc env) R s:=by
  refine codeAny_loop rfl I (fun n s hI=>?_) n h
  show wpAny _ A ((compTurn (lc2 elt t1 i1 f1 t2 i2 f2 scope pos) 0 it acc env).onRaise (fun x=>do noteFrame x env; theTreesLotGoes x)) _ _ s
  refine wpAny_noted ?_
  rw [turn2_0]
  refine wpAny_bind (wpAny_standAt (wpAny_bind (wpAny_mono (turn n s hI) (fun r s₁ h₁=>?_) fun _ _ h'=>h'.elim)))
  rcases h₁ with ⟨rfl,h₁⟩ | ⟨v,rfl,h₁⟩
  · exact wpAny_pure h₁
  · refine wpAny_bind (wpAny_mono h₁ (fun _ s₂ h₂=>wpAny_bind (wpAny_mono h₂ (fun _ s₃ h₃=>wpAny_bind (wpAny_mono h₃ (fun ok s₄ h₄=>?_) fun _ _ z=>z.elim)) fun _ _ z=>z.elim)) fun _ _ z=>z.elim)
    cases ok with
    | false=>exact wpAny_pure ⟨rfl,h₄⟩
    | true =>
      refine wpAny_bind (wpAny_mono h₄ (fun x s₅ h₅=>wpAny_bind (wpAny_standAt (wpAny_bind (wpAny_of_eq (hs x) (wpAny_bind (wpAny_holding (wpAny_mono h₅ (fun y s₆ h₆=>?_) fun _ _ z=>z.elim))))))) fun _ _ z=>z.elim)
      refine wpAny_bind (wpAny_runOwn (codeAny_mono h₆ fun r s₇ ⟨hr,h₇⟩=>?_))
      subst hr
      exact wpAny_pure ⟨rfl,h₇⟩
theorem loop2_1 (I:Nat -> Shared -> Prop)
    (turn:∀ n s,I n s -> wpAny (model prog w) A (pyNext it) (fun r s₁=>(r = none /\ R (.ok .next) s₁) \/ ∃ v,r = some v /\
      wpAny (model prog w) A (letOwnedTupleGo t2 it v) (fun _ s₂=>wpAny (model prog w) A (assign t2 env v) (fun _ s₃=>wpAny (model prog w) A (testsOf f2 env) (fun ok s₄ =>
        if ok = true then wpAny (model prog w) A (eval elt env) (fun x s₅=>wpAny (model prog w) A (call (.builtin "list.append") [acc,x]) (fun _ s₆=>∃ m,m < n /\ I m s₆) (fun _ _=>False) s₅) (fun _ _=>False) s₄
        else ∃ m,m < n /\ I m s₄) (fun _ _=>False) s₃) (fun _ _=>False) s₂) (fun _ _=>False) s₁) (fun _ _=>False) s)
    (n:Nat) (h:I n s):codeAny (model prog w) A (.compLoop (lc2 elt t1 i1 f1 t2 i2 f2 scope pos) 1 it acc env) R s:=by
  refine codeAny_loop rfl I (fun n s hI=>?_) n h
  show wpAny _ A ((compTurn (lc2 elt t1 i1 f1 t2 i2 f2 scope pos) 1 it acc env).onRaise (fun x=>do noteFrame x env; theTreesLotGoes x)) _ _ s
  refine wpAny_noted ?_
  rw [turn2_1]
  refine wpAny_bind (wpAny_standAt (wpAny_bind (wpAny_mono (turn n s hI) (fun r s₁ h₁=>?_) fun _ _ h'=>h'.elim)))
  rcases h₁ with ⟨rfl,h₁⟩ | ⟨v,rfl,h₁⟩
  · exact wpAny_pure h₁
  · refine wpAny_bind (wpAny_mono h₁ (fun _ s₂ h₂=>wpAny_bind (wpAny_mono h₂ (fun _ s₃ h₃=>wpAny_bind (wpAny_mono h₃ (fun ok s₄ h₄=>?_) fun _ _ z=>z.elim)) fun _ _ z=>z.elim)) fun _ _ z=>z.elim)
    cases ok with
    | false=>exact wpAny_pure ⟨rfl,h₄⟩
    | true=>exact wpAny_bind (wpAny_bind (wpAny_mono h₄ (fun x s₅ h₅=>wpAny_bind (wpAny_mono h₅ (fun _ s₆ h₆=>wpAny_pure (wpAny_pure ⟨rfl,h₆⟩)) fun _ _ z=>z.elim)) fun _ _ z=>z.elim))
theorem start2_1
    (h0:codeAny (model prog w) A (.compLoop (lc2 elt t1 i1 f1 t2 i2 f2 scope pos) 1 it acc env) R s)
    (h:wpAny (model prog w) A (pyIter it) (fun it' s'=>codeAny (model prog w) A (.compLoop (lc2 elt t1 i1 f1 t2 i2 f2 scope pos) 1 it' acc env) R s') (notedBy (model prog w) A env fun x s'=>R (.error x) s') s) :
    codeAny (model prog w) A (.compStart (lc2 elt t1 i1 f1 t2 i2 f2 scope pos) 1 it acc env) R s:=by
  refine codeAny_of_tree ?_
  show wpAny _ _ ((compStart (lc2 elt t1 i1 f1 t2 i2 f2 scope pos) 1 it acc env).onRaise (fun x=>do noteFrame x env; standAt theWindowsPlace)) _ _ s
  refine wpAny_notedAt ?_
  unfold compStart
  show wpAny _ _ (ask >>= _) _ _ s
  refine wpAny_bind (wpAny_askSetting (wpAny_ite ?_))
  split
  · first
      | exact wpAny_bind (wpAny_pure (wpAny_pure (And.intro rfl h0)))
      | exact wpAny_pure (And.intro rfl h0)
  · first
      | exact wpAny_bind (wpAny_rule (wpAny_bind (wpAny_standAt (wpAny_bind (wpAny_mono h (fun it' s' h'=>wpAny_pure (And.intro rfl h')) fun _ _ x=>x)))))
      | (refine wpAny_bind (wpAny_rule ?_); show wpAny _ _ (standAt i2.pos >>= _) _ _ s; exact wpAny_bind (wpAny_standAt (wpAny_bind (wpAny_mono h (fun it' s' h'=>wpAny_pure (And.intro rfl h')) fun _ _ x=>x))))
end
noncomputable def tIn (wi:TI) (g:TG) (tt:TT) (te:TE) (D:Addr) (acc:List V) (σ:St) (H:Hp) (R:List V -> St -> Hp -> Prop):Prop:=wi σ H fun J H1=>∃ Wv:Nat -> Nat -> List V -> St -> Hp -> Prop,(∃ m,Wv 0 m acc σ H1) /\
  ∀ i m acc σc H,Wv i m acc σc H -> (J.stop i H /\ R acc σc H) \/ (J.go i H /\ ∀ x H',J.yld i H x H' -> g x σc H' fun σ2 H2=>tt σ2 H2 fun b H3 =>
    if b = true then te σ2 H3 fun y H4=>H4 D = some (.lst acc) /\ acc.length < sizeLine /\ ∃ m',m' < m /\ Wv (i + 1) m' (acc ++ [y]) σ2 (upd H4 D (.lst (acc ++ [y]))) else ∃ m',m' < m /\ Wv (i + 1) m' acc σ2 H3)
section
variable {Y:Cx} {elt t1 i1 t2 i2:Expr} {f1 f2:List Expr} {scope:Scope} {pos:Pos} {wi:TI} {g:TG} {tt:TT} {te:TE} {D:Addr}
theorem inner2 (hc:Y.calm = true) (hx:Y.xe = fun _ _=>False) (hi:PI Y t2 i2 wi) (hg:PG Y t2 g) (ht:PTs Y f2 tt) (he:PE Y elt te) {pins:List (Addr × Obj)} {s:Shared} {σ:St} {H:Hp} {acc:List V} {R:List V -> St -> Hp -> Prop} {Rp:Shared -> Prop}
    (I:Inv Y pins σ H s) (q:tIn wi g tt te D acc σ H R) (fin:∀ acc σ5 H5 s5,Inv Y pins σ5 H5 s5 -> R acc σ5 H5 -> Rp s5) :
    wpAny (model Y.prog Y.w) Y.A (eval i2 Y.env) (fun x s₅=>wpAny (model Y.prog Y.w) Y.A (pyIter x) (fun y s₆=>codeAny (model Y.prog Y.w) Y.A (.compStart (lc2 elt t1 i1 f1 t2 i2 f2 scope pos) 1 y (.ref D) Y.env) (fun r s₇=>r = .ok .next /\ Rp s₇) s₆) (fun _ _=>False) s₅) (fun _ _=>False) s:=by
  have hi':=hi pins s σ H _ I q
  rw [hx] at hi'
  refine thn hi' fun v s1 h1=>thn h1 fun itv s2 h2=>?_
  obtain ⟨it,fp,tn,J,H2,e,I2,T,st2,f2',Wv,⟨m0,w0⟩,turn⟩:=h2
  subst e
  have stat:∀ {H':Hp},(∀ b ∈ fp,H' b = none) -> ∀ b ∈ fp,FpOk Y pins H' b:=fun hn b hb=>⟨hn b hb,(f2' b hb).2⟩
  have loop:codeAny (model Y.prog Y.w) Y.A (.compLoop (lc2 elt t1 i1 f1 t2 i2 f2 scope pos) 1 (.ref it) (.ref D) Y.env) (fun r s₇=>r = .ok .next /\ Rp s₇) s2:=by
    refine loop2_1 (fun n s'=>∃ i acc σ' H',Inv Y pins σ' H' s' /\ tn i s'.heap /\ (∀ b ∈ fp,H' b = none) /\ Wv i n acc σ' H') ?_ m0 ⟨0,acc,σ,H2,I2,st2,fun b hb=>(f2' b hb).1,w0⟩
    rintro n s4 ⟨i,acc,σ4,H4,I4,st4,fr4,w4⟩
    rcases turn i n acc σ4 H4 w4 with ⟨stop,qn⟩ | ⟨go,step⟩
    · exact thn (T.done Y rfl rfl rfl hc i pins s4 σ4 H4 (fun _ _=>False) I4 (stat fr4) st4 stop) fun r s5 ⟨hr,I5⟩=>.inl ⟨hr,rfl,fin acc σ4 H4 s5 I5 qn⟩
    · refine thn (T.item Y rfl rfl rfl hc i pins s4 σ4 H4 (fun _ _=>False) I4 (stat fr4) st4 go) fun r s5 ⟨u,hr,h5⟩=>.inr ⟨u,hr,?_⟩
      refine thn h5 fun _ s6 ⟨x,H6,I6,r6,y6,st6,fr6⟩=>?_
      have I6':=I6.pinned (stat fr6) (T.obj _ _ st6)
      have again:∀ {σ7:St} {H7:Hp} {s7:Shared},Inv Y (pins ++ pinsAt fp s6.heap) σ7 H7 s7 -> ∀ {acc':List V} {m':Nat},m' < n -> Wv (i + 1) m' acc' σ7 H7 ->
          ∃ m,m < n /\ ∃ i acc σ' H',Inv Y pins σ' H' s7 /\ tn i s7.heap /\ (∀ b ∈ fp,H' b = none) /\ Wv i m acc σ' H':=fun {σ7 H7 s7} I7 {acc' m'} hm w7=>by
        refine ⟨m',hm,i + 1,acc',σ7,H7,I7.unpinned,T.keep _ _ _ st6 fun b hb o e=>(I7.pin (b,o) (List.mem_append_right _ (List.mem_append_right _ (mem_pinsAt hb e)))).1,fun b hb=>?_,w7⟩
        obtain ⟨o,e,d⟩:=T.obj _ _ st6 b hb
        exact (I7.pin (b,o) (List.mem_append_right _ (List.mem_append_right _ (mem_pinsAt hb e)))).2.1
      have h7:=hg _ s6 σ4 H6 x u _ I6' r6 (step x H6 y6)
      rw [hx] at h7
      refine thn h7 fun _ s7 ⟨σ7,H7,I7,q7⟩=>?_
      have h8:=ht _ s7 σ7 H7 _ I7 q7
      rw [hx] at h8
      refine thn h8 fun ok s8 ⟨H8,I8,q8⟩=>?_
      cases ok with
      | false =>
        rw [if_neg Bool.false_ne_true] at q8 ⊢
        obtain ⟨m',hm,w8⟩:=q8
        exact again I8 hm w8
      | true =>
        rw [if_pos rfl] at q8 ⊢
        have h9:=he _ s8 σ7 H8 _ I8 q8
        rw [hx] at h9
        refine thn h9 fun y s9 ⟨yv,H9,I9,r9,eD,hl,m',hm,w9⟩=>?_
        have h10:=mt_append (X:=Y) _ s9 σ7 H9 (.ref D) [yv] (.ref D) [y] (fun _ H'=>H' = upd H9 D (.lst (acc ++ [yv]))) I9 rfl (.cons r9 .nil) ⟨D,acc,yv,rfl,rfl,eD,hl,rfl⟩
        rw [hx] at h10
        exact thn h10 fun _ s10 ⟨_,H10,I10,_,e10⟩=>by subst e10; exact again I10 hm w9
  exact start2_1 loop (T.self Y.A 0 _ _ _ st2 loop)
end
noncomputable def tComp2 (wi:TI) (fr:List (Option Nat)) (g:CompA -> TG) (tt:CompA -> TT) (wj:CompA -> TI) (g2:CompA -> TG) (tt2:CompA -> TT) (te:CompA -> TE):TE:=fun σ H Q=>wi σ H fun J H1=>∀ D,H1 D = none -> ∃ Wv:Nat -> Nat -> List V -> St -> Hp -> Prop,(∃ m,Wv 0 m [] (frIn fr σ) (upd H1 D (.lst []))) /\
  ∀ (z:CompA) i m acc σc H,Wv i m acc σc H -> (J.stop i H /\ Q (.ref D) H) \/ (J.go i H /\ ∀ x H',J.yld i H x H' -> g z x σc H' fun σ2 H2=>tt z σ2 H2 fun b H3 =>
    if b = true then tIn (wj z) (g2 z) (tt2 z) (te z) D acc σ2 H3 fun acc' σ5 H5=>∃ m',m' < m /\ Wv (i + 1) m' acc' σ5 H5 else ∃ m',m' < m /\ Wv (i + 1) m' acc σ2 H3)
section
variable {Y:Cx} {elt t1 i1 t2 i2:Expr} {f1 f2:List Expr} {scope:Scope} {pos:Pos} {wj:TI} {g g2:TG} {tt tt2:TT} {te:TE} {D:Addr}
theorem outer2 (hc:Y.calm = true) (hx:Y.xe = fun _ _=>False) (hg:PG Y t1 g) (ht:PTs Y f1 tt) (hj:PI Y t2 i2 wj) (hg2:PG Y t2 g2) (ht2:PTs Y f2 tt2) (he:PE Y elt te) (hs:∀ x,foldedSetIterable i2 Y.env x = pure x)
    {it:Addr} {fp:List Addr} {tn:Nat -> Heap -> Prop} {J:It} {Q:VK} (T:Turn Y.prog Y.w Y.K t1 J fp it tn) {s:Shared} {σ:St} {H:Hp} (I:Inv Y [] σ H s) (st0:tn 0 s.heap) (fp0:∀ b ∈ fp,H b = none) (stat:∀ {H':Hp},(∀ b ∈ fp,H' b = none) -> ∀ b ∈ fp,FpOk Y [] H' b)
    {Wv:Nat -> Nat -> List V -> St -> Hp -> Prop} {m0:Nat} (w0:Wv 0 m0 [] σ H)
    (turn:∀ i m acc σc H,Wv i m acc σc H -> (J.stop i H /\ Q (.ref D) H) \/ (J.go i H /\ ∀ x H',J.yld i H x H' -> g x σc H' fun σ2 H2=>tt σ2 H2 fun b H3 =>
      if b = true then tIn wj g2 tt2 te D acc σ2 H3 fun acc' σ5 H5=>∃ m',m' < m /\ Wv (i + 1) m' acc' σ5 H5 else ∃ m',m' < m /\ Wv (i + 1) m' acc σ2 H3)) :
    codeAny (model Y.prog Y.w) Y.A (.compStart (lc2 elt t1 i1 f1 t2 i2 f2 scope pos) 0 (.ref it) (.ref D) Y.env) (fun r s5=>r = .ok .next /\ ∃ σ5 H4,Inv Y [] σ5 H4 s5 /\ Q (.ref D) H4) s:=by
  have loop:codeAny (model Y.prog Y.w) Y.A (.compLoop (lc2 elt t1 i1 f1 t2 i2 f2 scope pos) 0 (.ref it) (.ref D) Y.env) (fun r s5=>r = .ok .next /\ ∃ σ5 H4,Inv Y [] σ5 H4 s5 /\ Q (.ref D) H4) s:=by
    refine loop2_0 (fun n s'=>∃ i acc σ' H',Inv Y [] σ' H' s' /\ tn i s'.heap /\ (∀ b ∈ fp,H' b = none) /\ Wv i n acc σ' H') hs ?_ m0 ⟨0,[],_,_,I,st0,fp0,w0⟩
    rintro n s4 ⟨i,acc,σ4,H4,I4,st4,fr4,w4⟩
    rcases turn i n acc σ4 H4 w4 with ⟨stop,qn⟩ | ⟨go,step⟩
    · exact thn (T.done Y rfl rfl rfl hc i [] s4 σ4 H4 (fun _ _=>False) I4 (stat fr4) st4 stop) fun r s5 ⟨hr,I5⟩=>.inl ⟨hr,rfl,σ4,H4,I5,qn⟩
    · refine thn (T.item Y rfl rfl rfl hc i [] s4 σ4 H4 (fun _ _=>False) I4 (stat fr4) st4 go) fun r s5 ⟨u,hr,h5⟩=>.inr ⟨u,hr,?_⟩
      refine thn h5 fun _ s6 ⟨x,H6,I6,r6,y6,st6,fr6⟩=>?_
      have I6':=I6.pinned (stat fr6) (T.obj _ _ st6)
      have again:∀ {σ7:St} {H7:Hp} {s7:Shared},Inv Y ([] ++ pinsAt fp s6.heap) σ7 H7 s7 -> ∀ {acc':List V} {m':Nat},m' < n -> Wv (i + 1) m' acc' σ7 H7 ->
          ∃ m,m < n /\ ∃ i acc σ' H',Inv Y [] σ' H' s7 /\ tn i s7.heap /\ (∀ b ∈ fp,H' b = none) /\ Wv i m acc σ' H':=fun {σ7 H7 s7} I7 {acc' m'} hm w7=>by
        refine ⟨m',hm,i + 1,acc',σ7,H7,I7.unpinned,T.keep _ _ _ st6 fun b hb o e=>(I7.pin (b,o) (List.mem_append_right _ (List.mem_append_right _ (mem_pinsAt hb e)))).1,fun b hb=>?_,w7⟩
        obtain ⟨o,e,d⟩:=T.obj _ _ st6 b hb
        exact (I7.pin (b,o) (List.mem_append_right _ (List.mem_append_right _ (mem_pinsAt hb e)))).2.1
      have h7:=hg _ s6 σ4 H6 x u _ I6' r6 (step x H6 y6)
      rw [hx] at h7
      refine thn h7 fun _ s7 ⟨σ7,H7,I7,q7⟩=>?_
      have h8:=ht _ s7 σ7 H7 _ I7 q7
      rw [hx] at h8
      refine thn h8 fun ok s8 ⟨H8,I8,q8⟩=>?_
      cases ok with
      | false =>
        rw [if_neg Bool.false_ne_true] at q8 ⊢
        obtain ⟨m',hm,w8⟩:=q8
        exact again I8 hm w8
      | true =>
        rw [if_pos rfl] at q8 ⊢
        exact inner2 hc hx hj hg2 ht2 he I8 q8 fun acc' σ9 H9 s9 I9 ⟨m',hm,w9⟩=>again I9 hm w9
  exact codeAny_compStart_list loop (T.self Y.A 0 _ _ _ st0 loop)
end
section
variable {X:Cx} {elt t1 i1 t2 i2:Expr} {f1 f2:List Expr} {scope:Scope} {pos:Pos} {wi:TI} {wj:CompA -> TI} {g g2:CompA -> TG} {tt tt2:CompA -> TT} {te:CompA -> TE}
theorem scOk.get {scope scX:Scope} (hsc:scOk scope scX = true):scope.kind = .function /\ (∀ y ∈ scope.names,y.2 = .cell -> scope.names.lookup y.1 = some .cell) /\ (∀ y ∈ scope.names,y.2 = .local -> scope.names.lookup y.1 = some .local) /\
    ∀ y ∈ scope.names,y.2 = .free -> scX.names.lookup y.1 = some .cell \/ scX.names.lookup y.1 = some .free:=by
  obtain ⟨sk,sn⟩:=Bool.and_eq_true_iff.mp hsc
  have hall:=List.all_eq_true.mp sn
  refine ⟨of_decide_eq_true sk,fun y hy hl=>?_,fun y hy hl=>?_,fun y hy hl=>?_⟩
  · rcases Bool.or_eq_true_iff.mp (Bool.and_eq_true_iff.mp (Bool.and_eq_true_iff.mp (hall y hy)).1).1 with z | z
    · exact absurd hl (of_decide_eq_true z)
    · exact of_decide_eq_true z
  · rcases Bool.or_eq_true_iff.mp (Bool.and_eq_true_iff.mp (Bool.and_eq_true_iff.mp (hall y hy)).1).2 with z | z
    · exact absurd hl (of_decide_eq_true z)
    · exact of_decide_eq_true z
  · rcases Bool.or_eq_true_iff.mp (Bool.and_eq_true_iff.mp (hall y hy)).2 with z | z
    · exact absurd hl (of_decide_eq_true z)
    · exact (Bool.or_eq_true_iff.mp z).imp of_decide_eq_true of_decide_eq_true
theorem pe_lcomp2 (N':List Str) (fr:List (Option Nat)) (hc:X.calm = true) (hi:PI X t1 i1 wi) (hfr:frOk fr N' X.N scope X.env.scope = true) (hsc:scOk scope X.env.scope = true)
    (hg:∀ y,PG (blk X N' scope y) t1 (g y)) (ht:∀ y,PTs (blk X N' scope y) f1 (tt y)) (hj:∀ y,PI (blk X N' scope y) t2 i2 (wj y)) (hg2:∀ y,PG (blk X N' scope y) t2 (g2 y)) (ht2:∀ y,PTs (blk X N' scope y) f2 (tt2 y)) (he:∀ y,PE (blk X N' scope y) elt (te y))
    (hs:∀ x,foldedSetIterable i1 X.env x = pure x:=by intro _; rfl) (hs2:∀ y x,foldedSetIterable i2 (blk X N' scope y).env x = pure x:=by intro _ _; rfl):PE X (lc2 elt t1 i1 f1 t2 i2 f2 scope pos) (tComp2 wi fr g tt wj g2 tt2 te):=by
  intro pins s σ H Q I h
  obtain ⟨hkind,hcell,hnames,hfree⟩:=scOk.get hsc
  obtain ⟨frl,frg⟩:=frOk.get hfr
  obtain ⟨cl,hclos,cl1,cl2⟩:=closure_for (env:=X.env) (scope:=scope) fun y hy hl=>I.ok.has y.1 (hfree y hy hl)
  rw [eval_ListComp]
  refine wpAny_comprehension_free (use:=none) rfl hs hclos hkind hnames (thn (hi pins s σ H _ I h) fun v s1 h1=>thn h1 fun itv s2 h2=>?_)
  obtain ⟨it,fp,tn,J,H2,e,I2,T,st2,f2,q2⟩:=h2
  subst e
  refine wpAny_newObj_type ?_
  have hD:H2 s2.heap.objs.size = none:=I2.hok.fresh (Nat.le_refl _)
  have I3:Inv X pins σ (upd H2 s2.heap.objs.size (.lst [])) { s2 with heap:=s2.heap.push { cls:=.type "list", data:=.seq ([]:List Value).toArray } } :=
    I2.laid (t':=s2.toks) (fun b u e=>Heap.get?_push_of_some _ e) (Nat.le_refl _) ⟨by show 0 <= sizeLine; exact Nat.zero_le _,[],0,.nil,Heap.get?_push_size _ rfl⟩
  obtain ⟨Wv,⟨m0,w0⟩,turn⟩:=q2 _ hD
  have tn3:tn 0 (s2.heap.push { cls:=.type "list", data:=.seq ([]:List Value).toArray }):=T.keep _ _ _ st2 fun b _ o e=>Heap.get?_push_of_some _ e
  have fpD:∀ b ∈ fp,(upd H2 s2.heap.objs.size (.lst [])) b = none:=fun b hb=>by
    obtain ⟨o,e,_⟩:=T.obj _ _ st2 b hb
    rw [upd_ne (Nat.ne_of_lt (Heap.lt_size e))]
    exact (f2 b hb).1
  have fp3:∀ b ∈ fp,b < (s2.heap.push { cls:=.type "list", data:=.seq ([]:List Value).toArray }).objs.size:=fun b hb=>by
    obtain ⟨o,e,_⟩:=T.obj _ _ tn3 b hb
    exact Heap.lt_size e
  exact comp_blockG N' fr hc hkind hcell hfree frl frg cl1 cl2 I3 T tn3 fpD fp3 (fun b hb=>(f2 b hb).2)
    (fun s' IY tY stat=>outer2 (Y:=blk X N' scope ⟨cl,fp,X.pn ++ pins,_,_⟩) hc rfl (hg ⟨cl,fp,X.pn ++ pins,_,_⟩) (ht ⟨cl,fp,X.pn ++ pins,_,_⟩) (hj ⟨cl,fp,X.pn ++ pins,_,_⟩) (hg2 ⟨cl,fp,X.pn ++ pins,_,_⟩) (ht2 ⟨cl,fp,X.pn ++ pins,_,_⟩) (he ⟨cl,fp,X.pn ++ pins,_,_⟩) (hs2 ⟨cl,fp,X.pn ++ pins,_,_⟩) T IY tY fpD stat w0 (turn ⟨cl,fp,X.pn ++ pins,_,_⟩))
    (Rp:=compPost (model X.prog X.w) X.A X.xe none (EP X pins σ Q) (.ref s2.heap.objs.size)) fun s5 H4 m hn k _ qn=>⟨m,hn,fun h' hs'=>⟨.ref _,H4,k h' hs',rfl,qn⟩⟩
theorem ps_setcomp2 {b:Bool} {x:Str} {px spos:Pos} {ix:Nat} (N':List Str) (fr:List (Option Nat)) (hc:X.calm = true) (hi:PI X t1 i1 wi) (hfr:frOk fr N' X.N scope X.env.scope = true) (hsc:scOk scope X.env.scope = true)
    (hg:∀ y,PG (blk X N' scope y) t1 (g y)) (ht:∀ y,PTs (blk X N' scope y) f1 (tt y)) (hj:∀ y,PI (blk X N' scope y) t2 i2 (wj y)) (hg2:∀ y,PG (blk X N' scope y) t2 (g2 y)) (ht2:∀ y,PTs (blk X N' scope y) f2 (tt2 y)) (he:∀ y,PE (blk X N' scope y) elt (te y))
    (hN:X.N.Nodup) (hix:X.N[ix]? = some x) (hx:Loc X.env.scope x) (hf:X.fn x = true \/ X.env.scope.names.lookup x = some .local) (hsw:swapsWith (lc2 elt t1 i1 f1 t2 i2 f2 scope pos) (some (.Name x px)) spos.line X.env = pure b)
    (hs:∀ x,foldedSetIterable i1 X.env x = pure x) (hs2:∀ y x,foldedSetIterable i2 (blk X N' scope y).env x = pure x):PS X (.Assign [.Name x px] (lc2 elt t1 i1 f1 t2 i2 f2 scope pos) spos) (tAsg (tComp2 wi fr g tt wj g2 tt2 te) (gName ix)):=by
  cases b with
  | false=>exact ps_set hN hix hx (pe_lcomp2 N' fr hc hi hfr hsc hg ht hj hg2 ht2 he hs hs2) hsw hf
  | true =>
  intro pins s σ H DD I h
  obtain ⟨hkind,hcell,hnames,hfree⟩:=scOk.get hsc
  obtain ⟨frl,frg⟩:=frOk.get hfr
  obtain ⟨cl,hclos,cl1,cl2⟩:=closure_for (env:=X.env) (scope:=scope) fun y hy hl=>I.ok.has y.1 (hfree y hy hl)
  rw [exec_Assign_Name_used _ _ _ _ hsw]
  refine wpAny_bind (wpAny_standAt (wpAny_bind ?_))
  show wpAny _ X.A (do let _ <- comprehension (lc2 elt t1 i1 f1 t2 i2 f2 scope pos) scope X.env _ (newList []) false (eval i1 X.env) (some (assign (.Name x px) X.env))) _ _ s
  refine wpAny_bind (wpAny_mono (wpAny_comprehension_free (use:=some (assign (.Name x px) X.env)) (Q:=fun _ s'=>SP X pins DD .next s') rfl hs hclos hkind hnames
    (thn (hi pins s σ H _ I h) fun v s1 h1=>thn h1 fun itv s2 h2=>?_)) (fun _ s' hq=>wpAny_pure (wpAny_pure hq)) fun _ _ e=>e)
  obtain ⟨it,fp,tn,J,H2,e,I2,T,st2,f2,q2⟩:=h2
  subst e
  refine wpAny_newObj_type ?_
  have hD:H2 s2.heap.objs.size = none:=I2.hok.fresh (Nat.le_refl _)
  have I3:Inv X pins σ (upd H2 s2.heap.objs.size (.lst [])) { s2 with heap:=s2.heap.push { cls:=.type "list", data:=.seq ([]:List Value).toArray } } :=
    I2.laid (t':=s2.toks) (fun b u e=>Heap.get?_push_of_some _ e) (Nat.le_refl _) ⟨by show 0 <= sizeLine; exact Nat.zero_le _,[],0,.nil,Heap.get?_push_size _ rfl⟩
  obtain ⟨Wv,⟨m0,w0⟩,turn⟩:=q2 _ hD
  have tn3:tn 0 (s2.heap.push { cls:=.type "list", data:=.seq ([]:List Value).toArray }):=T.keep _ _ _ st2 fun b _ o e=>Heap.get?_push_of_some _ e
  have fpD:∀ b ∈ fp,(upd H2 s2.heap.objs.size (.lst [])) b = none:=fun b hb=>by
    obtain ⟨o,e,_⟩:=T.obj _ _ st2 b hb
    rw [upd_ne (Nat.ne_of_lt (Heap.lt_size e))]
    exact (f2 b hb).1
  have fp3:∀ b ∈ fp,b < (s2.heap.push { cls:=.type "list", data:=.seq ([]:List Value).toArray }).objs.size:=fun b hb=>by
    obtain ⟨o,e,_⟩:=T.obj _ _ tn3 b hb
    exact Heap.lt_size e
  refine comp_blockG (Q:=fun v H1=>gName ix v σ H1 DD.nx) N' fr hc hkind hcell hfree frl frg cl1 cl2 I3 T tn3 fpD fp3 (fun b hb=>(f2 b hb).2)
    (fun s' IY tY stat=>outer2 (Y:=blk X N' scope ⟨cl,fp,X.pn ++ pins,_,_⟩) (Q:=fun v H1=>gName ix v σ H1 DD.nx) hc rfl (hg ⟨cl,fp,X.pn ++ pins,_,_⟩) (ht ⟨cl,fp,X.pn ++ pins,_,_⟩) (hj ⟨cl,fp,X.pn ++ pins,_,_⟩) (hg2 ⟨cl,fp,X.pn ++ pins,_,_⟩) (ht2 ⟨cl,fp,X.pn ++ pins,_,_⟩) (he ⟨cl,fp,X.pn ++ pins,_,_⟩) (hs2 ⟨cl,fp,X.pn ++ pins,_,_⟩) T IY tY fpD stat w0 (turn ⟨cl,fp,X.pn ++ pins,_,_⟩))
    (Rp:=compPost (model X.prog X.w) X.A X.xe (some (assign (.Name x px) X.env)) (fun _ s'=>SP X pins DD .next s') (.ref s2.heap.objs.size)) fun s5 H4 m hn k fpo qn=>?_
  show wpAny _ X.A (assign (.Name x px) X.env (.ref s2.heap.objs.size)) _ _ s5
  have I5:Inv X pins σ H4 s5:=k s5.heap (Heap.SameBut.refl _ _)
  obtain ⟨f0,f1,f2',f3,f4,f5⟩:=fpo
  refine wpAny_assign_Name (store_ok2 I5 hN hix hx (v:=.ref s2.heap.objs.size) rfl (fun s6 I6 sb=>?_) hf)
  obtain ⟨a,sb,ha⟩:=sb
  have hne:(s2.heap.push { cls:=.type "list", data:=.seq ([]:List Value).toArray }).objs.size ≠ a:=by
    rcases ha with rfl | ha
    · exact f1
    · exact fun z=>f4 x a ha z.symm
  refine ⟨m,hn.at' fun o e=>sb.extBut _ o hne e,fun h' hs'=>?_⟩
  exact ⟨_,H4,I6.turned (t':=s6.toks) (fun b o hb e=>hs'.extBut b o hb e) f0 f1 f3 f4 f5,qn⟩
end
end L2

namespace L2.VL
open PySem PySem.Spec PyProof.Rows
noncomputable def vGo2 (ρ0:En) (g:TGv) (ft:TB) (fj:En -> (List PyData -> Prop) -> Prop) (g2:TGv) (ft2:TB) (fe:TV):List PyData -> List PyData -> (List PyData -> Prop) -> Prop
  | [],acc,Q=>Q acc
  | x :: xs,acc,Q=>g x ρ0 fun ρ2=>Le ρ0 ρ2 /\ ft ρ2 fun b=>if b = true then fj ρ2 fun ys=>vGoR ρ2 g2 ft2 fe ys acc fun acc'=>vGo2 ρ0 g ft fj g2 ft2 fe xs acc' Q else vGo2 ρ0 g ft fj g2 ft2 fe xs acc Q
noncomputable def vComp2 (fi:En -> (List PyData -> Prop) -> Prop) (fr:List (Option Nat)) (g:TGv) (ft:TB) (fj:En -> (List PyData -> Prop) -> Prop) (g2:TGv) (ft2:TB) (fe:TV):TV:=fun ρ Q=>fi ρ fun xs=>vGo2 (frEn fr ρ) g ft fj g2 ft2 fe xs [] fun ds=>Q (.ml ds)
section
variable {X:Cx} {rl:RlT} {elt t1 i1 t2 i2:Expr} {f1 f2:List Expr} {scope:Scope} {pos:Pos} {fi fj:En -> (List PyData -> Prop) -> Prop} {g g2:TGv} {ft ft2:TB} {fe:TV}
theorem lcomp2_k {N':List Str} {wi:TI} (fr:List (Option Nat)) (k0:∀ {F₀ H₀ F H:Hp} {σ:St} {ρ:En},VR X.K rl F₀ H₀ F H σ ρ -> ∀ (Qd:List PyData -> Prop) (R:It -> Hp -> Prop),fi ρ Qd ->
      (∀ J xs F' H',Grow rl F H F' H' -> VIt X.K rl F' J xs -> Qd xs -> R J H') -> wi σ H R)
    (hg:∀ y,PGV (blk X N' scope y) rl t1 g) (ht:∀ y,PTVs (blk X N' scope y) rl f1 ft) (hj:∀ y,PIV (blk X N' scope y) rl t2 i2 fj) (hg2:∀ y,PGV (blk X N' scope y) rl t2 g2) (ht2:∀ y,PTVs (blk X N' scope y) rl f2 ft2) (he:∀ y,PV (blk X N' scope y) rl elt fe)
    {F₀ H₀ F H:Hp} {σ:St} {ρ:En} (R:VR X.K rl F₀ H₀ F H σ ρ) (Qd:W -> Prop) (Q:VK) (q:vComp2 fi fr g ft fj g2 ft2 fe ρ Qd)
    (k:∀ v w F' H',Grow rl F H F' H' -> RelW X.K rl F' H' v w -> NewIn H v w -> Qd w -> Q v H') :
    tComp2 wi fr (fun y=>Classical.choose (hg y)) (fun y=>Classical.choose (ht y)) (fun y=>Classical.choose (hj y)) (fun y=>Classical.choose (hg2 y)) (fun y=>Classical.choose (ht2 y)) (fun y=>Classical.choose (he y)) σ H Q:=by
  refine k0 R _ _ q fun J xs F1 H1 g1 vi q1=>?_
  intro D hD
  have rD:rl.a ≠ some D:=fun e=>by obtain ⟨o,z⟩:=g1.reel.live e; rw [hD] at z; cases z
  have FD:F1 D = none:=g1.sub.free hD
  have gD:Grow rl F1 H1 F1 (upd H1 D (.lst [])):=Grow.laid g1.sub g1.reel hD
  have R1:=R.grow g1
  have n0:NoMl (frEn fr ρ):=noMl_block
  have keepD:∀ {acc:List V} {Fc Hc Fx Hx:Hp},Hc D = some (.lst acc) -> Fc D = none -> Grow rl Fc Hc Fx Hx -> Hx D = some (.lst acc) /\ Fx D = none:=fun hDc fDc gx=>⟨gx.same D _ hDc rD,by rw [gx.old D _ hDc]; exact fDc⟩
  refine ⟨fun i m acc σc Hc=>m = xs.length - i /\ i <= xs.length /\ ∃ Fc ds,VR X.K rl F1 H1 Fc Hc σc (frEn fr ρ) /\ Hc D = some (.lst acc) /\ Fc D = none /\ Reps X.K Fc acc ds /\ vGo2 (frEn fr ρ) g ft fj g2 ft2 fe (xs.drop i) ds (fun ds=>Qd (.ml ds)),
    ⟨xs.length,by simp,Nat.zero_le _,F1,[],vr_block R1 gD,upd_same,FD,.nil,by simpa using q1⟩,?_⟩
  rintro z i m acc σc Hc ⟨rfl,hi,Fc,ds,Rc,hDc,fDc,rs,q2⟩
  have sH:Same F1 Hc:=Rc.g.fs.trans Rc.sub
  by_cases hlt:i < xs.length
  · have ei:xs[i]? = some xs[i]:=by simp [hlt]
    have ed:xs.drop i = xs[i] :: xs.drop (i + 1):=List.drop_eq_getElem_cons hlt
    rw [ed] at q2
    refine .inr ⟨vi.go i Hc _ ei sH,fun v H' y=>?_⟩
    obtain ⟨Fy,gy,rv⟩:=vi.yld i Hc v H' _ Fc ei Rc.g.fs Rc.sub Rc.reel y
    refine (Classical.choose_spec (hg z)).2 (Rc.grow gy) v _ _ _ rv q2 fun F3 H3 σ3 ρ3 g3 n3 R3 ⟨le3,q3⟩=>?_
    refine (Classical.choose_spec (ht z)).2 R3 _ _ q3 fun b F4 H4 g4 q4=>?_
    have R4:=R3.grow g4
    have g34:=(gy.trans g3).trans g4
    have nm3:NoMl ρ3:=n3 n0
    cases b with
    | false=>exact ⟨xs.length - (i + 1),by omega,rfl,hlt,F4,ds,R4.le le3,(keepD hDc fDc g34).1,(keepD hDc fDc g34).2,rs.mono g34.fs,q4⟩
    | true =>
      refine (Classical.choose_spec (hj z)).2 R4 _ _ q4 fun J2 ys F5 H5 g5 vi2 q5=>?_
      have g35:=g34.trans g5
      refine ⟨fun j m acc σe He=>m = ys.length - j /\ j <= ys.length /\ ∃ Fe es,VR X.K rl F1 H1 Fe He σe ρ3 /\ Same F5 Fe /\ He D = some (.lst acc) /\ Fe D = none /\ Reps X.K Fe acc es /\
          vGoR ρ3 g2 ft2 fe (ys.drop j) es (fun es=>vGo2 (frEn fr ρ) g ft fj g2 ft2 fe (xs.drop (i + 1)) es (fun ds=>Qd (.ml ds))),
        ⟨ys.length,by simp,Nat.zero_le _,F5,ds,R4.grow g5,.refl _,(keepD hDc fDc g35).1,(keepD hDc fDc g35).2,rs.mono g35.fs,by simpa using q5⟩,?_⟩
      rintro j m acc2 σe He ⟨rfl,hj',Fe,es,Re,s5,hDe,fDe,res,q6⟩
      have sHe:Same F5 He:=s5.trans Re.sub
      by_cases hlt2:j < ys.length
      · have ej:ys[j]? = some ys[j]:=by simp [hlt2]
        have edj:ys.drop j = ys[j] :: ys.drop (j + 1):=List.drop_eq_getElem_cons hlt2
        rw [edj] at q6
        refine .inr ⟨vi2.go j He _ ej sHe,fun v2 H2' y2=>?_⟩
        obtain ⟨Fy2,gy2,rv2⟩:=vi2.yld j He v2 H2' _ Fe ej s5 Re.sub Re.reel y2
        refine (Classical.choose_spec (hg2 z)).2 (Re.grow gy2) v2 _ _ _ rv2 q6 fun F7 H7 σ7 ρ7 g7 n7 R7 ⟨le7,q7⟩=>?_
        refine (Classical.choose_spec (ht2 z)).2 R7 _ _ q7 fun b2 F8 H8 g8 q8=>?_
        have R8:=R7.grow g8
        have g78:=(gy2.trans g7).trans g8
        cases b2 with
        | false=>exact ⟨ys.length - (j + 1),by omega,rfl,hlt2,F8,es,R8.le le7,s5.trans g78.fs,(keepD hDe fDe g78).1,(keepD hDe fDe g78).2,res.mono g78.fs,q8⟩
        | true =>
          refine (Classical.choose_spec (he z)).2 R8 _ _ q8 fun v9 w9 F9 H9 g9 r9 n9 ⟨d,ed9,hl,q9⟩=>?_
          obtain ⟨F10,g10,s10,r10⟩:=RelW.fz g9 r9 n9
          rw [ed9] at r10
          have g710:=g78.trans g10
          refine ⟨(keepD hDe fDe g710).1,by rw [res.length]; exact hl,ys.length - (j + 1),by omega,rfl,hlt2,F10,es ++ [d],((R8.grow g10).le le7).other nm3 hD (keepD hDe fDe g710).2 rD,s5.trans g710.fs,upd_same,(keepD hDe fDe g710).2,(res.mono g710.fs).snoc r10,q9⟩
      · have e:j = ys.length:=by omega
        subst e
        rw [List.drop_length] at q6
        exact .inl ⟨vi2.stop _ He (Nat.le_refl _) sHe,xs.length - (i + 1),by omega,rfl,hlt,Fe,es,Re.le le3,hDe,fDe,res,q6⟩
  · have e:i = xs.length:=by omega
    subst e
    rw [List.drop_length] at q2
    refine .inl ⟨vi.stop _ Hc (Nat.le_refl _) sH,k _ (.ml ds) Fc Hc (g1.trans Rc.g) ⟨D,acc,rfl,fDc,rD,hDc,rs⟩ (fun a ea=>by cases ea; exact g1.freeB hD) q2⟩
theorem v_lcomp2 (N':List Str) (fr:List (Option Nat)) (hc:X.calm = true) (hi:PIV X rl t1 i1 fi)
    (hg:∀ y,PGV (blk X N' scope y) rl t1 g) (ht:∀ y,PTVs (blk X N' scope y) rl f1 ft) (hj:∀ y,PIV (blk X N' scope y) rl t2 i2 fj) (hg2:∀ y,PGV (blk X N' scope y) rl t2 g2) (ht2:∀ y,PTVs (blk X N' scope y) rl f2 ft2) (he:∀ y,PV (blk X N' scope y) rl elt fe)
    (hfr:frOk fr N' X.N scope X.env.scope = true:=by rfl) (hsc:scOk scope X.env.scope = true:=by rfl)
    (hs:∀ x,foldedSetIterable i1 X.env x = pure x:=by intro _; rfl) (hs2:∀ y x,foldedSetIterable i2 (blk X N' scope y).env x = pure x:=by intro _ _; rfl):PV X rl (.ListComp elt [⟨t1,i1,f1,0⟩,⟨t2,i2,f2,0⟩] scope pos) (vComp2 fi fr g ft fj g2 ft2 fe):=by
  obtain ⟨wi,p0,k0⟩:=hi
  exact ⟨_,pe_lcomp2 N' fr hc p0 hfr hsc (fun y=>(Classical.choose_spec (hg y)).1) (fun y=>(Classical.choose_spec (ht y)).1) (fun y=>(Classical.choose_spec (hj y)).1) (fun y=>(Classical.choose_spec (hg2 y)).1) (fun y=>(Classical.choose_spec (ht2 y)).1) (fun y=>(Classical.choose_spec (he y)).1) hs hs2,
    fun R Qd Q q k=>lcomp2_k fr k0 hg ht hj hg2 ht2 he R Qd Q q k⟩
theorem vs_setcomp2 (i:Nat) {b:Bool} {x:Str} {px spos:Pos} (hN:X.N.Nodup) (N':List Str) (fr:List (Option Nat)) (hc:X.calm = true) (hi:PIV X rl t1 i1 fi)
    (hg:∀ y,PGV (blk X N' scope y) rl t1 g) (ht:∀ y,PTVs (blk X N' scope y) rl f1 ft) (hj:∀ y,PIV (blk X N' scope y) rl t2 i2 fj) (hg2:∀ y,PGV (blk X N' scope y) rl t2 g2) (ht2:∀ y,PTVs (blk X N' scope y) rl f2 ft2) (he:∀ y,PV (blk X N' scope y) rl elt fe)
    (hsw:swapsWith (.ListComp elt [⟨t1,i1,f1,0⟩,⟨t2,i2,f2,0⟩] scope pos) (some (.Name x px)) spos.line X.env = pure b:=by rfl)
    (hix:X.N[i]? = some x:=by rfl) (hx:Loc X.env.scope x:=by first | exact Or.inl rfl | exact Or.inr rfl) (hf:X.fn x = true \/ X.env.scope.names.lookup x = some .local:=by first | exact .inl rfl | exact .inr rfl)
    (hfr:frOk fr N' X.N scope X.env.scope = true:=by rfl) (hsc:scOk scope X.env.scope = true:=by rfl)
    (hs:∀ x,foldedSetIterable i1 X.env x = pure x:=by intro _; rfl) (hs2:∀ y x,foldedSetIterable i2 (blk X N' scope y).env x = pure x:=by intro _ _; rfl) :
    PSV X rl (.Assign [.Name x px] (.ListComp elt [⟨t1,i1,f1,0⟩,⟨t2,i2,f2,0⟩] scope pos) spos) (vSetZ i (vComp2 fi fr g ft fj g2 ft2 fe)):=by
  obtain ⟨wi,p0,k0⟩:=hi
  refine ⟨_,ps_setcomp2 N' fr hc p0 hfr hsc (fun y=>(Classical.choose_spec (hg y)).1) (fun y=>(Classical.choose_spec (ht y)).1) (fun y=>(Classical.choose_spec (hj y)).1) (fun y=>(Classical.choose_spec (hg2 y)).1) (fun y=>(Classical.choose_spec (ht2 y)).1) (fun y=>(Classical.choose_spec (he y)).1) hN hix hx hf hsw hs hs2,
    fun R Dv D ok q=>lcomp2_k fr k0 hg ht hj hg2 ht2 he R _ _ q fun v w F1 H1 g1 r1 n1 ⟨d,ed,q1⟩=>?_⟩
  obtain ⟨F2,g2,s2,r2⟩:=RelW.fz g1 r1 n1
  rw [ed] at r2
  exact ok.nx _ _ _ _ g2.fs (R.set g2 r2 trivial (fun xs z=>by cases z) i) q1
end
noncomputable def itM2 (ρ0:En) (g:TGv) (ft:TB) (fj:En -> (List PyData -> Prop) -> Prop) (g2:TGv) (ft2:TB) (fe:TV) (x:PyData) (acc:List PyData):Mo (List PyData) :=
  bnd (g x ρ0) fun ρ2=>grd (Le ρ0 ρ2) (bnd (ft ρ2) fun b=>if b = true then bnd (fj ρ2) fun ys=>compM (itM ρ2 g2 ft2 fe) ys acc else ret acc)
noncomputable def compM2 (b:PyData -> List PyData -> Mo (List PyData)):List PyData -> List PyData -> Mo (List PyData)
  | [],acc=>ret acc
  | x :: xs,acc=>bnd (b x acc) (compM2 b xs)
theorem comp2_eq (ρ0:En) (g:TGv) (ft:TB) (fj:En -> (List PyData -> Prop) -> Prop) (g2:TGv) (ft2:TB) (fe:TV):∀ (xs acc:List PyData),vGo2 ρ0 g ft fj g2 ft2 fe xs acc = compM2 (itM2 ρ0 g ft fj g2 ft2 fe) xs acc
  | [],acc=>rfl
  | x :: xs,acc=>by
    refine mo_ext fun Q=>?_
    show (g x ρ0 fun ρ2=>Le ρ0 ρ2 /\ ft ρ2 fun b=>if b = true then fj ρ2 fun ys=>vGoR ρ2 g2 ft2 fe ys acc fun acc'=>vGo2 ρ0 g ft fj g2 ft2 fe xs acc' Q else vGo2 ρ0 g ft fj g2 ft2 fe xs acc Q) ↔ (bnd (itM2 ρ0 g ft fj g2 ft2 fe x acc) (compM2 (itM2 ρ0 g ft fj g2 ft2 fe) xs)) Q
    simp only [comp2_eq ρ0 g ft fj g2 ft2 fe xs,comp_eq]
    have:∀ (ρ2:En) (b:Bool),(if b = true then fj ρ2 fun ys=>compM (itM ρ2 g2 ft2 fe) ys acc fun acc'=>compM2 (itM2 ρ0 g ft fj g2 ft2 fe) xs acc' Q else compM2 (itM2 ρ0 g ft fj g2 ft2 fe) xs acc Q)
        = (bnd (if b = true then bnd (fj ρ2) fun ys=>compM (itM ρ2 g2 ft2 fe) ys acc else ret acc) (compM2 (itM2 ρ0 g ft fj g2 ft2 fe) xs)) Q:=by
      intro ρ2 b
      cases b <;> rfl
    simp only [this]
    exact Iff.rfl
theorem m_comp2 (fi:En -> (List PyData -> Prop) -> Prop) (fr:List (Option Nat)) (g:TGv) (ft:TB) (fj:En -> (List PyData -> Prop) -> Prop) (g2:TGv) (ft2:TB) (fe:TV) (ρ:En) :
    vComp2 fi fr g ft fj g2 ft2 fe ρ = bnd (fi ρ) fun xs=>bnd (compM2 (itM2 (frEn fr ρ) g ft fj g2 ft2 fe) xs []) fun ds=>ret (.ml ds):=by
  refine mo_ext fun Q=>?_
  show (fi ρ fun xs=>vGo2 (frEn fr ρ) g ft fj g2 ft2 fe xs [] fun ds=>Q (.ml ds)) ↔ _
  simp only [comp2_eq]
  exact Iff.rfl
section
variable {α β:Type} {b:PyData -> Mo (Option PyData)}
theorem compM2_rows {c:PyData -> List PyData -> Mo (List PyData)} {xs:List α} {enc : α -> PyData} (F : α -> List PyData) (h:∀ x ∈ xs,∀ acc:List PyData,acc.length + (F x).length <= sizeLine -> c (enc x) acc = ret (acc ++ F x)) :
    ∀ acc:List PyData,acc.length + (xs.flatMap F).length <= sizeLine -> compM2 c (xs.map enc) acc = ret (acc ++ xs.flatMap F):=by
  induction xs with
  | nil=>intro acc _; show ret acc = _; simp
  | cons x xs ih =>
    intro acc hl
    rw [List.flatMap_cons,List.length_append] at hl
    show bnd (c (enc x) acc) _ = _
    rw [h x List.mem_cons_self acc (by omega),bnd_ret,ih (fun y my=>h y (List.mem_cons_of_mem _ my)) (acc ++ F x) (by rw [List.length_append]; omega),List.flatMap_cons,List.append_assoc]
theorem c2_go {γ:Type} {c:PyData -> List PyData -> Mo (List PyData)} {k:List PyData -> Mo γ} {Q : γ -> Prop} {xs:List α} {enc : α -> PyData} {xs':List PyData} (F : α -> List PyData) (hx:xs' = xs.map enc)
    (h:∀ x ∈ xs,∀ acc:List PyData,acc.length + (F x).length <= sizeLine -> c (enc x) acc = ret (acc ++ F x)) (hl:(xs.flatMap F).length <= sizeLine) (fin:k (xs.flatMap F) Q):bnd (compM2 c xs' []) k Q:=by
  subst hx
  rw [compM2_rows F h [] (by simpa using hl),bnd_ret]
  simpa using fin
end
end L2.VL

namespace L2.VL
open PySem PySem.Spec PyProof.Rows
noncomputable def fr (q:Rat):PyData:=.tuple [.int q.num,.int q.den]
theorem fr_inj {q r:Rat} (h:fr q = fr r):q = r:=by
  simp only [fr,PyData.tuple.injEq,List.cons.injEq,PyData.int.injEq,and_true] at h
  exact Rat.ext h.1 (by omega)
theorem low_norm (n:Int) (d:Nat) (h:d ≠ 0):lowD n d = fr (Rat.normalize n d h):=by
  unfold lowD fr
  rw [Rat.normalize_eq]
  have g:(Int.gcd n d:Int) = ((n.natAbs.gcd d:Nat):Int):=by simp [Int.gcd]
  have gp : 0 < n.natAbs.gcd d:=Nat.gcd_pos_of_pos_right _ (by omega)
  have e1:n.fdiv (Int.gcd n d) = n / ((n.natAbs.gcd d:Nat):Int):=by rw [g,Int.fdiv_eq_ediv_of_nonneg _ (by omega)]
  have e2:(d:Int).fdiv (Int.gcd n d) = ((d / n.natAbs.gcd d:Nat):Int):=by rw [g,Int.fdiv_eq_ediv_of_nonneg _ (by omega),Int.natCast_ediv]
  rw [e1,e2]
theorem low_div {a b:Int} (hb : 0 < b):lowD a b = fr ((a:Rat) / (b:Rat)):=by
  obtain ⟨d,rfl⟩:=Int.eq_ofNat_of_zero_le (show 0 <= b by omega)
  rw [low_norm a d (by omega)]
  congr 1
  have:(Rat.normalize a d (by omega)) = mkRat a d:=by rw [Rat.normalize_eq_mkRat]
  rw [this,Rat.mkRat_eq_div]
  rfl
theorem fr_lt (q r:Rat):decide (q.num * r.den < r.num * q.den) = decide (q < r):=by
  rw [decide_eq_decide]
  exact (Rat.lt_iff q r).symm
noncomputable def qSm (n:Nat) (q:Rat):Prop:=q.num.natAbs < 2 ^ n /\ q.den < 2 ^ n
theorem qSm.mono {n m:Nat} {q:Rat} (h:qSm n q) (hm:n <= m):qSm m q:=⟨Nat.lt_of_lt_of_le h.1 (Nat.pow_le_pow_right (by decide) hm),Nat.lt_of_lt_of_le h.2 (Nat.pow_le_pow_right (by decide) hm)⟩
theorem big2000 {i:Int} (h:i.natAbs < 2 ^ 2000):Big i:=Nat.lt_of_lt_of_le h (Nat.pow_le_pow_right (by decide) (by decide))
theorem qSm.bn {q:Rat} (h:qSm 2000 q):Big q.num:=big2000 h.1
theorem qSm.bd {q:Rat} (h:qSm 2000 q):Big (q.den:Int):=big2000 (by rw [Int.natAbs_natCast]; exact h.2)
end L2.VL

namespace L2.VL
open PySem PySem.Spec PyProof.Rows
inductive Sd where
  | to (t:Rat) | from (a b:Rat) | round (a b:Rat)
noncomputable def Sd.last:Sd -> Rat
  | .to t=>t | .from _ b=>b | .round _ b=>b
noncomputable def sdD:Sd -> PyData
  | .to t=>.tuple [.str "to", fr t]
  | .from a b=>.tuple [.str "from", fr a,fr b]
  | .round a b=>.tuple [.str "round", fr a,fr b]
noncomputable def mx (q r:Rat):Rat:=if q < r then r else q
noncomputable def mn (q r:Rat):Rat:=if q < r then q else r
theorem fr0:pr 0 1 = fr 0:=rfl
theorem fr1:pr 1 1 = fr 1:=rfl
theorem norm_sm {n:Int} {d k:Nat} (hd:d ≠ 0) (h1:n.natAbs < 2 ^ k) (h2:d < 2 ^ k):qSm k (Rat.normalize n d hd):=by
  rw [Rat.normalize_eq]
  refine ⟨?_,Nat.lt_of_le_of_lt (Nat.div_le_self _ _) h2⟩
  show (n / ((n.natAbs.gcd d:Nat):Int)).natAbs < 2 ^ k
  have hdv:((n.natAbs.gcd d:Nat):Int) ∣ n:=Int.ofNat_dvd_left.mpr (Nat.gcd_dvd_left _ _)
  rw [Int.natAbs_ediv_of_dvd hdv,Int.natAbs_natCast]
  exact Nat.lt_of_le_of_lt (Nat.div_le_self _ _) h1
noncomputable def prodQ (qs:List Rat):Rat:=qs.foldl (· * ·) 1
noncomputable def boxD (ss:List Sd):PyData:=.tuple (ss.map sdD)
noncomputable def ptD (qs:List Rat):PyData:=.tuple (qs.map fr)
noncomputable def ptsQ (ps:List (List Rat)):PyData:=.tuple (ps.map ptD)
theorem at_last2 {α:Type} (x y : α):L2.atI [x,y] (-1) = some y:=rfl
theorem at_last3 {α:Type} (x y z : α):L2.atI [x,y,z] (-1) = some z:=rfl
end L2.VL

namespace L2.VL
open PySem PySem.Spec PyProof.Rows
theorem at_last1 {α:Type} (x : α):L2.atI [x] (-1) = some x:=rfl
end L2.VL

namespace L2.VL
open PySem PySem.Spec PyProof.Rows
theorem fr_i {q r:Rat}:fr q = fr r ↔ q = r:=⟨fr_inj,fun h=>by rw [h]⟩
theorem sdD_i {s t:Sd}:sdD s = sdD t ↔ s = t:=by
  constructor
  · intro h
    have n1:¬ (Str.ofString "from" = Str.ofString "round"):=by decide +kernel
    cases s <;> cases t <;> simp [sdD,fr_i,n1,Ne.symm n1] at h ⊢ <;> first | exact h | exact (n1 h.1.symm).elim | exact (n1 h.1).elim
  · rintro rfl; rfl
theorem ptD_i {a b:List Rat}:ptD a = ptD b ↔ a = b:=by
  unfold ptD
  rw [PyData.tuple.injEq,map_inj_of fun _ _=>fr_i]
theorem boxD_i {a b:List Sd}:boxD a = boxD b ↔ a = b:=by
  unfold boxD
  rw [PyData.tuple.injEq,map_inj_of fun _ _=>sdD_i]
theorem ptsQ_i {a b:List (List Rat)}:ptsQ a = ptsQ b ↔ a = b:=by
  unfold ptsQ
  rw [PyData.tuple.injEq,map_inj_of fun _ _=>ptD_i]
theorem frs_i {a b:List Rat}:a.map fr = b.map fr ↔ a = b:=map_inj_of fun _ _=>fr_i
theorem item_fr0 (q:Rat):itemAt (fr q) 0 = some (.int q.num):=rfl
theorem item_fr1 (q:Rat):itemAt (fr q) 1 = some (.int q.den):=rfl
theorem tupD_pt (a:List Rat):tupD (ptD a) = some (a.map fr):=rfl
theorem seqD_pt (a:List Rat):seqD (ptD a) = some (a.map fr):=rfl
theorem lenD_pt (a:List Rat):lenD (ptD a) = some a.length:=by show some (a.map fr).length = _; rw [List.length_map]
theorem item_pt (a:List Rat) (i:Int):itemAt (ptD a) i = (atI a i).map fr:=atI_map _ _ _
theorem tupD_bx (a:List Sd):tupD (boxD a) = some (a.map sdD):=rfl
theorem seqD_bx (a:List Sd):seqD (boxD a) = some (a.map sdD):=rfl
theorem lenD_bx (a:List Sd):lenD (boxD a) = some a.length:=by show some (a.map sdD).length = _; rw [List.length_map]
theorem item_bx (a:List Sd) (i:Int):itemAt (boxD a) i = (atI a i).map sdD:=atI_map _ _ _
theorem tupD_ps (a:List (List Rat)):tupD (ptsQ a) = some (a.map ptD):=rfl
theorem seqD_ps (a:List (List Rat)):seqD (ptsQ a) = some (a.map ptD):=rfl
theorem lenD_ps (a:List (List Rat)):lenD (ptsQ a) = some a.length:=by show some (a.map ptD).length = _; rw [List.length_map]
theorem item_ps (a:List (List Rat)) (i:Int):itemAt (ptsQ a) i = (atI a i).map ptD:=atI_map _ _ _
theorem kind_pt (a:List Rat):kindB (ptD a) = kindB (.tuple []):=rfl
theorem kind_bx (a:List Sd):kindB (boxD a) = kindB (.tuple []):=rfl
noncomputable def qd (a b:Int):Rat:=(a:Rat) / (b:Rat)
theorem low_qd {a b:Int} (hb : 0 < b):PyData.tuple [.int (a.fdiv (Int.gcd a b)),.int (b.fdiv (Int.gcd a b))] = fr (qd a b):=low_div hb
theorem den_p (q:Rat):(0:Int) < (q.den:Int):=by have:=q.den_nz; omega
theorem qd_sm {a b:Int} {k:Nat} (hb : 0 < b) (h1:a.natAbs < 2 ^ k) (h2:b.natAbs < 2 ^ k):qSm k (qd a b):=by
  obtain ⟨d,rfl⟩:=Int.eq_ofNat_of_zero_le (show 0 <= b by omega)
  have hd:d ≠ 0:=by omega
  have e:qd a d = Rat.normalize a d hd:=fr_inj (by rw [<- low_norm,low_div (by omega)]; rfl)
  rw [e]
  exact norm_sm _ h1 (by simpa using h2)
theorem qd_nn {a b:Int} (hb : 0 < b) (h : 0 <= a) : 0 <= qd a b:=by
  unfold qd
  have h1:(0:Rat) <= (a:Rat):=by exact_mod_cast h
  have h2:(0:Rat) < (b:Rat):=by exact_mod_cast hb
  rw [Rat.div_def]
  exact Rat.mul_nonneg h1 (Rat.le_of_lt (Rat.inv_pos.mpr h2))
theorem qd_lt1 {a b:Int} (hb : 0 < b) (h:a < b):qd a b < 1:=by
  unfold qd
  have h1:(a:Rat) < (b:Rat):=by exact_mod_cast h
  have h2:(0:Rat) < (b:Rat):=by exact_mod_cast hb
  exact (Rat.div_lt_iff h2).mpr (by rw [Rat.one_mul]; exact h1)
noncomputable def BFR:=And.intro @item_fr0 (And.intro @item_fr1 (And.intro @tupD_pt (And.intro @seqD_pt (And.intro @lenD_pt (And.intro @item_pt (And.intro @tupD_bx (And.intro @seqD_bx (And.intro @lenD_bx (And.intro @item_bx (And.intro @tupD_ps (And.intro @seqD_ps (And.intro @lenD_ps (And.intro @item_ps (And.intro @at_last1 (And.intro @at_last2 (And.intro @at_last3 (And.intro @kind_pt (And.intro @kind_bx (And.intro @fr0 (@fr1))))))))))))))))))))
end L2.VL

namespace L2.VL
open PySem PySem.Spec PyProof.Rows
noncomputable def q9:Rat:=⟨999999999998,999999999999,by decide,by decide⟩
end L2.VL

namespace L2.VL
open PySem PySem.Spec PyProof.Rows
noncomputable def sqD (b:Bool) (qs:List Rat):PyData:=if b then .tuple (qs.map fr) else .list (qs.map fr)
theorem sqD_i {b c:Bool} {qs rs:List Rat}:sqD b qs = sqD c rs ↔ b = c /\ qs = rs:=by
  cases b <;> cases c <;> simp [sqD,frs_i]
theorem seqW_sq (b:Bool) (qs:List Rat):seqW (.d (sqD b qs)) = some (qs.map fr):=by cases b <;> rfl
noncomputable def hasF (kvs:List (Key × PyData)) (k:Key):Bool:=kvs.any fun kv=>decide (kv.1 = k)
theorem hasF_iff {kvs:List (Key × PyData)} {k:Key}:hasF kvs k = true ↔ k ∈ kvs.map (·.1):=by
  unfold hasF
  simp only [List.any_eq_true,decide_eq_true_iff,List.mem_map]
theorem putF_keys (kvs:List (Key × PyData)) (k:Key) (x:PyData):(putF kvs k x).map (·.1) = if hasF kvs k = true then kvs.map (·.1) else kvs.map (·.1) ++ [k]:=by
  unfold putF
  show List.map _ (if hasF kvs k = true then _ else _) = _
  split
  · rw [List.map_map]
    congr 1; funext kv; simp only [Function.comp]; split <;> rfl
  · rw [List.map_append]; rfl
theorem putF_val (kvs:List (Key × PyData)) (k j:Key) (x:PyData):valF (putF kvs k x) j = if j = k then some x else valF kvs j:=by
  have one:∀ l:List (Key × PyData),valF (l.map fun kv=>if kv.1 = k then (kv.1,x) else kv) j = if j = k then (if hasF l k = true then some x else none) else valF l j:=by
    intro l
    induction l with
    | nil=>by_cases h:j = k <;> simp [valF,hasF,h]
    | cons p r ih =>
      unfold valF hasF at *
      rw [List.map_cons,List.find?_cons,List.find?_cons,List.any_cons]
      by_cases h1:p.1 = k
      · by_cases h:j = k
        · subst h; simp [h1]
        · have h2:¬ k = j:=fun z=>h z.symm
          rw [if_pos h1,if_neg h]
          rw [if_neg h] at ih
          simp only [h1,h2,decide_false]
          exact ih
      · rw [if_neg h1]
        by_cases h:j = k
        · subst h
          rw [if_pos rfl]
          rw [if_pos rfl] at ih
          simp only [h1,decide_false,Bool.false_or]
          exact ih
        · rw [if_neg h]
          rw [if_neg h] at ih
          cases decide (p.1 = j) with
          | true=>rfl
          | false=>exact ih
  unfold putF
  show valF (if hasF kvs k = true then _ else _) j = _
  by_cases hm:hasF kvs k = true
  · rw [if_pos hm,one]
    by_cases h:j = k <;> simp [h,hm]
  · rw [if_neg hm]
    unfold valF
    rw [List.find?_append]
    by_cases h:j = k
    · subst h
      have:kvs.find? (fun kv=>decide (kv.1 = j)) = none:=by
        rw [List.find?_eq_none]; intro p hp z
        exact hm (hasF_iff.mpr (List.mem_map.mpr ⟨p,hp,by simpa using z⟩))
      simp [this]
    · have h2:¬ k = j:=fun z=>h z.symm
      simp [h,h2]
noncomputable def fillF (f:Rat -> Int) (qs:List Rat):List (Key × PyData):=(qs.map fun q=>((Sum.inl (f q):Key),fr q)).foldl (fun a p=>putF a p.1 p.2) []
theorem fill_acc (f:Rat -> Int):∀ (qs:List Rat) (acc:List (Key × PyData)) (ns:List Int),acc.map (·.1) = ns.map Sum.inl -> ns.Nodup -> (∀ q r,q ∈ qs -> r ∈ qs -> f q = f r -> q = r) ->
    ∃ ms:List Int,((qs.map fun q=>((Sum.inl (f q):Key),fr q)).foldl (fun a p=>putF a p.1 p.2) acc).map (·.1) = ms.map Sum.inl /\ ms.Nodup /\ (∀ n,n ∈ ms ↔ n ∈ ns \/ ∃ q ∈ qs,f q = n) /\
      ∀ n,valF ((qs.map fun q=>((Sum.inl (f q):Key),fr q)).foldl (fun a p=>putF a p.1 p.2) acc) (.inl n) = (match qs.find? (fun q=>decide (f q = n)) with | some q=>some (fr q) | none=>valF acc (.inl n)) /\ ms.length <= ns.length + qs.length
  | [],acc,ns,h,nd,_=>⟨ns,h,nd,fun n=>by simp,fun n=>⟨rfl,by simp⟩⟩
  | q :: qs,acc,ns,h,nd,inj=>by
    have hmem:hasF acc (Sum.inl (f q)) = true ↔ f q ∈ ns:=by
      rw [hasF_iff,h,List.mem_map]; constructor
      · rintro ⟨x,hx,e⟩; cases e; exact hx
      · intro hx; exact ⟨_,hx,rfl⟩
    have inj':∀ a b,a ∈ qs -> b ∈ qs -> f a = f b -> a = b:=fun a b ha hb=>inj a b (List.mem_cons_of_mem _ ha) (List.mem_cons_of_mem _ hb)
    have val:∀ n:Int,∀ r,valF (putF acc (.inl (f q)) (fr q)) (.inl n) = r -> (match qs.find? (fun q=>decide (f q = n)) with | some q=>some (fr q) | none=>valF (putF acc (.inl (f q)) (fr q)) (.inl n)) = (match (q :: qs).find? (fun q=>decide (f q = n)) with | some q=>some (fr q) | none=>valF acc (.inl n)):=by
      intro n r _
      rw [putF_val,List.find?_cons]
      by_cases e:f q = n
      · subst e
        simp only [decide_true]
        cases e2:qs.find? (fun q'=>decide (f q' = f q)) with
        | none=>simp
        | some q' =>
          have m:=List.mem_of_find?_eq_some e2
          have p:f q' = f q:=by simpa using List.find?_some e2
          have:=inj q' q (List.mem_cons_of_mem _ m) List.mem_cons_self p
          rw [this]
      · have e':¬ n = f q:=fun z=>e z.symm
        simp only [e,decide_false,Sum.inl.injEq,e',if_false]
    by_cases hq:f q ∈ ns
    · obtain ⟨ms,a1,a2,a3,a4⟩:=fill_acc f qs (putF acc (.inl (f q)) (fr q)) ns (by rw [putF_keys,if_pos (hmem.mpr hq)]; exact h) nd inj'
      refine ⟨ms,a1,a2,fun n=>?_,fun n=>⟨?_,?_⟩⟩
      · rw [a3 n]
        simp only [List.mem_cons]
        constructor
        · rintro (z | ⟨r,hr,e⟩)
          · exact .inl z
          · exact .inr ⟨r,.inr hr,e⟩
        · rintro (z | ⟨r,rfl | hr,e⟩)
          · exact .inl z
          · exact .inl (e ▸ hq)
          · exact .inr ⟨r,hr,e⟩
      · rw [<- val n _ rfl]; exact (a4 n).1
      · have:=(a4 n).2; simp only [List.length_cons]; omega
    · obtain ⟨ms,a1,a2,a3,a4⟩:=fill_acc f qs (putF acc (.inl (f q)) (fr q)) (ns ++ [f q]) (by rw [putF_keys,if_neg (fun z=>hq (hmem.mp z)),h,List.map_append]; rfl)
        (List.nodup_append.mpr ⟨nd,by simp,fun a ha b hb=>by simp at hb; subst hb; rintro rfl; exact hq ha⟩) inj'
      refine ⟨ms,a1,a2,fun n=>?_,fun n=>⟨?_,?_⟩⟩
      · rw [a3 n]
        simp only [List.mem_cons,List.mem_append,List.not_mem_nil,or_false]
        constructor
        · rintro ((z | z) | ⟨r,hr,e⟩)
          · exact .inl z
          · exact .inr ⟨q,.inl rfl,z.symm⟩
          · exact .inr ⟨r,.inr hr,e⟩
        · rintro (z | ⟨r,rfl | hr,e⟩)
          · exact .inl (.inl z)
          · exact .inl (.inr e.symm)
          · exact .inr ⟨r,hr,e⟩
      · rw [<- val n _ rfl]; exact (a4 n).1
      · have:=(a4 n).2; simp only [List.length_append,List.length_cons,List.length_nil] at this ⊢; omega
theorem fill_ok (f:Rat -> Int) (qs:List Rat) (inj:∀ q r,q ∈ qs -> r ∈ qs -> f q = f r -> q = r) :
    ∃ ms:List Int,(fillF f qs).map (·.1) = ms.map Sum.inl /\ ms.Nodup /\ (∀ n,n ∈ ms ↔ ∃ q ∈ qs,f q = n) /\ (∀ q ∈ qs,valF (fillF f qs) (.inl (f q)) = some (fr q)) /\ ms.length <= qs.length:=by
  obtain ⟨ms,a1,a2,a3,a4⟩:=fill_acc f qs [] [] rfl List.nodup_nil inj
  refine ⟨ms,a1,a2,fun n=>by rw [a3 n]; simp,fun q hq=>?_,by have:=(a4 0).2; simpa using this⟩
  have:=(a4 (f q)).1
  show valF ((qs.map fun q=>((Sum.inl (f q):Key),fr q)).foldl (fun a p=>putF a p.1 p.2) []) _ = _
  rw [this]
  cases e:qs.find? (fun q'=>decide (f q' = f q)) with
  | none =>
    rw [List.find?_eq_none] at e
    exact absurd (e q hq) (by simp)
  | some q' =>
    have m:=List.mem_of_find?_eq_some e
    have p:f q' = f q:=by simpa using List.find?_some e
    rw [inj q' q m hq p]
noncomputable def szK (S:Int) (q:Rat):Int:=(q.num * S).fdiv q.den
theorem szK_lo (S:Int) (q:Rat):szK S q * q.den <= q.num * S /\ q.num * S < (szK S q + 1) * q.den:=by
  have h0:(0:Int) < q.den:=den_p q
  unfold szK
  rw [Int.fdiv_eq_ediv_of_nonneg _ (by omega)]
  have h1:=Int.emod_nonneg (q.num * S) (show (q.den:Int) ≠ 0 by omega)
  have h2:=Int.emod_lt_of_pos (q.num * S) h0
  have h3:=Int.mul_ediv_add_emod (q.num * S) q.den
  have e1:q.num * S / (q.den:Int) * (q.den:Int) = (q.den:Int) * (q.num * S / (q.den:Int)):=Int.mul_comm _ _
  have e2:(q.num * S / (q.den:Int) + 1) * (q.den:Int) = (q.den:Int) * (q.num * S / (q.den:Int)) + (q.den:Int):=by rw [Int.add_mul,Int.one_mul,e1]
  rw [e1,e2]
  constructor <;> omega
theorem rat_lt_iff (q r:Rat):q < r ↔ q.num * r.den < r.num * q.den:=Rat.lt_iff q r
theorem szK_lt {B:Int} {q r:Rat} (hq:(q.den:Int) <= B) (hr:(r.den:Int) <= B) (h:q < r):szK (B * B) q < szK (B * B) r:=by
  have h0:(0:Int) < q.den:=den_p q
  have h1:(0:Int) < r.den:=den_p r
  rw [rat_lt_iff] at h
  obtain ⟨a1,a2⟩:=szK_lo (B * B) q
  obtain ⟨b1,b2⟩:=szK_lo (B * B) r
  generalize szK (B * B) q = a at *
  generalize szK (B * B) r = b at *
  generalize (q.den:Int) = x at *
  generalize (r.den:Int) = y at *
  by_cases hab:a < b
  · exact hab
  · exfalso
    have hba:b + 1 <= a + 1:=by omega
    have e1:a * x * y <= q.num * (B * B) * y:=Int.mul_le_mul_of_nonneg_right a1 (by omega)
    have e2:r.num * (B * B) * x < (b + 1) * y * x:=Int.mul_lt_mul_of_pos_right b2 h0
    have e3:(b + 1) * y * x <= (a + 1) * y * x:=Int.mul_le_mul_of_nonneg_right (Int.mul_le_mul_of_nonneg_right hba (by omega)) (by omega)
    have hs:x * y <= B * B:=Int.mul_le_mul hq hr (by omega) (by omega)
    have h2:q.num * y + 1 <= r.num * x:=h
    have e4:(q.num * y + 1) * (B * B) <= r.num * x * (B * B):=Int.mul_le_mul_of_nonneg_right h2 (Int.mul_nonneg (by omega) (by omega))
    have e5:(q.num * y + 1) * (B * B) = q.num * (B * B) * y + B * B:=by grind
    have e6:r.num * x * (B * B) = r.num * (B * B) * x:=by grind
    have e7:(a + 1) * y * x = a * x * y + x * y:=by grind
    omega
theorem rat_tri (q r:Rat):q < r \/ q = r \/ r < q:=by
  by_cases h:q < r
  · exact .inl h
  · by_cases h2:r < q
    · exact .inr (.inr h2)
    · exact .inr (.inl (Rat.le_antisymm (Rat.not_lt.mp h2) (Rat.not_lt.mp h)))
theorem szK_inj {B:Int} {q r:Rat} (hq:(q.den:Int) <= B) (hr:(r.den:Int) <= B) (h:szK (B * B) q = szK (B * B) r):q = r:=by
  rcases rat_tri q r with z | z | z
  · have:=szK_lt hq hr z; omega
  · exact z
  · have:=szK_lt hr hq z; omega
theorem szK_rev {B:Int} {q r:Rat} (hq:(q.den:Int) <= B) (hr:(r.den:Int) <= B) (h:szK (B * B) q < szK (B * B) r):q < r:=by
  rcases rat_tri q r with z | z | z
  · exact z
  · subst z; omega
  · have:=szK_lt hr hq z; omega
theorem runMax_some:∀ (ns:List Int) (m:Int),∃ k,runMax (some m) ns = some k /\ m <= k /\ (∀ n ∈ ns,n <= k) /\ (k = m \/ k ∈ ns)
  | [],m=>⟨m,rfl,Int.le_refl _,by simp,.inl rfl⟩
  | n :: ns,m=>by
    obtain ⟨k,e,h1,h2,h3⟩:=runMax_some ns (if n > m then n else m)
    refine ⟨k,e,by split at h1 <;> omega,fun x hx=>?_,?_⟩
    · rcases List.mem_cons.mp hx with rfl | hx
      · split at h1 <;> omega
      · exact h2 x hx
    · rcases h3 with h3 | h3
      · split at h3
        · exact .inr (by rw [h3]; exact List.mem_cons_self)
        · exact .inl h3
      · exact .inr (List.mem_cons_of_mem _ h3)
theorem mxI_ok (ns:List Int):(∀ n ∈ ns,n <= mxI 1 ns) /\ (mxI 1 ns = 1 \/ mxI 1 ns ∈ ns):=by
  unfold mxI
  cases ns with
  | nil=>exact ⟨by simp,.inl rfl⟩
  | cons n ns =>
    obtain ⟨k,e,h1,h2,h3⟩:=runMax_some ns n
    have e':runMax none (n :: ns) = some k:=e
    rw [e']
    refine ⟨fun x hx=>?_,.inr ?_⟩
    · rcases List.mem_cons.mp hx with rfl | hx
      · exact h1
      · exact h2 x hx
    · rcases h3 with rfl | h3
      · exact List.mem_cons_self
      · exact List.mem_cons_of_mem _ h3
theorem back_szK (f:Rat -> Int) {qs:List Rat}:∀ (ns:List Int),(∀ n ∈ ns,∃ q ∈ qs,f q = n) -> ∃ rs:List Rat,ns = rs.map f /\ ∀ r ∈ rs,r ∈ qs
  | [],_=>⟨[],rfl,by simp⟩
  | n :: ns,h=>by
    obtain ⟨rs,e,hr⟩:=back_szK f ns fun m hm=>h m (List.mem_cons_of_mem _ hm)
    obtain ⟨q,hq,eq⟩:=h n List.mem_cons_self
    exact ⟨q :: rs,by rw [List.map_cons,eq,<- e],fun r hr'=>(List.mem_cons.mp hr').elim (fun z=>z ▸ hq) (hr r)⟩
noncomputable def Sorted (qs rs:List Rat):Prop:=rs.Pairwise (· < ·) /\ ∀ q,q ∈ rs ↔ q ∈ qs
theorem sorted_of {B:Int} {qs:List Rat} {ms ns:List Int} (hB:∀ q ∈ qs,(q.den:Int) <= B) (nd:ms.Nodup) (hm:∀ n,n ∈ ms ↔ ∃ q ∈ qs,szK (B * B) q = n) (pm:ns.Perm ms) (pw:ns.Pairwise (· <= ·)) :
    ∃ rs:List Rat,ns = rs.map (szK (B * B)) /\ (∀ r ∈ rs,r ∈ qs) /\ Sorted qs rs:=by
  obtain ⟨rs,e,hr⟩:=back_szK (szK (B * B)) ns fun n hn=>(hm n).mp (pm.mem_iff.mp hn)
  refine ⟨rs,e,hr,?_,fun q=>⟨hr q,fun hq=>?_⟩⟩
  · have nd':ns.Nodup:=pm.nodup_iff.mpr nd
    subst e
    have lt:(rs.map (szK (B * B))).Pairwise (· < ·):=by
      have:=pw.and nd'
      exact this.imp fun z=>by have:=z.1; have:=z.2; omega
    rw [List.pairwise_map] at lt
    exact lt.imp_of_mem fun ha hb z=>szK_rev (hB _ (hr _ ha)) (hB _ (hr _ hb)) z
  · have:szK (B * B) q ∈ ns:=pm.mem_iff.mpr ((hm _).mpr ⟨q,hq,rfl⟩)
    rw [e,List.mem_map] at this
    obtain ⟨r,hr',e2⟩:=this
    rw [<- szK_inj (hB r (hr r hr')) (hB q hq) e2]
    exact hr'
theorem nodup_len:∀ {rs qs:List Rat},rs.Nodup -> (∀ x ∈ rs,x ∈ qs) -> rs.length <= qs.length
  | [],_,_,_=>Nat.zero_le _
  | r :: rs,qs,nd,h=>by
    rw [List.nodup_cons] at nd
    have hm:=h r List.mem_cons_self
    have:=nodup_len (rs:=rs) (qs:=qs.erase r) nd.2 fun x hx=>(List.mem_erase_of_ne (fun (z:x = r)=>nd.1 (by rw [<- z]; exact hx))).mpr (h x (List.mem_cons_of_mem _ hx))
    rw [List.length_erase_of_mem hm] at this
    have:=List.length_pos_of_mem hm
    simp only [List.length_cons]
    omega
theorem sorted_len {qs rs:List Rat} (h:Sorted qs rs):rs.length <= qs.length:=by
  have nd:rs.Nodup:=h.1.imp fun z e=>by subst e; exact absurd z (Rat.lt_irrefl)
  exact nodup_len nd fun x hx=>(h.2 x).mp hx
theorem sorted_one:∀ {rs ss:List Rat},rs.Pairwise (· < ·) -> ss.Pairwise (· < ·) -> (∀ q,q ∈ rs ↔ q ∈ ss) -> rs = ss
  | [],[],_,_,_=>rfl
  | [],s :: _,_,_,h=>by have:=(h s).mpr List.mem_cons_self; simp at this
  | r :: _,[],_,_,h=>by have:=(h r).mp List.mem_cons_self; simp at this
  | r :: rs,s :: ss,h1,h2,h=>by
    rw [List.pairwise_cons] at h1 h2
    have e:r = s:=by
      rcases List.mem_cons.mp ((h r).mp List.mem_cons_self) with z | z
      · exact z
      · rcases List.mem_cons.mp ((h s).mpr List.mem_cons_self) with y | y
        · exact y.symm
        · have a:=h2.1 r z; have b:=h1.1 s y; exact absurd (show r < r by grind) Rat.lt_irrefl
    subst e
    congr 1
    refine sorted_one h1.2 h2.2 fun q=>?_
    constructor
    · intro hq
      rcases List.mem_cons.mp ((h q).mp (List.mem_cons_of_mem _ hq)) with z | z
      · subst z; exact absurd (h1.1 q hq) Rat.lt_irrefl
      · exact z
    · intro hq
      rcases List.mem_cons.mp ((h q).mpr (List.mem_cons_of_mem _ hq)) with z | z
      · subst z; exact absurd (h2.1 q hq) Rat.lt_irrefl
      · exact z
end L2.VL

namespace L2.VL
open PySem PySem.Spec PyProof.Rows
noncomputable def tv (b:Int) (ds:List Int):Int:=ds.foldl (fun t d=>t * b + d) 0
theorem rat_ne {b:Int} (h : 0 < b):(b:Rat) ≠ 0:=by
  intro z
  have:b = 0:=by exact_mod_cast z
  omega
noncomputable def Pw (b B:Int):Prop:=∃ m:Nat,B ∣ b ^ m
noncomputable def ix (p:List Int) (f:Int):Int:=(p.idxOf f:Int)
noncomputable def Fx (b:Int) (N:Nat) (q:Rat):Prop:=∃ (T:Int) (k:Nat),q = qd T (b ^ k) /\ 0 <= T /\ T < b ^ k /\ b ^ k < 2 ^ N
end L2.VL

namespace L2
open PySem PySem.Spec PyProof.Rows
section
variable {X:Cx}
theorem ints_at {ns:List Int} {its:List Value} (r:Vals (ns.map V.int) its) {i:Nat} {v:Value} (e:its[i]? = some v):∃ t,v = .int (ns.getD i 0) t:=by
  have hl:=r.length
  rw [List.length_map] at hl
  have hi:i < ns.length:=by have:=(List.getElem?_eq_some_iff.mp e).1; omega
  have hb:(ns.map V.int)[i]? = some (.int ns[i]):=by simp [hi]
  obtain ⟨u,hu,ru⟩:=r.get hb
  rw [e] at hu
  cases hu
  have:ns.getD i 0 = ns[i]:=by simp [List.getD,hi]
  rw [this]
  exact ru
end
end L2
namespace L2.VL
open PySem PySem.Spec PyProof.Rows
section
variable {X:Cx} {rl:RlT} {a:Expr} {fs:TVs} {pos p:Pos}
end
end L2.VL

namespace L2.VL
open PySem PySem.Spec
noncomputable def lim (c:List Rat):List Rat:=0 :: (c ++ [1])
theorem getD_of {α:Type} {xs:List α} {k:Nat} {d : α} (h:k < xs.length):xs.getD k d = xs[k]:=by rw [List.getD_eq_getElem?_getD,List.getElem?_eq_getElem h]; rfl
theorem atI_getD {α:Type} {xs:List α} {i:Int} (d : α) (h0 : 0 <= i) (h1:i < (xs.length:Int)):atI xs i = some (xs.getD i.toNat d):=by rw [atI_at h0 h1,getD_of (by omega)]
end L2.VL

namespace L2.VL
open PySem PySem.Spec
noncomputable def chP {α:Type} (rows:List (List α)):List (List α):=rows.foldl (fun ch r=>ch.flatMap fun b=>r.map fun t=>b ++ [t]) [[]]
theorem chP_snoc {α:Type} (rows:List (List α)) (r:List α):chP (rows ++ [r]) = (chP rows).flatMap fun b=>r.map fun t=>b ++ [t]:=by
  unfold chP; rw [List.foldl_append]; rfl
noncomputable def shB (p es:List Rat):Bool:=(p.zip es).all fun z=>!decide (z.2 < z.1)
noncomputable def szE (es:List Rat):Rat:=prodQ (es.map fun e=>mx e 0)
noncomputable def shC (ps:List (List Rat)) (es:List Rat):Nat:=(ps.filter fun p=>shB p es).length
noncomputable def ov (ps:List (List Rat)) (es:List Rat):Rat:=qd (shC ps es) ps.length - szE es
end L2.VL

namespace L2.ZP
open PySem PySem.Spec PyProof.Rows
section
variable {prog:Program} {w:World} {A:Around} {E:Value -> Shared -> Prop} {s:Shared} {z it a:Addr} {k:Nat} {xs:Array Value} {x p:Value} {b:Bool}
abbrev e2 (h:Heap) (b:Bool) (a:Addr):Heap:=(y1 h b a).push { cls:=.type "enumerate", data:=.fields #[.none,.bool false,.ref h.objs.size,rawInt 0,.none,.none] }
end
end L2.ZP
namespace L2
open PySem PySem.Spec PyProof.Rows L2.ZP
section
variable {X:Cx} {e1:Expr} {ta:TA} {elts:List Expr} {kt:Nat} {pt p pos:Pos}
end
end L2
namespace L2.VL
open PySem PySem.Spec PyProof.Rows
section
variable {X:Cx} {rl:RlT} {a:Expr} {elts:List Expr} {kt:Nat} {pt p pos:Pos} {fs:TVs}
end
end L2.VL

namespace L2.VL
open PySem PySem.Spec PyProof.Rows
section
variable {α β:Type} {b:PyData -> Mo (Option PyData)}
end
end L2.VL

namespace L2.VL
open PySem PySem.Spec
noncomputable def colQ (ps:List (List Rat)) (i:Nat):List Rat:=ps.map fun p=>p.getD i 0
end L2.VL

namespace L2.VL
open PySem PySem.Spec PyProof.Rows
section
variable {X:Cx} {rl:RlT} {e e1 e2 e3:Expr} {fa f1 f2 f3:TV} {pos dpos q1 q2 q3:Pos} {ρ:En} {j1 j2 j3}
end
section
variable {X:Cx} {rl:RlT} {elt t1 i1 t2 i2:Expr} {f1 f2:List Expr} {scope:Scope} {pos:Pos} {fi fj:En -> (List PyData -> Prop) -> Prop} {g g2:TGv} {ft ft2:TB} {fe:TV}
theorem vs_setcomp2R (i:Nat) {b:Bool} {x:Str} {px spos:Pos} (hN:X.N.Nodup) (N':List Str) (fr:List (Option Nat)) (hc:X.calm = true) (hi:PIV X rl t1 i1 fi)
    (hg:∀ y,PGV (blk X N' scope y) rl t1 g) (ht:∀ y,PTVs (blk X N' scope y) rl f1 ft) (hj:∀ y,PIV (blk X N' scope y) rl t2 i2 fj) (hg2:∀ y,PGV (blk X N' scope y) rl t2 g2) (ht2:∀ y,PTVs (blk X N' scope y) rl f2 ft2) (he:∀ y,PV (blk X N' scope y) rl elt fe)
    (hsw:swapsWith (.ListComp elt [⟨t1,i1,f1,0⟩,⟨t2,i2,f2,0⟩] scope pos) (some (.Name x px)) spos.line X.env = pure b:=by rfl)
    (hix:X.N[i]? = some x:=by rfl) (hx:Loc X.env.scope x:=by first | exact Or.inl rfl | exact Or.inr rfl) (hf:X.fn x = true \/ X.env.scope.names.lookup x = some .local:=by first | exact .inl rfl | exact .inr rfl)
    (hfr:frOk fr N' X.N scope X.env.scope = true:=by rfl) (hsc:scOk scope X.env.scope = true:=by rfl)
    (hs:∀ x,foldedSetIterable i1 X.env x = pure x:=by intro _; rfl) (hs2:∀ y x,foldedSetIterable i2 (blk X N' scope y).env x = pure x:=by intro _ _; rfl) :
    PSV X rl (.Assign [.Name x px] (.ListComp elt [⟨t1,i1,f1,0⟩,⟨t2,i2,f2,0⟩] scope pos) spos) (vSet i (vComp2 fi fr g ft fj g2 ft2 fe)):=by
  obtain ⟨wi,p0,k0⟩:=hi
  refine ⟨_,ps_setcomp2 N' fr hc p0 hfr hsc (fun y=>(Classical.choose_spec (hg y)).1) (fun y=>(Classical.choose_spec (ht y)).1) (fun y=>(Classical.choose_spec (hj y)).1) (fun y=>(Classical.choose_spec (hg2 y)).1) (fun y=>(Classical.choose_spec (ht2 y)).1) (fun y=>(Classical.choose_spec (he y)).1) hN hix hx hf hsw hs hs2,
    fun R Dv D ok q=>lcomp2_k fr k0 hg ht hj hg2 ht2 he R _ _ q fun v w F1 H1 g1 r1 n1 ⟨hp,q1⟩=>?_⟩
  exact ok.nx _ _ _ _ g1.fs (R.set g1 r1 n1 (fun xs z=>by subst z; cases hp) i) q1
end
end L2.VL

namespace L2.VL
open PySem PySem.Spec PyProof.Rows
section
variable {X:Cx} {rl:RlT} {a b e:Expr} {es:List Expr} {fa fb fc:TV} {fs:TVs} {pos p:Pos}
end
end L2.VL

namespace L2.VL
open PySem PySem.Spec PyProof.Rows
section
variable {X:Cx} {rl:RlT} {elt tg iter:Expr} {ifs:List Expr} {scope:Scope} {pos px:Pos} {fi:En -> (List PyData -> Prop) -> Prop} {g:TGv} {ft:TB} {fe:TV} {ρ:En}
end
end L2.VL

namespace L2.VL
open PySem PySem.Spec PyProof.Rows
section
variable {X:Cx} {rl:RlT} {a b c o e:Expr} {es:List Expr} {fa fb:TV} {fs:TVs} {pos p apos cpos:Pos} {ρ:En}
end
end L2.VL

namespace L2
open PySem PySem.Spec PyProof.Rows
section
variable {prog:Program} {w:World} {A:Around} {E:Value -> Shared -> Prop} {s:Shared}
end
section
variable {X:Cx}
end
end L2
namespace L2.VL
open PySem PySem.Spec PyProof.Rows
section
variable {X:Cx} {rl:RlT} {e:Expr} {fa:TV} {pos:Pos} {ρ:En}
end
end L2.VL

namespace L2.VL
open PySem PySem.Spec PyProof.Rows
end L2.VL

namespace L2.VL
open PySem PySem.Spec PyProof.Rows
end L2.VL
namespace L2.VL
open PySem PySem.Spec PyProof.Rows
theorem GlK.int {K:W.Frag} {x:Str} {a:Int} {t:Tok} (h1:W.nsIn K mainGlobals x = some (some (.int a t))):GlK K x (.int a):=⟨.int a,.int a t,h1,⟨t,rfl⟩,fun F=>.int a⟩
end L2.VL

namespace L2.VL
open PySem PySem.Spec PyProof.Rows
end L2.VL

namespace L2.VL
open PySem PySem.Spec PyProof.Rows
end L2.VL

namespace L2.VL
open PySem PySem.Spec PyProof.Rows
section
variable {X:Cx} {rl:RlT} {a b e:Expr} {fa fb:TV} {pos:Pos} {ρ:En}
end
end L2.VL

namespace L2
open PySem PySem.Spec PyProof.Rows
section
variable {X:Cx}
end
end L2
namespace L2.VL
open PySem PySem.Spec PyProof.Rows
section
variable {X:Cx} {rl:RlT} {a e:Expr} {fs:TVs} {pos p:Pos}
end
end L2.VL

namespace L2
open PySem PySem.Spec PyProof.Rows
theorem argBest_le (f : Nat -> Int) : ∀ k, PySem.argBest (fun i j => decide (f i > f j)) k <= k /\ ∀ j, j <= k -> f j <= f (PySem.argBest (fun i j => decide (f i > f j)) k)
  | 0 => ⟨Nat.le_refl _, fun j hj => by obtain rfl : j = 0 := by omega
                                        exact Int.le_refl _⟩
  | k + 1=>by
    obtain ⟨h1,h2⟩:=argBest_le f k
    rw [PySem.argBest]
    by_cases h:f (k + 1) > f (PySem.argBest (fun i j=>decide (f i > f j)) k)
    · rw [if_pos (by simpa using h)]
      refine ⟨Nat.le_refl _,fun j hj=>?_⟩
      by_cases e:j = k + 1
      · rw [e]; exact Int.le_refl _
      · have:=h2 j (by omega); omega
    · rw [if_neg (by simpa using h)]
      refine ⟨by omega,fun j hj=>?_⟩
      by_cases e:j = k + 1
      · rw [e]; omega
      · exact h2 j (by omega)
section
variable {X:Cx}
theorem call_maxT (hc:X.calm = true):CallR X (.builtin "max") (fun xs H Q=>∃ (p:Addr) (ns:List Int),xs = [.ref p] /\ SqT X.K H p (ns.map V.int) /\ 0 < ns.length /\ ∀ M,M ∈ ns -> (∀ a ∈ ns,a <= M) -> Q (.int M) H):=by
  intro pins s σ H xs us Q I r ⟨p,ns,ex,hq,h0,q⟩
  subst ex
  obtain ⟨u,rfl,ru⟩:=vals1 r
  cases ru
  obtain ⟨its,rv,pl,hz⟩:=I.tuple hq
  have hl:=rv.length
  rw [List.length_map] at hl
  have it:s.heap.IsTuple p its.toArray:=pl
  refine PySem.call_max_walk (wpAny_pyIter_tuple it ?_)
  obtain ⟨o,ho,ho2⟩:=pl
  have ne:p ≠ s.heap.objs.size:=Nat.ne_of_lt (Heap.lt_size ho)
  refine ⟨s.heap.objs.size,_,_,_,_,_,_,rfl,Walks.tuple (A:=X.A.in1) (I.ok.hd hc) s.heap.objs.size p ne its.toArray,⟨⟨_,Heap.get?_push_size _ rfl,rfl,rfl⟩,⟨o,Heap.get?_push_of_some _ ho,ho2⟩⟩,?_,?_,PySem.CmpOf.ints_gt (fun i=>ns.getD i 0) (fun i v hP=>ints_at rv (by simpa using hP)),?_⟩
  · intro b hb
    have hb:b = s.heap.objs.size \/ b = p:=by simpa using hb
    show b < (Heap.push _ _).objs.size
    rw [Heap.size_push]
    rcases hb with rfl | rfl
    · exact Nat.lt_succ_self _
    · exact Nat.lt_succ_of_lt (Heap.lt_size ho)
  · rw [List.size_toArray]; omega
  · intro v h' tk hP k
    have hP2:its[PySem.argBest (fun i j=>decide (ns.getD i 0 > ns.getD j 0)) (its.toArray.size - 1)]? = some v:=by rw [<- List.getElem?_toArray]; exact hP
    obtain ⟨t,rfl⟩:=ints_at rv hP2
    have en:its.toArray.size = ns.length:=by rw [List.size_toArray]; omega
    rw [en]
    obtain ⟨a1,a2⟩:=argBest_le (fun i=>ns.getD i 0) (ns.length - 1)
    have hi:PySem.argBest (fun i j=>decide (ns.getD i 0 > ns.getD j 0)) (ns.length - 1) < ns.length:=by omega
    refine ⟨.int _,H,I.kept (t':=tk) fun b o eb=>k b o (by simp; exact Nat.ne_of_lt (Heap.lt_size eb)) (Heap.get?_push_of_some _ eb),⟨t,rfl⟩,q _ ?_ fun a ma=>?_⟩
    · rw [List.getD_eq_getElem?_getD,List.getElem?_eq_getElem hi]; exact List.getElem_mem hi
    · obtain ⟨j,hj,rfl⟩:=List.getElem_of_mem ma
      have:=a2 j (by omega)
      rwa [List.getD_eq_getElem?_getD,List.getElem?_eq_getElem hj] at this
end
end L2
namespace L2.VL
open PySem PySem.Spec PyProof.Rows
section
variable {X:Cx} {rl:RlT} {a e:Expr} {fs:TVs} {pos p:Pos}
noncomputable def maxOf (ns:List Int) (M:Int):Prop:=M ∈ ns /\ ∀ a ∈ ns,a <= M
end
end L2.VL

namespace L2
open PySem PySem.Spec PyProof.Rows
section
variable {X:Cx}
theorem call_maxL (hc:X.calm = true):CallR X (.builtin "max") (fun xs H Q=>∃ (p:Addr) (ns:List Int),xs = [.ref p] /\ SqL X.K H p (ns.map V.int) /\ 0 < ns.length /\ ∀ M,M ∈ ns -> (∀ a ∈ ns,a <= M) -> Q (.int M) H):=by
  intro pins s σ H xs us Q I r ⟨p,ns,ex,hq,h0,q⟩
  subst ex
  obtain ⟨u,rfl,ru⟩:=vals1 r
  cases ru
  obtain ⟨its,rv,pl,hz⟩:=I.list hq
  have hl:=rv.length
  rw [List.length_map] at hl
  refine PySem.call_max_walk (wpAny_pyIter_list pl.isList ?_)
  have ne:p ≠ s.heap.objs.size:=by obtain ⟨o,ho,_⟩:=pl.isList; exact Nat.ne_of_lt (Heap.lt_size ho)
  refine ⟨s.heap.objs.size,_,_,_,_,_,_,rfl,Walks.list (A:=X.A.in1) (I.ok.hd hc) s.heap.objs.size p ne its.toArray,⟨⟨_,Heap.get?_push_size _ rfl,rfl,rfl⟩,pl.isList.push _⟩,?_,?_,PySem.CmpOf.ints_gt (fun i=>ns.getD i 0) (fun i v hP=>ints_at rv (by simpa using hP)),?_⟩
  · intro b hb
    have hb:b = s.heap.objs.size \/ b = p:=by simpa using hb
    show b < (Heap.push _ _).objs.size
    rw [Heap.size_push]
    rcases hb with rfl | rfl
    · exact Nat.lt_succ_self _
    · obtain ⟨o,ho,_⟩:=pl.isList; exact Nat.lt_succ_of_lt (Heap.lt_size ho)
  · rw [List.size_toArray]; omega
  · intro v h' tk hP k
    have hP2:its[PySem.argBest (fun i j=>decide (ns.getD i 0 > ns.getD j 0)) (its.toArray.size - 1)]? = some v:=by rw [<- List.getElem?_toArray]; exact hP
    obtain ⟨t,rfl⟩:=ints_at rv hP2
    have en:its.toArray.size = ns.length:=by rw [List.size_toArray]; omega
    rw [en]
    obtain ⟨a1,a2⟩:=argBest_le (fun i=>ns.getD i 0) (ns.length - 1)
    have hi:PySem.argBest (fun i j=>decide (ns.getD i 0 > ns.getD j 0)) (ns.length - 1) < ns.length:=by omega
    refine ⟨.int _,H,I.kept (t':=tk) fun b o eb=>k b o (by simp; exact Nat.ne_of_lt (Heap.lt_size eb)) (Heap.get?_push_of_some _ eb),⟨t,rfl⟩,q _ ?_ fun a ma=>?_⟩
    · rw [List.getD_eq_getElem?_getD,List.getElem?_eq_getElem hi]; exact List.getElem_mem hi
    · obtain ⟨j,hj,rfl⟩:=List.getElem_of_mem ma
      have:=a2 j (by omega)
      rwa [List.getD_eq_getElem?_getD,List.getElem?_eq_getElem hj] at this
theorem call_maxS (hc:X.calm = true):CallR X (.builtin "max") (fun xs H Q=>∃ (p:Addr) (ns:List Int),xs = [.ref p] /\ (SqT X.K H p (ns.map V.int) \/ SqL X.K H p (ns.map V.int)) /\ 0 < ns.length /\ ∀ M,M ∈ ns -> (∀ a ∈ ns,a <= M) -> Q (.int M) H):=by
  intro pins s σ H xs us Q I r ⟨p,ns,ex,hq,h0,q⟩
  rcases hq with hq | hq
  · exact call_maxT hc pins s σ H xs us Q I r ⟨p,ns,ex,hq,h0,q⟩
  · exact call_maxL hc pins s σ H xs us Q I r ⟨p,ns,ex,hq,h0,q⟩
end
end L2
namespace L2.VL
open PySem PySem.Spec PyProof.Rows
noncomputable def sqI (b:Bool) (ns:List Int):PyData:=if b then .tuple (ns.map .int) else .list (ns.map .int)
theorem sqI_i {a b:Bool} {xs ys:List Int}:sqI a xs = sqI b ys ↔ a = b /\ xs = ys:=by
  unfold sqI
  cases a <;> cases b <;> simp [map_int_inj]
theorem seqW_sqI (b:Bool) (ns:List Int):seqW (.d (sqI b ns)) = some (ns.map .int):=by cases b <;> rfl
section
variable {X:Cx} {rl:RlT} {a e:Expr} {fs:TVs} {pos p:Pos}
noncomputable def gMaxS:List W -> (W -> Prop) -> Prop:=fun ws Q=>∃ (b:Bool) (ns:List Int),ws = [.d (sqI b ns)] /\ 0 < ns.length /\ ∀ M,M ∈ ns -> (∀ a ∈ ns,a <= M) -> Q (.d (.int M))
theorem vc_maxS:VCall X rl (fun xs H Q=>∃ (p:Addr) (ns:List Int),xs = [.ref p] /\ (SqT X.K H p (ns.map V.int) \/ SqL X.K H p (ns.map V.int)) /\ 0 < ns.length /\ ∀ M,M ∈ ns -> (∀ a ∈ ns,a <= M) -> Q (.int M) H) gMaxS:=fun {F H vs ws} Qd Q s ra r ⟨b,ns,ew,h0,q⟩ k=>by
  subst ew
  obtain ⟨v,rfl,r1⟩:=rel1 r
  cases b
  · obtain ⟨a,us,rfl,sq,rs⟩:=r1.items (w:=.d (.list (ns.map .int))) s rfl
    have e:=reps_int rs
    subst e
    exact ⟨a,ns,rfl,.inr sq,h0,fun M h1 h2=>k _ (.d _) _ _ (Grow.refl s ra) (.int _) trivial (q M h1 h2)⟩
  · cases (show Rep X.K F v (.tuple (ns.map .int)) from r1) with
    | @tup a us _ sq rs =>
      have e:=reps_int rs
      subst e
      exact ⟨a,ns,rfl,.inl (sameT s sq),h0,fun M h1 h2=>k _ (.d _) _ _ (Grow.refl s ra) (.int _) trivial (q M h1 h2)⟩
theorem v_maxS (hm:X.mg "max" = none) (ha:PVs X rl [a] fs) (hc:X.calm = true:=by rfl) (hg:Gl X "max" := by rfl) (he:starEach [a] X.env = (false,eval a X.env) :: starEach [] X.env:=by rfl) (hpl:(backTo pos (starEach [] X.env)).any (·.1) = false:=by rfl) :
    PV X rl (.Call (.Name "max" p) [a] [] pos) (vCall gMaxS fs):=v_callB (call_maxS hc) vc_maxS hm (by rfl) ha hg (by decide) (by decide) he hpl
theorem m_gMaxS (b:Bool) (ns:List Int):gMaxS [.d (sqI b ns)] = grd (0 < ns.length) (bnd (anyM (maxOf ns)) fun M=>ret (.d (.int M))):=by
  refine mo_ext fun Q=>?_
  simp only [ret,grd]
  constructor
  · rintro ⟨b',ns',e,h0,q⟩
    simp only [List.cons.injEq,W.d.injEq,and_true,sqI_i] at e
    obtain ⟨rfl,rfl⟩:=e
    exact ⟨h0,fun M h=>q M h.1 h.2⟩
  · rintro ⟨h0,q⟩
    exact ⟨b,ns,rfl,h0,fun M h1 h2=>q M ⟨h1,h2⟩⟩
end
end L2.VL

namespace L2
open PySem PySem.Spec PyProof.Rows
noncomputable def Air (h:Heap) (a:Addr) (C:Value) (d:Option Addr) (T:Addr) (fl:Value):Prop :=
  ∃ oe vs oT ts,h.get? a = some oe /\ oe.cls = C /\ oe.dict = d /\ oe.data = .fields vs /\ vs[1]? = some (.ref T) /\ T ≠ a /\ h.get? T = some oT /\ oT.data = .fields ts /\ ts[3]? = some fl
noncomputable def Born (h:Heap) (a:Addr) (C:Value) (d:Option Addr):Prop:=∃ oe vs,h.get? a = some oe /\ oe.cls = C /\ oe.dict = d /\ oe.data = .fields vs /\ vs[1]? = some .none
structure But (fs l:List Addr) (h h':Heap):Prop where
  keep:∀ b o,b ∉ l -> b ∉ fs -> h.get? b = some o -> h'.get? b = some o
  slot:∀ b o,b ∉ l -> b ∈ fs -> h.get? b = some o -> ∃ sl,h'.get? b = some { o with slots:=sl }
  there:∀ b o,h.get? b = some o -> ∃ o',h'.get? b = some o'
theorem But.trans {fs l:List Addr} {h h1 h2:Heap} (x:But fs l h h1) (y:But fs l h1 h2):But fs l h h2 :=
  ⟨fun b o n m e=>y.keep b o n m (x.keep b o n m e),fun b o n m e=>by
    obtain ⟨s1,e1⟩:=x.slot b o n m e
    obtain ⟨s2,e2⟩:=y.slot b _ n m e1
    exact ⟨s2,e2⟩,fun b o e=>by obtain ⟨o1,e1⟩:=x.there b o e; exact y.there b o1 e1⟩
theorem But.more {fs l l':List Addr} {h h':Heap} (x:But fs l h h') (s:∀ b,b ∈ l -> b ∈ l'):But fs l' h h' :=
  ⟨fun b o n m e=>x.keep b o (fun z=>n (s b z)) m e,fun b o n m e=>x.slot b o (fun z=>n (s b z)) m e,x.there⟩
section
variable {M:Model} {A:Around} {E:Value -> Shared -> Prop} {s:Shared} {base:Heap} {env:Env} {outer:List Env} {L a T:Addr} {C:Value} {d:Option Addr} {Q:Unit -> Shared -> Prop}
theorem dict_mapF (f:Array Value -> Array Value) (o:Obj):(Obj.mapFields f o).dict = o.dict:=by
  obtain ⟨_,_,dt,_⟩:=o
  cases dt <;> rfl
theorem entryX {oe:Obj} {vs:Array Value} {head:Value} {hadNext:Bool} (hfr:A.frames = some (env :: outer)) (hl:s.heap.FunFrames base (env :: outer)) (hf:env.frame = some L) (he:s.heap.get? a = some oe) (hd:oe.data = .fields vs) (hz : 1 < vs.size)
    (h:∀ h' T,s.heap.get? T = none -> Air h' a oe.cls oe.dict T (rawInt L) -> But (frs (env :: outer)) [a] s.heap h' -> Q () { s with heap:=h' }) :
    wpAny M A (do let f <- frameOf env; let pl <- entryPlaceOf L hadNext; let b <- EntryCells.newEntry head f .none (rawInt L) .none pl; setField (.ref a) 1 b) Q E s:=by
  have na:a ∉ frs (env :: outer):=fun hm=>by
    obtain ⟨_,o,ho,hn⟩:=hl.mem hm
    rw [he] at ho
    cases ho
    exact hn vs hd
  refine wpAny_bind (wpAny_frameOf_fun hfr hl hf fun h1 z1=>wpAny_bind (wpAny_entryPlaceOf fun pl hpl=>?_))
  unfold EntryCells.newEntry newFields
  refine wpAny_bind (wpAny_newObj_type ?_ (hpl.sizeOk5 _ _ _ _ _))
  have e1:h1.get? a = some oe:=(z1.2.1 a na).trans he
  generalize hob:({ cls:=.type "traceback", dict:=none,data:=.fields ([head,.ref L,.none,rawInt L,.none] ++ (if pl.isEmpty then List.replicate 6 Value.none else pl)).toArray }:Obj) = ob
  have e2:(h1.push ob).get? a = some oe:=Heap.get?_push_of_some _ e1
  refine wpAny_setField e2 hd hz (h _ h1.objs.size ?_ ?_ ?_)
  · cases q:s.heap.get? h1.objs.size with
    | none=>rfl
    | some o =>
      obtain ⟨sl,e⟩:=z1.2.2 _ o q
      exact absurd (Heap.lt_size e) (Nat.lt_irrefl _)
  · have ne:h1.objs.size ≠ a:=Nat.ne_of_gt (Heap.lt_size e1)
    have d3:=Obj.data_mapFields hd (·.setIfInBounds 1 (Value.ref h1.objs.size))
    have e3:=Heap.get?_update_self (Obj.mapFields (·.setIfInBounds 1 (Value.ref h1.objs.size))) e2 (Obj.isFreed_of_fields d3)
    have e4:((h1.push ob).update a (Obj.mapFields (·.setIfInBounds 1 (Value.ref h1.objs.size)))).get? h1.objs.size = some ob :=
      (Heap.get?_update_other _ _ (Ne.symm ne)).trans (Heap.get?_push_size h1 (by rw [<- hob]; rfl))
    refine ⟨_,_,ob,_,e3,Obj.cls_mapFields _ _,dict_mapF _ _,d3,by simp [hz],ne,e4,by rw [<- hob],?_⟩
    first | (simp; done) | (rcases hpl with rfl | ⟨_,_,_,_,_,_,_,rfl⟩ <;> simp)
  · have kk:∀ b o,b ≠ a -> h1.get? b = some o -> ((h1.push ob).update a (Obj.mapFields (·.setIfInBounds 1 (Value.ref h1.objs.size)))).get? b = some o:=fun b o nb e=>by
      rw [Heap.get?_update_other _ _ (Ne.symm nb)]
      exact Heap.get?_push_of_some _ e
    refine ⟨fun b o n m e=>kk b o (by simpa using n) ((z1.2.1 b m).trans e),fun b o n m e=>?_,fun b o e=>?_⟩
    · obtain ⟨sl,q⟩:=z1.2.2 b o e
      exact ⟨sl,kk b _ (by simpa using n) q⟩
    · by_cases hb:b = a
      · subst hb
        exact ⟨_,Heap.get?_update_self _ e2 (Obj.isFreed_of_fields (Obj.data_mapFields hd _))⟩
      · obtain ⟨sl,q⟩:=z1.2.2 b o e
        exact ⟨_,kk b _ hb q⟩
theorem noteX1 (hfr:A.frames = some (env :: outer)) (hl:s.heap.FunFrames base (env :: outer)) (hf:env.frame = some L) (b:Born s.heap a C d)
    (h:∀ h' T,s.heap.get? T = none -> Air h' a C d T (rawInt L) -> But (frs (env :: outer)) [a] s.heap h' -> Q () { s with heap:=h' }):wpAny M A (noteFrame (.ref a) env) Q E s:=by
  obtain ⟨oe,vs,he,rfl,rfl,hd,h1⟩:=b
  unfold noteFrame
  simp only [hf]
  refine wpAny_bind (wpAny_field he hd h1 ?_)
  rw [if_neg (by decide)]
  exact entryX hfr hl hf he hd (Array.getElem?_eq_some_iff.mp h1).1 h
theorem noteX2 (hfr:A.frames = some (env :: outer)) (hl:s.heap.FunFrames base (env :: outer)) (hf:env.frame = some L) (b:Air s.heap a C d T .none)
    (h:∀ h' T',s.heap.get? T' = none -> Air h' a C d T' (rawInt L) -> But (frs (env :: outer)) [a,T] s.heap h' -> Q () { s with heap:=h' }):wpAny M A (noteFrame (.ref a) env) Q E s:=by
  obtain ⟨oe,vs,oT,ts,he,rfl,rfl,hd,h1,nT,hT,dT,h3⟩:=b
  unfold noteFrame
  simp only [hf]
  refine wpAny_bind (wpAny_field he hd h1 ?_)
  rw [if_pos (show (Value.ref T != Value.none) = true from by simp)]
  refine wpAny_bind (wpAny_field hT dT h3 ?_)
  rw [if_neg (show ¬ ((Value.none == rawInt L) = true) from by simp [rawInt])]
  refine wpAny_bind (wpAny_setField hT dT (Array.getElem?_eq_some_iff.mp h3).1 ?_)
  have oth:∀ b,b ≠ T -> (s.heap.update T (Obj.mapFields (·.setIfInBounds 3 Value.none))).get? b = s.heap.get? b:=fun b n=>Heap.get?_update_other _ _ (Ne.symm n)
  have ntT:∀ b o,s.heap.get? b = some o -> (∀ vs,o.data ≠ .fields vs) -> b ≠ T:=fun b o e n q=>by
    rw [q,hT] at e
    cases e
    exact n ts dT
  have B0:But (frs (env :: outer)) [a,T] s.heap (s.heap.update T (Obj.mapFields (·.setIfInBounds 3 Value.none))):=⟨fun b o n _ e=>(oth b (fun z=>n (by simp [z]))).trans e,fun b o n _ e=>⟨o.slots,(oth b (fun z=>n (by simp [z]))).trans e⟩,fun b o e=>by
    by_cases q:b = T
    · subst q
      exact ⟨_,Heap.get?_update_self _ e (by rw [hT] at e; cases e; exact Obj.isFreed_of_fields (Obj.data_mapFields dT _))⟩
    · exact ⟨o,(oth b q).trans e⟩⟩
  refine entryX (s:={ s with heap:=_ }) hfr (hl.of_keeps fun b o e n=>⟨o,(oth b (ntT b o e n)).trans e,rfl⟩) hf ((oth a (Ne.symm nT)).trans he) hd (Array.getElem?_eq_some_iff.mp h1).1 fun h' T' n' air bt=>?_
  refine h h' T' ?_ air (B0.trans (bt.more fun b z=>by simp at z; simp [z]))
  cases q:s.heap.get? T' with
  | none=>rfl
  | some o=>obtain ⟨o',e'⟩:=B0.there _ o q; rw [n'] at e'; cases e'
theorem flyX {fl:Value} (b:Air s.heap a C d T fl) (h:∀ h',Air h' a C d T .none -> (∀ b,b ≠ T -> h'.get? b = s.heap.get? b) -> (∃ o,h'.get? T = some o) -> Q () { s with heap:=h' }):wpAny M A (setFlight (.ref a) none) Q E s:=by
  obtain ⟨oe,vs,oT,ts,he,rfl,rfl,hd,h1,nT,hT,dT,h3⟩:=b
  have z3 : 3 < ts.size:=(Array.getElem?_eq_some_iff.mp h3).1
  unfold setFlight
  refine wpAny_bind (wpAny_field he hd h1 ?_)
  rw [if_pos (show (Value.ref T != Value.none) = true from by simp)]
  have oth:∀ b,b ≠ T -> (s.heap.update T (Obj.mapFields (·.setIfInBounds 3 ((none:Option Addr).elim Value.none fun f=>rawInt f)))).get? b = s.heap.get? b:=fun b n=>Heap.get?_update_other _ _ (Ne.symm n)
  have eT:=Heap.get?_update_self (Obj.mapFields (·.setIfInBounds 3 ((none:Option Addr).elim Value.none fun f=>rawInt f))) hT (Obj.isFreed_of_fields (Obj.data_mapFields dT _))
  exact wpAny_setField hT dT z3 (h _ ⟨oe,vs,_,_,(oth a (Ne.symm nT)).trans he,rfl,rfl,hd,h1,nT,eT,Obj.data_mapFields dT _,by simp [z3]⟩ oth ⟨_,eT⟩)
theorem fly_but {fs:List Addr} {h h':Heap} (k:∀ b,b ≠ T -> h'.get? b = h.get? b) (t:∃ o,h'.get? T = some o):But fs [T] h h' :=
  ⟨fun b o n _ e=>(k b (by simpa using n)).trans e,fun b o n _ e=>⟨o.slots,(k b (by simpa using n)).trans e⟩,fun b o e=>by
    by_cases q:b = T
    · subst q; exact t
    · exact ⟨o,(k b q).trans e⟩⟩
theorem leaveX1 (hfr:A.frames = some (env :: outer)) (hl:s.heap.FunFrames base (env :: outer)) (hf:env.frame = some L) (b:Born s.heap a C d)
    (h:∀ h' T,s.heap.get? T = none -> Air h' a C d T .none -> But (frs (env :: outer)) [a] s.heap h' -> Q () { s with heap:=h' }):wpAny M A (leaving env (.ref a)) Q E s:=by
  unfold leaving
  refine wpAny_bind (noteX1 hfr hl hf b fun h1 T n1 air bt=>?_)
  refine flyX air fun h2 air2 k2 t2=>h h2 T n1 air2 ?_
  have b2:But (frs (env :: outer)) [T] h1 h2:=fly_but k2 t2
  refine ⟨fun c o n m e=>b2.keep c o ?_ m (bt.keep c o n m e),fun c o n m e=>?_,fun c o e=>by obtain ⟨o1,e1⟩:=bt.there c o e; exact b2.there c o1 e1⟩
  · intro z
    have:c = T:=by simpa using z
    subst this
    rw [n1] at e
    cases e
  · obtain ⟨sl,e1⟩:=bt.slot c o n m e
    refine b2.slot c _ ?_ m e1 |>.imp fun sl' e2=>e2
    intro z
    have:c = T:=by simpa using z
    subst this
    rw [n1] at e
    cases e
end
end L2

namespace L2
open PySem PySem.Spec PyProof.Rows
noncomputable def bmV:List Value:=[.type "ValueError", .type "Exception", .type "BaseException", .type "object"]
noncomputable def xcIn (K:W.Frag) (C:Addr):Bool:=match K.lookup C with
  | some ⟨.type "type", _,.cls cd,sl⟩=>(match cd.mro,sl.toList with
    | .ref C' :: bm,[_,_,_,_,some (.builtin n),_]=>C' == C && n == "ValueError.__new__" && !cd.hasDel && cd.hasDict && W.tailIn K bmV bm && W.nsOkIn K cd.ns
    | _,_=>false)
  | _=>false
theorem xc_cls {K:W.Frag} {h:Heap} {C:Addr} (X:K.In h) (q:xcIn K C = true):∃ nm qn N bs bm sn sub ab col dd k0 k1 k2 k3 k5,
    K.lookup C = some (excClassObj nm qn C N bs bm true sn sub ab col dd k0 k1 k2 k3 k5 "ValueError.__new__") /\ OwnTail h bmV bm:=by
  unfold xcIn at q
  split at q
  · rename_i dd cd sl ho
    split at q
    · rename_i C' bm k0 k1 k2 k3 n k5 hm hs
      simp only [Bool.and_eq_true,beq_iff_eq,Bool.not_eq_true'] at q
      obtain ⟨⟨⟨⟨⟨c1,c2⟩,c3⟩,c4⟩,c5⟩,c6⟩:=q
      obtain ⟨nm,bs,mro,ns,qn,hd,sn,sub,ab,col,del⟩:=cd
      dsimp only at hm c3 c4 c6
      have hsl:sl = #[k0,k1,k2,k3,some (.builtin n),k5]:=by
        obtain ⟨l⟩:=sl
        simp only at hs
        rw [hs]
      subst hsl hm c1 c2 c3 c4
      exact ⟨nm,qn,ns,bs,bm,sn,sub,ab,col,dd,k0,k1,k2,k3,k5,ho,W.tail_of_in X c5⟩
    · cases q
  · cases q
abbrev excObj (C t:Addr) (d:Option Addr):Obj:={ cls:=.ref C,dict:=d,data:=.fields #[.ref t,.none,.none,.none,.bool false,.none] }
abbrev bornHeap (h:Heap) (C:Addr) (us:List Value):Heap:=(h.push { cls:=.type "tuple", data:=.seq us.toArray }).push (excObj C h.objs.size none)
section
variable {prog:Program} {w:World} {A:Around} {E:Value -> Shared -> Prop} {s:Shared} {K:W.Frag} {C f:Addr} {us:List Value}
theorem call_xinit {Q:Value -> Shared -> Prop} (X:K.In s.heap) (q:xcIn K C = true) (hi:W.findIn K (.ref C) "__init__" = some (some (.ref f))) (hf:W.typeIn K (.ref f) = some (.type "function")) (hz:us.length <= sizeLine)
    (h:wpAny (model prog w) (A.under (.builtin "type.__call__" ⟨.ref C :: us,[]⟩)) (call (.ref f) (.ref (s.heap.objs.size + 1) :: us)) (fun r s'=>r = .none /\ Q (.ref (s.heap.objs.size + 1)) s') E { s with heap:=bornHeap s.heap C us }) :
    wpAny (model prog w) A (call (.ref C) us) Q E s:=by
  obtain ⟨nm,qn,N,bs,bm,sn,sub,ab,col,dd,k0,k1,k2,k3,k5,lk,T⟩:=xc_cls X q
  obtain ⟨hp,g,d,t,os⟩:=s
  have hC:=X _ _ lk
  have F:=PySem.F.excBase_ValueError
  have f1:=tc_lookup
  have f2:=tc_bind (.ref C)
  have hT:(⟨hp,g,d,t,os⟩:Shared).TypeIs (.ref C) "type" := ⟨_,hC,rfl⟩
  refine wpAny_call (codeAny_of_tree ?_)
  show wpAny _ _ (callAny (.ref C) _) _ _ _
  repeat (any_goals (first | assumption | (with_reducible refine wpAny_loadPart_at hC ?_) | wp_step))
  refine ⟨rfl,?_⟩
  refine codeAny_call_builtin_at (Code.quiet_builtin _ (by decide +kernel)) entry_typeCall (wpAny_check_type_call_sub hC ?_)
  repeat (first | (with_reducible refine wpAny_loadPart_at hC ?_) | (with_reducible refine wpAny_madeBy_exc hC ?_) | wp_step)
  refine codeAny_call_builtin_code (Code.quiet_builtin _ F.quiet) (wpAny_check_new_subT F T hC ?_)
  refine codeAny_exc_new_subT F T hC ?_ hz
  show wpAny _ _ _ _ _ _
  have kk:∀ b o,hp.get? b = some o -> (bornHeap hp C us).get? b = some o:=fun b o e=>Heap.get?_push_of_some _ (Heap.get?_push_of_some _ e)
  have hC1:=kk _ _ hC
  have X1:K.In (bornHeap hp C us):=X.keeps kk
  have hg:(bornHeap hp C us).get? (hp.objs.size + 1) = some (excObj C hp.objs.size none):=by heap_get
  have hcC:(Value.ref C :: bm).contains (.ref C) = true:=by simp
  unfold isInstance
  repeat (first | (with_reducible refine wpAny_loadPart_at hg ?_) | ((with_reducible refine wpAny_isSubtype_exc hC1 ?_); rw [hcC]) | wp_step)
  refine wpAny_isSubtype_exc hC1 ?_
  rw [hcC]
  repeat (first | (with_reducible refine wpAny_loadPart_at hg ?_) | wp_step)
  show wpAny _ _ (typeLookup (.ref C) _) _ _ _
  refine W.Looks.here (s:=⟨bornHeap hp C us,g,d,t,os⟩) (W.looks_findIn X1 hi) ?_
  refine wpAny_holding (wpAny_bind (W.Looks.here (s:=⟨bornHeap hp C us,g,d,t,os⟩) (W.bind_fn X1 _ hf) ?_))
  refine wpAny_bind (wpAny_mono h (fun r s' hr=>?_) fun _ _ x=>x)
  obtain ⟨rfl,hQ⟩:=hr
  wp_walk
  exact hQ
end
end L2

namespace L2
open PySem PySem.Spec PyProof.Rows
open Builtin Builtin.ObjectAttr
theorem refuse_x {h:Heap} (self:Value) {l:List Value} (T:OwnTail h bmV l):refuseLoop self "__setattr__" l = pure ():=by
  induction T with
  | base=>exact PySem.F.store_ValueError.passes self
  | own _ _ _ _ ih=>rw [refuseLoop_ref]; exact ih
section
variable {prog:Program} {w:World} {A:Around} {E:Value -> Shared -> Prop} {s:Shared} {K:W.Frag} {C a t:Addr} {d:Option Addr} {name:Str} {v:Value} {mA:Str -> Option Value} {ns:List Str}
theorem set_x {Q:Unit -> Shared -> Prop} (X:K.In s.heap) (q:xcIn K C = true) (hs:W.findIn K (.ref C) "__setattr__" = some (some (.builtin "object.__setattr__"))) (hn:W.findIn K (.ref C) name = some none)
    (ha:s.heap.get? a = some (excObj C t d)) (hm:(d = none /\ ∀ n,mA n = none) \/ ∃ dx,d = some dx /\ dx ≠ a /\ s.heap.Ns1 dx mA) (hw:PySem.Within mA ns) (hz:ns.length <= sizeLine)
    (h:∀ h' tk dx,h'.get? a = some (excObj C t (some dx)) -> h'.Ns1 dx (fun y=>if y = name then some v else mA y) -> dx ≠ a -> (d = some dx \/ (d = none /\ s.heap.objs.size <= dx)) ->
      (∀ b o,b ≠ a -> b ≠ dx -> s.heap.get? b = some o -> h'.get? b = some o) -> Q () { s with heap:=h',toks:=tk }):wpAny (model prog w) A (setAttr (.ref a) name v) Q E s:=by
  obtain ⟨nm,qn,N,bs,bm,sn,sub,ab,col,dd,k0,k1,k2,k3,k5,lk,T⟩:=xc_cls X q
  have hC:=X _ _ lk
  have SF:=PySem.F.store_ValueError
  obtain ⟨od,I⟩:∃ od,W.InstAt s.heap a (excObj C t d) C od:=by
    rcases hm with ⟨rfl,_⟩ | ⟨dx,rfl,_,⟨o,es,ep,ho,_⟩⟩
    · exact ⟨none,ha,rfl,rfl,trivial⟩
    · exact ⟨some o,ha,rfl,rfl,ho⟩
  refine W.set_plain X I hs ?_
  obtain ⟨hp,g,dr,tk,os⟩:=s
  have hc:W.clsIn K C = some { name:=nm,bases:=bs,mro:=.ref C :: bm,ns:=N,qualname:=qn,hasDict:=true,slotNames:=sn,subclasses:=sub,abstract:=ab,collection:=col,hasDel:=false }:=by
    unfold W.clsIn
    rw [lk]
  have hmr:W.Looks (model prog w) hp (mroOf (.ref C)) (.ref C :: bm):=(W.looks_clsIn X hc).andThen .now
  have sb:W.Looks (model prog w) hp (isInstance (.ref a) (.type "object")) true:=I.type.andThen (W.looks_mroIn X (by
    unfold W.mroIn
    rw [hc,Option.bind_some,if_neg (by simp),List.contains_cons,T.hasType (X := "object") (b:=true) (by decide +kernel),Bool.or_true]))
  refine codeAny_call_builtin SF.slot.plain SF.entry (@W.check_slot (model prog w) _ _ ⟨hp,g,dr,tk + 1,os⟩ "object.__setattr__" "object" "__setattr__" (.ref a) [.str name tk,v] [] _ SF.kind SF.split sb (SF.args (.ref a) (.str name tk) v) ?_)
  rw [W.osa_eq,refuse_eq]
  refine wpAny_bind (wpAny_bind (W.Looks.here (s:=⟨hp,g,dr,tk + 1,os⟩) I.type (wpAny_bind (W.Looks.here (s:=⟨hp,g,dr,tk + 1,os⟩) hmr ?_))))
  rw [refuseLoop_ref,refuse_x _ T]
  refine wpAny_pure (wpAny_bind (W.Looks.here (s:=⟨hp,g,dr,tk + 1,os⟩) I.type (wpAny_bind (W.Looks.here (s:=⟨hp,g,dr,tk + 1,os⟩) (W.looks_findIn X hn) ?_))))
  refine wpAny_bind (wpAny_pure ?_)
  show wpAny _ _ (storeInOwnDict _ _ _ _ _ _) _ _ _
  rcases hm with ⟨rfl,hmA⟩ | ⟨dx,rfl,hne,hns⟩
  · have hC':=hC
    refine wpAny_bind (wpAny_pure (wpAny_bind (wpAny_bind (wpAny_loadPart (s:=⟨hp,g,dr,tk + 1,os⟩) ha (wpAny_bind (W.Looks.here (s:=⟨hp,g,dr,tk + 1,os⟩) (W.looks_clsIn X hc) ?_))))))
    have ha1:(hp.push { cls:=.type "dict", data:=.dict #[] }).get? a = some (excObj C t none):=Heap.get?_push_of_some _ ha
    have nas:a ≠ hp.objs.size:=Nat.ne_of_lt (Heap.lt_size ha)
    refine wpAny_bind (wpAny_alloc' ?_)
    refine wpAny_bind (wpAny_update' ha1 (wpAny_pure ?_))
    have hgd:((hp.push { cls:=.type "dict", data:=.dict #[] }).update a fun o=>{ o with dict:=some hp.objs.size }).get? hp.objs.size = some { cls:=.type "dict", data:=.dict #[] } :=
      (Heap.get?_update_ne _ _ _ _ nas.symm).trans (Heap.get?_push_at rfl rfl)
    have hnd:((hp.push { cls:=.type "dict", data:=.dict #[] }).update a fun o=>{ o with dict:=some hp.objs.size }).Ns hp.objs.size (fun _=>none):=⟨_,#[],_,hgd,rfl,fun e he=>absurd he (by simp),fun _=>rfl⟩
    have hga:((hp.push { cls:=.type "dict", data:=.dict #[] }).update a fun o=>{ o with dict:=some hp.objs.size }).get? a = some (excObj C t (some hp.objs.size)):=Heap.get?_update_self _ ha1 rfl
    show wpAny _ _ (storeInDict hp.objs.size (.str name tk) name v) _ _ _
    unfold storeInDict newKeyGuard
    refine wpAny_bind (wpAny_pure (wpAny_bind (wpAny_nsSet1 (Heap.Ns1.of_empty hnd) fun h' hn' hs'=>?_)))
    obtain ⟨oD,esD,epD,hoD,hdD,hcD⟩:=hn'.count (Within.cons name v Within.nil)
    refine wpAny_bind (wpAny_lookBehind hoD (by rw [hdD]; exact pastItsLine_dict (Nat.le_trans hcD (by rw [List.length_cons,List.length_nil,sizeLine_eq]; omega))) (wpAny_pure ?_))
    refine h h' _ hp.objs.size ((hs'.2 a nas).trans hga) ?_ nas.symm (.inr ⟨rfl,Nat.le_refl _⟩) fun b o n1 n2 e=>(hs'.2 b n2).trans ((Heap.get?_update_ne _ _ _ _ n1).trans (Heap.get?_push_of_some _ e))
    obtain ⟨o',es,ep,e1,e2,e3,eu,e4⟩:=hn'
    exact ⟨o',es,ep,e1,e2,e3,eu,fun y=>by rw [e4 y]; by_cases hy:y = name <;> simp [hy,hmA]⟩
  · refine wpAny_bind (wpAny_pure (wpAny_bind (wpAny_bind (wpAny_loadPart (s:=⟨hp,g,dr,tk + 1,os⟩) ha (wpAny_bind (W.Looks.here (s:=⟨hp,g,dr,tk + 1,os⟩) (W.looks_clsIn X hc) ?_))))))
    refine wpAny_pure (a:=some dx) ?_
    show wpAny _ _ (storeInDict dx (.str name tk) name v) _ _ _
    unfold storeInDict newKeyGuard
    refine wpAny_bind (wpAny_pure (wpAny_bind (wpAny_nsSet1 (s:=⟨hp,g,dr,tk + 1,os⟩) hns fun h' hn' hs'=>?_)))
    obtain ⟨oD,esD,epD,hoD,hdD,hcD⟩:=hn'.count (Within.cons name v hw)
    refine wpAny_bind (wpAny_lookBehind hoD (by rw [hdD]; exact pastItsLine_dict (Nat.le_trans hcD (by rw [List.length_cons]; omega))) (wpAny_pure ?_))
    exact h h' _ dx ((hs'.2 a hne.symm).trans ha) hn' hne (.inl rfl) fun b o n1 n2 e=>(hs'.2 b n2).trans e
end
end L2

namespace L2
open PySem PySem.Spec PyProof.Rows
open Builtin Builtin.ObjectAttr
theorem lk_at {α:Type} {M:Model} {A:Around} {E:Value -> Shared -> Prop} {h:Heap} {g:Array GenState} {d:Drawn} {tk:Nat} {os:OsState} {t:Sem α} {r : α} {Q : α -> Shared -> Prop} (x:W.Looks M h t r) (q:Q r ⟨h,g,d,tk,os⟩):wpAny M A t Q E ⟨h,g,d,tk,os⟩:=x.here (s:=⟨h,g,d,tk,os⟩) q
section
variable {prog:Program} {w:World} {A:Around} {E:Value -> Shared -> Prop} {s:Shared} {K:W.Frag} {C a dx:Addr} {name:Str} {v:Value} {mA:Str -> Option Value} {oe:Obj} {vs:Array Value}
theorem get_x {expr:Bool} {Q:Value -> Shared -> Prop} (X:K.In s.heap) (q:xcIn K C = true) (hg:W.findIn K (.ref C) "__getattribute__" = some (some (.builtin "BaseException.__getattribute__"))) (hh:W.findIn K (.ref C) "__getattr__" = some none)
    (hn:W.findIn K (.ref C) name = some none) (ha:s.heap.get? a = some oe) (hc:oe.cls = .ref C) (hd:oe.dict = some dx) (hv:oe.data = .fields vs) (ns:s.heap.Ns1 dx mA) (hm:mA name = some v) (hv':W.handedIn v = true)
    (h:Q v { s with toks:=s.toks + 1 }):wpAny (model prog w) A (getAttr (.ref a) name expr) Q E s:=by
  obtain ⟨nm,qn,N,bs,bm,sn,sub,ab,col,dd,k0,k1,k2,k3,k5,lk,T⟩:=xc_cls X q
  have hC:=X _ _ lk
  have F:=PySem.F.excBase_ValueError
  have FB:=PySem.F.attrBase_ValueError
  obtain ⟨od,ho,hl⟩:=lookIn_ns ns
  have I:W.InstAt s.heap a oe C (some od):=⟨ha,hc,by unfold W.notCls; rw [hv],by rw [hd]; exact ho⟩
  have hc':W.clsIn K C = some { name:=nm,bases:=bs,mro:=.ref C :: bm,ns:=N,qualname:=qn,hasDict:=true,slotNames:=sn,subclasses:=sub,abstract:=ab,collection:=col,hasDel:=false }:=by
    unfold W.clsIn
    rw [lk]
  have hf:W.findObj K C (some od) name = some (.value v):=W.findObj_own (by unfold W.hasDictIn; rw [hc']; rfl) hn rfl (by rw [hl,hm])
  obtain ⟨hp,g,dr,tk,os⟩:=s
  have L0:=I.type (M:=model prog w)
  have L1:=W.looks_find (M:=model prog w) X I hf
  have L2:=W.looks_findIn (M:=model prog w) X hg
  have L3:=W.looks_findIn (M:=model prog w) X hh
  have f3:=FB.ga.bind (.ref a)
  have hx0:(expr && onTheHeap (Value.builtin "BaseException.__getattribute__")) = false:=by cases expr <;> rfl
  have hx2:(Value.builtin "BaseException.__getattribute__" == Value.builtin "object.__getattribute__") = false:=by decide +kernel
  have hx1:(onTheHeap (Value.ref C) && Value.builtin "BaseException.__getattribute__" == Value.builtin "object.__getattribute__") = false:=by rw [hx2]; rfl
  have sb:W.Looks (model prog w) hp (isInstance (.ref a) (.type "BaseException")) true:=I.type.andThen (W.looks_mroIn X (by
    unfold W.mroIn
    rw [hc',Option.bind_some,if_neg (by simp),List.contains_cons,T.hasType (X := "BaseException") (b:=true) (by decide +kernel),Bool.or_true]))
  have hk:builtinKind "BaseException.__getattribute__" = some .slot:=by decide +kernel
  have hsplit:splitId "BaseException.__getattribute__" = some ("BaseException", "__getattribute__"):=by decide +kernel
  unfold getAttr getAttrBy
  repeat (any_goals (first | assumption | (with_reducible refine lk_at L0 ?_) | (with_reducible refine lk_at L2 ?_) | (with_reducible refine lk_at L3 ?_) | wp_step))
  refine codeAny_call_builtin FB.ga.plain PySem.F.entry_bexc_ga (@W.check_slot (model prog w) _ _ ⟨hp,g,dr,tk + 1,os⟩ "BaseException.__getattribute__" "BaseException" "__getattribute__" (.ref a) [.str name tk] [] _ hk hsplit sb (PySem.F.args_bexc_ga (.ref a) (.str name tk)) ?_)
  unfold Builtin.«object.__getattribute__»
  repeat (any_goals (first | assumption | (with_reducible refine lk_at L0 ?_) | (with_reducible refine lk_at L1 ?_) | wp_step))
  refine lk_at (r:=v) (.of_pure (W.handedOut_of hv')) ?_
  exact h
end
end L2

namespace L2
open PySem PySem.Spec PyProof.Rows
open Builtin Builtin.ObjectAttr
structure XCls (K:W.Frag) (C:Addr):Prop where
  xc:xcIn K C = true
  sa:W.findIn K (.ref C) "__setattr__" = some (some (.builtin "object.__setattr__"))
  ga:W.findIn K (.ref C) "__getattribute__" = some (some (.builtin "BaseException.__getattribute__"))
  gh:W.findIn K (.ref C) "__getattr__" = some none
  ca:W.findIn K (.ref C) "__class__" = some (some (.builtin "object.__class__"))
  cg:W.specialIn K (.builtin "object.__class__") "__get__" = some (some (.builtin "getset_descriptor.__get__"))
  ct:W.takesIn K (.builtin "object.__class__") = some true
  ob:W.mroIn K C (.type "object") = some true
theorem XCls.cls {K:W.Frag} {C:Addr} (c:XCls K C):∃ cd,W.clsIn K C = some cd:=by
  have q:=c.xc
  unfold xcIn at q
  unfold W.clsIn
  split at q
  · rename_i ho
    rw [ho]
    exact ⟨_,rfl⟩
  · cases q
section
variable {prog:Program} {w:World} {A:Around} {E:Value -> Shared -> Prop} {s:Shared} {K:W.Frag} {C a dx:Addr} {ox od:Obj}
theorem class_x {Q:Option Value -> Shared -> Prop} (c:XCls K C) (X:K.In s.heap) (I:W.InstAt s.heap a ox C (some od)) (h:Q (some (.ref C)) { s with toks:=s.toks + 1 }):wpAny (model prog w) A (getAttr? (.ref a) "__class__") Q E s:=by
  obtain ⟨nm,qn,N,bs,bm,sn,sub,ab,col,dd,k0,k1,k2,k3,k5,lk,T⟩:=xc_cls X c.xc
  have hC:=X _ _ lk
  have FB:=PySem.F.attrBase_ValueError
  have hc':W.clsIn K C = some { name:=nm,bases:=bs,mro:=.ref C :: bm,ns:=N,qualname:=qn,hasDict:=true,slotNames:=sn,subclasses:=sub,abstract:=ab,collection:=col,hasDel:=false }:=by
    unfold W.clsIn
    rw [lk]
  have hf:W.findObj K C (some od) "__class__" = some (.bind (.builtin "getset_descriptor.__get__") (.builtin "object.__class__")):=W.findObj_data (by rw [hc']; rfl) c.ca c.cg c.ct
  have cg:∀ {A:Around} {R:Result -> Shared -> Prop} {s':Shared},s'.heap = s.heap -> R (.ok (.ret (.ref C))) s' -> codeAny (model prog w) A (.call (.builtin "getset_descriptor.__get__") ⟨[.builtin "object.__class__", .ref a,.ref C],[]⟩) R s':=fun {A R s'} e z=>by
    obtain ⟨h1,g1,d1,t1,o1⟩:=s'
    cases e
    exact W.class_get (s:=⟨s.heap,g1,d1,t1,o1⟩) (ox:=ox) (od:=some od) X I c.ob z
  obtain ⟨hp,g,dr,tk,os⟩:=s
  have L0:=I.type (M:=model prog w)
  have L1:=W.looks_find (M:=model prog w) X I hf
  have L2:=W.looks_findIn (M:=model prog w) X c.ga
  have L3:=W.looks_findIn (M:=model prog w) X c.gh
  have f3:=FB.ga.bind (.ref a)
  have hx2:(Value.builtin "BaseException.__getattribute__" == Value.builtin "object.__getattribute__") = false:=by decide +kernel
  have hx1:(onTheHeap (Value.ref C) && Value.builtin "BaseException.__getattribute__" == Value.builtin "object.__getattribute__") = false:=by rw [hx2]; rfl
  have hx0:(false && onTheHeap (Value.builtin "BaseException.__getattribute__")) = false:=rfl
  have sb:W.Looks (model prog w) hp (isInstance (.ref a) (.type "BaseException")) true:=I.type.andThen (W.looks_mroIn X (by
    unfold W.mroIn
    rw [hc',Option.bind_some,if_neg (by simp),List.contains_cons,T.hasType (X := "BaseException") (b:=true) (by decide +kernel),Bool.or_true]))
  have hk:builtinKind "BaseException.__getattribute__" = some .slot:=by decide +kernel
  have hsplit:splitId "BaseException.__getattribute__" = some ("BaseException", "__getattribute__"):=by decide +kernel
  unfold getAttr? getAttrBy? getAttrBy
  repeat (any_goals (first | assumption | (with_reducible refine lk_at L0 ?_) | (with_reducible refine lk_at L2 ?_) | (with_reducible refine lk_at L3 ?_) | wp_step))
  refine codeAny_call_builtin FB.ga.plain PySem.F.entry_bexc_ga (@W.check_slot (model prog w) _ _ ⟨hp,g,dr,tk + 1,os⟩ "BaseException.__getattribute__" "BaseException" "__getattribute__" (.ref a) [.str "__class__" tk] [] _ hk hsplit sb (PySem.F.args_bexc_ga (.ref a) (.str "__class__" tk)) ?_)
  unfold Builtin.«object.__getattribute__»
  repeat (any_goals (first | assumption | (with_reducible refine lk_at L0 ?_) | (with_reducible refine lk_at L1 ?_) | wp_step))
  exact cg rfl (wpAny_pure (wpAny_pure (wpAny_pure h)))
theorem kitx_x (c:XCls K C):W.KitX K (.ref a) (.ref C) (fun h=>∃ ox od,W.InstAt h a ox C (some od)) where
  ty:=fun _ _ _ ⟨_,_,I⟩=>I.type
  it:=fun _ _ X _=>by
    obtain ⟨cd,hc⟩:=c.cls
    unfold W.clsIn at hc
    split at hc
    · rename_i ho
      intro A' Q' E' s' k q
      unfold isType loadHead
      exact wpAny_bind (wpAny_loadPart (k _ _ (X _ _ ho)) (wpAny_pure q))
    · cases hc
  ne:=fun h tp dd its n sl X htp=>by
    obtain ⟨cd,hc⟩:=c.cls
    refine Bool.eq_false_iff.mpr fun q=>?_
    have e:C = tp:=Value.ref.inj (beq_iff_eq.mp q)
    subst e
    unfold W.clsIn at hc
    split at hc
    · rename_i ho
      have z:=(X _ _ ho).symm.trans htp
      cases z
    · cases hc
  ca:=fun X ⟨_,_,I⟩ k=>class_x c X I k
end
abbrev BornAt (a C:Addr) (d:Option Addr):Heap -> Prop:=fun h=>∃ t,h.get? a = some (excObj C t d)
theorem born_ok {P:Program} {w:World} {H:Hp} {h:Heap} {a C t:Addr} {d:Option Addr} (e:h.get? a = some (excObj C t d)):ObjOk P w H h a (.ext (BornAt a C d)) :=
  ⟨⟨t,e⟩,⟨_,e⟩,fun _ _ ⟨u,z⟩ k=>⟨u,k _ z⟩⟩
section
variable {X:Cx} {pins:List (Addr × Obj)} {σ:St} {H:Hp} {s:Shared} {a C dx:Addr} {f:Str} {v:V} {A:Around} {E:Value -> Shared -> Prop}
theorem setx_ok {u:Value} {Q:Unit -> Shared -> Prop} (I:Inv X pins σ H s) (e:H a = some (.ext (BornAt a C none))) (c:XCls X.K C) (n:NoAttr X.K C f) (r:RelV v u)
    (h:∀ s' dx,H dx = none -> dx ≠ a -> Inv X pins σ (upd (upd H a (.ext (BornAt a C (some dx)))) dx (.xd [(f,v)])) s' -> Q () s'):wpAny (model X.prog X.w) A (setAttr (.ref a) f u) Q E s:=by
  obtain ⟨⟨t,ea⟩,_,_⟩:=(show ObjOk X.prog X.w H s.heap a (.ext (BornAt a C none)) from I.hok a _ e)
  refine set_x (mA:=fun _=>none) (ns:=[]) I.kIn c.xc c.sa n ea (.inl ⟨rfl,fun _=>rfl⟩) Within.nil (Nat.zero_le _) fun h' tk dx e1 e2 ne hdx kk=>?_
  obtain hz:s.heap.objs.size <= dx:=by
    rcases hdx with z | ⟨_,z⟩
    · cases z
    · exact z
  have fr:H dx = none:=I.hok.fresh hz
  have lt:∀ b o,s.heap.get? b = some o -> b ≠ dx:=fun b o q=>Nat.ne_of_lt (Nat.lt_of_lt_of_le (Heap.lt_size q) hz)
  have ltH:∀ b o,H b = some o -> b ≠ dx:=fun b o q=>ne_of_none q fr
  have nea:∀ b,H b = none -> b ≠ a:=fun b q z=>by rw [z,e] at q; cases q
  have up:∀ b o,b ≠ a -> H b = some o -> upd (upd H a (.ext (BornAt a C (some dx)))) dx (.xd [(f,v)]) b = some o:=fun b o n q=>by
    rw [upd_ne (ltH b o q),upd_ne n]
    exact q
  refine h _ dx fr ne (I.un (h':=h') (t':=tk) ⟨fun b o q n _ _=>kk b o (nea b n) (lt b o q) q,fun b o q n _ _=>⟨o.slots,kk b o (nea b n) (lt b o q) q⟩,fun b o q n _=>?_,fun b o q _=>?_,fun b xs q=>up b _ ?_ q,fun b o u q=>up b _ ?_ q,fun b ps q=>⟨#[],by rw [up b _ (ne_of q e (fun z=>nomatch z)) q]; simp⟩⟩ fun b o q=>?_)
  · rw [upd_ne (lt b o q),upd_ne (nea b n)]
    exact n
  · by_cases hb:b = a
    · subst hb; exact ⟨_,e1⟩
    · exact ⟨o,kk b o hb (lt b o q) q⟩
  · exact ne_of q e (fun z=>nomatch z)
  · exact ne_of q e (fun z=>nomatch z)
  · by_cases hd:b = dx
    · subst hd
      rw [upd_same] at q
      cases q
      refine ⟨_,e2,fun g=>?_⟩
      by_cases hg:g = f
      · subst hg
        have hb:(g == g) = true:=by simp
        simp only [List.lookup,hb,if_true]
        exact r
      · have hb:(g == f) = false:=beq_eq_false_iff_ne.mpr hg
        simp only [List.lookup,hb,if_neg hg]
        exact True.intro
    · rw [upd_ne hd] at q
      by_cases hb:b = a
      · subst hb
        rw [upd_same] at q
        cases q
        exact born_ok e1
      · rw [upd_ne hb] at q
        refine (I.hok b o q).stay (fun c u hc z=>kk c u ?_ (lt c u z) z) (fun c z=>up c _ (ne_of z e (fun y=>nomatch y)) z) fun c xs z=>up c _ (ne_of z e (fun y=>nomatch y)) z
        rcases hc with rfl | hc
        · exact hb
        · exact ne_of hc e (fun y=>nomatch y)
end
end L2

namespace L2
open PySem PySem.Spec PyProof.Rows
section
variable {M:Model} {A:Around} {E:Value -> Shared -> Prop} {s:Shared} {env:Env} {K:W.Frag}
theorem raise_x {x:Sem Value} {Q:Flow -> Shared -> Prop} (hh:A.handled = none)
    (h:wpAny M A x (fun v s1=>∃ a C t d,v = .ref a /\ K.In s1.heap /\ xcIn K C = true /\ s1.heap.get? a = some (excObj C t d) /\ E (.ref a) s1) E s):wpAny M A (raiseStmt env (some x) none) Q E s:=by
  unfold raiseStmt
  refine wpAny_bind (wpAny_mono h (fun v s1 ⟨a,C,t,d,ev,X,q,ea,z⟩=>?_) fun _ _ y=>y)
  subst ev
  obtain ⟨nm,qn,N,bs,bm,sn,sub,ab,col,dd,k0,k1,k2,k3,k5,lk,T⟩:=xc_cls X q
  have hC:=X _ _ lk
  have hcB:(Value.ref C :: bm).contains (.type "BaseException") = true:=by rw [List.contains_cons,T.hasType (X := "BaseException") (b:=true) (by decide +kernel),Bool.or_true]
  obtain ⟨hp,g,dr,tk,os⟩:=s1
  have hx:hp.get? a = some { cls:=.ref C,dict:=d,data:=.fields #[.ref t,.none,.none,.none,.bool false,.none] }:=ea
  repeat (first | (with_reducible refine wpAny_loadPart_at hx ?_) | (with_reducible refine wpAny_loadPart_at hC ?_) | ((with_reducible refine wpAny_isSubtype_exc hC ?_); rw [hcB]) | wp_step)
  exact wpAny_raiseNew_none hh z
end
structure XMk (K:W.Frag) (C f:Addr):Prop where
  cl:XCls K C
  init:W.findIn K (.ref C) "__init__" = some (some (.ref f))
  fn:W.isFn K (.ref f) = true
  kp:W.keepIn K (.ref C) = true
noncomputable def spI (K:W.Frag) (n:Str):Sp:=fun vs H Q _=>∃ a C y,vs = [.ref a,y] /\ XCls K C /\ NoAttr K C n /\ H a = some (.ext (BornAt a C none)) /\ ∀ dx,H dx = none -> dx ≠ a -> Q .non (upd (upd H a (.ext (BornAt a C (some dx)))) dx (.xd [(n,y)]))
noncomputable def sX1 (K:W.Frag) (ta tv:TE) (n:Str):TS:=fun D σ H=>tv σ H fun y H1=>ta σ H1 fun x H2=>∃ a C,x = .ref a /\ XCls K C /\ NoAttr K C n /\ H2 a = some (.ext (BornAt a C none)) /\
  ∀ dx,H2 dx = none -> dx ≠ a -> D.nx σ (upd (upd H2 a (.ext (BornAt a C (some dx)))) dx (.xd [(n,y)]))
section
variable {X:Cx} {o value:Expr} {n:Str} {pos pos':Pos} {ta tv:TE}
theorem ps_x1 (ha:PE X o ta) (hv:PE X value tv) (hs:swapsWith value (some (.Attribute o n pos')) pos.line X.env = pure false:=by rfl):PS X (.Assign [.Attribute o n pos'] value pos) (sX1 X.K ta tv n):=by
  intro pins s σ H D I h
  refine plainObj_wpAny_Assign_Attribute (thn (hv pins s σ H _ I h) fun u s1 ⟨y,H1,I1,ry,q⟩=>thn (ha pins s1 σ H1 _ I1 q) fun ov s2 ⟨x,H2,I2,rx,a,C,ex,c,na,ea,q2⟩=>?_) hs
  subst ex
  obtain rfl:ov = Value.ref a:=rx
  exact setx_ok I2 ea c na ry fun s3 dx hd ne I3=>⟨σ,_,I3,q2 dx hd ne⟩
end
section
variable {X:Cx} {k:Nat} {f C:Addr} {fd:FuncData} {ps:List Str} {x n:Str} {p pos rpos:Pos} {e:Expr} {t:TA}
theorem run_xmake {pins:List (Addr × Obj)} {σ:St} {H:Hp} {s:Shared} {Q:Value -> Shared -> Prop} {u:Value} {v:V} (M:XMk X.K C f) (na:NoAttr X.K C n) (F:FnOk X.prog X.w X.K X.mg X.base CX0 k f fd ps (spI X.K n)) (hr:Room (k + 1) X.A) (hb:Binds X.K fd ps [])
    (I:Inv X pins σ H s) (r:RelV v u)
    (h:∀ s' a dx,H a = none -> H dx = none -> dx ≠ a -> X.s₀.heap.objs.size <= a -> Inv X pins σ (upd (upd H a (.ext (BornAt a C (some dx)))) dx (.xd [(n,v)])) s' -> Q (.ref a) s') :
    wpAny (model X.prog X.w) X.A (call (.ref C) [u]) Q X.xe s:=by
  refine call_xinit I.kIn M.cl.xc M.init (beq_iff_eq.mp M.fn) (by size_fits) ?_
  have kk:∀ b o,s.heap.get? b = some o -> (bornHeap s.heap C [u]).get? b = some o:=fun b o e=>Heap.get?_push_of_some _ (Heap.get?_push_of_some _ e)
  have hg:(bornHeap s.heap C [u]).get? (s.heap.objs.size + 1) = some (excObj C s.heap.objs.size none):=by heap_get
  have I2:Inv X pins σ (upd H (s.heap.objs.size + 1) (.ext (BornAt (s.heap.objs.size + 1) C none))) { s with heap:=bornHeap s.heap C [u] }:=I.laid (t':=s.toks) kk (Nat.le_succ _) (born_ok hg)
  have fa:H (s.heap.objs.size + 1) = none:=I.hok.fresh (Nat.le_succ _)
  have r2:Vals [V.ref (s.heap.objs.size + 1),v] [Value.ref (s.heap.objs.size + 1),u]:=.cons rfl (.cons r .nil)
  have hq:spI X.K n [V.ref (s.heap.objs.size + 1),v] (upd H (s.heap.objs.size + 1) (.ext (BornAt (s.heap.objs.size + 1) C none))) (fun y H'=>y = .non /\ ∃ dx,H dx = none /\ dx ≠ s.heap.objs.size + 1 /\ H' = upd (upd H (s.heap.objs.size + 1) (.ext (BornAt (s.heap.objs.size + 1) C (some dx)))) dx (.xd [(n,v)])) E0 :=
    ⟨_,C,v,rfl,M.cl,na,upd_same,fun dx hd ne=>⟨rfl,dx,by rw [upd_ne ne] at hd; exact hd,ne,by rw [upd_upd]⟩⟩
  have hl:([Value.ref (s.heap.objs.size + 1),u] ++ ([]:List Value)).length = ps.length:=by
    have z:=r2.length
    rw [F.len _ _ _ _ hq] at z
    exact z.symm
  have hb2:=hb { s with heap:=bornHeap s.heap C [u] } [Value.ref (s.heap.objs.size + 1),u] I2.kIn hl
  rw [List.append_nil] at hb2
  refine wpAny_call (codeAny_mono (F.run _ X.stack _ _ ⟨[Value.ref (s.heap.objs.size + 1),u],[]⟩ [Value.ref (s.heap.objs.size + 1),u] _ _ E0 (hr.make C [u] []) (I2.env0.make C [u] []) hb2 r2 hq) fun r s' hq'=>?_)
  cases r with
  | error e=>exact hq'.elim
  | ok fl =>
    cases fl with
    | ret y =>
      obtain ⟨z,H',I3,rv,ev,dx,hd,ne,eH⟩:=I2.after hq'
      subst ev eH
      have ey:y = Value.none:=rv
      exact ⟨ey,h _ _ dx fa hd ne (Nat.le_trans I.sz (Nat.le_succ _)) I3⟩
    | next=>exact False.elim hq'
    | brk=>exact False.elim hq'
    | cont=>exact False.elim hq'
noncomputable def tRaise (C:Addr) (n:Str) (XE:Addr -> Addr -> V -> Hp -> Prop) (t:TA):TS:=fun _ σ H=>t σ H fun vs H1=>∃ v,vs = [v] /\ ∀ a dx,H1 a = none -> H1 dx = none -> dx ≠ a -> XE a dx v (upd (upd H1 a (.ext (BornAt a C (some dx)))) dx (.xd [(n,v)]))
theorem ps_raise {XE:Addr -> Addr -> V -> Hp -> Prop} (M:XMk X.K C f) (na:NoAttr X.K C n) (F:FnOk X.prog X.w X.K X.mg X.base CX0 k f fd ps (spI X.K n)) (hr:Room (k + 1) X.A) (hb:Binds X.K fd ps []) (hg:Gl X x) (hm:X.mg x = some (.ref C))
    (pa:PA X [e] t) (hx:∀ pins σ H s a dx v,Inv X pins σ H s -> X.s₀.heap.objs.size <= a -> dx ≠ a -> H a = some (.ext (BornAt a C (some dx))) -> H dx = some (.xd [(n,v)]) -> XE a dx v H -> X.xe (.ref a) s)
    (hdb:(x == ("__debug__" : Str)) = false:=by decide) (hs:starEach [e] X.env = (false,eval e X.env) :: starEach [] X.env:=by rfl):PS X (.Raise (some (.Call (.Name x p) [e] [] pos)) none rpos) (tRaise C n XE t):=by
  intro pins s σ H D I h
  rw [arm_exec_Raise]
  refine wpAny_bind (wpAny_standAt (raise_x (K:=X.K) hr.hd ?_))
  refine wpAny_bind (wpAny_mono (wpAny_Call_Name_kw (ld_glob I hg hm ?_ hdb)) (fun v s3 (h3:∃ a C t d,v = .ref a /\ X.K.In s3.heap /\ xcIn X.K C = true /\ s3.heap.get? a = some (excObj C t d) /\ X.xe (.ref a) s3)=>wpAny_bind (wpAny_standAt (wpAny_pure h3))) fun _ _ y=>y)
  refine W.callWith_K (h₀:=X.base) I.ok.mod.kin M.kp (thn (pa pos pins s σ H _ I h) fun us s1 ⟨vs,H1,I1,r,v,ev,q⟩=>⟨I1.kIn,?_⟩) hs rfl
  subst ev
  cases r with
  | cons r1 r2 =>
    cases r2
    refine run_xmake M na F hr hb I1 r1 fun s' a dx ha hd ne sz I3=>?_
    have ea:upd (upd H1 a (.ext (BornAt a C (some dx)))) dx (.xd [(n,v)]) a = some (.ext (BornAt a C (some dx))):=by rw [upd_ne (Ne.symm ne),upd_same]
    obtain ⟨⟨t,e3⟩,_,_⟩:=(show ObjOk X.prog X.w _ s'.heap a (.ext (BornAt a C (some dx))) from I3.hok a _ ea)
    exact ⟨a,C,t,some dx,rfl,I3.kIn,M.cl.xc,e3,hx pins σ _ s' a dx v I3 sz ne ea upd_same (q a dx ha hd ne)⟩
end
end L2

namespace L2
open PySem PySem.Spec PyProof.Rows
theorem objOk_there {P:Program} {w:World} {H:Hp} {h:Heap} {a:Addr} {o:HO} (x:ObjOk P w H h a o):∃ ob,h.get? a = some ob:=by
  cases o with
  | lst xs=>obtain ⟨_,_,_,_,e⟩:=x; exact ⟨_,e⟩
  | tup xs=>obtain ⟨_,_,_,⟨_,e,_⟩⟩:=x; exact ⟨_,e⟩
  | dK kvs=>obtain ⟨_,_,_,_,o,_,_,e,_⟩:=x; exact ⟨_,e⟩
  | dT kvs=>obtain ⟨_,_,_,_,o,_,_,e,_⟩:=x; exact ⟨_,e⟩
  | set S n=>obtain ⟨o,_,_,_,e,_⟩:=x; exact ⟨_,e⟩
  | ins C dx fs=>obtain ⟨_,_,_,e,_⟩:=x; exact ⟨_,e⟩
  | own y=>exact x
  | xd fs=>obtain ⟨_,⟨_,_,_,e,_⟩,_⟩:=x; exact ⟨_,e⟩
  | rng lo hi=>obtain ⟨_,_,_,e⟩:=x; exact ⟨_,e⟩
  | frz ob u=>obtain ⟨e,_⟩:=x; exact ⟨_,e⟩
  | tbl ps=>exact ⟨_,(show h.get? a = some _ from x)⟩
  | met f y=>exact ⟨_,(show h.get? a = some _ from x)⟩
  | ext φ=>obtain ⟨_,e,_⟩:=x; exact e
noncomputable def hideH (H:Hp) (a:Addr):Hp:=fun b=>if b = a then none else H b
theorem hideH_same {H:Hp} {a:Addr}:hideH H a a = none:=by unfold hideH; rw [if_pos rfl]
theorem hideH_ne {H:Hp} {a b:Addr} (n:b ≠ a):hideH H a b = H b:=by unfold hideH; rw [if_neg n]
noncomputable def CXE (P:Program) (w:World):CXT:=fun outer H s E e s'=>∃ a C dx T H',e = .ref a /\ s'.os = s.os /\ AllBare s'.gens /\ Un (frs outer) [] H H' s.heap s'.heap /\ HOk P w H' s'.heap /\ Air s'.heap a (.ref C) (some dx) T .none /\
  H' a = none /\ H' T = none /\ s.heap.get? a = none /\ s.heap.get? T = none /\ E (.ref C) (some dx) H'
section
variable {P:Program} {w:World} {K:W.Frag} {mg:Str -> Option Value} {base:Heap} {N:List Str} {qual:Str} {scope:Scope} {f:Addr} {cd:Value} {A:Around} {outer:List Env} {s s1:Shared} {H H1:Hp} {E:XK} {pins:List (Addr × Obj)} {σ:St} {a C dx:Addr}
theorem xe_born (I:Inv (cxOf (CXE P w) P w K mg base N qual scope f cd A outer s H E) pins σ H1 s1) (sz:s.heap.objs.size <= a) (ne:dx ≠ a) (ea:H1 a = some (.ext (BornAt a C (some dx)))) (q:E (.ref C) (some dx) (hideH H1 a)) :
    (cxOf (CXE P w) P w K mg base N qual scope f cd A outer s H E).xe (.ref a) s1:=by
  obtain ⟨⟨t,e1⟩,_,_⟩:=(show ObjOk P w H1 s1.heap a (.ext (BornAt a C (some dx))) from I.hok a _ ea)
  refine leaveX1 I.ok.frames I.stack rfl ⟨_,_,e1,rfl,rfl,rfl,rfl⟩ fun h' T nT air bt=>?_
  have B:=I.base
  have fra:s.heap.get? a = none:=Heap.get?_none_of_le sz
  have nea:∀ b o,s.heap.get? b = some o -> b ≠ a:=fun b o e z=>by rw [z,fra] at e; cases e
  have nfr:∀ b o,s.heap.get? b = some o -> b ∉ frs outer -> b ∉ frs (envOfC qual scope s.heap.objs.size f cd :: outer):=fun b o e n z=>by
    unfold frs at z
    rw [List.filterMap_cons] at z
    rcases List.mem_cons.mp z with y | y
    · exact absurd (Heap.lt_size e) (by rw [y]; exact Nat.lt_irrefl _)
    · exact n y
  have infr:∀ b,b ∈ frs outer -> b ∈ frs (envOfC qual scope s.heap.objs.size f cd :: outer):=fun b z=>by
    unfold frs
    rw [List.filterMap_cons]
    exact List.mem_cons_of_mem _ z
  have un1:∀ b,b ≠ a -> hideH H1 a b = H1 b:=fun b n=>hideH_ne n
  refine ⟨a,C,dx,T,hideH H1 a,rfl,I.os,I.bare,⟨fun b o e n m _=>?_,fun b o e n m _=>?_,fun b o e n _=>?_,fun b o e _=>?_,fun b xs e=>?_,fun b o u e=>?_,fun b ps e=>?_⟩,fun b o e=>?_,air,hideH_same,?_,fra,?_,q⟩
  · exact bt.keep b o (by simpa using nea b o e) (nfr b o e m) (B.keep b o e n m (fun z=>nomatch z))
  · obtain ⟨sl,e2⟩:=B.slot b o e n m (fun z=>nomatch z)
    obtain ⟨sl',e3⟩:=bt.slot b _ (by simpa using nea b o e) (infr b m) e2
    exact ⟨sl',e3⟩
  · rw [un1 b (nea b o e)]
    exact B.free b o e n (fun z=>nomatch z)
  · obtain ⟨o1,e2⟩:=B.there b o e (fun z=>nomatch z)
    exact bt.there b o1 e2
  · have z:=B.tups b xs e
    rw [un1 b (ne_of z ea (fun y=>nomatch y))]
    exact z
  · have z:=B.frzs b o u e
    rw [un1 b (ne_of z ea (fun y=>nomatch y))]
    exact z
  · obtain ⟨m,z⟩:=B.tbls b ps e
    exact ⟨m,by rw [un1 b (ne_of z ea (fun y=>nomatch y))]; exact z⟩
  · have hb:b ≠ a:=fun z=>by rw [z,hideH_same] at e; cases e
    rw [un1 b hb] at e
    refine (I.hok b o e).stay (fun c u hc z=>?_) (fun c z=>by rw [un1 c (ne_of z ea (fun y=>nomatch y))]; exact z) fun c xs z=>by rw [un1 c (ne_of z ea (fun y=>nomatch y))]; exact z
    have hH:∃ o',H1 c = some o':=by
      rcases hc with rfl | hc
      · exact ⟨_,e⟩
      · exact ⟨_,hc⟩
    have hca:c ≠ a:=by
      rcases hc with rfl | hc
      · exact hb
      · exact ne_of hc ea (fun y=>nomatch y)
    refine bt.keep c u (by simpa using hca) (fun m=>?_) z
    obtain ⟨o',hH⟩:=hH
    rw [I.stkFree c m] at hH
    cases hH
  · by_cases hT:T = a
    · rw [hT]; exact hideH_same
    · rw [un1 T hT]
      cases z:H1 T with
      | none=>rfl
      | some o =>
        obtain ⟨o',e'⟩:=objOk_there (I.hok T o z)
        rw [nT] at e'
        cases e'
  · cases z:s.heap.get? T with
    | none=>rfl
    | some o =>
      obtain ⟨o1,e2⟩:=B.there T o z (fun y=>nomatch y)
      rw [nT] at e2
      cases e2
end
end L2

namespace L2
open PySem PySem.Spec PyProof.Rows
theorem PS.nox {X:Cx} {st:Stmt} {t:TS} (h:PS X.nox st t):PS X st t:=fun pins s σ H D I hw =>
  wpAny_mono (h pins s σ H D (I.wish _) hw) (fun _ _ q=>q.unwish) fun _ _ z=>False.elim z
theorem PA.nox {X:Cx} {es:List Expr} {t:TA} (h:PA X.nox es t):PA X es t:=fun pos pins s σ H Q I hw =>
  wpAny_mono (h pos pins s σ H Q (I.wish _) hw) (fun _ _ ⟨v,H',I',r,q⟩=>⟨v,H',I'.unwish,r,q⟩) fun _ _ z=>False.elim z
namespace VL
abbrev XQ:=Str -> List (Str × PyData) -> Prop
abbrev XAt (K:W.Frag) (rl:RlT) (F H Fs:Hp) (E:XK) (c:Str) (fs:List (Str × PyData)):Prop:=∀ C dx F' H' us,Grow rl F H F' H' -> Same Fs F' -> W.nsIn K mainGlobals c = some (some (.ref C)) -> H' dx = some (.xd us) -> H dx = none -> F' dx = none -> KDs K F' us fs -> E (.ref C) (some dx) H'
abbrev XLink (K:W.Frag) (rl:RlT) (F H Fs:Hp) (E:XK) (QE:XQ):Prop:=∀ c fs,QE c fs -> XAt K rl F H Fs E c fs
theorem XLink.on {K:W.Frag} {rl:RlT} {F H Fs Fs':Hp} {E:XK} {QE:XQ} (l:XLink K rl F H Fs E QE) (s:Same Fs Fs'):XLink K rl F H Fs' E QE:=fun c fs z C dx F' H' us g m=>l c fs z C dx F' H' us g (s.trans m)
noncomputable def vspE (K:W.Frag) (rl:RlT) (P:List W -> (PyData -> Prop) -> XQ -> Prop):Sp:=fun vs H Q E=>∃ F ws,Same F H /\ RAt rl F H /\ RelWs K rl F H vs ws /\ ws.all argOk = true /\ P ws (fun d=>∀ v F' H',Grow rl F H F' H' -> Rep K F' v d -> Q v H') (XAt K rl F H F E)
noncomputable def PSsE (X:Cx) (rl:RlT) (E:XK) (body:List Stmt) (t:VEnds -> XQ -> En -> Prop):Prop:=∃ T,PSs X body T /\ ∀ {F₀ H₀ F H:Hp} {σ:St} {ρ:En},VR X.K rl F₀ H₀ F H σ ρ -> ∀ Dv D QE,EndsOk X.K rl F₀ H₀ F Dv D -> XLink X.K rl F₀ H₀ F E QE -> t Dv QE ρ -> T D σ H
section
variable {X:Cx} {rl:RlT} {E:XK} {st:Stmt} {rest body:List Stmt} {t:TSv} {u:VEnds -> XQ -> En -> Prop} {c e:Expr} {f:TB} {fs:TVs} {pos:Pos}
theorem PB.nox (h:PB X.nox rl c f):PB X rl c f:=let ⟨t,p,k⟩:=h; ⟨t,p.nox,k⟩
theorem PSV.nox (h:PSV X.nox rl st t):PSV X rl st t:=let ⟨T,p,k⟩:=h; ⟨T,p.nox,k⟩
theorem PSsV.nox (h:PSsV X.nox rl body t):PSsV X rl body t:=let ⟨T,p,k⟩:=h; ⟨T,p.nox,k⟩
theorem PVs.nox {es:List Expr} (h:PVs X.nox rl es fs):PVs X rl es fs:=let ⟨T,p,k⟩:=h; ⟨T,p.nox,k⟩
noncomputable def xOf (t:TSv):VEnds -> XQ -> En -> Prop:=fun Dv _ ρ=>t Dv ρ
theorem e_of (h:PSsV X.nox rl body t):PSsE X rl E body (xOf t):=by
  obtain ⟨T,p,k⟩:=h.nox
  exact ⟨T,p,fun R Dv D _ ok _ q=>k R Dv D ok q⟩
noncomputable def xSeq (t:TSv) (u:VEnds -> XQ -> En -> Prop):VEnds -> XQ -> En -> Prop:=fun Dv QE ρ=>t { Dv with nx:=u Dv QE } ρ
theorem e_cons (h:PSV X.nox rl st t) (h2:PSsE X rl E rest u):PSsE X rl E (st :: rest) (xSeq t u):=by
  obtain ⟨T,p,k⟩:=h.nox
  obtain ⟨T2,p2,k2⟩:=h2
  exact ⟨_,pss_cons p p2,fun R Dv D QE ok l q=>k R { Dv with nx:=u Dv QE } { D with nx:=T2 D } ⟨fun F H σ ρ s' R' q'=>k2 R' Dv D QE (ok.on s') (XLink.on l s') q',ok.rt,ok.bk,ok.ct⟩ q⟩
structure XOne (P:Program) (w:World) (K:W.Frag) (mg:Str -> Option Value) (base:Heap) (x n:Str) (C:Addr):Prop where
  at_:W.nsIn K mainGlobals x = some (some (.ref C))
  mg_:mg x = some (.ref C)
  no:NoAttr K C n
  ex:∃ f fd ps,XMk K C f /\ Binds K fd ps [] /\ FnOk P w K mg base CX0 1 f fd ps (spI K n)
noncomputable def xIf (f:TB) (x n:Str) (fs:TVs) (u:VEnds -> XQ -> En -> Prop):VEnds -> XQ -> En -> Prop:=fun Dv QE ρ=>f ρ fun b=>if b = true then fs ρ fun ws=>∃ d,ws = [.d d] /\ QE x [(n,d)] else u Dv QE ρ
theorem e_if {x n:Str} {C:Addr} {p cpos rpos:Pos} (hxe:∀ pins σ H s a C dx,Inv X pins σ H s -> X.s₀.heap.objs.size <= a -> dx ≠ a -> H a = some (.ext (BornAt a C (some dx))) -> E (.ref C) (some dx) (hideH H a) -> X.xe (.ref a) s)
    (hr:Room 2 X.A) (xo:XOne X.prog X.w X.K X.mg X.base x n C) (hc:PB X.nox rl c f) (ha:PVs X.nox rl [e] fs) (h2:PSsE X rl E rest u) (hg:Gl X x:=by rfl) (hdb:(x == ("__debug__" : Str)) = false:=by decide)
    (hs:starEach [e] X.env = (false,eval e X.env) :: starEach [] X.env:=by rfl) :
    PSsE X rl E (.If c [.Raise (some (.Call (.Name x p) [e] [] cpos)) none rpos] [] pos :: rest) (xIf f x n fs u):=by
  obtain ⟨t0,p0,k0⟩:=hc.nox
  obtain ⟨t1,p1,k1⟩:=ha.nox
  obtain ⟨T2,p2,k2⟩:=h2
  obtain ⟨fa,fd,ps,M,hb,F⟩:=xo.ex
  have pr:=ps_raise (p:=p) (pos:=cpos) (rpos:=rpos) (XE:=fun a dx _ H=>E (.ref C) (some dx) (hideH H a)) M xo.no F hr hb hg xo.mg_ p1 (fun pins σ H s a dx v I sz ne ea _ q=>hxe pins σ H s a C dx I sz ne ea q) hdb hs
  refine ⟨_,pss_cons (ps_if p0 (pss_one pr) pss_nil) p2,fun {F₀ H₀ F H σ ρ} R Dv D QE ok l q=>k0 R _ _ q fun b F1 H1 g1 q1=>?_⟩
  cases b with
  | true =>
    have q1:fs ρ fun ws=>∃ d,ws = [.d d] /\ QE x [(n,d)]:=q1
    refine k1 (R.grow g1) _ _ q1 fun vs ws F2 H2 g2 r2 ⟨d,ew,qe⟩=>?_
    subst ew
    cases r2 with
    | @cons v _ vs' _ r r' =>
      cases r'
      refine ⟨v,rfl,fun a dx na nd ne=>?_⟩
      have eh:hideH (upd (upd H2 a (.ext (BornAt a C (some dx)))) dx (.xd [(n,v)])) a = upd H2 dx (.xd [(n,v)]):=by
        funext b
        by_cases hb:b = a
        · subst hb
          rw [hideH_same,upd_ne (Ne.symm ne)]
          exact na.symm
        · rw [hideH_ne hb]
          by_cases hd:b = dx
          · subst hd; rw [upd_same,upd_same]
          · rw [upd_ne hd,upd_ne hb,upd_ne hd]
      show E _ _ (hideH _ _)
      rw [eh]
      have g3:=(R.g.trans g1).trans g2
      exact l x _ qe C dx F2 _ [(n,v)] (g3.trans (Grow.laid g2.sub g2.reel nd)) (g1.fs.trans g2.fs) xo.at_ upd_same (g3.freeB nd) (g2.sub.free nd) (.cons ⟨rfl,r⟩ .nil)
  | false=>exact k2 (R.grow g1) Dv D QE (ok.on g1.fs) (XLink.on l g1.fs) q1
end
structure DfnE (P:Program) (w:World) (K:W.Frag) (mg:Str -> Option Value) (base:Heap) (rl:RlT) (x:Str) (ps:List Str) (k:Nat) (Pd:List W -> (PyData -> Prop) -> XQ -> Prop):Prop where
  mono:∀ ws Q Q' R R',(∀ d,Q d -> Q' d) -> (∀ c fs,R c fs -> R' c fs) -> Pd ws Q R -> Pd ws Q' R'
  ex:∃ f fd,mg x = some (.ref f) /\ W.keepIn K (.ref f) = true /\ Binds K fd ps [] /\ FnOk P w K mg base (CXE P w) k f fd ps (vspE K rl Pd)
section
variable {P:Program} {w:World} {K:W.Frag} {mg:Str -> Option Value} {base:Heap} {rl:RlT} {x:Str} {st:Stmt} {N ps:List Str} {k:Nat} {Pd:List W -> (PyData -> Prop) -> XQ -> Prop} {t:VEnds -> XQ -> En -> Prop}
theorem DfnE.of (Fn:FnIn K mg x st ps) (S:FnScope N ps (defScope st)) (mono:∀ ws Q Q' R R',(∀ d,Q d -> Q' d) -> (∀ c fs,R c fs -> R' c fs) -> Pd ws Q R -> Pd ws Q' R') (len:∀ ws Q R,Pd ws Q R -> ws.length = ps.length)
    (hbody:∀ {f:Addr} (cdv:Value) (A:Around) (outer:List Env) (s:Shared) (H:Hp) (E:XK),Room k (A.deeper (envOfC x (defScope st) s.heap.objs.size f cdv)) ->
      (∀ pins σ H1 s1 a C dx,Inv (cxOf (CXE P w) P w K mg base N x (defScope st) f cdv A outer s H E) pins σ H1 s1 -> s.heap.objs.size <= a -> dx ≠ a -> H1 a = some (.ext (BornAt a C (some dx))) -> E (.ref C) (some dx) (hideH H1 a) ->
        (cxOf (CXE P w) P w K mg base N x (defScope st) f cdv A outer s H E).xe (.ref a) s1) ->
      PSsE (cxOf (CXE P w) P w K mg base N x (defScope st) f cdv A outer s H E) rl E (defBody st) t)
    (hread:∀ ws Q R,Pd ws Q R -> t (vEnds Q) R (startV N ws)):DfnE P w K mg base rl x ps (k + 1) Pd:=by
  obtain ⟨f,fd,hm,F,hb⟩:=Fn.ex
  refine ⟨mono,f,fd,hm,F.kp,hb,?_⟩
  obtain ⟨oc,od,kV,doc,pm,an,cdv,ct,osl,rfl,lk,hcd⟩:=F.ex
  refine fn_of lk hcd S (fun vs H Q E ⟨F,ws,_,_,r,_,q⟩=>(Paired.length r).trans (len ws _ _ q)) fun A outer s H vs Q E hr h=>?_
  obtain ⟨F,ws,sm,ra,r,ok,q⟩:=h
  obtain ⟨T,p,kk⟩:=hbody cdv A outer s H E hr (fun pins σ H1 s1 a C dx I sz ne ea q=>xe_born I sz ne ea q)
  refine ⟨T,p,kk (vr_start sm ra r ok) (vEnds _) _ _ ⟨?_,?_,fun _ _ _ _ _ _ z=>False.elim z,fun _ _ _ _ _ _ z=>False.elim z⟩ (fun c fs z=>z) (hread ws _ _ q)⟩
  · intro F1 H1 σ1 ρ1 _ R1 q1
    exact q1 .non F1 H1 R1.g .non
  · rintro v w1 F1 H1 g1 r1 n1 ⟨d,ed,q1⟩
    obtain ⟨F2,g2,s2,r2⟩:=RelW.fz g1 r1 n1
    rw [ed] at r2
    exact q1 v F2 H1 g2 r2
end
end VL
end L2

namespace L2
open PySem PySem.Spec PyProof.Rows
theorem un_but {fs l:List Addr} {H H':Hp} {h h1 h2:Heap} (u:Un fs [] H H' h h1) (bt:But fs l h1 h2) (fr:∀ b ∈ l,h.get? b = none):Un fs [] H H' h h2:=by
  have nl:∀ b o,h.get? b = some o -> b ∉ l:=fun b o e z=>by rw [fr b z] at e; cases e
  refine ⟨fun b o e n m x=>bt.keep b o (nl b o e) m (u.keep b o e n m x),fun b o e n m x=>?_,u.free,fun b o e x=>?_,u.tups,u.frzs,u.tbls⟩
  · obtain ⟨sl,e1⟩:=u.slot b o e n m x
    obtain ⟨sl',e2⟩:=bt.slot b _ (nl b o e) m e1
    exact ⟨sl',e2⟩
  · obtain ⟨o1,e1⟩:=u.there b o e x
    exact bt.there b o1 e1
theorem hok_but {P:Program} {w:World} {fs l:List Addr} {H:Hp} {h1 h2:Heap} (ok:HOk P w H h1) (bt:But fs l h1 h2) (fr:∀ b ∈ l,H b = none) (ff:∀ b ∈ fs,H b = none):HOk P w H h2:=fun b o e=>by
  have nt:∀ c u,H c = some u -> c ∉ l /\ c ∉ fs:=fun c u q=>⟨fun z=>(by rw [fr c z] at q; cases q),fun z=>(by rw [ff c z] at q; cases q)⟩
  refine (ok b o e).stay (fun c u hc z=>?_) (fun _ q=>q) fun _ _ q=>q
  rcases hc with rfl | hc
  · exact bt.keep c u (nt c _ e).1 (nt c _ e).2 z
  · exact bt.keep c u (nt c _ hc).1 (nt c _ hc).2 z
theorem un_upd {fs:List Addr} {H H':Hp} {h h1:Heap} {a:Addr} {o:HO} (u:Un fs [] H H' h h1) (na:H' a = none) (fa:h.get? a = none):Un fs [] H (upd H' a o) h h1:=by
  have nea:∀ b o,h.get? b = some o -> b ≠ a:=fun b o e z=>by rw [z,fa] at e; cases e
  refine ⟨u.keep,u.slot,fun b o e n x=>?_,u.there,fun b xs e=>?_,fun b o u' e=>?_,fun b ps e=>?_⟩
  · rw [upd_ne (nea b o e)]
    exact u.free b o e n x
  · have z:=u.tups b xs e
    rw [upd_ne (ne_of_none z na)]
    exact z
  · have z:=u.frzs b o u' e
    rw [upd_ne (ne_of_none z na)]
    exact z
  · obtain ⟨m,z⟩:=u.tbls b ps e
    exact ⟨m,by rw [upd_ne (ne_of_none z na)]; exact z⟩
theorem hok_upd {P:Program} {w:World} {H:Hp} {h:Heap} {a:Addr} {o:HO} (ok:HOk P w H h) (na:H a = none) (new:ObjOk P w (upd H a o) h a o):HOk P w (upd H a o) h:=fun b u e=>by
  by_cases hb:b = a
  · subst hb
    rw [upd_same] at e
    cases e
    exact new
  · rw [upd_ne hb] at e
    exact (ok b u e).stay (fun _ _ _ z=>z) (fun c q=>by rw [upd_ne (ne_of_none q na)]; exact q) fun c xs q=>by rw [upd_ne (ne_of_none q na)]; exact q
section
variable {X:Cx} {pins:List (Addr × Obj)} {σ:St} {H:Hp} {s:Shared}
theorem goes_ok {M:Model} {A:Around} {E:Value -> Shared -> Prop} {i:Nat} {n:Str} {pos:Pos} {Q:Unit -> Shared -> Prop} (I:Inv X pins σ H s) (hN:X.N.Nodup) (hi:X.N[i]? = some n) (hk:X.env.scope.names.lookup n = some .local)
    (h:∀ s',Inv X pins (σ.set i none) H s' -> Q () s'):wpAny M A (do bindName X.env n .none; unbindBehindTheSuite X.env n pos) Q E s:=by
  obtain ⟨m,hn,hl⟩:=id I.loc
  obtain ⟨oL,_,_,hoL,_⟩:=id hn
  refine wpAny_nameGoes_keeps hk hn (by rw [I.ok.kind]; rfl) fun h' v hn' hs=>?_
  have low:∀ b o,X.s₀.heap.get? b = some o -> b ≠ X.env.locals:=fun b o e=>Nat.ne_of_lt (Nat.lt_of_lt_of_le (Heap.lt_size e) I.ok.above)
  refine h _ ⟨I.ok,I.os,I.bare,⟨fun b o e n hb hx=>(hs.2 b (low b o e)).trans (I.base.keep b o e n hb hx),fun b o e n hb hx=>?_,I.base.free,fun b o e hx=>?_,I.base.tups,I.base.frzs,I.base.tbls⟩,⟨_,hn',fun j y v' e1 e2 e3=>?_⟩,fun y c e=>?_,I.free,I.freeC,fun p hp=>?_,fun b o e=>?_,by simpa using I.len⟩
  · obtain ⟨sl,e1⟩:=I.base.slot b o e n hb hx
    exact ⟨sl,(hs.2 b (low b o e)).trans e1⟩
  · obtain ⟨o',e1⟩:=I.base.there b o e hx
    exact ⟨o',(hs.2 b (low b o e)).trans e1⟩
  · have hj:i ≠ j:=fun z=>by
      subst z
      rw [List.getElem?_set] at e2
      split at e2
      · split at e2 <;> cases e2
      · rename_i q; exact q rfl
    rw [List.getElem?_set_ne hj] at e2
    have hy:y ≠ n:=fun z=>by
      subst z
      exact hj (nodup_ix hN hi e1)
    obtain ⟨u,ru,l⟩:=hl j y v' e1 e2 e3
    refine ⟨u,ru,?_⟩
    rcases l with ⟨k,z⟩ | ⟨k,c,e,o,ho,hd⟩
    · exact .inl ⟨k,by show (if y = n then v else m y) = _; rw [if_neg hy]; exact z⟩
    · exact .inr ⟨k,c,e,o,(hs.2 c (I.cne y c e)).trans ho,hd⟩
  · obtain ⟨v',o,ho,hd⟩:=I.cell y c e
    exact ⟨v',o,(hs.2 c (I.cne y c e)).trans ho,hd⟩
  · obtain ⟨e,z,ne,nf,d⟩:=I.pin p hp
    exact ⟨(hs.2 p.1 ne).trans e,z,ne,nf,d⟩
  · refine (I.hok b o e).stay (fun c w' hc q=>(hs.2 c ?_).trans q) (fun _ q=>q) fun _ _ q=>q
    rintro rfl
    rcases hc with rfl | hc
    · rw [I.free] at e; cases e
    · rw [I.free] at hc; cases hc
end
structure XOver (K:W.Frag) (C B:Addr):Prop where
  sub:W.mroIn K C (.ref B) = some true
  exc:W.mroIn K B (.type "BaseException") = some true
  ty:W.typeIn K (.ref B) = some (.type "type")
section
variable {M:Model} {A:Around} {E:Value -> Shared -> Prop} {s:Shared} {K:W.Frag} {C B a:Addr} {oe:Obj}
theorem excm_x {Q:Bool -> Shared -> Prop} (X:K.In s.heap) (o:XOver K C B) (ha:s.heap.get? a = some oe) (hc:oe.cls = .ref C) (h:Q true s):wpAny M A (excMatches (.ref a) (.ref B)) Q E s:=by
  have L1:W.Looks M s.heap (isInstance (.ref B) (.type "tuple")) false:=(W.looks_typeIn X o.ty).andThen (.of_pure (by rw [isSubtype_type]; kernel_rfl))
  have hcl:∃ cd,W.clsIn K B = some cd:=by
    have z:=o.exc
    unfold W.mroIn at z
    cases q:W.clsIn K B with
    | none=>rw [q] at z; cases z
    | some cd=>exact ⟨cd,rfl⟩
  obtain ⟨cd,hcd⟩:=hcl
  have L2:W.Looks M s.heap (isSubtype (.ref B) (.type "BaseException")) true:=W.looks_mroIn X o.exc
  have L3:W.Looks M s.heap (isSubtype (.ref C) (.ref B)) true:=W.looks_mroIn X o.sub
  have L4:W.Looks M s.heap (isType (.ref B)) true:=by
    unfold W.clsIn at hcd
    split at hcd
    · rename_i ho
      intro A' Q' E' s' k q
      unfold isType loadHead
      exact wpAny_bind (wpAny_loadPart (k _ _ (X _ _ ho)) (wpAny_pure q))
    · cases hcd
  have L5:W.Looks M s.heap (typeOf (.ref a)) (.ref C):=hc ▸ (W.Looks.ld ha).andThen .now
  obtain ⟨hp,g,d,tk,os⟩:=s
  unfold excMatches isExcClass
  repeat (first | (with_reducible refine lk_at L1 ?_) | (with_reducible refine lk_at L2 ?_) | (with_reducible refine lk_at L3 ?_) | (with_reducible refine lk_at L4 ?_) | (with_reducible refine lk_at L5 ?_) | wp_step)
  exact h
end
end L2

namespace L2.VL
open PySem PySem.Spec PyProof.Rows
theorem exc_ok {P:Program} {w:World} {H:Hp} {h:Heap} {a C dx T:Addr} {fl:Value} (z:Air h a (.ref C) (some dx) T fl):ObjOk P w H h a (.ext (ExcAt a C dx)):=by
  obtain ⟨oe,vs,_,_,e,c,d,f,_⟩:=z
  exact ⟨⟨oe,vs,e,c,d,f⟩,⟨_,e⟩,fun _ _ ⟨oe,vs,e,q⟩ k=>⟨oe,vs,k _ e,q⟩⟩
theorem ro_xd {n:Nat × List Int} {F:Hp} {us:List (Str × V)} (h:RO n F (.xd us)):False:=by
  unfold RO at h
  simp at h
section
variable {X:Cx} {rl:RlT} {E:XK} {e:Expr} {es:List Expr} {fs:TVs} {pos p:Pos}
noncomputable def xSet (i:Nat) (Pd:List W -> (PyData -> Prop) -> XQ -> Prop) (fs:TVs):VEnds -> XQ -> En -> Prop:=fun Dv QE ρ=>fs ρ fun ws=>ws.all argOk = true /\ Pd ws (fun d=>Dv.nx (ρ.set i (some (.d d)))) QE
theorem e_set (i:Nat) {x y:Str} {ps:List Str} {k:Nat} {Pd:List W -> (PyData -> Prop) -> XQ -> Prop} {pos' apos:Pos} (hx:Passes (CXE X.prog X.w) X E) (hN:X.N.Nodup) (D:DfnE X.prog X.w X.K X.mg X.base rl x ps k Pd) (hr:Room k X.A) (ha:PVs X rl (e :: es) fs) (hg:Gl X x:=by rfl)
    (hi:X.N[i]? = some y:=by rfl) (hy:Loc X.env.scope y:=by first | exact Or.inl rfl | exact Or.inr rfl) (hdb:(x == ("__debug__" : Str)) = false:=by decide)
    (he:starEach (e :: es) X.env = (false,eval e X.env) :: starEach es X.env:=by rfl) (hpl:(backTo pos (starEach es X.env)).any (·.1) = false:=by rfl)
    (hs:swapsWith (.Call (.Name x p) (e :: es) [] pos) (some (.Name y pos')) apos.line X.env = pure false:=by rfl) (hf:X.fn y = true \/ X.env.scope.names.lookup y = some .local:=by first | exact .inl rfl | exact .inr rfl) :
    PSsE X rl E [.Assign [.Name y pos'] (.Call (.Name x p) (e :: es) [] pos) apos] (xSet i Pd fs):=by
  obtain ⟨f,fd,hm,hk,hb,F⟩:=D.ex
  obtain ⟨t,p1,kk⟩:=ha
  refine ⟨_,pss_one (ps_set hN hi hy (pe_call (ds:=[]) (dvs:=[]) F hr hg hm hk hb .nil hx p1 hdb he hpl) hs hf),fun {F₀ H₀ F H σ ρ} R Dv D' QE ok l q=>kk R _ _ q fun vs ws F1 H1 g1 r1 ⟨ao,q1⟩=>?_⟩
  refine ⟨F1,ws,g1.sub,g1.reel,by rw [List.append_nil]; exact r1,ao,?_⟩
  refine D.mono ws _ _ _ _ (fun d qd v F2 H2 g2 r2=>?_) (fun c fs z C dx F' H' us g sm n hd nd fd kd=>?_) q1
  · exact ok.nx _ _ _ _ (g1.fs.trans g2.fs) (R.set (g1.trans g2) (w:=.d d) r2 trivial (fun xs z=>by cases z) i) qd
  · exact l c fs z C dx F' H' us ((R.g.trans g1).trans g) (g1.fs.trans sm) n hd ((R.g.trans g1).freeB nd) fd kd
end
theorem VR.unset {K:W.Frag} {rl:RlT} {F₀ H₀ F H:Hp} {σ:St} {ρ:En} (r:VR K rl F₀ H₀ F H σ ρ) (i:Nat):VR K rl F₀ H₀ F H (σ.set i none) (ρ.set i none):=by
  have nd:∀ (j:Nat) (y:W),(ρ.set i none)[j]? = some (some y) -> i ≠ j /\ ρ[j]? = some (some y):=fun j y z=>by
    by_cases hj:i = j
    · subst hj
      rw [List.getElem?_set] at z
      split at z
      · split at z <;> cases z
      · rename_i q; exact absurd rfl q
    · rw [List.getElem?_set_ne hj] at z
      exact ⟨hj,z⟩
  refine ⟨r.g,fun j w z=>?_,fun j k x y v hjk e1 e2 o1 o2 s1 s2=>?_,fun j xs z=>r.np j xs (nd j _ z).2,by simp [r.len]⟩
  · obtain ⟨hj,z'⟩:=nd j w z
    obtain ⟨v,h1,h2⟩:=r.sl j w z'
    exact ⟨v,by rw [List.getElem?_set_ne hj]; exact h1,h2⟩
  · obtain ⟨hj,z1⟩:=nd j x e1
    obtain ⟨hk,z2⟩:=nd k y e2
    rw [List.getElem?_set_ne hj] at s1
    rw [List.getElem?_set_ne hk] at s2
    exact r.ap j k x y v hjk z1 z2 o1 o2 s1 s2
noncomputable def vTry (i:Nat) (cs:List Str) (tb:VEnds -> XQ -> En -> Prop) (ts:TSv):TSv:=fun Dv ρ=>tb Dv (fun c fs=>c ∈ cs /\ ts ⟨fun ρ'=>Dv.nx (ρ'.set i none),Dv.rt,fun _=>False,fun _=>False⟩ ((List.replicate ρ.length none).set i (some (.xc c fs)))) ρ
section
variable {X:Cx} {rl:RlT} {tb:VEnds -> XQ -> En -> Prop} {ts:TSv} {st b₀:Stmt} {suite:List Stmt} {cb n:Str} {cs:List Str} {B:Addr} {np hpos pos:Pos}
abbrev Cx.caughtIn (X:Cx) (a:Addr):Cx:={ X with A:=X.A.mark (some (.ref a)),calm:=false,xe:=fun _ _=>False }
theorem Cx.Ok.caughtIn {X:Cx} (ok:X.Ok) (a:Addr):(Cx.caughtIn X a).Ok :=
  ⟨ok.mod,ok.kind,ok.glob,ok.blt,ok.above,ok.inj,ok.has,ok.cab,(fun z=>nomatch z),ok.frames,ok.stk,ok.exf,ok.bs,ok.bsz,ok.noex,ok.exfs,ok.funs,ok.frf⟩
theorem Inv.caughtIn {pins:List (Addr × Obj)} {σ:St} {H:Hp} {s:Shared} (I:Inv X pins σ H s) (a:Addr):Inv (Cx.caughtIn X a) pins σ H s:=⟨Cx.Ok.caughtIn I.ok a,I.os,I.bare,I.base,I.loc,I.cell,I.free,I.freeC,I.pin,I.hok,I.len⟩
theorem Inv.uncaught {pins:List (Addr × Obj)} {σ:St} {H:Hp} {s:Shared} {a:Addr} (ok:X.Ok) (I:Inv (Cx.caughtIn X a) pins σ H s):Inv X pins σ H s:=⟨ok,I.os,I.bare,I.base,I.loc,I.cell,I.free,I.freeC,I.pin,I.hok,I.len⟩
abbrev Cx.held (X:Cx) (pn:List (Addr × Obj)) (XE:Value -> Shared -> Prop):Cx:={ X with pn:=pn,xe:=XE }
theorem Inv.held {pins:List (Addr × Obj)} {σ:St} {H:Hp} {s:Shared} (I:Inv X pins σ H s) (XE:Value -> Shared -> Prop):Inv (Cx.held X (X.pn ++ pins) XE) [] σ H s:=by
  have ok:=I.ok
  exact ⟨⟨ok.mod,ok.kind,ok.glob,ok.blt,ok.above,ok.inj,ok.has,ok.cab,ok.hd,ok.frames,ok.stk,ok.exf,ok.bs,ok.bsz,ok.noex,ok.exfs,ok.funs,ok.frf⟩,I.os,I.bare,I.base,I.loc,I.cell,I.free,I.freeC,fun p hp=>I.pin p (by simpa using hp),I.hok,I.len⟩
theorem Inv.unheld {pins pins':List (Addr × Obj)} {σ:St} {H:Hp} {s:Shared} {XE:Value -> Shared -> Prop} (ok:X.Ok) (I:Inv (Cx.held X (X.pn ++ pins) XE) pins' σ H s):Inv X pins σ H s :=
  ⟨ok,I.os,I.bare,I.base,I.loc,I.cell,I.free,I.freeC,fun p hp=>I.pin p (List.mem_append_left _ hp),I.hok,I.len⟩
theorem vs_try (i:Nat) (hst:X.stack = X.env :: X.outer) (hfl:X.env.frame = some X.env.locals) (hN:X.N.Nodup) (hi:X.N[i]? = some n) (hn:X.env.scope.names.lookup n = some .local) (hmb:X.mg cb = some (.ref B))
    (hcs:∀ c ∈ cs,∀ C,W.nsIn X.K mainGlobals c = some (some (.ref C)) -> XOver X.K C B)
    (hb:∀ pn XE E,Passes (CXE X.prog X.w) (Cx.held X pn XE) E -> PSsE (Cx.held X pn XE) rl E [st] tb)
    (hs:∀ a:Addr,PSsV (Cx.caughtIn X a) rl (b₀ :: suite) ts) (hg:Gl X cb:=by rfl) (hdb:(cb == ("__debug__" : Str)) = false:=by decide) :
    PSV X rl (.Try [st] [.ExceptHandler (some (.Name cb np)) (some n) (b₀ :: suite) hpos] [] [] pos) (vTry i cs tb ts):=by
  refine ⟨fun D σ H=>∀ pins s,Inv X pins σ H s -> wpAny (model X.prog X.w) X.A (exec (.Try [st] [.ExceptHandler (some (.Name cb np)) (some n) (b₀ :: suite) hpos] [] [] pos) X.env) (SP X pins D) X.xe s,fun pins s σ H D I h=>h pins s I,fun {F₀ H₀ F H σ ρ} R Dv D ok q pins s I=>?_⟩
  refine wpAny_Try_except ?_
  generalize hXE:(fun e s₁=>wpAny (model X.prog X.w) X.A (noteFrame e X.env) (fun _ s₂=>wpAny (model X.prog X.w) X.A (setFlight e none) (fun _ s₃=>wpAny (model X.prog X.w) X.A (handleBy e X.env [.ExceptHandler (some (.Name cb np)) (some n) (b₀ :: suite) hpos]) (SP X pins D) X.xe s₃) X.xe s₂) X.xe s₁:Value -> Shared -> Prop) = XE
  have I':=Inv.held I XE
  generalize hQE:(fun c fs=>c ∈ cs /\ ts ⟨fun ρ'=>Dv.nx (ρ'.set i none),Dv.rt,fun _=>False,fun _=>False⟩ ((List.replicate ρ.length none).set i (some (.xc c fs))):XQ) = QE
  have q:tb Dv QE ρ:=by rw [<- hQE]; exact q
  let E:XK:=fun cls d H'=>∃ C dx F' us c fs,cls = .ref C /\ d = some dx /\ Grow rl F₀ H₀ F' H' /\ Same F F' /\ W.nsIn X.K mainGlobals c = some (some (.ref C)) /\ H' dx = some (.xd us) /\ H₀ dx = none /\ F' dx = none /\ KDs X.K F' us fs /\ QE c fs
  have pass:Passes (CXE X.prog X.w) (Cx.held X (X.pn ++ pins) XE) E:=by
    rintro pins2 σ2 H2 s2 e s' J ⟨a,C,dx,T,H',rfl,hos,bare,un,hok,air,na,nT,fa,fT,⟨C',dx',F',us,c,fs,eC,ed,g,smF,ns,hxd,hd0,fd0,kd,qe⟩⟩
    cases eC
    cases ed
    have okX:=I.ok
    have J0:Inv X pins σ2 H2 s2:=Inv.unheld okX J
    have J1:Inv X pins σ2 H' s':=J0.call' hos un hok bare (fun _ z=>nomatch z)
    have hfr:X.A.frames = some (X.env :: X.outer):=by rw [<- hst]; exact okX.frames
    have hst1:s'.heap.FunFrames X.base (X.env :: X.outer):=by rw [<- hst]; exact J1.stack
    show XE (.ref a) s'
    rw [<- hXE]
    refine noteX2 hfr hst1 hfl air fun h3 T' nT' air3 bt3=>flyX (s:={ s' with heap:=h3 }) air3 fun h4 air4 k4 t4=>?_
    rw [<- hst] at bt3
    have bt4:But (frs X.stack) [a,T,T'] s'.heap h4:=(bt3.more fun b z=>by simp at z; rcases z with z | z <;> simp [z]).trans ((fly_but k4 t4).more fun b z=>by simp at z; simp [z])
    have sT':s2.heap.get? T' = none:=by
      cases z:s2.heap.get? T' with
      | none=>rfl
      | some o=>obtain ⟨o',e'⟩:=un.there T' o z (fun y=>nomatch y); rw [nT'] at e'; cases e'
    have hT':H' T' = none:=by
      cases z:H' T' with
      | none=>rfl
      | some o=>obtain ⟨o',e'⟩:=objOk_there (hok T' o z); rw [nT'] at e'; cases e'
    have f1:∀ b ∈ [a,T,T'],s2.heap.get? b = none:=fun b z=>by
      simp at z
      rcases z with rfl | rfl | rfl
      · exact fa
      · exact fT
      · exact sT'
    have f2:∀ b ∈ [a,T,T'],H' b = none:=fun b z=>by
      simp at z
      rcases z with rfl | rfl | rfl
      · exact na
      · exact nT
      · exact hT'
    have J4:Inv X pins σ2 H' { s' with heap:=h4 }:=J0.call' hos (un_but un bt4 f1) (hok_but hok bt4 f2 J1.stkFree) bare (fun _ z=>nomatch z)
    have hq:c ∈ cs /\ ts ⟨fun ρ'=>Dv.nx (ρ'.set i none),Dv.rt,fun _=>False,fun _=>False⟩ ((List.replicate ρ.length none).set i (some (.xc c fs))):=by rw [<- hQE] at qe; exact qe
    obtain ⟨oe,vs,oT,tts,ea,ec,edx,ef,_⟩:=id air4
    refine wpAny_handleBy_cons (codeAny_handlers_test (ld_glob (Inv.caughtIn J4 a) hg hmb ?_ hdb)) (by intro z; cases z)
    refine excm_x J4.kIn (hcs c hq.1 C ns) ea ec ?_
    refine codeAny_handlers_suite_as (flyX (s:={ s' with heap:=h4 }) air4 fun h5 air5 k5 t5=>?_)
    have bt5:But (frs X.stack) [a,T,T'] s'.heap h5:=bt4.trans ((fly_but k5 t5).more fun b z=>by simp at z; simp [z])
    have J5:Inv X pins σ2 (upd H' a (.ext (ExcAt a C dx))) { s' with heap:=h5 } :=
      J0.call' hos (un_upd (un_but un bt5 f1) na fa) (hok_upd (hok_but hok bt5 f2 J1.stkFree) na (exc_ok air5)) bare (fun _ z=>nomatch z)
    have J6:Inv X pins (List.replicate σ2.length none) (upd H' a (.ext (ExcAt a C dx))) { s' with heap:=h5 }:=J5.weak (by simp) fun j v z=>by
      rw [List.getElem?_replicate] at z
      split at z <;> cases z
    refine store_ok J6 hN hi (.inl hn) (show RelV (.ref a) (.ref a) from rfl) (fun s7 J7=>?_) (.inr hn)
    obtain ⟨Ts,ps,ks⟩:=hs a
    have ned:dx ≠ a:=fun z=>by rw [z,na] at hxd; cases hxd
    have hla:H₀ a = none:=g.freeB na
    have Fa:F' a = none:=g.sub.free na
    have rld:rl.a ≠ some dx:=fun z=>by
      obtain ⟨_,⟨o2,e2,e3⟩⟩:=g.reel dx z
      rw [hxd] at e2
      cases e2
      exact ro_xd e3
    have g1:Grow rl F₀ H₀ (upd F' dx (.xd us)) H':=g.freeze hd0 hxd fd0 rld
    have g2:Grow rl F₀ H₀ (upd (upd F' dx (.xd us)) a (.ext (ExcAt a C dx))) (upd H' a (.ext (ExcAt a C dx))):=g1.trans (Grow.data g1.sub g1.reel na)
    have sm:Same F' (upd (upd F' dx (.xd us)) a (.ext (ExcAt a C dx))):=fun b o z=>by
      rw [upd_ne (ne_of_none z Fa),upd_ne (ne_of_none z fd0)]
      exact z
    have hlen : ρ.length = σ2.length:=by rw [R.len,I.len]; exact J0.len.symm
    have rx:RelW X.K rl (upd (upd F' dx (.xd us)) a (.ext (ExcAt a C dx))) (upd H' a (.ext (ExcAt a C dx))) (.ref a) (.xc c fs) :=
      ⟨a,dx,us,C,rfl,ns,upd_same,by rw [upd_ne ned,upd_same],Paired.mapP kd fun _ _ z=>⟨z.1,z.2.mono sm⟩⟩
    have R0:VR X.K rl F₀ H₀ (upd (upd F' dx (.xd us)) a (.ext (ExcAt a C dx))) (upd H' a (.ext (ExcAt a C dx))) (List.replicate σ2.length none) (List.replicate ρ.length none) :=
      ⟨g2,fun j w z=>(by rw [List.getElem?_replicate] at z; split at z <;> cases z),fun j k x y v _ z=>(by rw [List.getElem?_replicate] at z; split at z <;> cases z),fun j xs z=>(by rw [List.getElem?_replicate] at z; split at z <;> cases z),by simp [hlen]⟩
    have R7:=R0.set (Grow.refl R0.sub R0.reel) rx trivial (fun xs z=>nomatch z) i
    refine wpAny_mono (ps pins s7 _ _ ⟨fun σ' H6=>D.nx (σ'.set i none) H6,D.rt,fun _ _=>False,fun _ _=>False⟩ (Inv.caughtIn J7 a) (ks R7 ⟨fun ρ'=>Dv.nx (ρ'.set i none),Dv.rt,fun _=>False,fun _=>False⟩ _ ⟨fun F6 H6 σ6 ρ6 s6 R6 z=>ok.nx F6 H6 _ _ ((smF.trans sm).trans s6) (R6.unset i) z,ok.rt,fun _ _ _ _ _ _ z=>z,fun _ _ _ _ _ _ z=>z⟩ hq.2)) (fun fl s8 h8=>?_) fun _ _ z=>z.elim
    cases fl with
    | next =>
      obtain ⟨σ8,H8,J8,z⟩:=h8
      exact goes_ok (Inv.uncaught okX J8) hN hi hn fun s9 J9=>⟨_,H8,J9,z⟩
    | ret u =>
      obtain ⟨v,σ8,H8,J8,r8,z⟩:=h8
      exact goes_ok (Inv.uncaught okX J8) hN hi hn fun s9 J9=>⟨v,_,H8,J9,r8,z⟩
    | brk=>obtain ⟨_,_,_,z⟩:=h8; exact False.elim z
    | cont=>obtain ⟨_,_,_,z⟩:=h8; exact False.elim z
  obtain ⟨T',p',k'⟩:=hb (X.pn ++ pins) XE E pass
  refine wpAny_mono (p' [] s σ H D I' (k' R Dv D QE ok (fun c fs z C dx F' H' us g sm n hx hd fd kd=>⟨C,dx,F',us,c,fs,rfl,rfl,g,sm,n,hx,hd,fd,kd,z⟩) q)) (fun fl s1 h1=>?_) (fun e s1 z=>?_)
  · cases fl with
    | next =>
      obtain ⟨σ1,H1,J1,z⟩:=h1
      exact wpAny_execs_nil ⟨σ1,H1,Inv.unheld I.ok J1,z⟩
    | ret u =>
      obtain ⟨v,σ1,H1,J1,r1,z⟩:=h1
      exact ⟨v,σ1,H1,Inv.unheld I.ok J1,r1,z⟩
    | brk=>obtain ⟨σ1,H1,J1,z⟩:=h1; exact ⟨σ1,H1,Inv.unheld I.ok J1,z⟩
    | cont=>obtain ⟨σ1,H1,J1,z⟩:=h1; exact ⟨σ1,H1,Inv.unheld I.ok J1,z⟩
  · exact z
end
end L2.VL

namespace L2.VL
open PySem PySem.Spec PyProof.Rows
theorem kds_get {K:W.Frag} {F:Hp} {us:List (Str × V)} {fs:List (Str × PyData)} (r:KDs K F us fs) {n:Str} {d:PyData} (e:fs.lookup n = some d):∃ v,us.lookup n = some v /\ Rep K F v d:=by
  induction r with
  | nil=>cases e
  | @cons p q us fs h _ ih =>
    obtain ⟨k,v⟩:=p
    obtain ⟨k',d'⟩:=q
    obtain ⟨h1,h2⟩:=h
    dsimp only at h1 h2
    subst h1
    by_cases hk:(n == k) = true
    · simp only [List.lookup,hk] at e ⊢
      cases e
      exact ⟨v,rfl,h2⟩
    · simp only [List.lookup,Bool.not_eq_true _ ▸ hk] at e ⊢
      exact ih e
theorem xc_at {X:Cx} {pins:List (Addr × Obj)} {rl:RlT} {F₀ H₀ F H:Hp} {σ:St} {ρ:En} {s:Shared} {i:Nat} {c:Str} {fs:List (Str × PyData)} (I:Inv X pins σ H s) (R:VR X.K rl F₀ H₀ F H σ ρ) (e : ρ[i]? = some (some (.xc c fs))) :
    ∃ a dx us C,σ[i]? = some (some (.ref a)) /\ W.nsIn X.K mainGlobals c = some (some (.ref C)) /\ ExcAt a C dx s.heap /\ H dx = some (.xd us) /\ KDs X.K F us fs:=by
  obtain ⟨v,s1,⟨a,dx,us,C,ev,n,h1,h2,kd⟩,_⟩:=R.sl i _ e
  subst ev
  obtain ⟨z,_⟩:=(show ObjOk X.prog X.w H s.heap a (.ext (ExcAt a C dx)) from I.hok a _ (R.sub _ _ h1))
  exact ⟨a,dx,us,C,s1,n,z,R.sub _ _ h2,kd⟩
theorem exc_inst {P:Program} {w:World} {H:Hp} {h:Heap} {a C dx:Addr} {us:List (Str × V)} (z:ExcAt a C dx h) (ok:HOk P w H h) (e:H dx = some (.xd us)):∃ ox od,W.InstAt h a ox C (some od):=by
  obtain ⟨oe,vs,h1,h2,h3,h4⟩:=z
  obtain ⟨mA,⟨od,es,ep,ho,_⟩,_⟩:=(show ObjOk P w H h dx (.xd us) from ok dx _ e)
  exact ⟨oe,od,h1,h2,by unfold W.notCls; rw [h4],by rw [h3]; exact ho⟩
section
variable {X:Cx} {rl:RlT} {pos p p1:Pos} {c n x:Str}
noncomputable def vXf (i:Nat) (c n:Str):TV:=fun ρ Q=>∃ fs d,ρ[i]? = some (some (.xc c fs)) /\ fs.lookup n = some d /\ Q (.d d)
theorem v_xfld (i:Nat) (hx:∀ C,W.nsIn X.K mainGlobals c = some (some (.ref C)) -> XCls X.K C /\ NoAttr X.K C n) (hN:X.N[i]? = some x:=by rfl) (hv:Vis X.env.scope x:=by first | exact Or.inl rfl | exact Or.inr (Or.inl rfl) | exact Or.inr (Or.inr rfl))
    (hd:(x == ("__debug__" : Str)) = false:=by decide) (hcd:(x == ("__classdict__" : Str)) = false:=by decide) (hb:attributeBase (.Name x p1) n X.env (eval (.Name x p1) X.env) = eval (.Name x p1) X.env:=by rfl) :
    PV X rl (.Attribute (.Name x p1) n pos) (vXf i c n):=by
  refine ⟨fun σ H Q=>∀ pins s,Inv X pins σ H s -> wpAny (model X.prog X.w) X.A (eval (.Attribute (.Name x p1) n pos) X.env) (EP X pins σ Q) X.xe s,fun pins s σ H Q I h=>h pins s I,fun {F₀ H₀ F H σ ρ} R Qd Q ⟨fs,d,e,l,q⟩ k pins s I=>?_⟩
  obtain ⟨v,s1,⟨a,dx,us,C,ev,ns,h1,h2,kd⟩,_⟩:=R.sl i _ e
  subst ev
  obtain ⟨xc,na⟩:=hx C ns
  obtain ⟨v,lv,rv⟩:=kds_get kd l
  refine attr_of hb (thn (pe_var hN hv hd hcd pins s σ H (fun y H1=>y = .ref a /\ H1 = H) I ⟨_,s1,rfl,rfl⟩) fun u s2 ⟨y,H1,I1,ry,ey,eH⟩=>?_)
  subst ey eH
  obtain rfl:u = Value.ref a:=ry
  obtain ⟨⟨oe,vs,z1,z2,z3,z4⟩,_⟩:=(show ObjOk X.prog X.w H1 s2.heap a (.ext (ExcAt a C dx)) from I1.hok a _ (R.sub _ _ h1))
  obtain ⟨mA,hns,hr⟩:=(show ObjOk X.prog X.w H1 s2.heap dx (.xd us) from I1.hok dx _ (R.sub _ _ h2))
  obtain ⟨u,hu,ru⟩:=RelO.some_of (v:=v) (o:=mA n) (by rw [<- lv]; exact hr n)
  exact get_x I1.kIn xc.xc xc.ga xc.gh na z1 z2 z3 z4 hns hu (handed_of ru) ⟨v,H1,I1.tok _,ru,k v (.d d) F H1 (Grow.refl R.sub R.reel) rv trivial q⟩
noncomputable def vIsX (i:Nat) (c:Str) (b:Bool):TV:=fun ρ Q=>∃ fs,ρ[i]? = some (some (.xc c fs)) /\ Q (.d (.bool b))
theorem v_isx1 (i:Nat) {e2:Expr} {v:V} {u:Value} {b:Bool} (hm:X.mg "isinstance" = none) (hx:∀ C,W.nsIn X.K mainGlobals c = some (some (.ref C)) -> XCls X.K C /\ W.kitOne X.K (.ref C) u = some b) (h2:PE X e2 (tC v)) (hu:∀ u',RelV v u' -> u' = u)
    (hN:X.N[i]? = some x:=by rfl) (hv:Vis X.env.scope x:=by first | exact Or.inl rfl | exact Or.inr (Or.inl rfl) | exact Or.inr (Or.inr rfl)) (hd:(x == ("__debug__" : Str)) = false:=by decide) (hcd:(x == ("__classdict__" : Str)) = false:=by decide)
    (hg:Gl X "isinstance" := by rfl) (he:starEach [.Name x p1,e2] X.env = (false,eval (.Name x p1) X.env) :: starEach [e2] X.env:=by rfl) (he2:starEach [e2] X.env = (false,eval e2 X.env) :: starEach [] X.env:=by rfl) (hpl:(backTo pos (starEach [e2] X.env)).any (·.1) = false:=by rfl) :
    PV X rl (.Call (.Name "isinstance" p) [.Name x p1,e2] [] pos) (vIsX i c b):=by
  refine ⟨fun σ H Q=>∀ pins s,Inv X pins σ H s -> wpAny (model X.prog X.w) X.A (eval (.Call (.Name "isinstance" p) [.Name x p1,e2] [] pos) X.env) (EP X pins σ Q) X.xe s,fun pins s σ H Q I h=>h pins s I,fun {F₀ H₀ F H σ ρ} R Qd Q ⟨fs,e,q⟩ k pins s I=>?_⟩
  have pa:=pa_cons (pe_var (pos:=p1) hN hv hd hcd) (pa_cons h2 pa_nil he2) he
  obtain ⟨a,dx,us,C,s1,ns,z,ed,kd⟩:=xc_at I R e
  obtain ⟨xc,kit⟩:=hx C ns
  refine wpAny_Call_Name_kw (ld_blt I hg hm (show bootBuiltins "isinstance" = some (.builtin "isinstance") by rfl) ?_)
  refine PyProof.Rows.callWith_builtin1 (thn (pa pos pins s σ H (fun vs H1=>vs = [.ref a,v] /\ H1 = H) I ⟨_,s1,rfl,rfl⟩) fun us' s2 ⟨vs,H1,I1,r,ev,eH⟩=>?_) he hpl
  subst ev eH
  cases r with
  | cons r1 r2 =>
    cases r2 with
    | cons r2 r3 =>
      cases r3
      cases (show _ = Value.ref a from r1)
      cases hu _ r2
      obtain ⟨a',dx',us2,C',s1',ns',z',ed',kd'⟩:=xc_at I1 R e
      rw [s1] at s1'
      cases s1'
      rw [ns] at ns'
      cases ns'
      exact W.kia_one (kitx_x xc) I1.kIn (exc_inst z' I1.hok ed') kit (fun y=>nomatch y) fun tk=>⟨.bl b,H1,I1.tok tk,rfl,k (.bl b) (.d (.bool b)) F H1 (Grow.refl R.sub R.reel) (.bl b) trivial q⟩
theorem refs_of {Cs:List Addr}:∀ {l:List Value},Paired RelV (Cs.map V.ref) l -> l = Cs.map Value.ref:=by
  induction Cs with
  | nil=>intro l rv; cases rv; rfl
  | cons C0 Cs ih =>
    intro l rv
    cases rv with
    | cons r0 r' =>
      cases (show _ = Value.ref C0 from r0)
      rw [ih r']
      rfl
noncomputable def tVs (vs:List V):TA:=fun _ H Q=>Q vs H
theorem pcs_nil:PA X [] (tVs []):=pa_nil
theorem pcs_cons {y:Str} {B:Addr} {es:List Expr} {vs:List V} {py:Pos} (hm:X.mg y = some (.ref B)) (h:PA X es (tVs vs)) (hg:Gl X y:=by rfl) (hd:(y == ("__debug__" : Str)) = false:=by decide) (hs:starEach (.Name y py :: es) X.env = (false,eval (.Name y py) X.env) :: starEach es X.env:=by rfl) :
    PA X (.Name y py :: es) (tVs (.ref B :: vs)):=pa_cons (pe_glob (v:=.ref B) hg hm rfl hd) h hs
theorem v_isxT (i:Nat) {es:List Expr} {Cs:List Addr} {b:Bool} {x1} {tpos:Pos} (hm:X.mg "isinstance" = none) (hx:∀ C,W.nsIn X.K mainGlobals c = some (some (.ref C)) -> XCls X.K C /\ W.kitAny X.K (.ref C) (Cs.map Value.ref) = some b) (h2:PA X es (tVs (Cs.map V.ref))) (hz:Cs.length <= sizeLine)
    (hN:X.N[i]? = some x:=by rfl) (hv:Vis X.env.scope x:=by first | exact Or.inl rfl | exact Or.inr (Or.inl rfl) | exact Or.inr (Or.inr rfl)) (hd:(x == ("__debug__" : Str)) = false:=by decide) (hcd:(x == ("__classdict__" : Str)) = false:=by decide)
    (hg:Gl X "isinstance" := by rfl) (he:starEach [.Name x p1,.Tuple es x1 tpos] X.env = (false,eval (.Name x p1) X.env) :: starEach [.Tuple es x1 tpos] X.env:=by rfl) (he2:starEach [.Tuple es x1 tpos] X.env = (false,eval (.Tuple es x1 tpos) X.env) :: starEach [] X.env:=by rfl) (hpl:(backTo pos (starEach [.Tuple es x1 tpos] X.env)).any (·.1) = false:=by rfl) :
    PV X rl (.Call (.Name "isinstance" p) [.Name x p1,.Tuple es x1 tpos] [] pos) (vIsX i c b):=by
  refine ⟨fun σ H Q=>∀ pins s,Inv X pins σ H s -> wpAny (model X.prog X.w) X.A (eval (.Call (.Name "isinstance" p) [.Name x p1,.Tuple es x1 tpos] [] pos) X.env) (EP X pins σ Q) X.xe s,fun pins s σ H Q I h=>h pins s I,fun {F₀ H₀ F H σ ρ} R Qd Q ⟨fs,e,q⟩ k pins s I=>?_⟩
  have pa:=pa_cons (pe_var (pos:=p1) hN hv hd hcd) (pa_cons (pe_tup (x1:=x1) (pos:=tpos) h2) pa_nil he2) he
  obtain ⟨a,dx,us,C,s1,ns,z,ed,kd⟩:=xc_at I R e
  obtain ⟨xc,kit⟩:=hx C ns
  refine wpAny_Call_Name_kw (ld_blt I hg hm (show bootBuiltins "isinstance" = some (.builtin "isinstance") by rfl) ?_)
  refine PyProof.Rows.callWith_builtin1 (thn (pa pos pins s σ H (fun vs H1=>∃ t,vs = [.ref a,.ref t] /\ H t = none /\ H1 = upd H t (.tup (Cs.map V.ref))) I ⟨_,s1,by rw [List.length_map]; exact hz,fun t ht=>⟨t,rfl,ht,rfl⟩⟩) fun us' s2 ⟨vs,H1,I1,r,t,ev,ht,eH⟩=>?_) he hpl
  subst ev eH
  have g1:Grow rl F H F (upd H t (.tup (Cs.map V.ref))):=Grow.laid R.sub R.reel ht
  cases r with
  | cons r1 r2 =>
    cases r2 with
    | cons r2 r3 =>
      cases r3
      cases (show _ = Value.ref a from r1)
      cases (show _ = Value.ref t from r2)
      obtain ⟨a',dx',us2,C',s1',ns',z',ed',kd'⟩:=xc_at I1 (R.grow g1) e
      rw [s1] at s1'
      cases s1'
      rw [ns] at ns'
      cases ns'
      obtain ⟨_,its,rv,⟨⟨oc,od,oda,osl⟩,t1,t2,⟨m,t3⟩,t4⟩⟩:=(show ObjOk X.prog X.w _ s2.heap t (.tup (Cs.map V.ref)) from I1.hok t _ upd_same)
      dsimp only at t2 t3 t4
      subst t2 t3 t4
      have ei:its = Cs.map Value.ref:=refs_of rv
      subst ei
      exact W.kia_tup (kitx_x xc) I1.kIn (exc_inst z' I1.hok ed') t1 kit (fun y=>nomatch y) fun tk=>⟨.bl b,_,I1.tok tk,rfl,k (.bl b) (.d (.bool b)) F _ g1 (.bl b) trivial q⟩
end
end L2.VL

namespace L2.VL
open PySem PySem.Spec PyProof.Rows
structure XCl (K:W.Frag) (mg:Str -> Option Value) (c n b qual:Str) (st:Stmt) (ps os:List Str):Prop where
  ex:∃ C B f fd Cs,W.nsIn K mainGlobals c = some (some (.ref C)) /\ mg c = some (.ref C) /\ mg b = some (.ref B) /\ XMk K C f /\ NoAttr K C n /\ XOver K C B /\ Fun K "__init__" qual st f fd /\ Binds K fd ps [] /\ Paired (fun x D=>mg x = some (.ref D)) os Cs /\
    W.kitAny K (.ref C) (Cs.map Value.ref) = some false /\ W.kitOne K (.ref C) (.ref C) = some true /\ W.kitOne K (.ref C) (.type "ValueError") = some true /\ mg "ValueError" = none
theorem XCl.one {P:Program} {w:World} {K:W.Frag} {mg:Str -> Option Value} {base:Heap} {c n b qual:Str} {st:Stmt} {ps os:List Str} (x:XCl K mg c n b qual st ps os) (hi:∀ f fd,Fun K "__init__" qual st f fd -> FnOk P w K mg base CX0 1 f fd ps (spI K n)):∃ C,XOne P w K mg base c n C:=by
  obtain ⟨C,B,f,fd,Cs,h1,h2,h3,h4,h5,h6,h7,h8,_⟩:=x.ex
  exact ⟨C,h1,h2,h5,f,fd,ps,h4,h8,hi f fd h7⟩
noncomputable def xAll (K:W.Frag) (C B f:Addr) (n:Str) (Cs:List Addr):Bool :=
  xcIn K C && (W.findIn K (.ref C) "__setattr__" == some (some (.builtin "object.__setattr__"))) && (W.findIn K (.ref C) "__getattribute__" == some (some (.builtin "BaseException.__getattribute__"))) &&
  (W.findIn K (.ref C) "__getattr__" == some none) && (W.findIn K (.ref C) "__class__" == some (some (.builtin "object.__class__"))) && (W.specialIn K (.builtin "object.__class__") "__get__" == some (some (.builtin "getset_descriptor.__get__"))) &&
  (W.takesIn K (.builtin "object.__class__") == some true) && (W.mroIn K C (.type "object") == some true) && W.isFn K (.ref f) && W.keepIn K (.ref C) && (W.findIn K (.ref C) n == some none) &&
  (W.mroIn K C (.ref B) == some true) && (W.mroIn K B (.type "BaseException") == some true) && (W.typeIn K (.ref B) == some (.type "type")) &&
  (W.kitAny K (.ref C) (Cs.map Value.ref) == some false) && (W.kitOne K (.ref C) (.ref C) == some true) && (W.kitOne K (.ref C) (.type "ValueError") == some true)
theorem XCl.mk' {K:W.Frag} {mg:Str -> Option Value} {c n b qual:Str} {st:Stmt} {ps os:List Str} {C B f:Addr} {fd:FuncData} {Cs:List Addr} (h1:W.nsIn K mainGlobals c = some (some (.ref C))) (h2:mg c = some (.ref C)) (h3:mg b = some (.ref B))
    (hi:W.findIn K (.ref C) "__init__" = some (some (.ref f))) (hf:Fun K "__init__" qual st f fd) (hb:Binds K fd ps []) (ho:Paired (fun x D=>mg x = some (.ref D)) os Cs) (hv:mg "ValueError" = none) (hx:xAll K C B f n Cs = true):XCl K mg c n b qual st ps os:=by
  unfold xAll at hx
  simp only [Bool.and_eq_true,beq_iff_eq] at hx
  obtain ⟨⟨⟨⟨⟨⟨⟨⟨⟨⟨⟨⟨⟨⟨⟨⟨x1,x2⟩,x3⟩,x4⟩,x5⟩,x6⟩,x7⟩,x8⟩,x9⟩,x10⟩,x11⟩,x12⟩,x13⟩,x14⟩,x15⟩,x16⟩,x17⟩:=hx
  exact ⟨C,B,f,fd,Cs,h1,h2,h3,⟨⟨x1,x2,x3,x4,x5,x6,x7,x8⟩,hi,x9,x10⟩,x11,⟨x12,x13,x14⟩,hf,hb,ho,x15,x16,x17,hv⟩
theorem xif_t {f:TB} {x n:Str} {fs:TVs} {u:VEnds -> XQ -> En -> Prop} {D:VEnds} {R:XQ} {ρ:En} (d:PyData) (h:f ρ = VL.ret true) (hf:fs ρ = VL.ret [.d d]) (q:R x [(n,d)]):xIf f x n fs u D R ρ:=by
  show f ρ _
  rw [h]
  show fs ρ _
  rw [hf]
  exact ⟨d,rfl,q⟩
theorem xif_f {f:TB} {x n:Str} {fs:TVs} {u:VEnds -> XQ -> En -> Prop} {D:VEnds} {R:XQ} {ρ:En} (h:f ρ = VL.ret false) (q:u D R ρ):xIf f x n fs u D R ρ:=by
  show f ρ _
  rw [h]
  exact q
end L2.VL

namespace L2.VL
open PySem PySem.Spec PyProof.Rows
section
variable {X:Cx} {rl:RlT} {E:XK} {rest body:List Stmt} {t u:VEnds -> XQ -> En -> Prop} {pos:Pos}
end
section
variable {X:Cx} {rl:RlT}
end
end L2.VL

namespace L2
open PySem PySem.Spec PyProof.Rows
section
variable {M:Model} {A:Around} {env:Env} {outer:List Env} {base:Heap} {s:Shared} {L a T:Addr} {C:Value} {d:Option Addr} {Q:Unit -> Shared -> Prop} {E:Value -> Shared -> Prop}
theorem leaveX2 (hfr:A.frames = some (env :: outer)) (hl:s.heap.FunFrames base (env :: outer)) (hf:env.frame = some L) (b:Air s.heap a C d T .none)
    (h:∀ h' T',s.heap.get? T' = none -> Air h' a C d T' .none -> But (frs (env :: outer)) [a,T] s.heap h' -> Q () { s with heap:=h' }):wpAny M A (leaving env (.ref a)) Q E s:=by
  unfold leaving
  refine wpAny_bind (noteX2 hfr hl hf b fun h1 T' n1 air bt=>?_)
  refine flyX (s:={ s with heap:=h1 }) air fun h2 air2 k2 t2=>h h2 T' n1 air2 ?_
  have b2:But (frs (env :: outer)) [T'] h1 h2:=fly_but k2 t2
  have nt:∀ c o,s.heap.get? c = some o -> c ∉ [T']:=fun c o e z=>by
    have:c = T':=by simpa using z
    subst this
    rw [n1] at e
    cases e
  exact ⟨fun c o n m e=>b2.keep c o (nt c o e) m (bt.keep c o n m e),fun c o n m e=>by
    obtain ⟨sl,e1⟩:=bt.slot c o n m e
    exact b2.slot c _ (nt c o e) m e1 |>.imp fun sl' e2=>e2,fun c o e=>by obtain ⟨o1,e1⟩:=bt.there c o e; exact b2.there c o1 e1⟩
end
section
variable {P:Program} {w:World} {K:W.Frag} {mg:Str -> Option Value} {base:Heap} {N:List Str} {qual:Str} {scope:Scope} {f:Addr} {cd:Value} {A:Around} {outer:List Env} {s:Shared} {H:Hp} {E:XK}
theorem pass_on:Passes (CXE P w) (cxOf (CXE P w) P w K mg base N qual scope f cd A outer s H E) E:=by
  rintro pins σ H1 s1 e s' I ⟨a,C,dx,T,H',rfl,hos,bare,un,hok,air,na,nT,fa,fT,q⟩
  have I1:=I.call' hos un hok bare (fun _ z=>nomatch z)
  have B:=I1.base
  have B0:=I.base
  have old:∀ b,s1.heap.get? b = none -> s.heap.get? b = none:=fun b n=>by
    cases z:s.heap.get? b with
    | none=>rfl
    | some o=>obtain ⟨o',e'⟩:=B0.there b o z (fun y=>nomatch y); rw [n] at e'; cases e'
  have fra:=old a fa
  have frT:=old T fT
  refine leaveX2 I1.ok.frames I1.stack rfl air fun h' T' nT' air' bt=>?_
  have nea:∀ b o,s.heap.get? b = some o -> b ∉ [a,T]:=fun b o e z=>by
    simp at z
    rcases z with z | z
    · rw [z,fra] at e; cases e
    · rw [z,frT] at e; cases e
  have nfr:∀ b o,s.heap.get? b = some o -> b ∉ frs outer -> b ∉ frs (envOfC qual scope s.heap.objs.size f cd :: outer):=fun b o e n z=>by
    unfold frs at z
    rw [List.filterMap_cons] at z
    rcases List.mem_cons.mp z with y | y
    · exact absurd (Heap.lt_size e) (by rw [y]; exact Nat.lt_irrefl _)
    · exact n y
  have infr:∀ b,b ∈ frs outer -> b ∈ frs (envOfC qual scope s.heap.objs.size f cd :: outer):=fun b z=>by
    unfold frs
    rw [List.filterMap_cons]
    exact List.mem_cons_of_mem _ z
  refine ⟨a,C,dx,T',H',rfl,I1.os,I1.bare,⟨fun b o e n m _=>?_,fun b o e n m _=>?_,fun b o e n _=>?_,fun b o e _=>?_,fun b xs e=>?_,fun b o u e=>?_,fun b ps e=>?_⟩,?_,air',na,?_,fra,?_,q⟩
  · exact bt.keep b o (nea b o e) (nfr b o e m) (B.keep b o e n m (fun z=>nomatch z))
  · obtain ⟨sl,e2⟩:=B.slot b o e n m (fun z=>nomatch z)
    obtain ⟨sl',e3⟩:=bt.slot b _ (nea b o e) (infr b m) e2
    exact ⟨sl',e3⟩
  · exact B.free b o e n (fun z=>nomatch z)
  · obtain ⟨o1,e2⟩:=B.there b o e (fun z=>nomatch z)
    exact bt.there b o1 e2
  · exact B.tups b xs e
  · exact B.frzs b o u e
  · exact B.tbls b ps e
  · exact hok_but hok bt (fun b z=>by
      simp at z
      rcases z with rfl | rfl
      · exact na
      · exact nT) I1.stkFree
  · cases z:H' T' with
    | none=>rfl
    | some o=>obtain ⟨o',e'⟩:=objOk_there (hok T' o z); rw [nT'] at e'; cases e'
  · cases z:s.heap.get? T' with
    | none=>rfl
    | some o=>obtain ⟨o',e'⟩:=B.there T' o z (fun y=>nomatch y); rw [nT'] at e'; cases e'
end
namespace VL
noncomputable def XD (X:Cx) (rl:RlT) (E:XK) (e:Expr) (f:En -> XQ -> Prop):Prop:=∃ t,PE X e t /\ ∀ {F₀ H₀ F H:Hp} {σ:St} {ρ:En},VR X.K rl F₀ H₀ F H σ ρ -> ∀ (QE:XQ) (Q:VK),XLink X.K rl F₀ H₀ F E QE -> f ρ QE -> t σ H Q
noncomputable def XDs (X:Cx) (rl:RlT) (E:XK) (es:List Expr) (f:En -> XQ -> Prop):Prop:=∃ t,PA X es t /\ ∀ {F₀ H₀ F H:Hp} {σ:St} {ρ:En},VR X.K rl F₀ H₀ F H σ ρ -> ∀ (QE:XQ) (Q:List V -> Hp -> Prop),XLink X.K rl F₀ H₀ F E QE -> f ρ QE -> t σ H Q
noncomputable def xdC (Pd:List W -> (PyData -> Prop) -> XQ -> Prop) (fs:TVs):En -> XQ -> Prop:=fun ρ QE=>fs ρ fun ws=>ws.all argOk = true /\ Pd ws (fun _=>False) QE
noncomputable def xdN (fa:TV) (f:En -> XQ -> Prop):En -> XQ -> Prop:=fun ρ QE=>fa ρ fun _=>f ρ QE
noncomputable def xDead (f:En -> XQ -> Prop):VEnds -> XQ -> En -> Prop:=fun _ QE ρ=>f ρ QE
noncomputable def xIte (f:TB) (t u:VEnds -> XQ -> En -> Prop):VEnds -> XQ -> En -> Prop:=fun Dv QE ρ=>f ρ fun b=>if b = true then t Dv QE ρ else u Dv QE ρ
noncomputable def xRet1 (Pg:List W -> (PyData -> Prop) -> Prop) (Pf:List W -> (PyData -> Prop) -> XQ -> Prop) (fs:TVs):VEnds -> XQ -> En -> Prop:=fun Dv QE ρ=>fs ρ fun ws=>ws.all argOk = true /\ Pf ws (fun d=>Pg [.d d] fun d'=>Dv.rt (.d d')) QE
section
variable {X:Cx} {rl:RlT} {E:XK} {e a b c:Expr} {es:List Expr} {fs:TVs} {fa:TV} {f:En -> XQ -> Prop} {fb:TB} {t u:VEnds -> XQ -> En -> Prop} {pos p:Pos} {rest A B body:List Stmt}
theorem pa_never:PA X es (fun _ _ _=>False):=fun _ _ _ _ _ _ _ h=>h.elim
theorem pe_never:PE X e (fun _ _ _=>False):=fun _ _ _ _ _ _ h=>h.elim
theorem xd_call {x:Str} {ps:List Str} {k:Nat} {Pd:List W -> (PyData -> Prop) -> XQ -> Prop} (hx:Passes (CXE X.prog X.w) X E) (D:DfnE X.prog X.w X.K X.mg X.base rl x ps k Pd) (hr:Room k X.A) (ha:PVs X rl (e :: es) fs) (hg:Gl X x:=by rfl)
    (hdb:(x == ("__debug__" : Str)) = false:=by decide) (he:starEach (e :: es) X.env = (false,eval e X.env) :: starEach es X.env:=by rfl) (hpl:(backTo pos (starEach es X.env)).any (·.1) = false:=by rfl) :
    XD X rl E (.Call (.Name x p) (e :: es) [] pos) (xdC Pd fs):=by
  obtain ⟨f,fd,hm,hk,hb,F⟩:=D.ex
  obtain ⟨t,p1,kk⟩:=ha
  refine ⟨_,pe_call (ds:=[]) (dvs:=[]) F hr hg hm hk hb .nil hx p1 hdb he hpl,fun {F₀ H₀ F H σ ρ} R QE Q l q=>kk R _ _ q fun vs ws F1 H1 g1 r1 ⟨ao,q1⟩=>?_⟩
  refine ⟨F1,ws,g1.sub,g1.reel,by rw [List.append_nil]; exact r1,ao,?_⟩
  refine D.mono ws _ _ _ _ (fun d qd=>qd.elim) (fun c fs z C dx F' H' us g sm n hd nd fd kd=>?_) q1
  exact l c fs z C dx F' H' us ((R.g.trans g1).trans g) (g1.fs.trans sm) n hd ((R.g.trans g1).freeB nd) fd kd
theorem xds_here (h:XD X rl E e f) (hs:starEach (e :: es) X.env = (false,eval e X.env) :: starEach es X.env:=by rfl):XDs X rl E (e :: es) f:=by
  obtain ⟨t,p,k⟩:=h
  exact ⟨_,pa_cons p pa_never hs,fun R QE Q l q=>k R QE _ l q⟩
theorem xds_next (h1:PV X rl e fa) (h2:XDs X rl E es f) (hs:starEach (e :: es) X.env = (false,eval e X.env) :: starEach es X.env:=by rfl):XDs X rl E (e :: es) (xdN fa f):=by
  obtain ⟨t1,p1,k1⟩:=h1
  obtain ⟨t2,p2,k2⟩:=h2
  exact ⟨_,pa_cons p1 p2 hs,fun R QE Q l q=>k1 R _ _ q fun v w F1 H1 g1 r1 n1 q1=>k2 (R.grow g1) QE _ (XLink.on l g1.fs) q1⟩
theorem xd_use {x:Str} {ps:List Str} {k:Nat} {Pd:List W -> (PyData -> Prop) -> Prop} (D:Dfn X.prog X.w X.K X.mg X.base rl x ps k Pd) (hr:Room k X.A) (ha:XDs X rl E (e :: es) f) (hg:Gl X x:=by rfl)
    (hdb:(x == ("__debug__" : Str)) = false:=by decide) (he:starEach (e :: es) X.env = (false,eval e X.env) :: starEach es X.env:=by rfl) (hpl:(backTo pos (starEach es X.env)).any (·.1) = false:=by rfl) :
    XD X rl E (.Call (.Name x p) (e :: es) [] pos) f:=by
  obtain ⟨f',fd,hm,hk,hb,F⟩:=D.ex
  obtain ⟨t,p1,kk⟩:=ha
  exact ⟨_,pe_call (ds:=[]) (dvs:=[]) F hr hg hm hk hb .nil pass0 p1 hdb he hpl,fun R QE Q l q=>kk R QE _ l q⟩
theorem xd_ty {x:Str} {T:String} (hm:X.mg x = none) (hv:bootBuiltins x = some (.type T)) (ha:XDs X rl E (e :: es) f) (hg:Gl X x:=by rfl) (hn:x ≠ "__name__" := by decide)
    (hdb:(x == ("__debug__" : Str)) = false:=by decide) (he:starEach (e :: es) X.env = (false,eval e X.env) :: starEach es X.env:=by rfl) (hpl:(backTo pos (starEach es X.env)).any (·.1) = false:=by rfl) :
    XD X rl E (.Call (.Name x p) (e :: es) [] pos) f:=by
  obtain ⟨t,p1,kk⟩:=ha
  exact ⟨_,pe_callTy (r:=fun _ _ _=>False) (fun _ _ _ _ _ _ _ _ _ h=>h.elim) hg hm hv p1 hn hdb he hpl,fun R QE Q l q=>kk R QE _ l q⟩
theorem xd_ix (ha:XD X rl E a f) (hs:PlainIx b:=by exact fun _ _=>rfl):XD X rl E (.Subscript a b pos) f:=by
  obtain ⟨t,p1,kk⟩:=ha
  exact ⟨_,pe_ix ix_seq p1 pe_never hs,fun R QE Q l q=>kk R QE _ l q⟩
theorem e_retD (h:XD X rl E e f):PSsE X rl E (.Return (some e) pos :: rest) (xDead f):=by
  obtain ⟨t,p1,kk⟩:=h
  exact ⟨_,pss_cons (ps_ret p1) pss_never,fun R Dv D QE ok l q=>kk R QE _ l q⟩
theorem e_ifD (h:XD X rl E c f) (he:∀ whole,isTrue c X.env whole = (do let v <- whole; standAt c.pos; holding [v] (truthy v)):=by intro _; rfl):PSsE X rl E (.If c A B pos :: rest) (xDead f):=by
  obtain ⟨t,p1,kk⟩:=h
  exact ⟨_,pss_cons (ps_if (pt_val p1 he) pss_never pss_never) pss_never,fun R Dv D QE ok l q=>kk R QE _ l q⟩
theorem e_setD (i:Nat) {y:Str} {pos':Pos} (hN:X.N.Nodup) (h:XD X rl E e f) (hi:X.N[i]? = some y:=by rfl) (hy:Loc X.env.scope y:=by first | exact Or.inl rfl | exact Or.inr rfl)
    (hs:swapsWith e (some (.Name y pos')) pos.line X.env = pure false:=by rfl) (hf:X.fn y = true \/ X.env.scope.names.lookup y = some .local:=by first | exact .inl rfl | exact .inr rfl) :
    PSsE X rl E (.Assign [.Name y pos'] e pos :: rest) (xDead f):=by
  obtain ⟨t,p1,kk⟩:=h
  exact ⟨_,pss_cons (ps_set hN hi hy p1 hs hf) pss_never,fun R Dv D QE ok l q=>kk R QE _ l q⟩
theorem ps_forD {tg iter:Expr} {t:TE} (h:PE X iter t) (hs:∀ x,foldedSetIterable iter X.env x = pure x:=by intro _; rfl):PS X (.For tg iter body [] pos) (fun _ σ H=>t σ H fun _ _=>False):=by
  intro pins s σ H D I h'
  exact wpAny_For (thn (h pins s σ H _ I h') fun v s1 ⟨x,H1,I1,r1,q1⟩=>q1.elim) hs
theorem e_forD {tg iter:Expr} (h:XD X rl E iter f) (hs:∀ x,foldedSetIterable iter X.env x = pure x:=by intro _; rfl):PSsE X rl E (.For tg iter body [] pos :: rest) (xDead f):=by
  obtain ⟨t,p1,kk⟩:=h
  exact ⟨_,pss_cons (ps_forD p1 hs) pss_never,fun R Dv D QE ok l q=>kk R QE _ l q⟩
theorem e_ite (hc:PB X rl c fb) (ha:PSsE X rl E A t) (hb:PSsE X rl E B u):PSsE X rl E [.If c A B pos] (xIte fb t u):=by
  obtain ⟨t0,p0,k0⟩:=hc
  obtain ⟨t1,p1,k1⟩:=ha
  obtain ⟨t2,p2,k2⟩:=hb
  refine ⟨_,pss_one (ps_if p0 p1 p2),fun R Dv D QE ok l q=>k0 R _ _ q fun b F1 H1 g1 q1=>?_⟩
  cases b with
  | true=>exact k1 (R.grow g1) Dv D QE (ok.on g1.fs) (XLink.on l g1.fs) q1
  | false=>exact k2 (R.grow g1) Dv D QE (ok.on g1.fs) (XLink.on l g1.fs) q1
theorem e_ret1 {x y:Str} {ps ps':List Str} {k k':Nat} {Pg:List W -> (PyData -> Prop) -> Prop} {Pf:List W -> (PyData -> Prop) -> XQ -> Prop} {pos' rpos p':Pos} (hx:Passes (CXE X.prog X.w) X E) (Dg:Dfn X.prog X.w X.K X.mg X.base rl y ps' k' Pg) (hr':Room k' X.A)
    (Df:DfnE X.prog X.w X.K X.mg X.base rl x ps k Pf) (hr:Room k X.A) (ha:PVs X rl (e :: es) fs) (hg:Gl X x:=by rfl) (hg':Gl X y:=by rfl)
    (hdb:(x == ("__debug__" : Str)) = false:=by decide) (hdb':(y == ("__debug__" : Str)) = false:=by decide) (he:starEach (e :: es) X.env = (false,eval e X.env) :: starEach es X.env:=by rfl) (hpl:(backTo pos (starEach es X.env)).any (·.1) = false:=by rfl)
    (he':starEach [.Call (.Name x p) (e :: es) [] pos] X.env = (false,eval (.Call (.Name x p) (e :: es) [] pos) X.env) :: starEach [] X.env:=by rfl) (hpl':(backTo pos' (starEach [] X.env)).any (·.1) = false:=by rfl) :
    PSsE X rl E [.Return (some (.Call (.Name y p') [.Call (.Name x p) (e :: es) [] pos] [] pos')) rpos] (xRet1 Pg Pf fs):=by
  obtain ⟨f,fd,hm,hk,hb,F⟩:=Df.ex
  obtain ⟨g,gd,hm',hk',hb',G⟩:=Dg.ex
  obtain ⟨t,p1,kk⟩:=ha
  refine ⟨_,pss_one (ps_ret (pe_call (ds:=[]) (dvs:=[]) G hr' hg' hm' hk' hb' .nil pass0 (pa_cons (pe_call (ds:=[]) (dvs:=[]) F hr hg hm hk hb .nil hx p1 hdb he hpl) pa_nil he') hdb' he' hpl')),fun {F₀ H₀ F H σ ρ} R Dv D QE ok l q=>kk R _ _ q fun vs ws F1 H1 g1 r1 ⟨ao,q1⟩=>?_⟩
  refine ⟨F1,ws,g1.sub,g1.reel,by rw [List.append_nil]; exact r1,ao,?_⟩
  refine Df.mono ws _ _ _ _ (fun d qd v F2 H2 g2 r2=>?_) (fun c fs z C dx F' H' us g sm n hd nd fd kd=>?_) q1
  · exact ⟨F2,[.d d],g2.sub,g2.reel,.cons r2 .nil,rfl,Dg.mono _ _ _ (fun d' qd' v' F3 H3 g3 r3=>ok.rt v' (.d d') F3 H3 (((R.g.trans g1).trans g2).trans g3) r3 trivial qd') qd⟩
  · exact l c fs z C dx F' H' us ((R.g.trans g1).trans g) (g1.fs.trans sm) n hd ((R.g.trans g1).freeB nd) fd kd
end
section
variable {t:TSv} {u v:VEnds -> XQ -> En -> Prop} {D:VEnds} {R:XQ} {ρ ρ':En} {fs:TVs} {fa:TV} {fb:TB} {f:En -> XQ -> Prop} {ws:List W}
theorem xseq_r (h:mS t ρ = VL.ret (.nx ρ')) (q:u D R ρ'):xSeq t u D R ρ:=by
  have e:mS t ρ (fun fl=>match fl with | .nx ρ=>u D R ρ | .rt w=>D.rt w | .bk ρ=>D.bk ρ | .ct ρ=>D.ct ρ):=by rw [h]; exact q
  exact e
theorem xdC_r {Pd:List W -> (PyData -> Prop) -> XQ -> Prop} (h:fs ρ = VL.ret ws) (ao:ws.all argOk = true) (q:Pd ws (fun _=>False) R):xdC Pd fs ρ R:=by
  unfold xdC
  rw [h]
  exact ⟨ao,q⟩
theorem xdN_r {w:W} (h:fa ρ = VL.ret w) (q:f ρ R):xdN fa f ρ R:=by
  unfold xdN
  rw [h]
  exact q
theorem xIte_r {b:Bool} (h:fb ρ = VL.ret b) (q:if b = true then u D R ρ else v D R ρ):xIte fb u v D R ρ:=by
  unfold xIte
  rw [h]
  exact q
theorem xRet1_r {Pg:List W -> (PyData -> Prop) -> Prop} {Pf:List W -> (PyData -> Prop) -> XQ -> Prop} (h:fs ρ = VL.ret ws) (ao:ws.all argOk = true) (q:Pf ws (fun d=>Pg [.d d] fun d'=>D.rt (.d d')) R):xRet1 Pg Pf fs D R ρ:=by
  unfold xRet1
  rw [h]
  exact ⟨ao,q⟩
theorem xSet_r {i:Nat} {Pd:List W -> (PyData -> Prop) -> XQ -> Prop} (h:fs ρ = VL.ret ws) (ao:ws.all argOk = true) (q:Pd ws (fun d=>D.nx (ρ.set i (some (.d d)))) R):xSet i Pd fs D R ρ:=by
  unfold xSet
  rw [h]
  exact ⟨ao,q⟩
end
end VL
end L2

namespace K22
open PySem PySem.Spec PyProof.Rows L2 L2.VL
local macro_rules | `(tactic| simp_arith only [$xs,*])=>`(tactic| simp (maxSteps:=2000000) (disch:=(first | assumption | omega | decide)) only [BMON0,BITE0,BEXP0,BEXP1,BEXP2,BSTM0,BSTM1,BPRJ0,BPRJ1,BPRJ2,BLST0,BLST1,zipO,slI,slM,kindB,startV,frEn,W.cap,lpQ,List.replicate,id,↓reduceIte,if_true,Nat.reduceAdd,Nat.reduceSub,Nat.reduceLeDiff,Int.cast_ofNat_Int,Int.reduceBEq,Int.reduceSub,Int.reduceAdd,Int.reduceLT,Int.reduceLE,Int.reduceMul,Int.reduceNeg,reduceCtorEq,isNonD,$xs,*])
local macro_rules | `(tactic| simp_arith only [$xs,*] at $h:ident)=>`(tactic| simp only [List.cons.injEq,W.d.injEq,PyData.int.injEq,PyData.bool.injEq,PyData.str.injEq,PyData.list.injEq,PyData.tuple.injEq,tupI_inj,lstI_inj,tupT_inj,map_int_inj,and_true,true_and,reduceCtorEq,$xs,*] at $h:ident)
section
variable {P:Program} {w:World} {K:PySem.W.Frag} {mg:Str -> Option Value} {base:Heap} {rl:RlT}
noncomputable def preF (ws:List W):Prop:=∃ ns:List Int,ws = [.sc ns] /\ ns.length <= 63
theorem preF.eq {ns:List Int} (h:ns.length <= 63):preF [.sc ns] = True:=propext ⟨fun _=>trivial,fun _=>⟨ns,rfl,h⟩⟩
theorem sq_any {α:Type} {m:Mo Fl} {k:En -> Mo Fl} {Q:Fl -> Prop} (P : α -> Prop) (g : α -> Fl) (h:∀ Q':Fl -> Prop,(∀ a,P a -> Q' (g a)) -> m Q') (fin:∀ a,P a -> sq (VL.ret (g a)) k Q):sq m k Q:=h _ fun a ha=>fin a ha
theorem cutS {α:Type} (xs:List α) (f : α -> PyData) (k:Nat):VL.cutD (xs.map f) none (some (k:Int)) = (xs.take k).map f:=by
  unfold VL.cutD
  rw [HT.sIx_none,HT.sIx_nat,List.drop_zero,List.length_map,Nat.sub_zero,<- List.map_take]
  congr 1
  by_cases z:k <= xs.length
  · rw [Nat.min_eq_left z]
  · rw [Nat.min_eq_right (by omega),List.take_of_length_le (by omega),List.take_of_length_le (by omega)]
theorem sc__law_feed:FnScope ["_law_script"] ["_law_script"] (defScope (top 72)):=⟨rfl,rfl,rfl,by decide +kernel,rfl,by decide +kernel,by decide +kernel⟩
theorem d__law_feed (Fn:FnIn K mg "_law_feed" (top 72) ["_law_script"]) (Z:Bz mg):DfnR P w K mg base "_law_feed" ["_law_script"] 2 preF:=by
  have sc:=sc__law_feed
  obtain ⟨f,fd,hm,F,hb⟩:=Fn.ex
  refine ⟨f,fd,hm,F.kp,hb,?_⟩
  refine F.ok (k:=1) sc (fun vs H Q E h=>?_) (fun cdv A outer s H vs Q E hr h=>?_)
  · obtain ⟨F,ws,_,r,_,⟨ns,rfl,_⟩,_⟩:=h
    have:=Paired.length r
    simpa using this
  · obtain ⟨F,ws,sm,r,ao,⟨ns,rfl,hn⟩,fin⟩:=h
    obtain ⟨T,p,kk⟩:=feed_body (X:=(cxOf CX0 P w K mg base ["_law_script"] "_law_feed" (defScope (top 72)) f cdv A outer s H E).nox) (v_listof Z.list_ (pvs_cons (v_slSc (vn 0) vo_none (vo_some pv_int)) pvs_nil))
    refine ⟨T,p,kk (vr_start sm (fun _ z=>by cases z) r ao) _ ?_ fin⟩
    simp_arith only [len_ok]
    exact ⟨ns.take 63,by rw [show (63:Int) = ((63:Nat):Int) from rfl,cutS],by rw [List.length_take]; omega⟩
noncomputable def p__law_draw:List W -> (PyData -> Prop) -> Prop:=fun ws Q=>∃ (m:Int),ws = [.reel,.d (.int m)] /\ ((0 < m) /\ (m < 2 ^ 60)) /\ ∀ k:Int,(0 <= k /\ k < m) -> Q (.int k)
theorem p__law_draw.mono:∀ ws (Q Q':PyData -> Prop),(∀ d,Q d -> Q' d) -> p__law_draw ws Q -> p__law_draw ws Q':=fun _ _ _ h_=>Exists.imp fun _=>And.imp_right (And.imp_right fun q_ o_ ho_=>h_ _ (q_ o_ ho_))
theorem p__law_draw.len:∀ ws (Q:PyData -> Prop),p__law_draw ws Q -> ws.length = 2:=fun _ _ h_=>by obtain ⟨_,e_,_⟩:=h_; subst e_; rfl
theorem p__law_draw.eq (m:Int) (hm : 0 < m) (hb:m < 2 ^ 60):p__law_draw [.reel,.d (.int m)] = bnd (anyM fun k:Int=>0 <= k /\ k < m) fun k=>VL.ret (.int k:PyData):=by
  refine mo_ext fun Q=>⟨?_,fun q_=>⟨m,rfl,⟨hm,hb⟩,q_⟩⟩
  rintro ⟨m',e_,_,q_⟩
  simp_arith only [and_true] at e_
  obtain rfl:=e_
  exact q_
theorem sc__law_draw:FnScope ["_law_feed_here", "_law_many", "_law_found", "_law_spot", "_law_cell", "_law_mixed"] ["_law_feed_here", "_law_many"] (defScope (top 73)):=⟨rfl,rfl,rfl,by decide +kernel,rfl,by decide +kernel,by decide +kernel⟩
theorem d__law_draw (Fn:FnIn K mg "_law_draw" (top 73) ["_law_feed_here", "_law_many"]) (Z:Bz mg)    : Dfn P w K mg base rl "_law_draw" ["_law_feed_here", "_law_many"] 1 p__law_draw:=by
  have sc:=sc__law_draw
  refine Dfn.of Fn sc (p__law_draw.mono) (p__law_draw.len) (fun cdv A outer s H E hr=>(vs_cons (vs_rput (i:=0) (hr.mono (Nat.zero_le _)) (.inr (.inr rfl)) (v_add (v_rget (i:=0) (hr.mono (Nat.zero_le _)) (.inr (.inr rfl))) pv_int))
      (vs_cons (vs_if (vb_cmp op_gt vo_gt (nomark _) (v_rget (i:=0) (hr.mono (Nat.zero_le _)) (.inr (.inl rfl))) pv_int) (vs_cons (vs_setZ 2 sc.nd (v_mod (v_rget (i:=0) (hr.mono (Nat.zero_le _)) (.inr (.inl rfl))) (vn 1)))
      (vs_cons (vs_rput (i:=0) (hr.mono (Nat.zero_le _)) (.inr (.inl rfl)) (v_div (v_rget (i:=0) (hr.mono (Nat.zero_le _)) (.inr (.inl rfl))) (vn 1)))
      (vs_one (vs_ret (vn 2))))) vs_nil)
      (vs_cons (vs_setZ 3 sc.nd (v_rget (i:=0) (hr.mono (Nat.zero_le _)) (.inl rfl)))
      (vs_cons (vs_rput (i:=0) (hr.mono (Nat.zero_le _)) (.inl rfl) (v_add (vn 3) pv_int))
      (vs_cons (vs_setZ 4 sc.nd pv_int)
      (vs_cons (vs_if (vb_cmp (op_neD hr.units) vo_eqD (nomark _) (v_rcells (i:=0) (hr.mono (Nat.zero_le _))) (v_lst pvs_nil)) (vs_one (vs_setZ 4 sc.nd (v_ix (v_rcells (i:=0) (hr.mono (Nat.zero_le _))) (v_mod (vn 3) (v_len Z.len_ (pvs_cons (v_rcells (i:=0) (hr.mono (Nat.zero_le _))) pvs_nil)))))) vs_nil)
      (vs_cons (vs_if (PBW.pb (vb_and (vb_cmp op_ge vo_ge (nomark _) (vn 4) (v_pow pv_int pv_int)) (vb_and1 (vb_cmp op_lt vo_lt (nomark _) (vn 3) (v_len Z.len_ (pvs_cons (v_rcells (i:=0) (hr.mono (Nat.zero_le _))) pvs_nil)))))) (vs_cons (vs_rput (i:=0) (hr.mono (Nat.zero_le _)) (.inr (.inl rfl)) (v_div (vn 4) (vn 1)))
      (vs_one (vs_ret (v_mod (vn 4) (vn 1))))) vs_nil)
      (vs_cons (vs_setZ 5 sc.nd (v_mod (v_mul (v_add (v_add (v_mod (vn 4) pv_int) (v_mul pv_int (v_rget (i:=0) (hr.mono (Nat.zero_le _)) (.inr (.inr rfl))))) pv_int) pv_int) pv_int))
      (vs_cons (vs_setZ 5 sc.nd (v_mod (v_mul (v_add (v_div (vn 5) pv_int) (v_mul pv_int (v_rget (i:=0) (hr.mono (Nat.zero_le _)) (.inr (.inr rfl))))) pv_int) pv_int))
      (vs_one (vs_ret (v_mod (v_div (vn 5) pv_int) (vn 1)))))))))))))) ?_
  rintro ws Q ⟨m,rfl,⟨hm,hb⟩,hQ⟩
  have hm0:m ≠ 0:=by omega
  have hmd:∀ i:Int,CDivB i m:=fun i=>CDivB.of hm0 (by omega)
  have hnn:∀ i:Int,0 <= i -> 0 <= i.fdiv m:=fun i hi=>Int.fdiv_nonneg hi (by omega)
  have fm:∀ i:Int,0 <= i.fmod m /\ i.fmod m < m:=fun i=>⟨Int.fmod_nonneg_of_pos _ hm,Int.fmod_lt_of_pos _ hm⟩
  refine read_of ?_
  have c1:∀ z:Int,CMulB 1013 z:=fun z=>.lt (by decide)
  have c2:∀ z:Int,CMulB 37 z:=fun z=>.lt (by decide)
  have c3:∀ z:Int,CMulB z 48271:=fun z=>.rt (by decide)
  have c4:∀ z:Int,CMulB z 69621:=fun z=>.rt (by decide)
  have d6:∀ z:Int,CDivB z 64:=fun z=>CDivB.of (by decide) (by decide)
  simp_arith only [grd_t,len_ok,m_vRN,m_vRC,s_rput,asR_r,lenD_l,item_li]
  (with_reducible (first | refine any_step fun n hn=>?_ | refine sqb_any fun n hn=>?_))
  try simp_arith only [grd_t,len_ok,m_vRN,m_vRC,s_rput,asR_r,lenD_l,item_li]
  (with_reducible (first | refine any_step fun l hl=>?_ | refine sqb_any fun l hl=>?_))
  try rw [sq_ite]
  refine ite_step (fun _=>?_) fun _=>?_
  · simp_arith only [grd_t,len_ok,m_vRN,m_vRC,s_rput,asR_r,lenD_l,item_li]
    (with_reducible (first | refine any_step fun l2 hl2=>?_ | refine sqb_any fun l2 hl2=>?_))
    try simp_arith only [grd_t,len_ok,m_vRN,m_vRC,s_rput,asR_r,lenD_l,item_li]
    (with_reducible (first | refine any_step fun l3 hl3=>?_ | refine sqb_any fun l3 hl3=>?_))
    have h0:=hnn l3 hl3
    try simp_arith only [grd_t,len_ok,m_vRN,m_vRC,s_rput,asR_r,lenD_l,item_li]
    exact grd_step (hmd _) (rt_end (hQ _ (fm _)))
  · simp_arith only [grd_t,len_ok,m_vRN,m_vRC,s_rput,asR_r,lenD_l,item_li]
    (with_reducible (first | refine any_step fun a ha=>?_ | refine sqb_any fun a ha=>?_))
    try simp_arith only [grd_t,len_ok,m_vRN,m_vRC,s_rput,asR_r,lenD_l,item_li]
    generalize rl.b.snd = cs
    refine sq_any (fun _:Int=>True) (fun z=>.nx [some .reel,some (.d (.int m)),none,some (.d (.int a)),some (.d (.int z)),none]) ?_ ?_
    · intro Q' hQ' _ _
      refine grd_step (shaped_ints cs) (itb_step (fun he=>?_) fun _=>hQ' 0 trivial)
      intro _ _ _ _
      have he:cs ≠ []:=by rintro rfl; exact absurd he (by decide)
      have hz:(0:Int) < (cs.length:Int):=by have:=List.length_pos_iff.mpr he; omega
      refine grd_step (by omega) ?_
      obtain ⟨z,ez,_⟩:=at_in (xs:=cs) (Int.fmod_nonneg_of_pos a hz) (Int.fmod_lt_of_pos a hz)
      rw [ez]
      exact hQ' z trivial
    · intro z _
      have t0:(10:Int) ^ Int.toNat 18 <= z -> 0 <= z:=fun h=>Int.le_trans (by decide) h
      repeat' (first | exact rt_end (hQ _ (fm _)) | ((with_reducible refine grd_step ?_ ?_); (first | exact hmd _ | exact hnn _ (by assumption) | exact hnn _ (t0 (by simp_all)) | exact c1 _ | exact c2 _ | exact c3 _ | exact c4 _ | exact d6 _ | exact CDivB.of (by decide) (by decide) | exact ⟨by decide,by decide,by decide⟩ | omega | assumption | decide)) | (with_reducible refine any_step fun _ _=>?_) | (with_reducible refine sqb_any fun _ _=>?_) | (with_reducible refine ite_step (fun _=>?_) fun _=>?_) | (simp_arith only [len_ok,m_vRN,m_vRC,s_rput,asR_r,lenD_l,item_li]))
noncomputable def p__law_frac:List W -> (PyData -> Prop) -> Prop:=fun ws Q=>∃ (a b:Int),ws = [.d (.int a),.d (.int b)] /\ ((0 < b) /\ (b.natAbs < 2 ^ 8000)) /\ Q (fr (qd a b))
theorem p__law_frac.mono:∀ ws (Q Q':PyData -> Prop),(∀ d,Q d -> Q' d) -> p__law_frac ws Q -> p__law_frac ws Q':=fun _ _ _ h_=>Exists.imp fun _=>Exists.imp fun _=>And.imp_right (And.imp_right (h_ _))
theorem p__law_frac.len:∀ ws (Q:PyData -> Prop),p__law_frac ws Q -> ws.length = 2:=fun _ _ h_=>by obtain ⟨_,_,e_,_⟩:=h_; subst e_; rfl
theorem p__law_frac.eq (a b:Int) (hb : 0 < b) (hz:b.natAbs < 2 ^ 8000):p__law_frac [.d (.int a),.d (.int b)] = VL.ret (fr (qd a b):PyData):=by
  refine mo_ext fun Q=>⟨?_,fun q_=>⟨a,b,rfl,⟨hb,hz⟩,q_⟩⟩
  rintro ⟨a',b',e_,_,q_⟩
  simp_arith only [fr_i,sdD_i,ptD_i,boxD_i,ptsQ_i,frs_i] at e_
  obtain ⟨rfl,rfl⟩:=e_
  exact q_
theorem sc__law_frac:FnScope ["_law_top", "_law_bottom", "_law_one", "_law_other"] ["_law_top", "_law_bottom"] (defScope (top 74)):=⟨rfl,rfl,rfl,by decide +kernel,rfl,by decide +kernel,by decide +kernel⟩
theorem d__law_frac (Fn:FnIn K mg "_law_frac" (top 74) ["_law_top", "_law_bottom"]) (Z:Bz mg)    : Dfn P w K mg base rl "_law_frac" ["_law_top", "_law_bottom"] 1 p__law_frac:=by
  have sc:=sc__law_frac
  refine Dfn.of Fn sc (p__law_frac.mono) (p__law_frac.len) (fun cdv A outer s H E hr=>(vs_cons (vs_par 2 3 rfl sc.nd (pvs_cons (v_abs Z.abs_ (pvs_cons (vn 0) pvs_nil)) (pvs_cons (vn 1) pvs_nil)))
      (vs_cons (vs_whileF [] PassesOwn.never (vb_cmp op_gt vo_gt (nomark _) (vn 3) pv_int) (vs_one (vs_par 2 3 rfl sc.nd (pvs_cons (vn 3) (pvs_cons (v_mod (vn 2) (vn 3)) pvs_nil)))))
      (vs_one (vs_ret (v_tup (pvs_cons (v_div (vn 0) (vn 2)) (pvs_cons (v_div (vn 1) (vn 2)) pvs_nil)))))))) ?_
  rintro ws Q ⟨a,b,rfl,⟨hb,hz⟩,hQ⟩
  refine read_of ?_
  have e:Int.gcd (if a < 0 then -a else a) b = Int.gcd a b:=by split <;> simp [Int.gcd]
  simp_arith only [len_ok]
  refine while_go (σ:=Int × Int) (fun s=>[some (.d (.int a)),some (.d (.int b)),some (.d (.int s.1)),some (.d (.int s.2))]) (fun s=>decide (0 < s.2)) (fun s=>(s.2,s.1.fmod s.2)) (fun s=>s.2.natAbs) (fun s=>0 <= s.1 /\ 0 <= s.2 /\ Int.gcd s.1 s.2 = Int.gcd a b) (if a < 0 then -a else a,b) rfl ⟨by dsimp only; split <;> omega,by dsimp only; omega,e⟩ ?_ ?_ ?_
  · intro s _
    simp_arith only [len_ok]
  · rintro s ⟨h1,h2,e⟩ c
    have hc : 0 < s.2:=by simpa using c
    have hc':s.2 ≠ 0:=by omega
    refine ⟨⟨h2,Int.fmod_nonneg_of_pos _ hc,by rw [gcd_fmod]; exact e⟩,fmod_abs_lt hc',_,?_,rfl⟩
    simp_arith only [grd_t,len_ok]
  · rintro s ⟨h1,h2,e⟩ c
    have hc:¬ 0 < s.2:=by simpa using c
    have hc:s.2 = 0:=by omega
    rw [hc,Int.gcd_zero_right] at e
    have ex:s.1 = (Int.gcd a b:Int):=by omega
    have c1:CDivB a (Int.gcd a b:Int):=gcd_div hb hz _
    have c2:CDivB b (Int.gcd a b:Int):=gcd_div hb hz _
    simp_arith only [grd_t,len_ok,ex]
    rw [low_qd hb]
    exact rt_end hQ
noncomputable def Gd (q:Rat):Prop:=qSm 45 q /\ 0 <= q /\ q < 1
noncomputable def Pg (s:Nat) (ps:List (List Rat)):Prop:=∀ p ∈ ps,p.length = s /\ ∀ q ∈ p,Gd q
noncomputable def famS (f:Nat):Str:=if f = 0 then "corner" else if f = 1 then "inner" else "round"
noncomputable def p_is_below:List W -> (PyData -> Prop) -> Prop:=fun ws Q=>∃ (q r:Rat),ws = [.d (fr q),.d (fr r)] /\ ((qSm 2000 q) /\ (qSm 2000 r)) /\ Q (.bool (decide (q < r)))
theorem p_is_below.mono:∀ ws (Q Q':PyData -> Prop),(∀ d,Q d -> Q' d) -> p_is_below ws Q -> p_is_below ws Q':=fun _ _ _ h_=>Exists.imp fun _=>Exists.imp fun _=>And.imp_right (And.imp_right (h_ _))
theorem p_is_below.len:∀ ws (Q:PyData -> Prop),p_is_below ws Q -> ws.length = 2:=fun _ _ h_=>by obtain ⟨_,_,e_,_⟩:=h_; subst e_; rfl
theorem p_is_below.eq (q r:Rat) (h1:qSm 2000 q) (h2:qSm 2000 r):p_is_below [.d (fr q),.d (fr r)] = VL.ret (.bool (decide (q < r)):PyData):=by
  refine mo_ext fun Q=>⟨?_,fun q_=>⟨q,r,rfl,⟨h1,h2⟩,q_⟩⟩
  rintro ⟨q',r',e_,_,q_⟩
  simp_arith only [fr_i,sdD_i,ptD_i,boxD_i,ptsQ_i,frs_i] at e_
  obtain ⟨rfl,rfl⟩:=e_
  exact q_
theorem sc_is_below:FnScope ["one", "other"] ["one", "other"] (defScope (top 20)):=⟨rfl,rfl,rfl,by decide +kernel,rfl,by decide +kernel,by decide +kernel⟩
theorem d_is_below (Fn:FnIn K mg "is_below" (top 20) ["one", "other"]) (Z:Bz mg)    : Dfn P w K mg base rl "is_below" ["one", "other"] 1 p_is_below:=by
  have sc:=sc_is_below
  refine Dfn.of Fn sc (p_is_below.mono) (p_is_below.len) (fun cdv A outer s H E hr=>(vs_one (vs_ret (v_cmp op_lt vo_lt (nomark _) (v_mul (v_ix (vn 0) pv_int) (v_ix (vn 1) pv_int)) (v_mul (v_ix (vn 1) pv_int) (v_ix (vn 0) pv_int)))))) ?_
  rintro ws Q ⟨q,r,rfl,⟨h1,h2⟩,hQ⟩
  refine read_of ?_
  have m1:CMulB q.num r.den:=.bb h1.bn h2.bd
  have m2:CMulB r.num q.den:=.bb h2.bn h1.bd
  simp_arith only [grd_t,len_ok,BFR,fr_lt]
  exact rt_end hQ
noncomputable def p_lesser:List W -> (PyData -> Prop) -> Prop:=fun ws Q=>∃ (q r:Rat),ws = [.d (fr q),.d (fr r)] /\ ((qSm 2000 q) /\ (qSm 2000 r)) /\ Q (fr (mn q r))
theorem p_lesser.mono:∀ ws (Q Q':PyData -> Prop),(∀ d,Q d -> Q' d) -> p_lesser ws Q -> p_lesser ws Q':=fun _ _ _ h_=>Exists.imp fun _=>Exists.imp fun _=>And.imp_right (And.imp_right (h_ _))
theorem p_lesser.len:∀ ws (Q:PyData -> Prop),p_lesser ws Q -> ws.length = 2:=fun _ _ h_=>by obtain ⟨_,_,e_,_⟩:=h_; subst e_; rfl
theorem sc_lesser:FnScope ["one", "other"] ["one", "other"] (defScope (top 21)):=⟨rfl,rfl,rfl,by decide +kernel,rfl,by decide +kernel,by decide +kernel⟩
theorem d_lesser (Fn:FnIn K mg "lesser" (top 21) ["one", "other"]) (Z:Bz mg) (d_is_below:∀ rl,Dfn P w K mg base rl "is_below" ["one", "other"] 1 p_is_below)   : Dfn P w K mg base rl "lesser" ["one", "other"] 2 p_lesser:=by
  have sc:=sc_lesser
  refine Dfn.of Fn sc (p_lesser.mono) (p_lesser.len) (fun cdv A outer s H E hr=>(vs_one (vs_ret (v_ifExp (vb_val (v_call (d_is_below _) (hr.mono (by decide)) (pvs_cons (vn 0) (pvs_cons (vn 1) pvs_nil)))) (vn 0) (vn 1))))) ?_
  rintro ws Q ⟨q,r,rfl,⟨h1,h2⟩,hQ⟩
  refine read_of ?_
  simp_arith only [grd_t,len_ok,p_is_below.eq,BFR]
  unfold mn at hQ
  refine rt_end ?_
  by_cases h:q < r <;> simp [h] at hQ ⊢ <;> exact hQ
noncomputable def p_greater:List W -> (PyData -> Prop) -> Prop:=fun ws Q=>∃ (q r:Rat),ws = [.d (fr q),.d (fr r)] /\ ((qSm 2000 q) /\ (qSm 2000 r)) /\ Q (fr (mx q r))
theorem p_greater.mono:∀ ws (Q Q':PyData -> Prop),(∀ d,Q d -> Q' d) -> p_greater ws Q -> p_greater ws Q':=fun _ _ _ h_=>Exists.imp fun _=>Exists.imp fun _=>And.imp_right (And.imp_right (h_ _))
theorem p_greater.len:∀ ws (Q:PyData -> Prop),p_greater ws Q -> ws.length = 2:=fun _ _ h_=>by obtain ⟨_,_,e_,_⟩:=h_; subst e_; rfl
theorem sc_greater:FnScope ["one", "other"] ["one", "other"] (defScope (top 22)):=⟨rfl,rfl,rfl,by decide +kernel,rfl,by decide +kernel,by decide +kernel⟩
theorem d_greater (Fn:FnIn K mg "greater" (top 22) ["one", "other"]) (Z:Bz mg) (d_is_below:∀ rl,Dfn P w K mg base rl "is_below" ["one", "other"] 1 p_is_below)   : Dfn P w K mg base rl "greater" ["one", "other"] 2 p_greater:=by
  have sc:=sc_greater
  refine Dfn.of Fn sc (p_greater.mono) (p_greater.len) (fun cdv A outer s H E hr=>(vs_one (vs_ret (v_ifExp (vb_val (v_call (d_is_below _) (hr.mono (by decide)) (pvs_cons (vn 0) (pvs_cons (vn 1) pvs_nil)))) (vn 1) (vn 0))))) ?_
  rintro ws Q ⟨q,r,rfl,⟨h1,h2⟩,hQ⟩
  refine read_of ?_
  simp_arith only [grd_t,len_ok,p_is_below.eq,BFR]
  unfold mx at hQ
  refine rt_end ?_
  by_cases h:q < r <;> simp [h] at hQ ⊢ <;> exact hQ
theorem qSm2 {q:Rat} (h:qSm 2000 q):(q.den:Int).natAbs < 2 ^ 2000:=by rw [Int.natAbs_natCast]; exact h.2
noncomputable def p_in_size:List W -> (PyData -> Prop) -> Prop:=fun ws Q=>∃ (b:Bool) (qs:List Rat),ws = [.d (sqD b qs)] /\ ((qs.length < 60) /\ (∀ q ∈ qs,qSm 2000 q)) /\ ∀ rs:List Rat,(Sorted qs rs) -> Q (.tuple (rs.map fr))
theorem p_in_size.mono:∀ ws (Q Q':PyData -> Prop),(∀ d,Q d -> Q' d) -> p_in_size ws Q -> p_in_size ws Q':=fun _ _ _ h_=>Exists.imp fun _=>Exists.imp fun _=>And.imp_right (And.imp_right fun q_ o_ ho_=>h_ _ (q_ o_ ho_))
theorem p_in_size.len:∀ ws (Q:PyData -> Prop),p_in_size ws Q -> ws.length = 1:=fun _ _ h_=>by obtain ⟨_,_,e_,_⟩:=h_; subst e_; rfl
theorem p_in_size.eq (b:Bool) (qs:List Rat) (hl:qs.length < 60) (hq:∀ q ∈ qs,qSm 2000 q):p_in_size [.d (sqD b qs)] = bnd (anyM fun rs:List Rat=>Sorted qs rs) fun rs=>VL.ret (.tuple (rs.map fr):PyData):=by
  refine mo_ext fun Q=>⟨?_,fun q_=>⟨b,qs,rfl,⟨hl,hq⟩,q_⟩⟩
  rintro ⟨b',qs',e_,_,q_⟩
  simp_arith only [fr_i,sdD_i,ptD_i,boxD_i,ptsQ_i,frs_i,sqD_i] at e_
  obtain ⟨rfl,rfl⟩:=e_
  exact q_
theorem sc_in_size:FnScope ["some", "bottom", "scale", "by_size"] ["some"] (defScope (top 23)):=⟨rfl,rfl,rfl,by decide +kernel,rfl,by decide +kernel,by decide +kernel⟩
theorem d_in_size (Fn:FnIn K mg "in_size" (top 23) ["some"]) (Z:Bz mg)    : Dfn P w K mg base rl "in_size" ["some"] 1 p_in_size:=by
  have sc:=sc_in_size
  refine Dfn.of Fn sc (p_in_size.mono) (p_in_size.len) (fun cdv A outer s H E hr=>(vs_cons (vs_setZ 1 sc.nd (v_maxD rfl Z.max_ (pvs_cons (v_lcompR ["one"] [none] rfl (vi_seq (vn 0)) (fun _=>(vg_name 0 (show List.Nodup (["one"]:List Str) by decide +kernel))) (fun _=>vt_nil) (fun _=>(v_ix (vn 0) pv_int))) pvs_nil) pv_int))
      (vs_cons (vs_setZ 2 sc.nd (v_mul (vn 1) (vn 1)))
      (vs_cons (vs_setdcomp 3 sc.nd ["one", "scale"] [none,some 2] rfl (vi_seq (vn 0)) (fun _=>(vg_name 0 (show List.Nodup (["one", "scale"]:List Str) by decide +kernel))) (fun _=>vt_nil) (fun _=>(v_div (v_mul (v_ix (vn 0) pv_int) (vn 1)) (v_ix (vn 0) pv_int))) (fun _=>(vn 0)))
      (vs_one (vs_ret (v_tuple Z.tuple_ (pvs_cons (v_lcompR ["size", "by_size"] [none,some 3] rfl (vi_list (v_sortedK rfl Z.sorted_ (pvs_cons (vn 3) pvs_nil))) (fun _=>(vg_name 0 (show List.Nodup (["size", "by_size"]:List Str) by decide +kernel))) (fun _=>vt_nil) (fun _=>(v_dgetF hr.un1 (vn 1) (vn 0)))) pvs_nil)))))))) ?_
  rintro ws Q ⟨b,qs,rfl,⟨hl,hq⟩,hQ⟩
  refine read_of ?_
  have sz:=PySem.sizeLine_eq
  simp_arith only [grd_t,len_ok,BDD,BVS,BLI,seqW_sq,BFR]
  refine sqb (cmap_go (xs:=qs) (enc:=fr) (fun q=>.int q.den) rfl ?_ (by omega) ?_)
  · intro q mq
    simp_arith only [grd_t,len_ok,itM,BFR]
  have e1:qs.map (fun q=>PyData.int q.den) = (qs.map fun q=>(q.den:Int)).map .int:=by rw [List.map_map]; rfl
  rw [e1]
  obtain ⟨mx1,mx2⟩:=mxI_ok (qs.map fun q=>(q.den:Int))
  have hB:∀ q ∈ qs,(q.den:Int) <= mxI 1 (qs.map fun q=>(q.den:Int)):=fun q mq=>mx1 _ (List.mem_map.mpr ⟨q,mq,rfl⟩)
  have bB:Big (mxI 1 (qs.map fun q=>(q.den:Int))):=by
    rcases mx2 with z | z
    · rw [z]; exact big2000 (by decide)
    · obtain ⟨q,mq,e⟩:=List.mem_map.mp z
      rw [<- e]; exact big2000 (qSm2 (hq q mq))
  have b2:(mxI 1 (qs.map fun q=>(q.den:Int))).natAbs < 2 ^ 2000:=by
    rcases mx2 with z | z
    · rw [z]; decide
    · obtain ⟨q,mq,e⟩:=List.mem_map.mp z
      rw [<- e]; exact qSm2 (hq q mq)
  simp_arith only [grd_t,len_ok,BDD,BVS,BLI,seqW_sq,BFR]
  generalize mxI 1 (qs.map fun q=>(q.den:Int)) = B at *
  have cm:CMulB B B:=.bb bB bB
  have bS:Big (B * B):=by
    unfold Big
    rw [Int.natAbs_mul]
    exact Nat.lt_of_lt_of_le (Nat.mul_lt_mul'' b2 b2) (by rw [<- Nat.pow_add]; exact Nat.pow_le_pow_right (by decide) (by decide))
  simp_arith only [grd_t,len_ok,BDD,BVS,BLI,seqW_sq,BFR]
  refine sqb (dmap_go (xs:=qs) (enc:=fr) (fun q=>((Sum.inl (szK (B * B) q):Key),fr q)) rfl ?_ (by omega) ?_)
  · intro q mq
    have c1:CMulB q.num (B * B):=.bb (hq q mq).bn bS
    have c2:CDivB (q.num * (B * B)) q.den:=⟨by have:=den_p q; omega,Nat.lt_of_lt_of_le (qSm2 (hq q mq)) (Nat.pow_le_pow_right (by decide) (by decide))⟩
    simp_arith only [grd_t,len_ok,itD,BDD,BVS,BLI,seqW_sq,BFR]
    rfl
  obtain ⟨ms,f1,f2,f3,f4,f5⟩:=fill_ok (szK (B * B)) qs fun q r mq mr e=>szK_inj (hB q mq) (hB r mr) e
  have ef:((qs.map fun q=>((Sum.inl (szK (B * B) q):Key),fr q)).foldl (fun a p=>VL.putF a p.1 p.2) []) = fillF (szK (B * B)) qs:=rfl
  rw [ef]
  simp_arith only [grd_t,len_ok,BDD,BVS,BLI,seqW_sq,BFR]
  refine srtK_go ms f1 (by omega) ?_
  intro ns pm pw
  obtain ⟨rs,er,hr,so⟩:=sorted_of hB f2 f3 pm pw
  subst er
  have lr:=sorted_len so
  simp_arith only [grd_t,len_ok,BDD,BVS,BLI,seqW_sq,BFR]
  refine cmap_go (xs:=rs) (enc:=fun r=>PyData.int (szK (B * B) r)) fr (by rw [List.map_map]; rfl) ?_ (by omega) ?_
  · intro r mr
    have v:=f4 r (hr r mr)
    simp_arith only [grd_t,len_ok,itM,BDD,BVS,BLI,seqW_sq,BFR,v]
  exact rt_end (hQ rs so)
theorem p_in_size.eqL (qs:List Rat) (hl:qs.length < 60) (hq:∀ q ∈ qs,qSm 2000 q):p_in_size [.d (.list (qs.map fr))] = bnd (anyM fun rs:List Rat=>Sorted qs rs) fun rs=>VL.ret (.tuple (rs.map fr):PyData):=p_in_size.eq false qs hl hq
noncomputable def colQ (ps:List (List Rat)) (j:Nat):List Rat:=ps.map fun p=>p.getD j 0
theorem col_item {k s:Nat} {ps:List (List Rat)} {j:Nat} (hp:∀ p ∈ ps,p.length = s /\ ∀ q ∈ p,qSm k q) (hj:j < s):∀ p ∈ ps,atI p (j:Int) = some (p.getD j 0):=fun p mp=>atI_nat (by
  have:=(hp p mp).1
  rw [List.getD_eq_getElem?_getD,List.getElem?_eq_getElem (by omega)]; rfl)
theorem col_sm {k s:Nat} {ps:List (List Rat)} {j:Nat} (hp:∀ p ∈ ps,p.length = s /\ ∀ q ∈ p,qSm k q) (hj:j < s):∀ q ∈ colQ ps j,qSm k q:=fun q mq=>by
  obtain ⟨p,mp,rfl⟩:=List.mem_map.mp mq
  have:=(hp p mp).1
  have e:p.getD j 0 = p[j]'(by omega):=by rw [List.getD_eq_getElem?_getD,List.getElem?_eq_getElem (by omega)]; rfl
  show qSm k (p.getD j 0)
  rw [e]
  exact (hp p mp).2 _ (List.getElem_mem _)
noncomputable def stQ (xs:List Rat) (x:Rat):List Rat:=if xs[(xs.filter (· < x)).length]? = some x then xs else insAt xs (xs.filter (· < x)).length x
noncomputable def srQ (qs:List Rat):List Rat:=qs.foldl stQ []
theorem cut_lt {x:Rat}:∀ {xs:List Rat},xs.Pairwise (· < ·) -> xs.take (xs.filter (· < x)).length = xs.filter (· < x) /\ ∀ y ∈ xs.drop (xs.filter (· < x)).length,x <= y
  | [],_=>by simp
  | y :: ys,h=>by
    obtain ⟨h1,h2⟩:=List.pairwise_cons.mp h
    by_cases c:y < x
    · obtain ⟨a,b⟩:=cut_lt (x:=x) h2
      rw [List.filter_cons_of_pos (by simpa using c),List.length_cons,List.take_succ_cons,List.drop_succ_cons,a]
      exact ⟨rfl,b⟩
    · have e:(y :: ys).filter (· < x) = []:=by
        rw [List.filter_eq_nil_iff]
        intro z mz
        rcases List.mem_cons.mp mz with rfl | mz
        · simpa using c
        · have:=h1 z mz
          simp
          exact Rat.not_lt.mpr (Rat.le_trans (Rat.not_lt.mp c) (Rat.le_of_lt this))
      rw [e]
      refine ⟨rfl,fun z mz=>?_⟩
      rcases List.mem_cons.mp mz with rfl | mz
      · exact Rat.not_lt.mp c
      · exact Rat.le_trans (Rat.not_lt.mp c) (Rat.le_of_lt (h1 z mz))
theorem stQ_ok {xs:List Rat} {x:Rat} (h:xs.Pairwise (· < ·)):(stQ xs x).Pairwise (· < ·) /\ ∀ q,q ∈ stQ xs x ↔ q ∈ xs \/ q = x:=by
  unfold stQ
  obtain ⟨a,b⟩:=cut_lt (x:=x) h
  split
  · rename_i e
    exact ⟨h,fun q=>⟨.inl,fun z=>z.elim id fun z=>z ▸ List.mem_of_getElem? e⟩⟩
  · rename_i e
    unfold insAt
    have hp:=List.pairwise_append.mp (show (xs.take (xs.filter (· < x)).length ++ xs.drop (xs.filter (· < x)).length).Pairwise (· < ·) by rw [List.take_append_drop]; exact h)
    have hd:∀ y ∈ xs.drop (xs.filter (· < x)).length,x < y:=fun y my=>by
      refine Rat.lt_of_le_of_ne (b y my) fun z=>e ?_
      subst z
      obtain ⟨i,hi,ei⟩:=List.getElem_of_mem my
      rw [List.getElem_drop] at ei
      rw [List.length_drop] at hi
      cases i with
      | zero=>rw [List.getElem?_eq_getElem (by omega)]; simpa using ei
      | succ i =>
        exfalso
        have hl:(xs.filter (· < x)).length < xs.length:=by omega
        have m0:xs[(xs.filter (· < x)).length] ∈ xs.drop (xs.filter (· < x)).length:=List.mem_drop_iff_getElem.mpr ⟨0,by omega,by simp⟩
        have l0:=b _ m0
        have:=List.pairwise_iff_getElem.mp h (xs.filter (· < x)).length ((xs.filter (· < x)).length + (i + 1)) hl (by omega) (by omega)
        rw [ei] at this
        exact absurd this (Rat.not_lt.mpr l0)
    refine ⟨List.pairwise_append.mpr ⟨hp.1,List.pairwise_cons.mpr ⟨hd,hp.2.1⟩,fun y my z mz=>?_⟩,fun q=>?_⟩
    · rw [a] at my
      have yx:y < x:=by simpa using (List.mem_filter.mp my).2
      rcases List.mem_cons.mp mz with rfl | mz
      · exact yx
      · have xz:=hd z mz
        exact Rat.lt_of_le_of_ne (Rat.le_trans (Rat.le_of_lt yx) (Rat.le_of_lt xz)) fun e=>by subst e; exact Rat.not_lt.mpr (Rat.le_of_lt xz) yx
    · have:q ∈ xs ↔ q ∈ xs.take (xs.filter (· < x)).length \/ q ∈ xs.drop (xs.filter (· < x)).length:=by rw [<- List.mem_append,List.take_append_drop]
      rw [List.mem_append,List.mem_cons,this]
      constructor
      · rintro (z | z | z)
        · exact .inl (.inl z)
        · exact .inr z
        · exact .inl (.inr z)
      · rintro ((z | z) | z)
        · exact .inl z
        · exact .inr (.inr z)
        · exact .inr (.inl z)
theorem srQ_go:∀ (qs xs:List Rat),xs.Pairwise (· < ·) -> (qs.foldl stQ xs).Pairwise (· < ·) /\ ∀ q,q ∈ qs.foldl stQ xs ↔ q ∈ xs \/ q ∈ qs
  | [],xs,h=>⟨h,by simp⟩
  | x :: qs,xs,h=>by
    obtain ⟨a,b⟩:=stQ_ok (x:=x) h
    obtain ⟨c,d⟩:=srQ_go qs (stQ xs x) a
    refine ⟨c,fun q=>?_⟩
    rw [List.foldl_cons,d,b,List.mem_cons]
    constructor
    · rintro ((z | z) | z)
      · exact .inl z
      · exact .inr (.inl z)
      · exact .inr (.inr z)
    · rintro (z | z | z)
      · exact .inl (.inl z)
      · exact .inl (.inr z)
      · exact .inr z
theorem srQ_ok (qs:List Rat):Sorted qs (srQ qs):=by
  obtain ⟨a,b⟩:=srQ_go qs [] List.Pairwise.nil
  exact ⟨a,fun q=>by rw [srQ,b]; simp⟩
theorem srQ_eq {qs rs:List Rat} (h:Sorted qs rs):rs = srQ qs:=sorted_one h.1 (srQ_ok qs).1 fun q=>by rw [h.2,(srQ_ok qs).2]
theorem gd_sm {s:Nat} {ps:List (List Rat)} (h:Pg s ps):∀ p ∈ ps,p.length = s /\ ∀ q ∈ p,qSm 45 q:=fun p mp=>⟨(h p mp).1,fun q mq=>((h p mp).2 q mq).1⟩
noncomputable def dimP (ps:List (List Rat)):Nat:=(ps.headD []).length
theorem dim_of {s:Nat} {ps:List (List Rat)} (h:Pg s ps) (h1 : 1 <= ps.length):dimP ps = s:=by
  cases ps with
  | nil=>simp at h1
  | cons p ps=>exact (h p List.mem_cons_self).1
noncomputable def nuQ (ps:List (List Rat)) (j:Nat):List Rat:=srQ (colQ ps j)
noncomputable def Pw (ps:List (List Rat)):Prop:=1 <= ps.length /\ ps.length <= 40 /\ Pg (dimP ps) ps /\ 1 <= dimP ps /\ dimP ps <= 4
noncomputable def p_sides_of:List W -> (PyData -> Prop) -> Prop:=fun ws Q=>∃ (ps:List (List Rat)),ws = [.d (ptsQ ps)] /\ ((1 <= ps.length)) /\ Q (.int ((dimP ps:Nat):Int))
theorem p_sides_of.mono:∀ ws (Q Q':PyData -> Prop),(∀ d,Q d -> Q' d) -> p_sides_of ws Q -> p_sides_of ws Q':=fun _ _ _ h_=>Exists.imp fun _=>And.imp_right (And.imp_right (h_ _))
theorem p_sides_of.len:∀ ws (Q:PyData -> Prop),p_sides_of ws Q -> ws.length = 1:=fun _ _ h_=>by obtain ⟨_,e_,_⟩:=h_; subst e_; rfl
theorem p_sides_of.eq (ps:List (List Rat)) (h : 1 <= ps.length):p_sides_of [.d (ptsQ ps)] = VL.ret (.int ((dimP ps:Nat):Int):PyData):=by
  refine mo_ext fun Q=>⟨?_,fun q_=>⟨ps,rfl,h,q_⟩⟩
  rintro ⟨ps',e_,_,q_⟩
  simp_arith only [fr_i,sdD_i,ptD_i,boxD_i,ptsQ_i,frs_i] at e_
  obtain rfl:=e_
  exact q_
theorem sc_sides_of:FnScope ["points"] ["points"] (defScope (top 34)):=⟨rfl,rfl,rfl,by decide +kernel,rfl,by decide +kernel,by decide +kernel⟩
theorem d_sides_of (Fn:FnIn K mg "sides_of" (top 34) ["points"]) (Z:Bz mg)    : Dfn P w K mg base rl "sides_of" ["points"] 1 p_sides_of:=by
  have sc:=sc_sides_of
  refine Dfn.of Fn sc (p_sides_of.mono) (p_sides_of.len) (fun cdv A outer s H E hr=>(vs_one (vs_ret (v_len Z.len_ (pvs_cons (v_ix (vn 0) pv_int) pvs_nil))))) ?_
  rintro ws Q ⟨ps,rfl,h,hQ⟩
  refine read_of ?_
  cases ps with
  | nil=>simp at h
  | cons p ps =>
    have e:atI (p :: ps) 0 = some p:=atI_nat rfl
    simp_arith only [grd_t,len_ok,BFR,e]
    exact rt_end hQ
noncomputable def p_numbers_at:List W -> (PyData -> Prop) -> Prop:=fun ws Q=>∃ (ps:List (List Rat)) (j:Int),ws = [.d (ptsQ ps),.d (.int j)] /\ ((Pw ps) /\ (0 <= j) /\ (j < dimP ps)) /\ Q (ptD (nuQ ps j.toNat))
theorem p_numbers_at.mono:∀ ws (Q Q':PyData -> Prop),(∀ d,Q d -> Q' d) -> p_numbers_at ws Q -> p_numbers_at ws Q':=fun _ _ _ h_=>Exists.imp fun _=>Exists.imp fun _=>And.imp_right (And.imp_right (h_ _))
theorem p_numbers_at.len:∀ ws (Q:PyData -> Prop),p_numbers_at ws Q -> ws.length = 2:=fun _ _ h_=>by obtain ⟨_,_,e_,_⟩:=h_; subst e_; rfl
theorem p_numbers_at.eq (ps:List (List Rat)) (j:Int) (h:Pw ps) (j0 : 0 <= j) (jl:j < dimP ps):p_numbers_at [.d (ptsQ ps),.d (.int j)] = VL.ret (ptD (nuQ ps j.toNat):PyData):=by
  refine mo_ext fun Q=>⟨?_,fun q_=>⟨ps,j,rfl,⟨h,j0,jl⟩,q_⟩⟩
  rintro ⟨ps',j',e_,_,q_⟩
  simp_arith only [fr_i,sdD_i,ptD_i,boxD_i,ptsQ_i,frs_i] at e_
  obtain ⟨rfl,rfl⟩:=e_
  exact q_
theorem sc_numbers_at:FnScope ["points", "side"] ["points", "side"] (defScope (top 35)):=⟨rfl,rfl,rfl,by decide +kernel,rfl,by decide +kernel,by decide +kernel⟩
theorem d_numbers_at (Fn:FnIn K mg "numbers_at" (top 35) ["points", "side"]) (Z:Bz mg) (d_in_size:∀ rl,Dfn P w K mg base rl "in_size" ["some"] 1 p_in_size)   : Dfn P w K mg base rl "numbers_at" ["points", "side"] 2 p_numbers_at:=by
  have sc:=sc_numbers_at
  refine Dfn.of Fn sc (p_numbers_at.mono) (p_numbers_at.len) (fun cdv A outer s H E hr=>(vs_one (vs_ret (v_call (d_in_size _) (hr.mono (by decide)) (pvs_cons (v_lcompR ["point", "side"] [none,some 1] rfl (vi_tup (vn 0)) (fun _=>(vg_name 0 (show List.Nodup (["point", "side"]:List Str) by decide +kernel))) (fun _=>vt_nil) (fun _=>(v_ix (vn 0) (vn 1)))) pvs_nil))))) ?_
  rintro ws Q ⟨ps,j,rfl,⟨h,j0,jl⟩,hQ⟩
  refine read_of ?_
  have sz:=PySem.sizeLine_eq
  obtain ⟨h1,h40,hp,d1,d4⟩:=h
  have ej:((j.toNat:Nat):Int) = j:=by omega
  have hj:j.toNat < dimP ps:=by omega
  have hc:(colQ ps j.toNat).length < 60:=by unfold colQ; rw [List.length_map]; omega
  have hq:∀ q ∈ colQ ps j.toNat,qSm 2000 q:=fun q mq=>(col_sm (gd_sm hp) hj q mq).mono (by decide)
  simp_arith only [grd_t,len_ok,BFR]
  refine cmap_go (xs:=ps) (enc:=ptD) (fun p=>fr (p.getD j.toNat 0)) rfl ?_ (by omega) ?_
  · intro p mp
    have e:=col_item (gd_sm hp) hj p mp
    rw [ej] at e
    simp_arith only [grd_t,len_ok,itM,BFR,e]
  have e1:ps.map (fun p=>fr (p.getD j.toNat 0)) = (colQ ps j.toNat).map fr:=by unfold colQ; rw [List.map_map]; rfl
  rw [e1]
  simp_arith only [grd_t,len_ok,p_in_size.eqL]
  (with_reducible (first | refine any_step fun rs hrs=>?_ | refine sqb_any fun rs hrs=>?_))
  rw [srQ_eq hrs]
  exact rt_end hQ
noncomputable def lkT (t:Rat):PyData:=.tuple [.str "to", fr t]
noncomputable def lkF (a b:Rat):PyData:=.tuple [.str "from", fr a,fr b]
noncomputable def lkR (a b:Rat):PyData:=.tuple [.str "round", fr a,fr b]
noncomputable def slF (rs:List Rat):List PyData:=((-1) :: rs).flatMap fun a=>(rs ++ [1]).filterMap fun b=>if a <= b then some (lkF a b) else none
noncomputable def slR (rs:List Rat):List PyData:=(rs ++ [1]).flatMap fun a=>((-1) :: rs).filterMap fun b=>if b <= a then some (lkR a b) else none
noncomputable def sl (f:Nat) (rs:List Rat):List PyData:=if f = 0 then (rs ++ [1]).map lkT else if f = 1 then slF rs else slF rs ++ slR rs
noncomputable def Rs (rs:List Rat):Prop:=rs.length <= 40 /\ ∀ q ∈ rs,Gd q
theorem comp_accF {α:Type} {b:PyData -> Mo (Option PyData)} {enc : α -> PyData} (f : α -> Option PyData):∀ (xs:List α) (acc:List PyData),(∀ x ∈ xs,b (enc x) = VL.ret (f x)) -> acc.length + (xs.filterMap f).length <= sizeLine -> compM b (xs.map enc) acc = VL.ret (acc ++ xs.filterMap f)
  | [],acc,_,_=>by simp [compM]
  | x :: xs,acc,h,hl=>by
    show bnd (b (enc x)) _ = _
    rw [h x List.mem_cons_self,bnd_ret]
    cases e:f x with
    | none =>
      have e2:(x :: xs).filterMap f = xs.filterMap f:=by rw [List.filterMap_cons,e]
      rw [e2] at hl ⊢
      exact comp_accF f xs acc (fun y my=>h y (List.mem_cons_of_mem _ my)) hl
    | some d =>
      have e2:(x :: xs).filterMap f = d :: xs.filterMap f:=by rw [List.filterMap_cons,e]
      rw [e2,List.length_cons] at hl
      show grd (acc.length < sizeLine) (compM b (xs.map enc) (acc ++ [d])) = _
      rw [comp_accF f xs (acc ++ [d]) (fun y my=>h y (List.mem_cons_of_mem _ my)) (by rw [List.length_append,List.length_singleton]; omega),e2,List.append_assoc]
      exact grd_t (by omega) _
theorem ends_d (rs:List Rat):rs.map fr ++ [fr 1] = (rs ++ [1]).map fr:=by rw [List.map_append]; rfl
theorem ends_g {rs:List Rat} (h:Rs rs):∀ q ∈ rs ++ [1],qSm 60 q:=fun q mq=>by
  rcases List.mem_append.mp mq with h' | h'
  · exact (h.2 q h').1.mono (by decide)
  · cases List.mem_singleton.mp h'; exact ⟨by decide,by decide⟩
theorem begs_g {rs:List Rat} (h:Rs rs):∀ q ∈ (-1) :: rs,qSm 60 q:=fun q mq=>by
  rcases List.mem_cons.mp mq with rfl | h'
  · exact ⟨by decide,by decide⟩
  · exact (h.2 q h').1.mono (by decide)
theorem len_fl {α β:Type} {n:Nat} {f : α -> List β}:∀ {l:List α},(∀ x ∈ l,(f x).length <= n) -> (l.flatMap f).length <= l.length * n
  | [],_=>by simp
  | x :: l,h=>by
    have h1:=h x List.mem_cons_self
    have h2:=len_fl (l:=l) fun y my=>h y (List.mem_cons_of_mem _ my)
    rw [List.flatMap_cons,List.length_append,List.length_cons,Nat.succ_mul]; omega
theorem slF_le {rs:List Rat} (h:rs.length <= 40):(slF rs).length <= 1681:=Nat.le_trans (len_fl (n:=41) fun a _=>Nat.le_trans (List.length_filterMap_le ..) (by simp; omega)) (by simp; omega)
theorem slR_le {rs:List Rat} (h:rs.length <= 40):(slR rs).length <= 1681:=Nat.le_trans (len_fl (n:=41) fun a _=>Nat.le_trans (List.length_filterMap_le ..) (by simp; omega)) (by simp; omega)
noncomputable def famF (f:Fin 3):Str:=famS f.val
theorem fam_i {a b:Fin 3}:famF a = famF b ↔ a = b:=by revert a b; decide +kernel
theorem fam3:∀ f:Fin 3,f = 0 \/ f = 1 \/ f = 2:=by decide
noncomputable def p_side_looks:List W -> (PyData -> Prop) -> Prop:=fun ws Q=>∃ (rs:List Rat) (f:Fin 3),ws = [.d (ptD rs),.d (.str (famF f))] /\ ((Rs rs)) /\ Q (.list (sl f.val rs))
theorem p_side_looks.mono:∀ ws (Q Q':PyData -> Prop),(∀ d,Q d -> Q' d) -> p_side_looks ws Q -> p_side_looks ws Q':=fun _ _ _ h_=>Exists.imp fun _=>Exists.imp fun _=>And.imp_right (And.imp_right (h_ _))
theorem p_side_looks.len:∀ ws (Q:PyData -> Prop),p_side_looks ws Q -> ws.length = 2:=fun _ _ h_=>by obtain ⟨_,_,e_,_⟩:=h_; subst e_; rfl
theorem p_side_looks.eq (rs:List Rat) (f:Fin 3) (hr:Rs rs):p_side_looks [.d (ptD rs),.d (.str (famF f))] = VL.ret (.list (sl f.val rs):PyData):=by
  refine mo_ext fun Q=>⟨?_,fun q_=>⟨rs,f,rfl,hr,q_⟩⟩
  rintro ⟨rs',f',e_,_,q_⟩
  simp_arith only [fr_i,sdD_i,ptD_i,boxD_i,ptsQ_i,frs_i,fam_i] at e_
  obtain ⟨rfl,rfl⟩:=e_
  exact q_
theorem sc_side_looks:FnScope ["numbers", "family", "ends", "begins", "inner"] ["numbers", "family"] (defScope (top 39)):=⟨rfl,rfl,rfl,by decide +kernel,rfl,by decide +kernel,by decide +kernel⟩
theorem d_side_looks (Fn:FnIn K mg "side_looks" (top 39) ["numbers", "family"]) (Z:Bz mg) (d_is_below:∀ rl,Dfn P w K mg base rl "is_below" ["one", "other"] 1 p_is_below) (gl_ONE:GlD K mg "ONE" (.tuple [.int 1,.int 1])) (gl_BELOW_ALL:GlD K mg "BELOW_ALL" (.tuple [.int (-1),.int 1]))  : Dfn P w K mg base rl "side_looks" ["numbers", "family"] 2 p_side_looks:=by
  have sc:=sc_side_looks
  refine Dfn.of Fn sc (p_side_looks.mono) (p_side_looks.len) (fun cdv A outer s H E hr=>(vs_cons (vs_setZ 2 sc.nd (v_catD (v_listof Z.list_ (pvs_cons (vn 0) pvs_nil)) (v_lst (pvs_cons (v_glob gl_ONE) pvs_nil))))
      (vs_cons (vs_if (vb_cmp op_eq vo_eqS (nomark _) (vn 1) pv_str) (vs_one (vs_ret (v_lcompR ["end"] [none] rfl (vi_list (vn 2)) (fun _=>(vg_name 0 (show List.Nodup (["end"]:List Str) by decide +kernel))) (fun _=>vt_nil) (fun _=>(v_tup (pvs_cons pv_str (pvs_cons (vn 0) pvs_nil))))))) vs_nil)
      (vs_cons (vs_setZ 3 sc.nd (v_catD (v_lst (pvs_cons (v_glob gl_BELOW_ALL) pvs_nil)) (v_listof Z.list_ (pvs_cons (vn 0) pvs_nil))))
      (vs_cons (vs_setcomp2 4 sc.nd ["a", "b", "ends"] [none,none,some 2] rfl (vi_list (vn 3)) (fun _=>(vg_name 0 (show List.Nodup (["a", "b", "ends"]:List Str) by decide +kernel))) (fun _=>vt_nil) (fun _=>(vi_list (vn 2))) (fun _=>(vg_name 1 (show List.Nodup (["a", "b", "ends"]:List Str) by decide +kernel))) (fun _=>vt_one (vb_not (vb_val (v_call (d_is_below _) (hr.mono (by decide)) (pvs_cons (vn 1) (pvs_cons (vn 0) pvs_nil)))))) (fun _=>(v_tup (pvs_cons pv_str (pvs_cons (vn 0) (pvs_cons (vn 1) pvs_nil))))))
      (vs_cons (vs_if (vb_cmp op_eq vo_eqS (nomark _) (vn 1) pv_str) (vs_one (vs_ret (vn 4))) vs_nil)
      (vs_one (vs_ret (v_catD (vn 4) (v_lcomp2 ["a", "b", "begins"] [none,none,some 3] rfl (vi_list (vn 2)) (fun _=>(vg_name 0 (show List.Nodup (["a", "b", "begins"]:List Str) by decide +kernel))) (fun _=>vt_nil) (fun _=>(vi_list (vn 2))) (fun _=>(vg_name 1 (show List.Nodup (["a", "b", "begins"]:List Str) by decide +kernel))) (fun _=>vt_one (vb_not (vb_val (v_call (d_is_below _) (hr.mono (by decide)) (pvs_cons (vn 0) (pvs_cons (vn 1) pvs_nil)))))) (fun _=>(v_tup (pvs_cons pv_str (pvs_cons (vn 0) (pvs_cons (vn 1) pvs_nil))))))))))))))) ?_
  rintro ws Q ⟨rs,f,rfl,hr,hQ⟩
  refine read_of ?_
  have sz:=PySem.sizeLine_eq
  have q1:decide (Str.ofString "inner" = Str.ofString "corner") = false:=by decide +kernel
  have q2:decide (Str.ofString "round" = Str.ofString "corner") = false:=by decide +kernel
  have q3:decide (Str.ofString "round" = Str.ofString "inner") = false:=by decide +kernel
  have q4:decide (Str.ofString "corner" = Str.ofString "corner") = true:=by decide +kernel
  have q5:decide (Str.ofString "inner" = Str.ofString "inner") = true:=by decide +kernel
  have q6:decide (Str.ofString "corner" = Str.ofString "round") = false:=by decide +kernel
  have q7:decide (Str.ofString "inner" = Str.ofString "round") = false:=by decide +kernel
  have q8:decide (Str.ofString "round" = Str.ofString "round") = true:=by decide +kernel
  have f0:famF 0 = Str.ofString "corner" := rfl
  have f1:famF 1 = Str.ofString "inner" := rfl
  have f2:famF 2 = Str.ofString "round" := rfl
  have l8:=hr.1
  have g1:rs.length + 1 <= sizeLine:=by omega
  have em:rs.map fr ++ [PyData.tuple [PyData.int 1,PyData.int 1]] = (rs ++ [1]).map fr:=ends_d rs
  have eb:PyData.tuple [PyData.int (-1),PyData.int 1] :: rs.map fr = ((-1) :: rs).map fr:=rfl
  have nlt:∀ a b:Rat,(!decide (b < a)) = decide (a <= b):=fun a b=>by
    by_cases c:a <= b
    · have:=Rat.not_lt.mpr c; simp [c,this]
    · have:=Rat.not_le.mp c; simp [c,this]
  obtain rfl | rfl | rfl:=fam3 f
  · simp_arith only [grd_t,len_ok,BFR,q1,q2,q3,q4,q5,q6,q7,q8,f0,f1,f2]
    refine sqb (cmap_go (xs:=rs ++ [1]) (enc:=fr) lkT em ?_ (by simp; omega) ?_)
    · intro e me
      simp_arith only [grd_t,len_ok,itM]
      rfl
    · simp_arith only [grd_t,len_ok]
      exact rt_endL hQ
  · simp_arith only [grd_t,len_ok,BFR,q1,q2,q3,q4,q5,q6,q7,q8,f0,f1,f2,m_comp2]
    refine sqb ?_
    rw [eb]
    refine c2_go (xs:=(-1) :: rs) (enc:=fr) (fun a=>(rs ++ [1]).filterMap fun b=>if a <= b then some (lkF a b) else none) rfl ?_ ?_ ?_
    · intro a ma acc hl
      simp_arith only [grd_t,len_ok,itM2]
      rw [em]
      refine (comp_accF (enc:=fr) (fun b=>if a <= b then some (lkF a b) else none) (rs ++ [1]) acc ?_ hl).trans rfl
      intro b mb
      have h1:qSm 2000 a:=(begs_g hr a ma).mono (by decide)
      have h2:qSm 2000 b:=(ends_g hr b mb).mono (by decide)
      simp_arith only [grd_t,len_ok,itM,p_is_below.eq,nlt]
      by_cases c:a <= b <;> simp [c,lkF]
    · exact Nat.le_trans (slF_le l8) (by omega)
    · simp_arith only [grd_t,len_ok,BFR,q1,q2,q3,q4,q5,q6,q7,q8,f0,f1,f2]
      exact rt_end hQ
  · simp_arith only [grd_t,len_ok,BFR,q1,q2,q3,q4,q5,q6,q7,q8,f0,f1,f2,m_comp2]
    refine sqb ?_
    rw [eb]
    refine c2_go (xs:=(-1) :: rs) (enc:=fr) (fun a=>(rs ++ [1]).filterMap fun b=>if a <= b then some (lkF a b) else none) rfl ?_ ?_ ?_
    · intro a ma acc hl
      simp_arith only [grd_t,len_ok,itM2]
      rw [em]
      refine (comp_accF (enc:=fr) (fun b=>if a <= b then some (lkF a b) else none) (rs ++ [1]) acc ?_ hl).trans rfl
      intro b mb
      have h1:qSm 2000 a:=(begs_g hr a ma).mono (by decide)
      have h2:qSm 2000 b:=(ends_g hr b mb).mono (by decide)
      simp_arith only [grd_t,len_ok,itM,p_is_below.eq,nlt]
      by_cases c:a <= b <;> simp [c,lkF]
    · exact Nat.le_trans (slF_le l8) (by omega)
    · simp_arith only [grd_t,len_ok,BFR,q1,q2,q3,q4,q5,q6,q7,q8,f0,f1,f2,m_comp2]
      rw [em]
      refine c2_go (xs:=rs ++ [1]) (enc:=fr) (fun a=>((-1) :: rs).filterMap fun b=>if b <= a then some (lkR a b) else none) rfl ?_ ?_ ?_
      · intro a ma acc hl
        simp_arith only [grd_t,len_ok,itM2]
        try rw [eb]
        refine (comp_accF (enc:=fr) (fun b=>if b <= a then some (lkR a b) else none) ((-1) :: rs) acc ?_ hl).trans rfl
        intro b mb
        have h1:qSm 2000 a:=(ends_g hr a ma).mono (by decide)
        have h2:qSm 2000 b:=(begs_g hr b mb).mono (by decide)
        simp_arith only [grd_t,len_ok,itM,p_is_below.eq,nlt]
        by_cases c:b <= a <;> simp [c,lkR]
      · exact Nat.le_trans (slR_le l8) (by omega)
      · have hF:=slF_le l8
        have hR:=slR_le l8
        unfold slF at hF
        unfold slR at hR
        exact grd_step (by omega) (rt_endL hQ)
noncomputable def inr (n:Int):Int:=((n + 1) * (n + 2)).fdiv 2 + n
noncomputable def msl (f:Nat) (n:Int):Int:=if f = 0 then n + 1 else if f = 1 then inr n else 2 * inr n
noncomputable def mlk (f:Nat) (ps:List (List Rat)) (d:Nat):Int:=(List.range d).foldl (fun m j=>m * msl f ((nuQ ps j).length:Nat)) 1
theorem mlk_succ (f:Nat) (ps:List (List Rat)) (d:Nat):mlk f ps (d + 1) = mlk f ps d * msl f ((nuQ ps d).length:Nat):=by unfold mlk; rw [List.range_succ,List.foldl_append]; rfl
theorem inr_bd {n:Int} (h0 : 0 <= n) (h8:n <= 40) : 0 <= inr n /\ inr n <= 1000:=by
  have t:∀ m:Fin 41,0 <= inr (m.val:Int) /\ inr (m.val:Int) <= 1000:=by decide
  have:=t ⟨n.toNat,by omega⟩
  rwa [show ((n.toNat:Nat):Int) = n by omega] at this
theorem msl_bd {f:Nat} {n:Int} (h0 : 0 <= n) (h8:n <= 40) : 0 <= msl f n /\ msl f n <= 2000:=by
  have:=inr_bd h0 h8
  unfold msl
  split
  · omega
  · split <;> omega
noncomputable def PwN (ps:List (List Rat)):Prop:=Pw ps /\ ∀ j,j < dimP ps -> Rs (nuQ ps j)
noncomputable def p_many_side_looks:List W -> (PyData -> Prop) -> Prop:=fun ws Q=>∃ (n:Int) (f:Fin 3),ws = [.d (.int n),.d (.str (famF f))] /\ ((0 <= n) /\ (n <= 40)) /\ Q (.int (msl f.val n))
theorem p_many_side_looks.mono:∀ ws (Q Q':PyData -> Prop),(∀ d,Q d -> Q' d) -> p_many_side_looks ws Q -> p_many_side_looks ws Q':=fun _ _ _ h_=>Exists.imp fun _=>Exists.imp fun _=>And.imp_right (And.imp_right (h_ _))
theorem p_many_side_looks.len:∀ ws (Q:PyData -> Prop),p_many_side_looks ws Q -> ws.length = 2:=fun _ _ h_=>by obtain ⟨_,_,e_,_⟩:=h_; subst e_; rfl
theorem p_many_side_looks.eq (n:Int) (f:Fin 3) (n0 : 0 <= n) (n8:n <= 40):p_many_side_looks [.d (.int n),.d (.str (famF f))] = VL.ret (.int (msl f.val n):PyData):=by
  refine mo_ext fun Q=>⟨?_,fun q_=>⟨n,f,rfl,⟨n0,n8⟩,q_⟩⟩
  rintro ⟨n',f',e_,_,q_⟩
  simp_arith only [fr_i,sdD_i,ptD_i,boxD_i,ptsQ_i,frs_i,fam_i] at e_
  obtain ⟨rfl,rfl⟩:=e_
  exact q_
theorem sc_many_side_looks:FnScope ["many", "family", "inner"] ["many", "family"] (defScope (top 40)):=⟨rfl,rfl,rfl,by decide +kernel,rfl,by decide +kernel,by decide +kernel⟩
theorem d_many_side_looks (Fn:FnIn K mg "many_side_looks" (top 40) ["many", "family"]) (Z:Bz mg)    : Dfn P w K mg base rl "many_side_looks" ["many", "family"] 1 p_many_side_looks:=by
  have sc:=sc_many_side_looks
  refine Dfn.of Fn sc (p_many_side_looks.mono) (p_many_side_looks.len) (fun cdv A outer s H E hr=>(vs_cons (vs_if (vb_cmp op_eq vo_eqS (nomark _) (vn 1) pv_str) (vs_one (vs_ret (v_add (vn 0) pv_int))) vs_nil)
      (vs_cons (vs_setZ 2 sc.nd (v_add (v_div (v_mul (v_add (vn 0) pv_int) (v_add (vn 0) pv_int)) pv_int) (vn 0)))
      (vs_one (vs_ret (v_ifExp (vb_cmp op_eq vo_eqS (nomark _) (vn 1) pv_str) (vn 2) (v_mul pv_int (vn 2)))))))) ?_
  rintro ws Q ⟨n,f,rfl,⟨n0,n8⟩,hQ⟩
  refine read_of ?_
  have q1:decide (Str.ofString "inner" = Str.ofString "corner") = false:=by decide +kernel
  have q2:decide (Str.ofString "round" = Str.ofString "corner") = false:=by decide +kernel
  have q3:decide (Str.ofString "round" = Str.ofString "inner") = false:=by decide +kernel
  have q4:decide (Str.ofString "corner" = Str.ofString "corner") = true:=by decide +kernel
  have q5:decide (Str.ofString "inner" = Str.ofString "inner") = true:=by decide +kernel
  have q6:decide (Str.ofString "corner" = Str.ofString "round") = false:=by decide +kernel
  have q7:decide (Str.ofString "inner" = Str.ofString "round") = false:=by decide +kernel
  have q8:decide (Str.ofString "round" = Str.ofString "round") = true:=by decide +kernel
  have f0:famF 0 = Str.ofString "corner" := rfl
  have f1:famF 1 = Str.ofString "inner" := rfl
  have f2:famF 2 = Str.ofString "round" := rfl
  have c1:CMulB (n + 1) (n + 2):=.lt (by omega)
  have c2:CMulB 2 (inr n):=.lt (by decide)
  have d2:CDivB ((n + 1) * (n + 2)) 2:=CDivB.of (by decide) (by decide)
  have ei:((n + 1) * (n + 2)).fdiv 2 + n = inr n:=rfl
  obtain rfl | rfl | rfl:=fam3 f
  · simp_arith only [grd_t,len_ok,q1,q2,q3,q4,q5,q6,q7,q8,f0,f1,f2]
    exact rt_end hQ
  · simp_arith only [grd_t,len_ok,q1,q2,q3,q4,q5,q6,q7,q8,f0,f1,f2,ei]
    exact rt_end hQ
  · simp_arith only [grd_t,len_ok,q1,q2,q3,q4,q5,q6,q7,q8,f0,f1,f2,ei]
    exact rt_end hQ
noncomputable def p_many_looks:List W -> (PyData -> Prop) -> Prop:=fun ws Q=>∃ (ps:List (List Rat)) (f:Fin 3),ws = [.d (ptsQ ps),.d (.str (famF f))] /\ ((PwN ps)) /\ Q (.int (mlk f.val ps (dimP ps)))
theorem p_many_looks.mono:∀ ws (Q Q':PyData -> Prop),(∀ d,Q d -> Q' d) -> p_many_looks ws Q -> p_many_looks ws Q':=fun _ _ _ h_=>Exists.imp fun _=>Exists.imp fun _=>And.imp_right (And.imp_right (h_ _))
theorem p_many_looks.len:∀ ws (Q:PyData -> Prop),p_many_looks ws Q -> ws.length = 2:=fun _ _ h_=>by obtain ⟨_,_,e_,_⟩:=h_; subst e_; rfl
theorem p_many_looks.eq (ps:List (List Rat)) (f:Fin 3) (hw:PwN ps):p_many_looks [.d (ptsQ ps),.d (.str (famF f))] = VL.ret (.int (mlk f.val ps (dimP ps)):PyData):=by
  refine mo_ext fun Q=>⟨?_,fun q_=>⟨ps,f,rfl,hw,q_⟩⟩
  rintro ⟨ps',f',e_,_,q_⟩
  simp_arith only [fr_i,sdD_i,ptD_i,boxD_i,ptsQ_i,frs_i,fam_i] at e_
  obtain ⟨rfl,rfl⟩:=e_
  exact q_
theorem sc_many_looks:FnScope ["points", "family", "many", "side"] ["points", "family"] (defScope (top 41)):=⟨rfl,rfl,rfl,by decide +kernel,rfl,by decide +kernel,by decide +kernel⟩
theorem d_many_looks (Fn:FnIn K mg "many_looks" (top 41) ["points", "family"]) (Z:Bz mg) (d_sides_of:∀ rl,Dfn P w K mg base rl "sides_of" ["points"] 1 p_sides_of) (d_many_side_looks:∀ rl,Dfn P w K mg base rl "many_side_looks" ["many", "family"] 1 p_many_side_looks) (d_numbers_at:∀ rl,Dfn P w K mg base rl "numbers_at" ["points", "side"] 2 p_numbers_at)   : Dfn P w K mg base rl "many_looks" ["points", "family"] 3 p_many_looks:=by
  have sc:=sc_many_looks
  refine Dfn.of Fn sc (p_many_looks.mono) (p_many_looks.len) (fun cdv A outer s H E hr=>(vs_cons (vs_setZ 2 sc.nd pv_int)
      (vs_cons (vs_forF [3] PassesOwn.never rfl (vi_range1 Z.range_ (pvs_cons (v_call (d_sides_of _) (hr.mono (by decide)) (pvs_cons (vn 0) pvs_nil)) pvs_nil)) (vg_name 3 sc.nd) (vs_one (vs_aug 2 sc.nd ip_mulC (v_call (d_many_side_looks _) (hr.mono (by decide)) (pvs_cons (v_len Z.len_ (pvs_cons (v_call (d_numbers_at _) (hr.mono (by decide)) (pvs_cons (vn 0) (pvs_cons (vn 3) pvs_nil))) pvs_nil)) (pvs_cons (vn 1) pvs_nil))))))
      (vs_one (vs_ret (vn 2)))))) ?_
  rintro ws Q ⟨ps,f,rfl,hw,hQ⟩
  refine read_of ?_
  have sz:=PySem.sizeLine_eq
  obtain ⟨h,hN⟩:=hw
  have h1:=h.1
  have d4:=h.2.2.2.2
  have gn : -(2 ^ 62) <= ((dimP ps:Nat):Int) /\ ((dimP ps:Nat):Int) < 2 ^ 62:=by omega
  simp_arith only [grd_t,len_ok,p_sides_of.eq]
  refine invR_go (fun i ρ=>ρ = [some (.d (ptsQ ps)),some (.d (.str (famF f))),some (.d (.int (mlk f.val ps i))),none]) rfl ?_ ?_
  · rintro i hi ρ rfl K hK
    have j0 : 0 <= 0 + (i:Int):=by omega
    have jl : 0 + (i:Int) < dimP ps:=by omega
    have hr:=hN i hi
    have et:(0 + (i:Int)).toNat = i:=by omega
    have n0:(0:Int) <= ((nuQ ps i).length:Nat):=by omega
    have n8:((nuQ ps i).length:Int) <= 40:=by have:=hr.1; omega
    have cm:∀ x:Int,CMulB x (msl f.val ((nuQ ps i).length:Nat)):=fun x=>.rt (by have:=msl_bd (f:=f.val) n0 n8; omega)
    simp_arith only [grd_t,len_ok,BFR,p_numbers_at.eq,p_many_side_looks.eq,et,cm]
    exact hK _ (lpS_nx (by rw [mlk_succ]; rfl))
  · rintro ρ rfl
    simp_arith only [grd_t,len_ok]
    exact rt_end hQ
theorem i_TooMany:∀ f fd,Fun K "__init__" "TooMany.__init__" (inClass (top 4) 0) f fd -> FnOk P w K mg base CX0 1 f fd ["self", "word"] (spI K "word"):=by
  intro f fd F
  refine F.ok (k:=0) (N:=["self", "word"]) ⟨rfl,rfl,rfl,by decide +kernel,rfl,by decide +kernel,by decide +kernel⟩ (fun vs H Q E h=>?_) fun cdv A outer s H vs Q E hr h=>⟨_,pss_one (ps_x1 (pe_var (i:=0) rfl (.inl rfl)) (pe_var (i:=1) rfl (.inl rfl)) rfl),?_⟩
  · obtain ⟨a,C,y,e,_⟩:=h
    subst e
    rfl
  · obtain ⟨a,C,y,e,xc,na,ea,z⟩:=h
    subst e
    exact ⟨y,rfl,.ref a,rfl,a,C,rfl,xc,na,ea,z⟩
noncomputable def pE_looks_by_side:List W -> (PyData -> Prop) -> XQ -> Prop:=fun ws Q R=>∃ (ps:List (List Rat)) (f:Fin 3),ws = [.d (ptsQ ps),.d (.str (famF f))] /\ ((PwN ps)) /\ ((3000 < mlk f.val ps (dimP ps)) -> R "TooMany" [("word", .str "looks")]) /\ (¬ (3000 < mlk f.val ps (dimP ps)) -> Q (.list ((List.range (dimP ps)).map fun j=>PyData.list (sl f.val (nuQ ps j)))))
theorem pE_looks_by_side.mono:∀ ws (Q Q':PyData -> Prop) (R R':XQ),(∀ d,Q d -> Q' d) -> (∀ c fs,R c fs -> R' c fs) -> pE_looks_by_side ws Q R -> pE_looks_by_side ws Q' R':=fun _ _ _ _ _ h1 h2 ⟨ps,f,e_,p_,a_,b_⟩=>⟨ps,f,e_,p_,fun z=>h2 _ _ (a_ z),fun z=>h1 _ (b_ z)⟩
theorem pE_looks_by_side.len:∀ ws (Q:PyData -> Prop) (R:XQ),pE_looks_by_side ws Q R -> ws.length = 2:=fun _ _ _ ⟨_,_,e_,_⟩=>by subst e_; rfl
theorem scE_looks_by_side:FnScope ["points", "family"] ["points", "family"] (defScope (top 42)):=⟨rfl,rfl,rfl,by decide +kernel,rfl,by decide +kernel,by decide +kernel⟩
theorem dE_looks_by_side (Fn:FnIn K mg "looks_by_side" (top 42) ["points", "family"]) (Z:Bz mg) (d_many_looks:∀ rl,Dfn P w K mg base rl "many_looks" ["points", "family"] 3 p_many_looks) (d_side_looks:∀ rl,Dfn P w K mg base rl "side_looks" ["numbers", "family"] 2 p_side_looks) (d_numbers_at:∀ rl,Dfn P w K mg base rl "numbers_at" ["points", "side"] 2 p_numbers_at) (d_sides_of:∀ rl,Dfn P w K mg base rl "sides_of" ["points"] 1 p_sides_of) (gl_MOST_LOOKS:GlD K mg "MOST_LOOKS" (.int 3000))  (xo_:∃ C,XOne P w K mg base "TooMany" "word" C):DfnE P w K mg base rl "looks_by_side" ["points", "family"] 4 pE_looks_by_side:=by
  have sc:=scE_looks_by_side
  obtain ⟨C_,xo⟩:=xo_
  refine DfnE.of Fn sc pE_looks_by_side.mono pE_looks_by_side.len (fun cdv A outer s H E hr hxe=>e_if hxe (hr.mono (by decide)) xo (vb_cmp op_gt vo_gt (nomark _) (v_call (d_many_looks _) (hr.mono (by decide)) (pvs_cons (vn 0) (pvs_cons (vn 1) pvs_nil))) (v_glob gl_MOST_LOOKS)) (pvs_cons pv_str pvs_nil) (e_of (vs_one (vs_ret (v_lcompR ["side", "points", "family"] [none,some 0,some 1] rfl (vi_range1 Z.range_ (pvs_cons (v_call (d_sides_of _) (hr.mono (by decide)) (pvs_cons (vn 0) pvs_nil)) pvs_nil)) (fun _=>(vg_name 0 (show List.Nodup (["side", "points", "family"]:List Str) by decide +kernel))) (fun _=>vt_nil) (fun _=>(v_call (d_side_looks _) (hr.mono (by decide)) (pvs_cons (v_call (d_numbers_at _) (hr.mono (by decide)) (pvs_cons (vn 1) (pvs_cons (vn 0) pvs_nil))) (pvs_cons (vn 2) pvs_nil))))))))) ?_
  rintro ws Q R ⟨ps,f,rfl,hw,hR,hQ⟩
  by_cases hc : 3000 < mlk f.val ps (dimP ps)
  · refine xif_t (.str "looks") ?_ ?_ (hR hc)
    · have dm:decide (3000 < mlk f.val ps (dimP ps)) = true:=by simp; omega
      simp_arith only [len_ok,p_many_looks.eq,dm]
    · simp_arith only [len_ok]
  · have hQ:=hQ hc
    refine xif_f ?_ (show _ from ?_)
    · have dm:decide (3000 < mlk f.val ps (dimP ps)) = false:=by simp; omega
      simp_arith only [len_ok,p_many_looks.eq,dm]
    · refine read_of ?_
      have sz:=PySem.sizeLine_eq
      obtain ⟨h,hN⟩:=id hw
      have h1:=h.1
      have d4:=h.2.2.2.2
      have gn : -(2 ^ 62) <= ((dimP ps:Nat):Int) /\ ((dimP ps:Nat):Int) < 2 ^ 62:=by omega
      simp_arith only [grd_t,len_ok,p_sides_of.eq]
      refine cmapR_go (fun j=>PyData.list (sl f.val (nuQ ps j))) ?_ (by omega) ?_
      · intro j hj
        have j0 : 0 <= 0 + (j:Int):=by omega
        have jl : 0 + (j:Int) < dimP ps:=by omega
        have et:(0 + (j:Int)).toNat = j:=by omega
        have hr:=hN j hj
        simp_arith only [grd_t,len_ok,itM,p_numbers_at.eq,p_side_looks.eq,et]
      · exact rt_endL hQ
noncomputable def Ch (rows:List (List PyData)):Prop:=rows.length <= 4 /\ ∀ i,i <= rows.length -> (chP (rows.take i)).length <= 100000
theorem chP_tk {α:Type} {rows:List (List α)} {i:Nat} (h:i < rows.length):chP (rows.take (i + 1)) = (chP (rows.take i)).flatMap fun b=>rows[i].map fun t=>b ++ [t]:=by rw [List.take_succ_eq_append_getElem h,chP_snoc]
theorem comp_accB {b:PyData -> Mo (Option PyData)} (f:PyData -> PyData) (xs:List PyData) (acc:List PyData) (h:∀ x ∈ xs,b x = VL.ret (some (f x))) (hl:acc.length + (xs.map f).length <= sizeLine):compM b xs acc = VL.ret (acc ++ xs.map f):=by
  have z:=comp_accF (b:=b) (enc:=fun d=>d) (fun x=>some (f x)) xs acc h (by rw [List.filterMap_eq_map']; exact hl)
  rw [List.filterMap_eq_map',List.map_id'] at z
  exact z
theorem ch_fl {α:Type} (g:List α -> PyData) (l:List (List α)) (r:List α):(l.flatMap fun b=>r.map fun t=>g (b ++ [t])) = (l.flatMap fun b=>r.map fun t=>b ++ [t]).map g:=by
  induction l with
  | nil=>rfl
  | cons x l ih=>rw [List.flatMap_cons,List.flatMap_cons,List.map_append,ih,List.map_map]; rfl
noncomputable def p_choices:List W -> (PyData -> Prop) -> Prop:=fun ws Q=>∃ (rows:List (List PyData)),ws = [.d (.list (rows.map PyData.list))] /\ ((Ch rows)) /\ Q (.list ((chP rows).map PyData.tuple))
theorem p_choices.mono:∀ ws (Q Q':PyData -> Prop),(∀ d,Q d -> Q' d) -> p_choices ws Q -> p_choices ws Q':=fun _ _ _ h_=>Exists.imp fun _=>And.imp_right (And.imp_right (h_ _))
theorem p_choices.len:∀ ws (Q:PyData -> Prop),p_choices ws Q -> ws.length = 1:=fun _ _ h_=>by obtain ⟨_,e_,_⟩:=h_; subst e_; rfl
theorem sc_choices:FnScope ["rows", "chosen", "row"] ["rows"] (defScope (top 32)):=⟨rfl,rfl,rfl,by decide +kernel,rfl,by decide +kernel,by decide +kernel⟩
theorem d_choices (Fn:FnIn K mg "choices" (top 32) ["rows"]) (Z:Bz mg)    : Dfn P w K mg base rl "choices" ["rows"] 1 p_choices:=by
  have sc:=sc_choices
  refine Dfn.of Fn sc (p_choices.mono) (p_choices.len) (fun cdv A outer s H E hr=>(vs_cons (vs_set 1 sc.nd (v_lst (pvs_cons (v_tup pvs_nil) pvs_nil)))
      (vs_cons (vs_forF [2] PassesOwn.never rfl (vi_list (vn 0)) (vg_name 2 sc.nd) (vs_one (vs_frz 1 (vs_setcomp2R 1 sc.nd ["begun", "thing", "row"] [none,none,some 2] rfl (vi_list (vn 1)) (fun _=>(vg_name 0 (show List.Nodup (["begun", "thing", "row"]:List Str) by decide +kernel))) (fun _=>vt_nil) (fun _=>(vi_list (vn 2))) (fun _=>(vg_name 1 (show List.Nodup (["begun", "thing", "row"]:List Str) by decide +kernel))) (fun _=>vt_nil) (fun _=>(v_catA (vn 0) (v_tup (pvs_cons (vn 1) pvs_nil))))))))
      (vs_one (vs_retO 1))))) ?_
  rintro ws Q ⟨rows,rfl,hc,hQ⟩
  refine read_of ?_
  have sz:=PySem.sizeLine_eq
  simp_arith only [grd_t,len_ok]
  obtain ⟨h4,hl⟩:=hc
  refine inv_go (xs:=rows) (enc:=PyData.list) (fun i ρ=>(∀ b ∈ chP (rows.take i),b.length = i) /\ ρ = [some (.d (.list (rows.map PyData.list))),some (.ml ((chP (rows.take i)).map PyData.tuple)),none]) rfl ⟨by intro b mb; simp [chP] at mb; rw [mb]; rfl,rfl⟩ ?_ ?_
  · rintro i hi ρ ⟨hb,rfl⟩ K hK
    have l1:=hl i (by omega)
    have l2:=hl (i + 1) (by omega)
    rw [chP_tk hi] at l2
    simp_arith only [grd_t,len_ok,m_comp2]
    refine c2_go (xs:=chP (rows.take i)) (enc:=PyData.tuple) (fun b=>rows[i].map fun t=>PyData.tuple (b ++ [t])) rfl ?_ ?_ ?_
    · intro b mb acc hacc
      have bl:=hb b mb
      have bz:b.length + 1 <= sizeLine:=by omega
      simp_arith only [grd_t,len_ok,itM2]
      have:=comp_accB (b:=itM [some (W.d (PyData.tuple b)),none,some (W.d (PyData.list rows[i]))] (hName 1) (fun x Q=>Q true) (vOp gCatA (vVar 0) (vTup (vCons (vVar 1) vNil)))) (fun t=>PyData.tuple (b ++ [t])) rows[i] acc ?_ hacc
      · exact this
      · intro d md
        simp_arith only [grd_t,len_ok,itM]
    · rw [ch_fl,List.length_map]; omega
    · rw [ch_fl]
      refine hK _ (lpS_nx ⟨fun b mb=>?_,by rw [chP_tk hi]; rfl⟩)
      rw [chP_tk hi] at mb
      obtain ⟨b',mb',h⟩:=List.mem_flatMap.mp mb
      obtain ⟨d,_,rfl⟩:=List.mem_map.mp h
      rw [List.length_append,hb b' mb']; rfl
  · rintro ρ ⟨hb,rfl⟩
    rw [List.take_of_length_le (Nat.le_refl _)]
    simp_arith only [grd_t,len_ok]
    exact rt_endL hQ
noncomputable def rowsQ (f:Nat) (ps:List (List Rat)):List (List PyData):=(List.range (dimP ps)).map fun j=>sl f (nuQ ps j)
noncomputable def pE_looks:List W -> (PyData -> Prop) -> XQ -> Prop:=fun ws Q R=>∃ (ps:List (List Rat)) (f:Fin 3),ws = [.d (ptsQ ps),.d (.str (famF f))] /\ ((PwN ps) /\ (mlk f.val ps (dimP ps) <= 3000 -> Ch ((List.range (dimP ps)).map fun j=>sl f.val (nuQ ps j)))) /\ ((3000 < mlk f.val ps (dimP ps)) -> R "TooMany" [("word", .str "looks")]) /\ (¬ (3000 < mlk f.val ps (dimP ps)) -> Q (.list ((chP ((List.range (dimP ps)).map fun j=>sl f.val (nuQ ps j))).map PyData.tuple)))
theorem pE_looks.mono:∀ ws (Q Q':PyData -> Prop) (R R':XQ),(∀ d,Q d -> Q' d) -> (∀ c fs,R c fs -> R' c fs) -> pE_looks ws Q R -> pE_looks ws Q' R':=fun _ _ _ _ _ h1 h2=>Exists.imp fun _=>Exists.imp fun _=>And.imp_right (And.imp_right fun h=>⟨fun z=>h2 _ _ (h.1 z),fun z=>h1 _ (h.2 z)⟩)
theorem pE_looks.len:∀ ws (Q:PyData -> Prop) (R:XQ),pE_looks ws Q R -> ws.length = 2:=fun _ _ _ h=>by obtain ⟨_,_,e_,_⟩:=h; subst e_; rfl
theorem scE_looks:FnScope ["points", "family"] ["points", "family"] (defScope (top 43)):=⟨rfl,rfl,rfl,by decide +kernel,rfl,by decide +kernel,by decide +kernel⟩
theorem dE_looks (Fn:FnIn K mg "looks" (top 43) ["points", "family"]) (Z:Bz mg) (d_choices:∀ rl,Dfn P w K mg base rl "choices" ["rows"] 1 p_choices)  (dE_looks_by_side:∀ rl,DfnE P w K mg base rl "looks_by_side" ["points", "family"] 4 pE_looks_by_side):DfnE P w K mg base rl "looks" ["points", "family"] 5 pE_looks:=by
  have sc:=scE_looks
  refine DfnE.of Fn sc pE_looks.mono pE_looks.len (fun cdv A outer s H E hr hxe=>e_ret1 pass_on (d_choices _) (hr.mono (by decide)) (dE_looks_by_side _) (hr.mono (by decide)) (pvs_cons (vn 0) (pvs_cons (vn 1) pvs_nil))) ?_
  rintro ws Q R ⟨ps,f,rfl,⟨hw,hc⟩,hR⟩
  refine xRet1_r (ws:=[.d (ptsQ ps),.d (.str (famF f))]) ?_ rfl ⟨ps,f,rfl,hw,hR.1,fun z=>?_⟩
  · simp_arith only [grd_t,len_ok]
  · have e:((List.range (dimP ps)).map fun j=>PyData.list (sl f.val (nuQ ps j))) = ((List.range (dimP ps)).map fun j=>sl f.val (nuQ ps j)).map PyData.list:=by rw [List.map_map]; rfl
    rw [e]
    exact ⟨_,rfl,hc (by omega),_,rfl,hR.2 z⟩
noncomputable def pE_counted_looks:List W -> (PyData -> Prop) -> XQ -> Prop:=fun ws Q R=>∃ (ps:List (List Rat)) (f:Fin 3),ws = [.d (ptsQ ps),.d (.str (famF f))] /\ ((PwN ps) /\ (3000 < mlk f.val ps (dimP ps))) /\ R "TooMany" [("word", .str "looks")]
theorem pE_counted_looks.mono:∀ ws (Q Q':PyData -> Prop) (R R':XQ),(∀ d,Q d -> Q' d) -> (∀ c fs,R c fs -> R' c fs) -> pE_counted_looks ws Q R -> pE_counted_looks ws Q' R':=fun _ _ _ _ _ h1 h2=>Exists.imp fun _=>Exists.imp fun _=>And.imp_right (And.imp_right fun h=>h2 _ _ h)
theorem pE_counted_looks.len:∀ ws (Q:PyData -> Prop) (R:XQ),pE_counted_looks ws Q R -> ws.length = 2:=fun _ _ _ h=>by obtain ⟨_,_,e_,_⟩:=h; subst e_; rfl
theorem scE_counted_looks:FnScope ["points", "family", "places", "rows", "side", "side_rows", "numbers", "marks"] ["points", "family"] (defScope (top 46)):=⟨rfl,rfl,rfl,by decide +kernel,rfl,by decide +kernel,by decide +kernel⟩
theorem dE_counted_looks (Fn:FnIn K mg "counted_looks" (top 46) ["points", "family"]) (Z:Bz mg)  (gl_ONE:GlD K mg "ONE" (.tuple [.int 1,.int 1])) (dE_looks_by_side:∀ rl,DfnE P w K mg base rl "looks_by_side" ["points", "family"] 4 pE_looks_by_side):DfnE P w K mg base rl "counted_looks" ["points", "family"] 5 pE_counted_looks:=by
  have sc:=scE_counted_looks
  refine DfnE.of Fn sc pE_counted_looks.mono pE_counted_looks.len (fun cdv A outer s H E hr hxe=>e_cons (vs_setZ 2 sc.nd (v_lrange1 Z.list_ Z.range_ (pvs_cons (v_len Z.len_ (pvs_cons (vn 0) pvs_nil)) pvs_nil))) (e_cons (vs_setZ 3 sc.nd (v_lst (pvs_cons (v_tup (pvs_cons (v_tup pvs_nil) (pvs_cons (vn 2) (pvs_cons (vn 2) (pvs_cons (v_glob gl_ONE) pvs_nil))))) pvs_nil))) (e_forD (xd_ty Z.enumerate_ (by rfl) (xds_here (xd_call pass_on (dE_looks_by_side _) (hr.mono (by decide)) (pvs_cons (vn 0) (pvs_cons (vn 1) pvs_nil)))))))) ?_
  rintro ws Q R ⟨ps,f,rfl,⟨hw,hm⟩,hR⟩
  have sz:=PySem.sizeLine_eq
  have h40:=hw.1.2.1
  have gn : -(2 ^ 62) <= ((ps.length:Nat):Int) /\ ((ps.length:Nat):Int) < 2 ^ 62:=by omega
  refine xseq_r (ρ':=_) (by simp_arith only [grd_t,len_ok,BFR]; rfl) (xseq_r (ρ':=_) (by simp_arith only [grd_t,len_ok,BFR]; rfl) (xdC_r (ws:=[.d (ptsQ ps),.d (.str (famF f))]) (by simp_arith only [grd_t,len_ok]) rfl ⟨ps,f,rfl,hw,fun _=>hR,fun z=>absurd hm z⟩))
noncomputable def pE_misses:List W -> (PyData -> Prop) -> XQ -> Prop:=fun ws Q R=>∃ (ps:List (List Rat)) (f:Fin 3),ws = [.d (ptsQ ps),.d (.str (famF f))] /\ ((PwN ps) /\ (3000 < mlk f.val ps (dimP ps))) /\ R "TooMany" [("word", .str "looks")]
theorem pE_misses.mono:∀ ws (Q Q':PyData -> Prop) (R R':XQ),(∀ d,Q d -> Q' d) -> (∀ c fs,R c fs -> R' c fs) -> pE_misses ws Q R -> pE_misses ws Q' R':=fun _ _ _ _ _ h1 h2=>Exists.imp fun _=>Exists.imp fun _=>And.imp_right (And.imp_right fun h=>h2 _ _ h)
theorem pE_misses.len:∀ ws (Q:PyData -> Prop) (R:XQ),pE_misses ws Q R -> ws.length = 2:=fun _ _ _ h=>by obtain ⟨_,_,e_,_⟩:=h; subst e_; rfl
theorem scE_misses:FnScope ["points", "family", "many", "told", "box", "shut", "free", "size"] ["points", "family"] (defScope (top 47)):=⟨rfl,rfl,rfl,by decide +kernel,rfl,by decide +kernel,by decide +kernel⟩
theorem dE_misses (Fn:FnIn K mg "misses" (top 47) ["points", "family"]) (Z:Bz mg)   (dE_counted_looks:∀ rl,DfnE P w K mg base rl "counted_looks" ["points", "family"] 5 pE_counted_looks):DfnE P w K mg base rl "misses" ["points", "family"] 6 pE_misses:=by
  have sc:=scE_misses
  refine DfnE.of Fn sc pE_misses.mono pE_misses.len (fun cdv A outer s H E hr hxe=>e_cons (vs_setZ 2 sc.nd (v_len Z.len_ (pvs_cons (vn 0) pvs_nil))) (e_cons (vs_set 3 sc.nd (v_lst pvs_nil)) (e_forD (xd_call pass_on (dE_counted_looks _) (hr.mono (by decide)) (pvs_cons (vn 0) (pvs_cons (vn 1) pvs_nil)))))) ?_
  rintro ws Q R ⟨ps,f,rfl,⟨hw,hm⟩,hR⟩
  have sz:=PySem.sizeLine_eq
  refine xseq_r (ρ':=_) (by simp_arith only [grd_t,len_ok,BFR]; rfl) (xseq_r (ρ':=_) (by simp_arith only [grd_t,len_ok,BFR]; rfl) (xdC_r (ws:=[.d (ptsQ ps),.d (.str (famF f))]) (by simp_arith only [grd_t,len_ok]) rfl ⟨ps,f,rfl,⟨hw,hm⟩,hR⟩))
noncomputable def pNo:List W -> (PyData -> Prop) -> Prop:=fun _ _=>False
theorem sc_first_greatest:FnScope ["rows", "best", "row"] ["rows"] (defScope (top 48)):=⟨rfl,rfl,rfl,by decide +kernel,rfl,by decide +kernel,by decide +kernel⟩
theorem d_first_greatest (Fn:FnIn K mg "first_greatest" (top 48) ["rows"]) (Z:Bz mg):Dfn P w K mg base rl "first_greatest" ["rows"] 1 pNo:=by
  have sc:=sc_first_greatest
  exact Dfn.of Fn sc (fun _ _ _ _ h=>h) (fun _ _ h=>h.elim) (fun cdv A outer s H E hr=>(⟨_,pss_never,fun _ _ _ _ q=>q⟩:PSsV _ _ _ fun _ _=>False)) (fun _ _ h=>h)
noncomputable def pE_worst:List W -> (PyData -> Prop) -> XQ -> Prop:=fun ws Q R=>∃ (ps:List (List Rat)) (f:Fin 3),ws = [.d (ptsQ ps),.d (.str (famF f))] /\ ((PwN ps) /\ (3000 < mlk f.val ps (dimP ps))) /\ R "TooMany" [("word", .str "looks")]
theorem pE_worst.mono:∀ ws (Q Q':PyData -> Prop) (R R':XQ),(∀ d,Q d -> Q' d) -> (∀ c fs,R c fs -> R' c fs) -> pE_worst ws Q R -> pE_worst ws Q' R':=fun _ _ _ _ _ h1 h2=>Exists.imp fun _=>Exists.imp fun _=>And.imp_right (And.imp_right fun h=>h2 _ _ h)
theorem pE_worst.len:∀ ws (Q:PyData -> Prop) (R:XQ),pE_worst ws Q R -> ws.length = 2:=fun _ _ _ h=>by obtain ⟨_,_,e_,_⟩:=h; subst e_; rfl
theorem scE_worst:FnScope ["points", "family"] ["points", "family"] (defScope (top 49)):=⟨rfl,rfl,rfl,by decide +kernel,rfl,by decide +kernel,by decide +kernel⟩
theorem dE_worst (Fn:FnIn K mg "worst" (top 49) ["points", "family"]) (Z:Bz mg) (d_first_greatest:∀ rl,Dfn P w K mg base rl "first_greatest" ["rows"] 1 pNo)  (dE_misses:∀ rl,DfnE P w K mg base rl "misses" ["points", "family"] 6 pE_misses):DfnE P w K mg base rl "worst" ["points", "family"] 7 pE_worst:=by
  have sc:=scE_worst
  refine DfnE.of Fn sc pE_worst.mono pE_worst.len (fun cdv A outer s H E hr hxe=>e_retD (xd_use (d_first_greatest _) (hr.mono (by decide)) (xds_here (xd_call pass_on (dE_misses _) (hr.mono (by decide)) (pvs_cons (vn 0) (pvs_cons (vn 1) pvs_nil)))))) ?_
  rintro ws Q R ⟨ps,f,rfl,⟨hw,hm⟩,hR⟩
  exact xdC_r (ws:=[.d (ptsQ ps),.d (.str (famF f))]) (by simp_arith only [grd_t,len_ok]) rfl ⟨ps,f,rfl,⟨hw,hm⟩,hR⟩
noncomputable def pE_unevenness:List W -> (PyData -> Prop) -> XQ -> Prop:=fun ws Q R=>∃ (ps:List (List Rat)) (f:Fin 3),ws = [.d (ptsQ ps),.d (.str (famF f))] /\ ((PwN ps) /\ (3000 < mlk f.val ps (dimP ps))) /\ R "TooMany" [("word", .str "looks")]
theorem pE_unevenness.mono:∀ ws (Q Q':PyData -> Prop) (R R':XQ),(∀ d,Q d -> Q' d) -> (∀ c fs,R c fs -> R' c fs) -> pE_unevenness ws Q R -> pE_unevenness ws Q' R':=fun _ _ _ _ _ h1 h2=>Exists.imp fun _=>Exists.imp fun _=>And.imp_right (And.imp_right fun h=>h2 _ _ h)
theorem pE_unevenness.len:∀ ws (Q:PyData -> Prop) (R:XQ),pE_unevenness ws Q R -> ws.length = 2:=fun _ _ _ h=>by obtain ⟨_,_,e_,_⟩:=h; subst e_; rfl
theorem scE_unevenness:FnScope ["points", "family"] ["points", "family"] (defScope (top 50)):=⟨rfl,rfl,rfl,by decide +kernel,rfl,by decide +kernel,by decide +kernel⟩
theorem dE_unevenness (Fn:FnIn K mg "unevenness" (top 50) ["points", "family"]) (Z:Bz mg)   (dE_worst:∀ rl,DfnE P w K mg base rl "worst" ["points", "family"] 7 pE_worst):DfnE P w K mg base rl "unevenness" ["points", "family"] 8 pE_unevenness:=by
  have sc:=scE_unevenness
  refine DfnE.of Fn sc pE_unevenness.mono pE_unevenness.len (fun cdv A outer s H E hr hxe=>e_retD (xd_ix (xd_call pass_on (dE_worst _) (hr.mono (by decide)) (pvs_cons (vn 0) (pvs_cons (vn 1) pvs_nil))))) ?_
  rintro ws Q R ⟨ps,f,rfl,⟨hw,hm⟩,hR⟩
  exact xdC_r (ws:=[.d (ptsQ ps),.d (.str (famF f))]) (by simp_arith only [grd_t,len_ok]) rfl ⟨ps,f,rfl,⟨hw,hm⟩,hR⟩
noncomputable def pE_all_worst:List W -> (PyData -> Prop) -> XQ -> Prop:=fun ws Q R=>∃ (ps:List (List Rat)) (f:Fin 3),ws = [.d (ptsQ ps),.d (.str (famF f))] /\ ((PwN ps) /\ (3000 < mlk f.val ps (dimP ps))) /\ R "TooMany" [("word", .str "looks")]
theorem pE_all_worst.mono:∀ ws (Q Q':PyData -> Prop) (R R':XQ),(∀ d,Q d -> Q' d) -> (∀ c fs,R c fs -> R' c fs) -> pE_all_worst ws Q R -> pE_all_worst ws Q' R':=fun _ _ _ _ _ h1 h2=>Exists.imp fun _=>Exists.imp fun _=>And.imp_right (And.imp_right fun h=>h2 _ _ h)
theorem pE_all_worst.len:∀ ws (Q:PyData -> Prop) (R:XQ),pE_all_worst ws Q R -> ws.length = 2:=fun _ _ _ h=>by obtain ⟨_,_,e_,_⟩:=h; subst e_; rfl
theorem scE_all_worst:FnScope ["points", "family", "rows", "greatest"] ["points", "family"] (defScope (top 51)):=⟨rfl,rfl,rfl,by decide +kernel,rfl,by decide +kernel,by decide +kernel⟩
theorem dE_all_worst (Fn:FnIn K mg "all_worst" (top 51) ["points", "family"]) (Z:Bz mg)   (dE_misses:∀ rl,DfnE P w K mg base rl "misses" ["points", "family"] 6 pE_misses):DfnE P w K mg base rl "all_worst" ["points", "family"] 7 pE_all_worst:=by
  have sc:=scE_all_worst
  refine DfnE.of Fn sc pE_all_worst.mono pE_all_worst.len (fun cdv A outer s H E hr hxe=>e_setD 2 sc.nd (xd_call pass_on (dE_misses _) (hr.mono (by decide)) (pvs_cons (vn 0) (pvs_cons (vn 1) pvs_nil)))) ?_
  rintro ws Q R ⟨ps,f,rfl,⟨hw,hm⟩,hR⟩
  exact xdC_r (ws:=[.d (ptsQ ps),.d (.str (famF f))]) (by simp_arith only [grd_t,len_ok]) rfl ⟨ps,f,rfl,⟨hw,hm⟩,hR⟩
noncomputable def pE_even_paper:List W -> (PyData -> Prop) -> XQ -> Prop:=fun ws Q R=>∃ (ps:List (List Rat)) (f:Fin 3),ws = [.d (ptsQ ps),.d (.str (famF f)),.d (.tuple [.int 1,.int 1])] /\ ((PwN ps) /\ (3000 < mlk f.val ps (dimP ps))) /\ R "TooMany" [("word", .str "looks")]
theorem pE_even_paper.mono:∀ ws (Q Q':PyData -> Prop) (R R':XQ),(∀ d,Q d -> Q' d) -> (∀ c fs,R c fs -> R' c fs) -> pE_even_paper ws Q R -> pE_even_paper ws Q' R':=fun _ _ _ _ _ h1 h2=>Exists.imp fun _=>Exists.imp fun _=>And.imp_right (And.imp_right fun h=>h2 _ _ h)
theorem pE_even_paper.len:∀ ws (Q:PyData -> Prop) (R:XQ),pE_even_paper ws Q R -> ws.length = 3:=fun _ _ _ h=>by obtain ⟨_,_,e_,_⟩:=h; subst e_; rfl
theorem scE_even_paper:FnScope ["points", "family", "number", "s", "numbers"] ["points", "family", "number"] (defScope (top 67)):=⟨rfl,rfl,rfl,by decide +kernel,rfl,by decide +kernel,by decide +kernel⟩
theorem dE_even_paper (Fn:FnIn K mg "even_paper" (top 67) ["points", "family", "number"]) (Z:Bz mg) (d_is_below:∀ rl,Dfn P w K mg base rl "is_below" ["one", "other"] 1 p_is_below)  (dE_unevenness:∀ rl,DfnE P w K mg base rl "unevenness" ["points", "family"] 8 pE_unevenness):DfnE P w K mg base rl "even_paper" ["points", "family", "number"] 9 pE_even_paper:=by
  have sc:=scE_even_paper
  refine DfnE.of Fn sc pE_even_paper.mono pE_even_paper.len (fun cdv A outer s H E hr hxe=>e_ifD (xd_use (d_is_below _) (hr.mono (by decide)) (xds_next (vn 2) (xds_here (xd_call pass_on (dE_unevenness _) (hr.mono (by decide)) (pvs_cons (vn 0) (pvs_cons (vn 1) pvs_nil))))))) ?_
  rintro ws Q R ⟨ps,f,rfl,⟨hw,hm⟩,hR⟩
  exact xdN_r (w:=.d (.tuple [.int 1,.int 1])) (by simp_arith only [grd_t,len_ok]) (xdC_r (ws:=[.d (ptsQ ps),.d (.str (famF f))]) (by simp_arith only [grd_t,len_ok]) rfl ⟨ps,f,rfl,⟨hw,hm⟩,hR⟩)
theorem qd_lt_iff {a b c d:Int} (hb : 0 < b) (hd : 0 < d):a * d < c * b ↔ qd a b < qd c d:=by
  have e1:(a:Rat) = qd a b * (b:Rat):=by have:=rat_ne hb; unfold qd; grind
  have e2:(c:Rat) = qd c d * (d:Rat):=by have:=rat_ne hd; unfold qd; grind
  have z1:(0:Rat) < (b:Rat):=by exact_mod_cast hb
  have z2:(0:Rat) < (d:Rat):=by exact_mod_cast hd
  have z3:(0:Rat) < (b:Rat) * (d:Rat):=Rat.mul_pos z1 z2
  rw [<- Rat.intCast_lt_intCast,Rat.intCast_mul,Rat.intCast_mul,e1,e2]
  generalize qd a b = x
  generalize qd c d = y
  generalize (b:Rat) = u at *
  generalize (d:Rat) = v at *
  constructor
  · intro h
    by_cases c:x < y
    · exact c
    · have:=Rat.mul_nonneg (show 0 <= x - y by grind) (Rat.le_of_lt z3)
      grind
  · intro h
    have:=Rat.mul_pos (show 0 < y - x by grind) z3
    grind
abbrev EnT:=Fin 3 × List Int × Int
noncomputable def entD (z:EnT):PyData:=.tuple [.str (famF z.1),.tuple (z.2.1.map .int),.int z.2.2]
noncomputable def tbl17:List EnT:=[(0,[9,14,19],3000),(0,[9,14,20],3150),(0,[4,4,9,11],3000),(0,[4,4,9,12],3250),(0,[13,13,13],2744),(0,[13,13,14],2940),(0,[13,14,14],3150),(1,[8,8],2809),(1,[8,9],3392),(1,[6,11],3026),(1,[2,4,4],2888),(1,[40],901),(2,[5,5],2704),(2,[5,6],3536),(2,[3,8],2756),(2,[40],1802),(2,[1,1,1,1],4096)]
noncomputable def tbl4:List EnT:=[(0,[2,6,10,12],3003),(1,[40,40,40],731432701),(2,[9,9,9,9],268435456),(0,[39,39,39,39],2560000)]
noncomputable def p__law_sizes_told:List W -> (PyData -> Prop) -> Prop:=fun ws Q=>ws = [.reel] /\ (True) /\ ∀ z:EnT,(z ∈ tbl17) -> Q (entD z)
theorem p__law_sizes_told.mono:∀ ws (Q Q':PyData -> Prop),(∀ d,Q d -> Q' d) -> p__law_sizes_told ws Q -> p__law_sizes_told ws Q':=fun _ _ _ h_=>And.imp_right (And.imp_right fun q_ o_ ho_=>h_ _ (q_ o_ ho_))
theorem p__law_sizes_told.len:∀ ws (Q:PyData -> Prop),p__law_sizes_told ws Q -> ws.length = 1:=fun _ _ h_=>by obtain ⟨e_,_⟩:=h_; subst e_; rfl
theorem p__law_sizes_told.eq   : p__law_sizes_told [.reel] = bnd (anyM fun z:EnT=>z ∈ tbl17) fun z=>VL.ret (entD z:PyData):=by
  refine mo_ext fun Q=>⟨?_,fun q_=>⟨rfl,trivial,q_⟩⟩
  rintro ⟨e_,_,q_⟩
  simp_arith only [and_true] at e_
  
  exact q_
theorem sc__law_sizes_told:FnScope ["_law_feed_here", "_law_some"] ["_law_feed_here"] (defScope (top 75)):=⟨rfl,rfl,rfl,by decide +kernel,rfl,by decide +kernel,by decide +kernel⟩
theorem d__law_sizes_told (Fn:FnIn K mg "_law_sizes_told" (top 75) ["_law_feed_here"]) (Z:Bz mg) (d__law_draw:∀ rl,Dfn P w K mg base rl "_law_draw" ["_law_feed_here", "_law_many"] 1 p__law_draw)   : Dfn P w K mg base rl "_law_sizes_told" ["_law_feed_here"] 2 p__law_sizes_told:=by
  have sc:=sc__law_sizes_told
  refine Dfn.of Fn sc (p__law_sizes_told.mono) (p__law_sizes_told.len) (fun cdv A outer s H E hr=>(vs_cons (vs_set 1 sc.nd (v_lst (pvs_cons (v_tup (pvs_cons pv_str (pvs_cons (v_tup (pvs_cons pv_int (pvs_cons pv_int (pvs_cons pv_int pvs_nil)))) (pvs_cons pv_int pvs_nil)))) (pvs_cons (v_tup (pvs_cons pv_str (pvs_cons (v_tup (pvs_cons pv_int (pvs_cons pv_int (pvs_cons pv_int pvs_nil)))) (pvs_cons pv_int pvs_nil)))) (pvs_cons (v_tup (pvs_cons pv_str (pvs_cons (v_tup (pvs_cons pv_int (pvs_cons pv_int (pvs_cons pv_int (pvs_cons pv_int pvs_nil))))) (pvs_cons pv_int pvs_nil)))) pvs_nil)))))
      (vs_cons (vs_set 1 sc.nd (v_catD (vn 1) (v_lst (pvs_cons (v_tup (pvs_cons pv_str (pvs_cons (v_tup (pvs_cons pv_int (pvs_cons pv_int (pvs_cons pv_int (pvs_cons pv_int pvs_nil))))) (pvs_cons pv_int pvs_nil)))) (pvs_cons (v_tup (pvs_cons pv_str (pvs_cons (v_tup (pvs_cons pv_int (pvs_cons pv_int (pvs_cons pv_int pvs_nil)))) (pvs_cons pv_int pvs_nil)))) (pvs_cons (v_tup (pvs_cons pv_str (pvs_cons (v_tup (pvs_cons pv_int (pvs_cons pv_int (pvs_cons pv_int pvs_nil)))) (pvs_cons pv_int pvs_nil)))) pvs_nil))))))
      (vs_cons (vs_set 1 sc.nd (v_catD (vn 1) (v_lst (pvs_cons (v_tup (pvs_cons pv_str (pvs_cons (v_tup (pvs_cons pv_int (pvs_cons pv_int (pvs_cons pv_int pvs_nil)))) (pvs_cons pv_int pvs_nil)))) (pvs_cons (v_tup (pvs_cons pv_str (pvs_cons (v_tup (pvs_cons pv_int (pvs_cons pv_int pvs_nil))) (pvs_cons pv_int pvs_nil)))) (pvs_cons (v_tup (pvs_cons pv_str (pvs_cons (v_tup (pvs_cons pv_int (pvs_cons pv_int pvs_nil))) (pvs_cons pv_int pvs_nil)))) pvs_nil))))))
      (vs_cons (vs_set 1 sc.nd (v_catD (vn 1) (v_lst (pvs_cons (v_tup (pvs_cons pv_str (pvs_cons (v_tup (pvs_cons pv_int (pvs_cons pv_int pvs_nil))) (pvs_cons pv_int pvs_nil)))) (pvs_cons (v_tup (pvs_cons pv_str (pvs_cons (v_tup (pvs_cons pv_int (pvs_cons pv_int (pvs_cons pv_int pvs_nil)))) (pvs_cons pv_int pvs_nil)))) (pvs_cons (v_tup (pvs_cons pv_str (pvs_cons (v_tup (pvs_cons pv_int pvs_nil)) (pvs_cons pv_int pvs_nil)))) (pvs_cons (v_tup (pvs_cons pv_str (pvs_cons (v_tup (pvs_cons pv_int (pvs_cons pv_int pvs_nil))) (pvs_cons pv_int pvs_nil)))) pvs_nil)))))))
      (vs_cons (vs_set 1 sc.nd (v_catD (vn 1) (v_lst (pvs_cons (v_tup (pvs_cons pv_str (pvs_cons (v_tup (pvs_cons pv_int (pvs_cons pv_int pvs_nil))) (pvs_cons pv_int pvs_nil)))) (pvs_cons (v_tup (pvs_cons pv_str (pvs_cons (v_tup (pvs_cons pv_int (pvs_cons pv_int pvs_nil))) (pvs_cons pv_int pvs_nil)))) (pvs_cons (v_tup (pvs_cons pv_str (pvs_cons (v_tup (pvs_cons pv_int pvs_nil)) (pvs_cons pv_int pvs_nil)))) pvs_nil))))))
      (vs_cons (vs_app 1 (pvs_cons (v_tup (pvs_cons pv_str (pvs_cons (v_tup (pvs_cons pv_int (pvs_cons pv_int (pvs_cons pv_int (pvs_cons pv_int pvs_nil))))) (pvs_cons pv_int pvs_nil)))) pvs_nil))
      (vs_one (vs_ret (v_ix (vn 1) (v_call (d__law_draw _) (hr.mono (by decide)) (pvs_cons (vn 0) (pvs_cons pv_int pvs_nil))))))))))))) ?_
  rintro ws Q ⟨rfl,_,hQ⟩
  refine read_of ?_
  have sz:=PySem.sizeLine_eq
  simp_arith only [grd_t,len_ok,m_vRN,m_vRC,s_rput,asR_r,lenD_l,item_li,BFR,p__law_draw.eq]
  (with_reducible (first | refine any_step fun a ha=>?_ | refine sqb_any fun a ha=>?_))
  try simp_arith only [grd_t,len_ok,m_vRN,m_vRC,s_rput,asR_r,lenD_l,item_li,BFR]
  refine menuA_step (xs:=tbl17) (enc:=entD) (fun z=>z ∈ tbl17) rfl ha.1 (by rw [show tbl17.length = 17 from rfl]; simpa using ha.2) (fun z h=>h) fun z hz=>?_
  exact rt_end (hQ z hz)
noncomputable def slk (f:Nat) (us:List Int):Int:=us.foldl (fun m u=>m * msl f u) 1
noncomputable def rot (t:Nat) (us:List Int):List Int:=us.drop t ++ us.take t
noncomputable def UsOk (us:List Int):Prop:=(∀ u ∈ us,1 <= u /\ u <= 40) /\ 1 <= us.length /\ us.length <= 4
instance (us:List Int):Decidable (UsOk us):=inferInstanceAs (Decidable (_ /\ _))
noncomputable def PtSo (us:List Int) (ps:List (List Rat)):Prop:=PwN ps /\ dimP ps = us.length /\ ∀ k,k < us.length -> ((nuQ ps k).length:Int) = us.getD k 0
theorem mlk_so {us:List Int} {ps:List (List Rat)} (h:PtSo us ps) (f:Nat):∀ i,i <= us.length -> mlk f ps i = slk f (us.take i)
  | 0,_=>by simp [mlk,slk]
  | i + 1,hi=>by
    rw [mlk_succ,mlk_so h f i (by omega),h.2.2 i (by omega),List.take_succ_eq_append_getElem (show i < us.length by omega)]
    unfold slk
    rw [List.foldl_append]
    show _ = _ * msl f us[i]
    rw [List.getD_eq_getElem?_getD,List.getElem?_eq_getElem (show i < us.length by omega)]
    rfl
theorem mlk_all {us:List Int} {ps:List (List Rat)} (h:PtSo us ps) (f:Nat):mlk f ps (dimP ps) = slk f us:=by
  rw [h.2.1,mlk_so h f _ (Nat.le_refl _),List.take_of_length_le (Nat.le_refl _)]
theorem tab17:∀ z ∈ tbl17,∀ t:Fin 4,t.val < z.2.1.length -> UsOk (rot t.val z.2.1) /\ slk z.1.val (rot t.val z.2.1) = z.2.2 /\ ∀ i:Fin 5,slk z.1.val ((rot t.val z.2.1).take i.val) <= 5000:=by decide
theorem tab4:∀ z ∈ tbl4,UsOk z.2.1 /\ slk z.1.val z.2.1 = z.2.2 /\ 3000 < z.2.2 /\ z.2.2 < 2 ^ 40:=by decide
theorem tab17b:∀ z ∈ tbl17,1 <= z.2.1.length /\ z.2.1.length <= 4 /\ 0 <= z.2.2 /\ z.2.2 <= 5000:=by decide
noncomputable def qE (u m:Int) (i:Int):Rat:=qd (3 * i + m) (3 * u + m)
noncomputable def colF (M:Nat) (u:Int) (c:Int × Int):List Rat:=(List.range M).map fun j:Nat=>qE u c.2 ((c.1 + (j:Int)).fmod u)
noncomputable def AmO (u:Int) (c:Int × Int):Prop:=(0 <= c.1 /\ c.1 < u) /\ 0 <= c.2 /\ c.2 < 3
theorem qE_gd {u m i:Int} (hu : 1 <= u) (h40:u <= 40) (m0 : 0 <= m) (m3:m < 3) (i0 : 0 <= i) (iu:i < u):Gd (qE u m i):=by
  unfold qE
  have hb : 0 < 3 * u + m:=by omega
  exact ⟨(qd_sm (k:=10) hb (by omega) (by omega)).mono (by decide),qd_nn hb (by omega),qd_lt1 hb (by omega)⟩
theorem col_so {u:Int} {c:Int × Int} {M:Nat} (hu : 1 <= u) (hc:AmO u c) (hM:u <= (M:Int)):Sorted (colF M u c) ((List.range u.toNat).map fun i:Nat=>qE u c.2 (i:Int)):=by
  obtain ⟨⟨a0,au⟩,m0,m3⟩:=hc
  constructor
  · rw [List.pairwise_map]
    refine List.Pairwise.imp ?_ List.pairwise_lt_range
    intro i j hij
    have hb : 0 < 3 * u + c.2:=by omega
    exact (qd_lt_iff hb hb).mp (Int.mul_lt_mul_of_pos_right (by omega) hb)
  · intro q
    unfold colF
    rw [List.mem_map,List.mem_map]
    constructor
    · rintro ⟨i,mi,rfl⟩
      have hi:=List.mem_range.mp mi
      by_cases h:c.1 <= (i:Int)
      · refine ⟨((i:Int) - c.1).toNat,List.mem_range.mpr (by omega),?_⟩
        rw [show c.1 + ((((i:Int) - c.1).toNat:Nat):Int) = i by omega,Int.fmod_eq_emod_of_nonneg _ (by omega),Int.emod_eq_of_lt (by omega) (by omega)]
      · refine ⟨((i:Int) + u - c.1).toNat,List.mem_range.mpr (by omega),?_⟩
        rw [show c.1 + ((((i:Int) + u - c.1).toNat:Nat):Int) = i + u by omega,Int.fmod_eq_emod_of_nonneg _ (by omega),Int.add_emod_right,Int.emod_eq_of_lt (by omega) (by omega)]
    · rintro ⟨j,mj,rfl⟩
      have h0:=Int.fmod_nonneg_of_pos (c.1 + (j:Int)) (show 0 < u by omega)
      have h1:=Int.fmod_lt_of_pos (c.1 + (j:Int)) (show 0 < u by omega)
      exact ⟨((c.1 + (j:Int)).fmod u).toNat,List.mem_range.mpr (by omega),by rw [show ((((c.1 + (j:Int)).fmod u).toNat:Nat):Int) = (c.1 + (j:Int)).fmod u by omega]⟩
noncomputable def colsF (M:Nat) (us:List Int) (cs:List (Int × Int)):List (List Rat):=(us.zip cs).map fun z=>colF M z.1 z.2
noncomputable def soP (M:Nat) (cols:List (List Rat)):List (List Rat):=(List.range M).map fun j=>cols.map fun c=>c.getD j 0
theorem so_ok {us:List Int} {cs:List (Int × Int)} {M:Int} (hu:UsOk us) (hl:cs.length = us.length) (hc:∀ k (h:k < us.length) (h':k < cs.length),AmO us[k] cs[k]) (hM:maxOf us M):PtSo us (soP M.toNat (colsF M.toNat us cs)):=by
  obtain ⟨hu,u1,u4⟩:=hu
  obtain ⟨mM,leM⟩:=hM
  have M1:=hu M mM
  have cl:(colsF M.toNat us cs).length = us.length:=by unfold colsF; rw [List.length_map,List.length_zip]; omega
  have at_:∀ k (h:k < us.length) (h':k < (colsF M.toNat us cs).length),(colsF M.toNat us cs)[k] = colF M.toNat us[k] (cs[k]'(by omega)):=fun k h h'=>by simp [colsF]
  have pl:(soP M.toNat (colsF M.toNat us cs)).length = M.toNat:=by unfold soP; rw [List.length_map,List.length_range]
  have el:∀ p ∈ soP M.toNat (colsF M.toNat us cs),p.length = us.length /\ ∀ q ∈ p,Gd q:=fun p mp=>by
    obtain ⟨j,mj,rfl⟩:=List.mem_map.mp mp
    have hj:=List.mem_range.mp mj
    refine ⟨by rw [List.length_map,cl],fun q mq=>?_⟩
    obtain ⟨c,mc,rfl⟩:=List.mem_map.mp mq
    obtain ⟨k,hk,rfl⟩:=List.getElem_of_mem mc
    have hk':k < us.length:=by omega
    rw [at_ k hk' hk]
    obtain ⟨⟨a0,au⟩,m0,m3⟩:=hc k hk' (by omega)
    have hU:=hu _ (List.getElem_mem hk')
    unfold colF
    rw [List.getD_eq_getElem?_getD,List.getElem?_map,List.getElem?_range hj]
    exact qE_gd hU.1 hU.2 m0 m3 (Int.fmod_nonneg_of_pos _ (by omega)) (Int.fmod_lt_of_pos _ (by omega))
  have dm:dimP (soP M.toNat (colsF M.toNat us cs)) = us.length:=dim_of el (by omega)
  have nu:∀ k,k < us.length -> nuQ (soP M.toNat (colsF M.toNat us cs)) k = (List.range (us.getD k 0).toNat).map fun i:Nat=>qE (us.getD k 0) (cs.getD k (0,0)).2 (i:Int):=fun k hk=>by
    have ec:colQ (soP M.toNat (colsF M.toNat us cs)) k = colF M.toNat us[k] (cs[k]'(by omega)):=by
      unfold colQ soP
      rw [List.map_map]
      refine List.ext_getElem (by unfold colF; simp) fun j h1 h2=>?_
      have hk2:k < (colsF M.toNat us cs).length:=by omega
      have hj:j < M.toNat:=by simpa using h1
      simp only [List.getElem_map,List.getElem_range,Function.comp_apply]
      rw [List.getD_eq_getElem?_getD,List.getElem?_map,List.getElem?_eq_getElem hk2,at_ k hk hk2]
      show (colF M.toNat us[k] cs[k]).getD j 0 = _
      rw [List.getD_eq_getElem?_getD,List.getElem?_eq_getElem h2]
      rfl
    unfold nuQ
    rw [ec,List.getD_eq_getElem?_getD,List.getElem?_eq_getElem hk,List.getD_eq_getElem?_getD (l:=cs),List.getElem?_eq_getElem (show k < cs.length by omega)]
    exact (srQ_eq (col_so (hu _ (List.getElem_mem hk)).1 (hc k hk (by omega)) (by have:=leM _ (List.getElem_mem hk); omega))).symm
  refine ⟨⟨⟨by omega,by omega,by rw [dm]; exact el,by omega,by omega⟩,fun j hj=>?_⟩,dm,fun k hk=>?_⟩
  · rw [dm] at hj
    have hs:=srQ_ok (colQ (soP M.toNat (colsF M.toNat us cs)) j)
    refine ⟨?_,fun q mq=>?_⟩
    · rw [nu j hj,List.length_map,List.length_range]
      have:=hu _ (List.getElem_mem hj)
      rw [List.getD_eq_getElem?_getD,List.getElem?_eq_getElem hj]
      show us[j].toNat <= 40
      omega
    · obtain ⟨p,mp,rfl⟩:=List.mem_map.mp ((hs.2 q).mp mq)
      obtain ⟨p1,p2⟩:=el p mp
      exact p2 _ (by rw [List.getD_eq_getElem?_getD,List.getElem?_eq_getElem (show j < p.length by omega)]; exact List.getElem_mem _)
  · rw [nu k hk,List.length_map,List.length_range]
    have:=hu _ (List.getElem_mem hk)
    rw [List.getD_eq_getElem?_getD,List.getElem?_eq_getElem hk]
    show ((us[k].toNat:Nat):Int) = us[k]
    omega
theorem max_un {us:List Int} {M N:Int} (h:maxOf us M) (h':maxOf us N):M = N:=Int.le_antisymm (h'.2 _ h.1) (h.2 _ h'.1)
theorem max_ex:∀ {us:List Int},us ≠ [] -> ∃ M,maxOf us M
  | [],h=>absurd rfl h
  | [u],_=>⟨u,List.mem_singleton.mpr rfl,fun a ma=>by cases List.mem_singleton.mp ma; exact Int.le_refl _⟩
  | u :: v :: us,_=>by
    obtain ⟨M,m1,m2⟩:=max_ex (us:=v :: us) (by simp)
    by_cases h:u <= M
    · exact ⟨M,List.mem_cons_of_mem _ m1,fun a ma=>by rcases List.mem_cons.mp ma with rfl | ma; exact h; exact m2 a ma⟩
    · exact ⟨u,List.mem_cons_self,fun a ma=>by rcases List.mem_cons.mp ma with rfl | ma; exact Int.le_refl _; exact Int.le_trans (m2 a ma) (by omega)⟩
noncomputable def p__law_points_so:List W -> (PyData -> Prop) -> Prop:=fun ws Q=>∃ (b:Bool) (us:List Int),ws = [.reel,.d (sqI b us)] /\ ((UsOk us)) /\ ∀ ps:List (List Rat),(PtSo us ps) -> Q (ptsQ ps)
theorem p__law_points_so.mono:∀ ws (Q Q':PyData -> Prop),(∀ d,Q d -> Q' d) -> p__law_points_so ws Q -> p__law_points_so ws Q':=fun _ _ _ h_=>Exists.imp fun _=>Exists.imp fun _=>And.imp_right (And.imp_right fun q_ o_ ho_=>h_ _ (q_ o_ ho_))
theorem p__law_points_so.len:∀ ws (Q:PyData -> Prop),p__law_points_so ws Q -> ws.length = 2:=fun _ _ h_=>by obtain ⟨_,_,e_,_⟩:=h_; subst e_; rfl
theorem p__law_points_so.eq (b:Bool) (us:List Int) (hu:UsOk us):p__law_points_so [.reel,.d (sqI b us)] = bnd (anyM fun ps:List (List Rat)=>PtSo us ps) fun ps=>VL.ret (ptsQ ps:PyData):=by
  refine mo_ext fun Q=>⟨?_,fun q_=>⟨b,us,rfl,hu,q_⟩⟩
  rintro ⟨b',us',e_,_,q_⟩
  simp_arith only [sqI_i] at e_
  obtain ⟨rfl,rfl⟩:=e_
  exact q_
theorem sc__law_points_so:FnScope ["_law_feed_here", "_law_counts", "_law_columns", "_law_u", "_law_first", "_law_more"] ["_law_feed_here", "_law_counts"] (defScope (top 76)):=⟨rfl,rfl,rfl,by decide +kernel,rfl,by decide +kernel,by decide +kernel⟩
theorem d__law_points_so (Fn:FnIn K mg "_law_points_so" (top 76) ["_law_feed_here", "_law_counts"]) (Z:Bz mg) (d__law_draw:∀ rl,Dfn P w K mg base rl "_law_draw" ["_law_feed_here", "_law_many"] 1 p__law_draw) (d__law_frac:∀ rl,Dfn P w K mg base rl "_law_frac" ["_law_top", "_law_bottom"] 1 p__law_frac)   : Dfn P w K mg base rl "_law_points_so" ["_law_feed_here", "_law_counts"] 2 p__law_points_so:=by
  have sc:=sc__law_points_so
  refine Dfn.of Fn sc (p__law_points_so.mono) (p__law_points_so.len) (fun cdv A outer s H E hr=>(vs_cons (vs_set 2 sc.nd (v_lst pvs_nil))
      (vs_cons (vs_forF [3,4,5] PassesOwn.never rfl (vi_seq (vn 1)) (vg_name 3 sc.nd) (vs_cons (vs_setZ 4 sc.nd (v_call (d__law_draw _) (hr.mono (by decide)) (pvs_cons (vn 0) (pvs_cons (vn 3) pvs_nil))))
      (vs_cons (vs_setZ 5 sc.nd (v_call (d__law_draw _) (hr.mono (by decide)) (pvs_cons (vn 0) (pvs_cons pv_int pvs_nil))))
      (vs_one (vs_app 2 (pvs_cons (v_lcompR ["_law_j", "_law_first", "_law_u", "_law_more"] [none,some 4,some 3,some 5] rfl (vi_range1 Z.range_ (pvs_cons (v_maxS Z.max_ (pvs_cons (vn 1) pvs_nil)) pvs_nil)) (fun _=>(vg_name 0 (show List.Nodup (["_law_j", "_law_first", "_law_u", "_law_more"]:List Str) by decide +kernel))) (fun _=>vt_nil) (fun _=>(v_call (d__law_frac _) (hr.mono (by decide)) (pvs_cons (v_add (v_mul pv_int (v_mod (v_add (vn 1) (vn 0)) (vn 2))) (vn 3)) (pvs_cons (v_add (v_mul pv_int (vn 2)) (vn 3)) pvs_nil))))) pvs_nil))))))
      (vs_one (vs_frz 2 (vs_ret (v_tuple Z.tuple_ (pvs_cons (v_lcompR ["_law_j", "_law_columns"] [none,some 2] rfl (vi_range1 Z.range_ (pvs_cons (v_maxS Z.max_ (pvs_cons (vn 1) pvs_nil)) pvs_nil)) (fun _=>(vg_name 0 (show List.Nodup (["_law_j", "_law_columns"]:List Str) by decide +kernel))) (fun _=>vt_nil) (fun _=>(v_tuple Z.tuple_ (pvs_cons (v_lcompR ["_law_column", "_law_j"] [none,some 0] rfl (vi_list (vn 1)) (fun _=>(vg_name 0 (show List.Nodup (["_law_column", "_law_j"]:List Str) by decide +kernel))) (fun _=>vt_nil) (fun _=>(v_ix (vn 0) (vn 1)))) pvs_nil)))) pvs_nil)))))))) ?_
  rintro ws Q ⟨b,us,rfl,hu,hQ⟩
  refine read_of ?_
  have sz:=PySem.sizeLine_eq
  obtain ⟨M,hM⟩:=max_ex (us:=us) (by intro z; rw [z] at hu; exact absurd hu.2.1 (by decide))
  have un:∀ N,maxOf us N -> N = M:=fun N h=>max_un h hM
  have M1:=hu.1 M hM.1
  have l0 : 0 < us.length:=hu.2.1
  have l4:=hu.2.2
  have gM : -(2 ^ 62) <= M /\ M < 2 ^ 62:=by omega
  simp_arith only [grd_t,len_ok,m_vRN,m_vRC,s_rput,asR_r,lenD_l,item_li,BFR,BVS,seqW_sqI]
  refine inv_go (xs:=us) (enc:=PyData.int) (fun i ρ=>∃ cs:List (Int × Int),cs.length = i /\ (∀ k (h:k < us.length) (h':k < cs.length),AmO us[k] cs[k]) /\ ρ = [some .reel,some (.d (sqI b us)),some (.ml ((colsF M.toNat us cs).map fun c=>PyData.list (c.map fr))),none,none,none]) rfl ⟨[],rfl,fun _ _ h=>absurd h (by simp),by unfold colsF; rw [List.zip_nil_right]; rfl⟩ ?_ ?_
  · rintro i hi ρ ⟨cs,hl,hc,rfl⟩ K hK
    have hU:=hu.1 _ (List.getElem_mem hi)
    have cl:(colsF M.toNat us cs).length = i:=by unfold colsF; rw [List.length_map,List.length_zip]; omega
    have fin:∀ c:Int × Int,AmO us[i] c -> ∀ ρ,fo [3,4,5] ρ = [some .reel,some (.d (sqI b us)),some (.ml ((colsF M.toNat us cs).map (fun c=>PyData.list (c.map fr)) ++ [PyData.list ((colF M.toNat us[i] c).map fr)])),none,none,none] -> K (.nx ρ):=fun c hcc ρ e=>hK _ (lpS_nx ⟨cs ++ [c],by rw [List.length_append,List.length_singleton,hl],fun k h h'=>by
      by_cases hk:k < cs.length
      · rw [List.getElem_append_left hk]; exact hc k h hk
      · have ek:k = cs.length:=by rw [List.length_append,List.length_singleton] at h'; omega
        subst ek
        rw [List.getElem_append_right (Nat.le_refl _)]
        simp only [Nat.sub_self,List.getElem_cons_zero]
        simp only [hl]
        exact hcc,by
      rw [e]
      have ez:us.zip (cs ++ [c]) = us.zip cs ++ [(us[i],c)]:=by
        refine List.ext_getElem (by simp; omega) fun j h1 h2=>?_
        have hj:j < i + 1:=by simp at h1; omega
        by_cases hj2:j < cs.length
        · rw [List.getElem_append_left (by rw [List.length_zip]; omega)]
          simp [List.getElem_append_left hj2]
        · have ej:j = i:=by omega
          subst ej
          rw [List.getElem_append_right (by rw [List.length_zip]; omega)]
          simp [List.getElem_append_right (show cs.length <= j by omega),hl]
      unfold colsF
      rw [ez,List.map_append,List.map_append]
      rfl⟩)
    generalize us[i] = u at hU fin ⊢
    have u0 : 0 < u:=by omega
    have u6:u < 2 ^ 60:=by omega
    simp_arith only [grd_t,len_ok,m_vRN,m_vRC,s_rput,asR_r,lenD_l,item_li,BFR,p__law_draw.eq]
    (with_reducible (first | refine any_step fun a ha=>?_ | refine sqb_any fun a ha=>?_))
    try simp_arith only [grd_t,len_ok,m_vRN,m_vRC,s_rput,asR_r,lenD_l,item_li,BFR,p__law_draw.eq]
    (with_reducible (first | refine any_step fun m hm=>?_ | refine sqb_any fun m hm=>?_))
    try simp_arith only [grd_t,len_ok,m_vRN,m_vRC,s_rput,asR_r,lenD_l,item_li,BFR,m_gMaxS]
    (with_reducible (first | refine any_step fun N hN=>?_ | refine sqb_any fun N hN=>?_))
    cases un N hN
    have c3:∀ x:Int,CMulB 3 x:=fun x=>.lt (by decide)
    try simp_arith only [grd_t,len_ok,m_vRN,m_vRC,s_rput,asR_r,lenD_l,item_li,BFR,c3]
    refine cmapR_go (fun j=>fr (qE u m ((a + (j:Int)).fmod u))) ?_ (by omega) ?_
    · intro j hj
      have hb : 0 < 3 * u + m:=by omega
      have hz:(3 * u + m).natAbs < 2 ^ 8000:=Nat.lt_of_lt_of_le (show (3 * u + m).natAbs < 2 ^ 10 by omega) (Nat.pow_le_pow_right (by decide) (by decide))
      have un0:u ≠ 0:=by omega
      have e0 : 0 + (j:Int) = j:=by omega
      have cd:∀ x:Int,CDivB x u:=fun x=>CDivB.of un0 (by omega)
      simp_arith only [grd_t,len_ok,itM,BFR,p__law_frac.eq,c3,e0,cd]
      rfl
    have em:((List.range M.toNat).map fun j:Nat=>fr (qE u m ((a + (j:Int)).fmod u))) = (colF M.toNat u (a,m)).map fr:=by unfold colF; rw [List.map_map]; rfl
    rw [em]
    exact fin (a,m) ⟨ha,hm⟩ _ rfl
  · rintro ρ ⟨cs,hl,hc,rfl⟩
    have so:=so_ok hu hl hc hM
    have cl:(colsF M.toNat us cs).length = us.length:=by unfold colsF; rw [List.length_map,List.length_zip]; omega
    have ccl:∀ c ∈ colsF M.toNat us cs,c.length = M.toNat:=fun c mc=>by
      obtain ⟨z,_,rfl⟩:=List.mem_map.mp mc
      unfold colF
      rw [List.length_map,List.length_range]
    generalize colsF M.toNat us cs = cols at so cl ccl ⊢
    simp_arith only [grd_t,len_ok,m_vRN,m_vRC,s_rput,asR_r,lenD_l,item_li,BFR,m_gMaxS]
    (with_reducible (first | refine any_step fun N hN=>?_ | refine sqb_any fun N hN=>?_))
    cases un N hN
    try simp_arith only [grd_t,len_ok,m_vRN,m_vRC,s_rput,asR_r,lenD_l,item_li,BFR]
    refine cmapR_go (fun j=>ptD (cols.map fun c=>c.getD j 0)) ?_ (by omega) ?_
    · intro j hj
      simp_arith only [grd_t,len_ok,itM,BFR]
      rw [comp_map (xs:=cols) (enc:=fun c=>PyData.list (c.map fr)) (fun c=>fr (c.getD j 0)) ?_ (by omega),bnd_ret]
      · unfold ptD
        rw [List.map_map]
        rfl
      · intro c mc
        have e:=atI_getD (xs:=c) 0 (show (0:Int) <= 0 + (j:Int) by omega) (by rw [ccl c mc]; omega)
        rw [show (0 + (j:Int)).toNat = j by omega] at e
        simp_arith only [grd_t,len_ok,itM,BFR]
        rw [atI_map,e]
        rfl
    · have ep:PyData.tuple ((List.range M.toNat).map fun j=>ptD (cols.map fun c=>c.getD j 0)) = ptsQ (soP M.toNat cols):=by unfold ptsQ soP; rw [List.map_map]; rfl
      rw [ep]
      exact rt_end (hQ _ so)
theorem kit_split {K:PySem.W.Frag} {t:Value}:∀ {xs ys:List Value},PySem.W.kitAny K t (xs ++ ys) = some false -> PySem.W.kitAny K t xs = some false /\ PySem.W.kitAny K t ys = some false
  | [],ys,h=>⟨rfl,h⟩
  | x :: xs,ys,h=>by
    rw [List.cons_append,PySem.W.kitAny] at h
    rw [PySem.W.kitAny]
    cases e:PySem.W.kitOne K t x with
    | none=>rw [e] at h; cases h
    | some b =>
      rw [e] at h
      cases b with
      | true=>cases h
      | false=>exact kit_split h
noncomputable def rfT (c n:Str):TSv:=vSeq (vSet 5 (vIsX 4 c false)) (vSeq (vSet 5 (vOrV (vVar 5) (vIsX 4 c false))) (vIfS (vAnd (vTest (vIsX 4 c true)) (vAnd (vTest (vIsX 4 c true)) (vNot (vTest (vVar 5))))) (vSet 3 (vTup (vCons (vC (.str "many")) (vCons (vXf 4 c n) vNil)))) vNext))
theorem rf_suite {c n:Str} {D:VEnds} {d:PyData} (q:D.nx [none,none,none,some (.d (.tuple [.str "many", d])),some (.xc c [(n,d)]),some (.d (.bool false))]):rfT c n D ((List.replicate 6 none).set 4 (some (.xc c [(n,d)]))):=by
  refine ⟨_,rfl,rfl,?_⟩
  refine ⟨_,rfl,false,rfl,?_⟩
  refine ⟨_,rfl,rfl,?_⟩
  refine ⟨_,rfl,true,rfl,⟨_,rfl,true,rfl,⟨.d (.bool false),rfl,false,rfl,?_⟩⟩⟩
  exact ⟨_,d,rfl,by simp [List.lookup],[.str "many", d],rfl,by rw [sizeLine_eq]; exact (by decide : 2 <= 16777216),rfl,q⟩
noncomputable def p__law_refused:List W -> (PyData -> Prop) -> Prop:=fun ws Q=>∃ (w:Int) (ps:List (List Rat)) (f:Fin 3),ws = [.d (.int w),.d (ptsQ ps),.d (.str (famF f))] /\ ((0 <= w) /\ (w <= 4) /\ (PwN ps) /\ (mlk f.val ps (dimP ps) <= 3000 -> w = 0 /\ Ch ((List.range (dimP ps)).map fun j=>sl f.val (nuQ ps j)))) /\ Q ((if 3000 < mlk f.val ps (dimP ps) then PyData.tuple [.str "many", .str "looks"] else .list ((chP ((List.range (dimP ps)).map fun j=>sl f.val (nuQ ps j))).map PyData.tuple)))
theorem p__law_refused.mono:∀ ws (Q Q':PyData -> Prop),(∀ d,Q d -> Q' d) -> p__law_refused ws Q -> p__law_refused ws Q':=fun _ _ _ h_=>Exists.imp fun _=>Exists.imp fun _=>Exists.imp fun _=>And.imp_right (And.imp_right (h_ _))
theorem p__law_refused.len:∀ ws (Q:PyData -> Prop),p__law_refused ws Q -> ws.length = 3:=fun _ _ h_=>by obtain ⟨_,_,_,e_,_⟩:=h_; subst e_; rfl
theorem p__law_refused.eq (w:Int) (ps:List (List Rat)) (f:Fin 3) (w0 : 0 <= w) (w4:w <= 4) (hw:PwN ps) (hc:mlk f.val ps (dimP ps) <= 3000 -> w = 0 /\ Ch ((List.range (dimP ps)).map fun j=>sl f.val (nuQ ps j))):p__law_refused [.d (.int w),.d (ptsQ ps),.d (.str (famF f))] = VL.ret ((if 3000 < mlk f.val ps (dimP ps) then PyData.tuple [.str "many", .str "looks"] else .list ((chP ((List.range (dimP ps)).map fun j=>sl f.val (nuQ ps j))).map PyData.tuple)):PyData):=by
  refine mo_ext fun Q=>⟨?_,fun q_=>⟨w,ps,f,rfl,⟨w0,w4,hw,hc⟩,q_⟩⟩
  rintro ⟨w',ps',f',e_,_,q_⟩
  simp_arith only [fr_i,sdD_i,ptD_i,boxD_i,ptsQ_i,frs_i,fam_i,Int.ofNat_inj] at e_
  obtain ⟨rfl,rfl,rfl⟩:=e_
  exact q_
theorem sc__law_refused:FnScope ["_law_way", "_law_pts", "_law_family", "_law_found", "e", "_law_others"] ["_law_way", "_law_pts", "_law_family"] (defScope (top 77)):=⟨rfl,rfl,rfl,by decide +kernel,rfl,by decide +kernel,by decide +kernel⟩
theorem d__law_refused (Fn:FnIn K mg "_law_refused" (top 77) ["_law_way", "_law_pts", "_law_family"]) (Z:Bz mg) (dE_looks:∀ rl,DfnE P w K mg base rl "looks" ["points", "family"] 5 pE_looks) (dE_unevenness:∀ rl,DfnE P w K mg base rl "unevenness" ["points", "family"] 8 pE_unevenness) (dE_worst:∀ rl,DfnE P w K mg base rl "worst" ["points", "family"] 7 pE_worst) (dE_all_worst:∀ rl,DfnE P w K mg base rl "all_worst" ["points", "family"] 7 pE_all_worst) (dE_even_paper:∀ rl,DfnE P w K mg base rl "even_paper" ["points", "family", "number"] 9 pE_even_paper) (xc_:XCl K mg "TooMany" "word" "EvenError" "TooMany.__init__" (inClass (top 4) 0) ["self", "word"] ["NoDeed", "NoNet", "NoPaper", "NoRoom", "NoRow", "NoText", "NoUpper", "Nought"]):Dfn P w K mg base rl "_law_refused" ["_law_way", "_law_pts", "_law_family"] 10 p__law_refused:=by
  have sc:=sc__law_refused
  obtain ⟨C,B,f,fd,Cs,ns,mC,mB,M,na,ov,_,_,pr,k0,k1,k2,zV⟩:=xc_.ex
  have un:∀ C',PySem.W.nsIn K mainGlobals "TooMany" = some (some (.ref C')) -> C' = C:=fun C' e=>by rw [ns] at e; cases e; rfl
  obtain ⟨c1,c2,c3,c4,c5,c6,c7,c8,rfl,m1,m2,m3,m4,m5,m6,m7,m8⟩:∃ c1 c2 c3 c4 c5 c6 c7 c8,Cs = [c1,c2,c3,c4,c5,c6,c7,c8] /\ mg "NoDeed" = some (.ref c1) /\ mg "NoNet" = some (.ref c2) /\ mg "NoPaper" = some (.ref c3) /\ mg "NoRoom" = some (.ref c4) /\ mg "NoRow" = some (.ref c5) /\ mg "NoText" = some (.ref c6) /\ mg "NoUpper" = some (.ref c7) /\ mg "Nought" = some (.ref c8):=by
    cases pr with | cons m1 pr=>cases pr with | cons m2 pr=>cases pr with | cons m3 pr=>cases pr with | cons m4 pr=>cases pr with | cons m5 pr=>cases pr with | cons m6 pr=>cases pr with | cons m7 pr=>cases pr with | cons m8 pr=>cases pr; exact ⟨_,_,_,_,_,_,_,_,rfl,m1,m2,m3,m4,m5,m6,m7,m8⟩
  obtain ⟨ka,kb⟩:=kit_split (xs:=[c1,c2,c3,c4].map Value.ref) (ys:=[c5,c6,c7,c8].map Value.ref) k0
  have x0:∀ C',PySem.W.nsIn K mainGlobals "TooMany" = some (some (.ref C')) -> XCls K C' /\ PySem.W.kitAny K (.ref C') ([c1,c2,c3,c4].map Value.ref) = some false:=fun C' e=>by cases un C' e; exact ⟨M.cl,ka⟩
  have x5:∀ C',PySem.W.nsIn K mainGlobals "TooMany" = some (some (.ref C')) -> XCls K C' /\ PySem.W.kitAny K (.ref C') ([c5,c6,c7,c8].map Value.ref) = some false:=fun C' e=>by cases un C' e; exact ⟨M.cl,kb⟩
  have x1:∀ C',PySem.W.nsIn K mainGlobals "TooMany" = some (some (.ref C')) -> XCls K C' /\ PySem.W.kitOne K (.ref C') (.ref C) = some true:=fun C' e=>by cases un C' e; exact ⟨M.cl,k1⟩
  have x2:∀ C',PySem.W.nsIn K mainGlobals "TooMany" = some (some (.ref C')) -> XCls K C' /\ PySem.W.kitOne K (.ref C') (.type "ValueError") = some true:=fun C' e=>by cases un C' e; exact ⟨M.cl,k2⟩
  have x3:∀ C',PySem.W.nsIn K mainGlobals "TooMany" = some (some (.ref C')) -> XCls K C' /\ NoAttr K C' "word" := fun C' e=>by cases un C' e; exact ⟨M.cl,na⟩
  have x4:∀ c' ∈ (["TooMany"]:List Str),∀ C',PySem.W.nsIn K mainGlobals c' = some (some (.ref C')) -> XOver K C' B:=fun c' hc C' e=>by
    cases List.mem_singleton.mp hc
    cases un C' e
    exact ov
  refine Dfn.of Fn sc p__law_refused.mono p__law_refused.len (fun cdv A outer s H E hr=>vs_cons (vs_set 3 sc.nd pv_str) (vs_cons (vs_try (B:=B) (ts:=rfT "TooMany" "word") 4 rfl rfl sc.nd rfl rfl mB x4
    (fun pn XE E' hx=>(e_ite (vb_cmp (op_eqD hr.units) vo_eqD (nomark _) (vn 0) pv_int) (e_set 3 hx sc.nd (dE_looks _) (hr.mono (by decide)) (pvs_cons (vn 1) (pvs_cons (vn 2) pvs_nil))) (e_ite (vb_cmp (op_eqD hr.units) vo_eqD (nomark _) (vn 0) pv_int) (e_set 3 hx sc.nd (dE_unevenness _) (hr.mono (by decide)) (pvs_cons (vn 1) (pvs_cons (vn 2) pvs_nil))) (e_ite (vb_cmp (op_eqD hr.units) vo_eqD (nomark _) (vn 0) pv_int) (e_set 3 hx sc.nd (dE_worst _) (hr.mono (by decide)) (pvs_cons (vn 1) (pvs_cons (vn 2) pvs_nil))) (e_ite (vb_cmp (op_eqD hr.units) vo_eqD (nomark _) (vn 0) pv_int) (e_set 3 hx sc.nd (dE_all_worst _) (hr.mono (by decide)) (pvs_cons (vn 1) (pvs_cons (vn 2) pvs_nil))) (e_set 3 hx sc.nd (dE_even_paper _) (hr.mono (by decide)) (pvs_cons (vn 1) (pvs_cons (vn 2) (pvs_cons (v_tup (pvs_cons pv_int (pvs_cons pv_int pvs_nil))) pvs_nil)))))))))
    (fun a=>vs_cons (vs_set 5 sc.nd (v_isxT 4 (Cs:=[c1,c2,c3,c4]) Z.isinstance_ x0 (pcs_cons m1 (pcs_cons m2 (pcs_cons m3 (pcs_cons m4 pcs_nil)))) (by rw [sizeLine_eq]; exact (by decide : 4 <= 16777216))))
      (vs_cons (vs_set 5 sc.nd (v_or (vn 5) (v_one (v_isxT 4 (Cs:=[c5,c6,c7,c8]) Z.isinstance_ x5 (pcs_cons m5 (pcs_cons m6 (pcs_cons m7 (pcs_cons m8 pcs_nil)))) (by rw [sizeLine_eq]; exact (by decide : 4 <= 16777216))))))
      (vs_one (vs_if (PBW.pb (vb_and (vb_val (v_isx1 4 (v:=.ref C) Z.isinstance_ x1 (pe_glob rfl mC rfl) (fun u e=>e))) (vb_and (vb_val (v_isx1 4 (v:=.ty "ValueError") Z.isinstance_ x2 (pe_bltn rfl zV rfl rfl) (fun u e=>e))) (vb_and1 (vb_not (vb_val (vn 5)))))))
        (vs_one (vs_set 3 sc.nd (v_tup (pvs_cons pv_str (pvs_cons (v_xfld 4 x3) pvs_nil))))) vs_nil)))))
    (vs_one (vs_ret (vn 3))))) ?_
  rintro ws Q ⟨w,ps,f,rfl,⟨w0,w4,hw,hc⟩,hQ⟩
  have eqi:∀ i j:Int,PyData.eqv (.int i) (.int j) = (i == j):=fun i j=>by simp [PyData.eqv]
  have q1 : 3000 < mlk f.val ps (dimP ps) -> Q (.tuple [.str "many", .str "looks"]):=fun z=>by rw [if_pos z] at hQ; exact hQ
  refine ⟨rfl,?_⟩
  dsimp only [vSeq,vTry]
  have hE:∀ (ρ:En),ρ.length = 6 -> 3000 < mlk f.val ps (dimP ps) -> (("TooMany" : Str) ∈ (["TooMany"]:List Str) /\ rfT "TooMany" "word" ⟨fun ρ'=>vRet (vVar 3) (vEnds Q) (ρ'.set 4 none),(vEnds Q).rt,fun _=>False,fun _=>False⟩ ((List.replicate ρ.length none).set 4 (some (.xc "TooMany" [("word", .str "looks")])))):=fun ρ hl z=>by
    rw [hl]
    exact ⟨List.mem_singleton.mpr rfl,rf_suite ⟨_,rfl,_,rfl,q1 z⟩⟩
  have hm:w ≠ 0 -> 3000 < mlk f.val ps (dimP ps):=fun n=>by
    rcases Int.lt_or_le 3000 (mlk f.val ps (dimP ps)) with z | z
    · exact z
    · exact absurd (hc z).1 n
  obtain rfl | rfl | rfl | rfl | rfl:w = 0 \/ w = 1 \/ w = 2 \/ w = 3 \/ w = 4:=by omega
  · show xIte _ _ _ _ _ _
    refine xIte_r (b:=true) ?_ ?_
    · (simp_arith only [grd_t,len_ok,eqi]) <;> rfl
    rw [if_pos rfl]
    show xSet _ _ _ _ _ _
    refine xSet_r (ws:=[.d (ptsQ ps),.d (.str (famF f))]) ?_ rfl ?_
    · simp_arith only [grd_t,len_ok]
    exact ⟨ps,f,rfl,⟨hw,fun z=>(hc z).2⟩,fun z=>hE _ rfl z,fun z=>⟨_,rfl,_,rfl,by rw [if_neg z] at hQ; exact hQ⟩⟩
  · show xIte _ _ _ _ _ _
    refine xIte_r (b:=false) ?_ ?_
    · (simp_arith only [grd_t,len_ok,eqi]) <;> rfl
    rw [if_neg (by decide)]
    show xIte _ _ _ _ _ _
    refine xIte_r (b:=true) ?_ ?_
    · (simp_arith only [grd_t,len_ok,eqi]) <;> rfl
    rw [if_pos rfl]
    show xSet _ _ _ _ _ _
    refine xSet_r (ws:=[.d (ptsQ ps),.d (.str (famF f))]) ?_ rfl ?_
    · simp_arith only [grd_t,len_ok]
    exact ⟨ps,f,rfl,⟨hw,hm (by decide)⟩,hE _ rfl (hm (by decide))⟩
  · show xIte _ _ _ _ _ _
    refine xIte_r (b:=false) ?_ ?_
    · (simp_arith only [grd_t,len_ok,eqi]) <;> rfl
    rw [if_neg (by decide)]
    show xIte _ _ _ _ _ _
    refine xIte_r (b:=false) ?_ ?_
    · (simp_arith only [grd_t,len_ok,eqi]) <;> rfl
    rw [if_neg (by decide)]
    show xIte _ _ _ _ _ _
    refine xIte_r (b:=true) ?_ ?_
    · (simp_arith only [grd_t,len_ok,eqi]) <;> rfl
    rw [if_pos rfl]
    show xSet _ _ _ _ _ _
    refine xSet_r (ws:=[.d (ptsQ ps),.d (.str (famF f))]) ?_ rfl ?_
    · simp_arith only [grd_t,len_ok]
    exact ⟨ps,f,rfl,⟨hw,hm (by decide)⟩,hE _ rfl (hm (by decide))⟩
  · show xIte _ _ _ _ _ _
    refine xIte_r (b:=false) ?_ ?_
    · (simp_arith only [grd_t,len_ok,eqi]) <;> rfl
    rw [if_neg (by decide)]
    show xIte _ _ _ _ _ _
    refine xIte_r (b:=false) ?_ ?_
    · (simp_arith only [grd_t,len_ok,eqi]) <;> rfl
    rw [if_neg (by decide)]
    show xIte _ _ _ _ _ _
    refine xIte_r (b:=false) ?_ ?_
    · (simp_arith only [grd_t,len_ok,eqi]) <;> rfl
    rw [if_neg (by decide)]
    show xIte _ _ _ _ _ _
    refine xIte_r (b:=true) ?_ ?_
    · (simp_arith only [grd_t,len_ok,eqi]) <;> rfl
    rw [if_pos rfl]
    show xSet _ _ _ _ _ _
    refine xSet_r (ws:=[.d (ptsQ ps),.d (.str (famF f))]) ?_ rfl ?_
    · simp_arith only [grd_t,len_ok]
    exact ⟨ps,f,rfl,⟨hw,hm (by decide)⟩,hE _ rfl (hm (by decide))⟩
  · show xIte _ _ _ _ _ _
    refine xIte_r (b:=false) ?_ ?_
    · (simp_arith only [grd_t,len_ok,eqi]) <;> rfl
    rw [if_neg (by decide)]
    show xIte _ _ _ _ _ _
    refine xIte_r (b:=false) ?_ ?_
    · (simp_arith only [grd_t,len_ok,eqi]) <;> rfl
    rw [if_neg (by decide)]
    show xIte _ _ _ _ _ _
    refine xIte_r (b:=false) ?_ ?_
    · (simp_arith only [grd_t,len_ok,eqi]) <;> rfl
    rw [if_neg (by decide)]
    show xIte _ _ _ _ _ _
    refine xIte_r (b:=false) ?_ ?_
    · (simp_arith only [grd_t,len_ok,eqi]) <;> rfl
    rw [if_neg (by decide)]
    show xSet _ _ _ _ _ _
    refine xSet_r (ws:=[.d (ptsQ ps),.d (.str (famF f)),.d (.tuple [.int 1,.int 1])]) ?_ rfl ?_
    · simp_arith only [grd_t,len_ok]
    exact ⟨ps,f,rfl,⟨hw,hm (by decide)⟩,hE _ rfl (hm (by decide))⟩
theorem sq2 (n:Nat):(n + 1) * (n + 2) = n * (n + 1) + 2 * (n + 1):=by rw [Nat.mul_comm,Nat.add_mul]
theorem cnt_ge {x:Rat} {g:Rat -> PyData}:∀ {xs:List Rat},(∀ b ∈ xs,x <= b) -> (xs.filterMap fun b=>if x <= b then some (g b) else none).length = xs.length
  | [],_=>rfl
  | y :: ys,h=>by rw [List.filterMap_cons,if_pos (h y List.mem_cons_self)]; simp [cnt_ge (g:=g) fun b mb=>h b (List.mem_cons_of_mem _ mb)]
theorem sF_go (E:List Rat) (g:Rat -> Rat -> PyData):∀ {rs:List Rat},rs.Pairwise (· < ·) -> (∀ a ∈ rs,∀ b ∈ E,a <= b) -> 2 * (rs.flatMap fun a=>(rs ++ E).filterMap fun b=>if a <= b then some (g a b) else none).length = rs.length * (rs.length + 1) + 2 * rs.length * E.length
  | [],_,_=>by simp
  | x :: xs,h,hE=>by
    obtain ⟨h1,h2⟩:=List.pairwise_cons.mp h
    have ih:=sF_go E g h2 fun a ma=>hE a (List.mem_cons_of_mem _ ma)
    have e1:((x :: xs ++ E).filterMap fun b=>if x <= b then some (g x b) else none).length = xs.length + 1 + E.length:=by
      rw [cnt_ge]
      · simp; omega
      · intro b mb
        rcases List.mem_append.mp mb with mb | mb
        · rcases List.mem_cons.mp mb with rfl | mb
          · exact Rat.le_refl
          · exact Rat.le_of_lt (h1 b mb)
        · exact hE x List.mem_cons_self b mb
    have e2:(xs.flatMap fun a=>(x :: xs ++ E).filterMap fun b=>if a <= b then some (g a b) else none) = xs.flatMap fun a=>(xs ++ E).filterMap fun b=>if a <= b then some (g a b) else none:=by
      rw [List.flatMap_def,List.flatMap_def]
      congr 1
      refine List.map_congr_left fun a ma=>?_
      rw [List.cons_append,List.filterMap_cons,if_neg (Rat.not_le.mpr (h1 a ma))]
    rw [List.flatMap_cons,List.length_append,e1,e2,Nat.mul_add,ih,List.length_cons]
    have:(xs.length + 1) * (xs.length + 1 + 1) = xs.length * (xs.length + 1) + 2 * (xs.length + 1):=sq2 _
    have : 2 * (xs.length + 1) * E.length = 2 * xs.length * E.length + 2 * E.length:=by rw [Nat.mul_add,Nat.add_mul]
    omega
theorem slF_len {rs:List Rat} (h:rs.Pairwise (· < ·)) (hg:∀ q ∈ rs,Gd q) : 2 * (slF rs).length = (rs.length + 1) * (rs.length + 2) + 2 * rs.length:=by
  unfold slF
  have e1:((rs ++ [1]).filterMap fun b=>if (-1:Rat) <= b then some (lkF (-1) b) else none).length = rs.length + 1:=by
    rw [cnt_ge]
    · simp
    · intro b mb
      rcases List.mem_append.mp mb with mb | mb
      · exact Rat.le_trans (by decide) (hg b mb).2.1
      · cases List.mem_singleton.mp mb; decide
  have e2:=sF_go [1] lkF h fun a ma b mb=>by cases List.mem_singleton.mp mb; exact Rat.le_of_lt (hg a ma).2.2
  rw [List.flatMap_cons,List.length_append,e1,Nat.mul_add,e2]
  have:(rs.length + 1) * (rs.length + 2) = rs.length * (rs.length + 1) + 2 * (rs.length + 1):=sq2 _
  simp
  omega
theorem cnt_le {x:Rat} {g:Rat -> PyData}:∀ {xs:List Rat},(∀ b ∈ xs,b <= x) -> (xs.filterMap fun b=>if b <= x then some (g b) else none).length = xs.length
  | [],_=>rfl
  | y :: ys,h=>by rw [List.filterMap_cons,if_pos (h y List.mem_cons_self)]; simp [cnt_le (g:=g) fun b mb=>h b (List.mem_cons_of_mem _ mb)]
theorem sR_go (E:List Rat) (g:Rat -> Rat -> PyData):∀ {rs:List Rat},rs.Pairwise (· < ·) -> (∀ a ∈ rs,∀ b ∈ E,b <= a) -> 2 * (rs.flatMap fun a=>(E ++ rs).filterMap fun b=>if b <= a then some (g a b) else none).length = rs.length * (rs.length + 1) + 2 * rs.length * E.length
  | [],_,_=>by simp
  | x :: xs,h,hE=>by
    obtain ⟨h1,h2⟩:=List.pairwise_cons.mp h
    have ih:=sR_go (E ++ [x]) g h2 fun a ma b mb=>by
      rcases List.mem_append.mp mb with mb | mb
      · exact hE a (List.mem_cons_of_mem _ ma) b mb
      · cases List.mem_singleton.mp mb; exact Rat.le_of_lt (h1 a ma)
    have e1:((E ++ x :: xs).filterMap fun b=>if b <= x then some (g x b) else none).length = E.length + 1:=by
      rw [show E ++ x :: xs = (E ++ [x]) ++ xs by simp,List.filterMap_append,List.length_append,cnt_le]
      · have:(xs.filterMap fun b=>if b <= x then some (g x b) else none) = []:=by
          rw [List.filterMap_eq_nil_iff]
          intro b mb
          rw [if_neg (Rat.not_le.mpr (h1 b mb))]
        rw [this]; simp
      · intro b mb
        rcases List.mem_append.mp mb with mb | mb
        · exact hE x List.mem_cons_self b mb
        · cases List.mem_singleton.mp mb; exact Rat.le_refl
    have e2:(fun a=>(E ++ x :: xs).filterMap fun b=>if b <= a then some (g a b) else none) = fun a=>((E ++ [x]) ++ xs).filterMap fun b=>if b <= a then some (g a b) else none:=by
      funext a; rw [show E ++ x :: xs = (E ++ [x]) ++ xs by simp]
    rw [List.flatMap_cons,List.length_append,e1,e2,Nat.mul_add,ih,List.length_cons,List.length_append,List.length_singleton]
    have:(xs.length + 1) * (xs.length + 1 + 1) = xs.length * (xs.length + 1) + 2 * (xs.length + 1):=sq2 _
    have : 2 * (xs.length + 1) * E.length = 2 * xs.length * E.length + 2 * E.length:=by rw [Nat.mul_add,Nat.add_mul]
    have : 2 * xs.length * (E.length + 1) = 2 * xs.length * E.length + 2 * xs.length:=by rw [Nat.mul_add]; omega
    omega
theorem slR_len {rs:List Rat} (h:rs.Pairwise (· < ·)) (hg:∀ q ∈ rs,Gd q) : 2 * (slR rs).length = (rs.length + 1) * (rs.length + 2) + 2 * rs.length:=by
  unfold slR
  have e1:(((-1) :: rs).filterMap fun b=>if b <= (1:Rat) then some (lkR 1 b) else none).length = rs.length + 1:=by
    rw [cnt_le]
    · simp
    · intro b mb
      rcases List.mem_cons.mp mb with rfl | mb
      · decide
      · exact Rat.le_of_lt (hg b mb).2.2
  have e2:=sR_go [-1] lkR h fun a ma b mb=>by cases List.mem_singleton.mp mb; exact Rat.le_trans (by decide) (hg a ma).2.1
  rw [List.flatMap_append,List.length_append,List.flatMap_singleton,e1,Nat.mul_add]
  have e3:(rs.flatMap fun a=>((-1) :: rs).filterMap fun b=>if b <= a then some (lkR a b) else none) = rs.flatMap fun a=>([-1] ++ rs).filterMap fun b=>if b <= a then some (lkR a b) else none:=rfl
  rw [e3,e2]
  have:(rs.length + 1) * (rs.length + 2) = rs.length * (rs.length + 1) + 2 * (rs.length + 1):=sq2 _
  simp
  omega
theorem inr_of {n l:Nat} (h : 2 * l = (n + 1) * (n + 2) + 2 * n):inr (n:Int) = (l:Int):=by
  unfold inr
  have e:((n:Int) + 1) * ((n:Int) + 2) = ((2 * (l - n):Nat):Int):=by
    have : 2 * (l - n) = (n + 1) * (n + 2):=by omega
    rw [this]; push_cast; rfl
  rw [e,Int.fdiv_eq_ediv_of_nonneg _ (by decide)]
  have:n <= l:=by have : 0 <= (n + 1) * (n + 2):=Nat.zero_le _; omega
  omega
theorem sl_len {f:Nat} {rs:List Rat} (h:rs.Pairwise (· < ·)) (hg:∀ q ∈ rs,Gd q):((sl f rs).length:Int) = msl f (rs.length:Nat):=by
  have h1:=inr_of (slF_len h hg)
  have h2:=inr_of (slR_len h hg)
  unfold sl msl
  split
  · simp
  · split
    · exact h1.symm
    · rw [List.length_append]; push_cast; omega
theorem chP_ln (f:Nat) (ps:List (List Rat)) (hs:∀ j,j < dimP ps -> (nuQ ps j).Pairwise (· < ·) /\ ∀ q ∈ nuQ ps j,Gd q):∀ i,i <= dimP ps -> ((chP ((rowsQ f ps).take i)).length:Int) = mlk f ps i
  | 0,_=>by simp [chP,mlk]
  | i + 1,h=>by
    have hl:i < (rowsQ f ps).length:=by unfold rowsQ; rw [List.length_map,List.length_range]; omega
    have e:(rowsQ f ps)[i] = sl f (nuQ ps i):=by simp [rowsQ]
    have ih:=chP_ln f ps hs i (by omega)
    rw [chP_tk hl,mlk_succ,<- ih,<- sl_len (hs i (by omega)).1 (hs i (by omega)).2,e]
    have:∀ (l:List (List PyData)) (r:List PyData),(l.flatMap fun b=>r.map fun t=>b ++ [t]).length = l.length * r.length:=fun l r=>by
      induction l with
      | nil=>simp
      | cons x l ih=>rw [List.flatMap_cons,List.length_append,List.length_map,ih,List.length_cons,Nat.add_mul]; omega
    rw [this]; push_cast; rfl
noncomputable def manT:PyData:=.tuple [.str "many", .str "looks"]
theorem ent_t (z:EnT):tupD (entD z) = some [.str (famF z.1),sqI true z.2.1,.int z.2.2]:=rfl
theorem man5:PyData.eqv (.list ((List.range 5).map fun _=>manT)) (.list (List.replicate 5 [manT]).flatten) = true:=by decide +kernel
theorem man5s:SeqAt.shaped (.list ((List.range 5).map fun _=>manT)) = true /\ SeqAt.shaped (.list (List.replicate 5 [manT]).flatten) = true:=by decide +kernel
theorem man6:PyData.eqv (.list (([0,1,2,3,4,0]:List Int).map fun _=>manT)) (.list (List.replicate 6 [manT]).flatten) = true:=by decide +kernel
theorem man6s:SeqAt.shaped (.list (([0,1,2,3,4,0]:List Int).map fun _=>manT)) = true /\ SeqAt.shaped (.list (List.replicate 6 [manT]).flatten) = true:=by decide +kernel
theorem shw_i {i:Int} (h0 : 0 <= i) (h:i < 2 ^ 40):Shw (PyData.int i):=(Sm.int (Nat.lt_of_lt_of_le (show i.natAbs < 2 ^ 40 by omega) (Nat.pow_le_pow_right (by decide) (by decide)))).shw (by decide) (by decide)
theorem refd_m {w:Int} {ps:List (List Rat)} {f:Fin 3} (w0 : 0 <= w) (w4:w <= 4) (hw:PwN ps) (hm : 3000 < mlk f.val ps (dimP ps)):p__law_refused [.d (.int w),.d (ptsQ ps),.d (.str (famF f))] = VL.ret manT:=by
  have e:=p__law_refused.eq w ps f w0 w4 hw (fun z=>absurd hm (by omega))
  rw [if_pos hm] at e
  exact e
theorem ch_so {us:List Int} {ps:List (List Rat)} (h:PtSo us ps) (hu:UsOk us) (f:Nat) (hb:∀ i:Fin 5,slk f (us.take i.val) <= 5000):Ch ((List.range (dimP ps)).map fun j=>sl f (nuQ ps j)) /\ ((chP ((List.range (dimP ps)).map fun j=>sl f (nuQ ps j))).length:Int) = mlk f ps (dimP ps):=by
  have hg:∀ j,j < dimP ps -> (nuQ ps j).Pairwise (· < ·) /\ ∀ q ∈ nuQ ps j,Gd q:=fun j hj=>⟨(srQ_ok (colQ ps j)).1,(h.1.2 j hj).2⟩
  have rl:(rowsQ f ps).length = dimP ps:=by unfold rowsQ; rw [List.length_map,List.length_range]
  have ln:=chP_ln f ps hg
  refine ⟨⟨?_,fun i hi=>?_⟩,?_⟩
  · rw [List.length_map,List.length_range]; exact h.1.1.2.2.2.2
  · have hi:i <= dimP ps:=by rw [<- rl]; exact hi
    have e:=ln i hi
    have i4:i < 5:=by have:=h.1.1.2.2.2.2; omega
    have b:slk f (us.take i) <= 5000:=hb ⟨i,i4⟩
    rw [mlk_so h f i (by rw [<- h.2.1]; exact hi)] at e
    have:(chP ((rowsQ f ps).take i)).length <= 100000:=by omega
    exact this
  · have e:=ln (dimP ps) (Nat.le_refl _)
    rw [List.take_of_length_le (by omega)] at e
    exact e
noncomputable def p__law_far_right:List W -> (PyData -> Prop) -> Prop:=fun ws Q=>ws = [.reel] /\ (True) /\ ∀ z:Unit,(True) -> Q (.bool true)
theorem p__law_far_right.mono:∀ ws (Q Q':PyData -> Prop),(∀ d,Q d -> Q' d) -> p__law_far_right ws Q -> p__law_far_right ws Q':=fun _ _ _ h_=>And.imp_right (And.imp_right fun q_ o_ ho_=>h_ _ (q_ o_ ho_))
theorem p__law_far_right.len:∀ ws (Q:PyData -> Prop),p__law_far_right ws Q -> ws.length = 1:=fun _ _ h_=>by obtain ⟨e_,_⟩:=h_; subst e_; rfl
theorem p__law_far_right.eq   : p__law_far_right [.reel] = bnd (anyM fun z:Unit=>True) fun z=>VL.ret (.bool true:PyData):=by
  refine mo_ext fun Q=>⟨?_,fun q_=>⟨rfl,trivial,q_⟩⟩
  rintro ⟨e_,_,q_⟩
  simp_arith only [and_true] at e_
  
  exact q_
theorem sc__law_far_right:FnScope ["_law_feed_here", "_law_some", "_law_family", "_law_counts", "_law_due", "_law_pts"] ["_law_feed_here"] (defScope (top 78)):=⟨rfl,rfl,rfl,by decide +kernel,rfl,by decide +kernel,by decide +kernel⟩
theorem d__law_far_right (Fn:FnIn K mg "_law_far_right" (top 78) ["_law_feed_here"]) (Z:Bz mg) (d__law_points_so:∀ rl,Dfn P w K mg base rl "_law_points_so" ["_law_feed_here", "_law_counts"] 2 p__law_points_so) (d__law_draw:∀ rl,Dfn P w K mg base rl "_law_draw" ["_law_feed_here", "_law_many"] 1 p__law_draw) (d_many_looks:∀ rl,Dfn P w K mg base rl "many_looks" ["points", "family"] 3 p_many_looks) (d__law_refused:∀ rl,Dfn P w K mg base rl "_law_refused" ["_law_way", "_law_pts", "_law_family"] 10 p__law_refused)   : Dfn P w K mg base rl "_law_far_right" ["_law_feed_here"] 11 p__law_far_right:=by
  have sc:=sc__law_far_right
  refine Dfn.of Fn sc (p__law_far_right.mono) (p__law_far_right.len) (fun cdv A outer s H E hr=>(vs_cons (vs_setZ 1 sc.nd (v_lst (pvs_cons (v_tup (pvs_cons pv_str (pvs_cons (v_tup (pvs_cons pv_int (pvs_cons pv_int (pvs_cons pv_int (pvs_cons pv_int pvs_nil))))) (pvs_cons pv_int pvs_nil)))) (pvs_cons (v_tup (pvs_cons pv_str (pvs_cons (v_tup (pvs_cons pv_int (pvs_cons pv_int (pvs_cons pv_int pvs_nil)))) (pvs_cons pv_int pvs_nil)))) pvs_nil))))
      (vs_cons (vs_setZ 1 sc.nd (v_catD (vn 1) (v_lst (pvs_cons (v_tup (pvs_cons pv_str (pvs_cons (v_tup (pvs_cons pv_int (pvs_cons pv_int (pvs_cons pv_int (pvs_cons pv_int pvs_nil))))) (pvs_cons pv_int pvs_nil)))) (pvs_cons (v_tup (pvs_cons pv_str (pvs_cons (v_tup (pvs_cons pv_int (pvs_cons pv_int (pvs_cons pv_int (pvs_cons pv_int pvs_nil))))) (pvs_cons pv_int pvs_nil)))) pvs_nil)))))
      (vs_cons (vs_asg (v_ix (vn 1) (v_call (d__law_draw _) (hr.mono (by decide)) (pvs_cons (vn 0) (pvs_cons pv_int pvs_nil)))) (vg_tup (n:=3) rfl (vgs_cons (vg_name 2 sc.nd) (vgs_cons (vg_name 3 sc.nd) (vgs_cons (vg_name 4 sc.nd) vgs_nil)))))
      (vs_cons (vs_setZ 5 sc.nd (v_call (d__law_points_so _) (hr.mono (by decide)) (pvs_cons (vn 0) (pvs_cons (vn 3) pvs_nil))))
      (vs_cons (vs_if (vb_cmp op_ne vo_neS (nomark _) (v_repr (hr.mono (Nat.zero_le _)) Z.repr_ (pvs_cons (v_call (d_many_looks _) (hr.mono (by decide)) (pvs_cons (vn 5) (pvs_cons (vn 2) pvs_nil))) pvs_nil)) (v_repr (hr.mono (Nat.zero_le _)) Z.repr_ (pvs_cons (vn 4) pvs_nil))) (vs_one (vs_ret pv_bl)) vs_nil)
      (vs_one (vs_ret (v_cmp (op_eqD hr.units) vo_eqD (nomark _) (v_lcompR ["_law_way", "_law_pts", "_law_family"] [none,some 5,some 2] rfl (vi_range1 Z.range_ (pvs_cons pv_int pvs_nil)) (fun _=>(vg_name 0 (show List.Nodup (["_law_way", "_law_pts", "_law_family"]:List Str) by decide +kernel))) (fun _=>vt_nil) (fun _=>(v_call (d__law_refused _) (hr.mono (by decide)) (pvs_cons (vn 0) (pvs_cons (vn 1) (pvs_cons (vn 2) pvs_nil)))))) (v_repL (v_lst (pvs_cons (v_tup (pvs_cons pv_str (pvs_cons pv_str pvs_nil))) pvs_nil)) pv_int)))))))))) ?_
  rintro ws Q ⟨rfl,_,hQ⟩
  refine read_of ?_
  have sz:=PySem.sizeLine_eq
  simp_arith only [grd_t,len_ok,m_vRN,m_vRC,s_rput,asR_r,lenD_l,item_li,BFR,p__law_draw.eq]
  (with_reducible (first | refine any_step fun a ha=>?_ | refine sqb_any fun a ha=>?_))
  try simp_arith only [grd_t,len_ok,m_vRN,m_vRC,s_rput,asR_r,lenD_l,item_li,BFR]
  refine sqo (menuA_step (xs:=tbl4) (enc:=entD) (fun z=>z ∈ tbl4) rfl ha.1 (by rw [show tbl4.length = 4 from rfl]; simpa using ha.2) (fun z h=>h) fun z hz=>?_)
  obtain ⟨hu,hs,h3,h40⟩:=tab4 z hz
  obtain ⟨f,us,due⟩:=z
  dsimp only at hu hs h3 h40
  simp_arith only [grd_t,len_ok,m_vRN,m_vRC,s_rput,asR_r,lenD_l,item_li,BFR,ent_t,p__law_points_so.eq]
  (with_reducible (first | refine any_step fun ps hp=>?_ | refine sqb_any fun ps hp=>?_))
  have em:mlk f.val ps (dimP ps) = due:=(mlk_all hp f.val).trans hs
  have hw:=hp.1
  have sh:=shw_i (show 0 <= due by omega) h40
  have hm : 3000 < mlk f.val ps (dimP ps):=by omega
  have tm:PyData.tuple [PyData.str (Str.ofString "many"),PyData.str (Str.ofString "looks")] = manT:=rfl
  simp_arith only [grd_t,len_ok,m_vRN,m_vRC,s_rput,asR_r,lenD_l,item_li,BFR,p_many_looks.eq,em,tm]
  refine cmapR_go (fun _=>manT) ?_ (by omega) ?_
  · intro j hj
    have j0:(0:Int) <= 0 + (j:Int):=by omega
    have j4 : 0 + (j:Int) <= 4:=by omega
    simp_arith only [grd_t,len_ok,itM,refd_m]
  obtain ⟨s1,s2⟩:=man5s
  have ev:=man5
  rw [show Int.toNat 5 = 5 from rfl]
  refine grd_step s1 (grd_step s2 ?_)
  rw [ev]
  exact rt_end (hQ () trivial)
theorem sc_law:FnScope ["_law_script", "_law_feed_here", "_law_k", "_law_family", "_law_counts", "_law_due", "_law_sides", "_law_turn", "_law_pts", "_law_found"] ["_law_script"] (defScope (top 79)):=⟨rfl,rfl,rfl,by decide +kernel,rfl,by decide +kernel,by decide +kernel⟩
theorem law_body (Z:Bz mg) (d__law_feed:DfnR P w K mg base "_law_feed" ["_law_script"] 2 preF) (d__law_far_right:∀ rl,Dfn P w K mg base rl "_law_far_right" ["_law_feed_here"] 11 p__law_far_right) (d__law_sizes_told:∀ rl,Dfn P w K mg base rl "_law_sizes_told" ["_law_feed_here"] 2 p__law_sizes_told) (d__law_draw:∀ rl,Dfn P w K mg base rl "_law_draw" ["_law_feed_here", "_law_many"] 1 p__law_draw) (d__law_points_so:∀ rl,Dfn P w K mg base rl "_law_points_so" ["_law_feed_here", "_law_counts"] 2 p__law_points_so) (d__law_refused:∀ rl,Dfn P w K mg base rl "_law_refused" ["_law_way", "_law_pts", "_law_family"] 10 p__law_refused) (d_many_looks:∀ rl,Dfn P w K mg base rl "many_looks" ["points", "family"] 3 p_many_looks)   {f:Addr} {fd:FuncData} (F:Fun K "law" "law" (top 79) f fd):FnOk P w K mg base CX0 13 f fd ["_law_script"] (spLaw2 K):=by
  have sc:=sc_law
  refine ok_law2 F sc (fun cdv A outer s H E hr=>(vs_newR 1 d__law_feed (hr.mono (by decide)) sc.nd (pvs_cons (vn 0) pvs_nil) (fun r _=>(vs_cons (vs_forF [2,3,4,5,6,7,8,9] PassesOwn.never rfl (vi_range1 Z.range_ (pvs_cons pv_int pvs_nil)) (vg_name 2 sc.nd) (vs_cons (vs_asg (v_call (d__law_sizes_told _) (hr.mono (by decide)) (pvs_cons (vn 1) pvs_nil)) (vg_tup (n:=3) rfl (vgs_cons (vg_name 3 sc.nd) (vgs_cons (vg_name 4 sc.nd) (vgs_cons (vg_name 5 sc.nd) vgs_nil)))))
      (vs_cons (vs_setZ 6 sc.nd (v_listof Z.list_ (pvs_cons (vn 4) pvs_nil)))
      (vs_cons (vs_setZ 7 sc.nd (v_call (d__law_draw _) (hr.mono (by decide)) (pvs_cons (vn 1) (pvs_cons (v_len Z.len_ (pvs_cons (vn 6) pvs_nil)) pvs_nil))))
      (vs_cons (vs_setZ 8 sc.nd (v_call (d__law_points_so _) (hr.mono (by decide)) (pvs_cons (vn 1) (pvs_cons (v_catD (v_slL (vn 6) (vo_some (vn 7)) vo_none) (v_slL (vn 6) vo_none (vo_some (vn 7)))) pvs_nil))))
      (vs_cons (vs_if (vb_cmp op_ne vo_neS (nomark _) (v_repr (hr.mono (Nat.zero_le _)) Z.repr_ (pvs_cons (v_call (d_many_looks _) (hr.mono (by decide)) (pvs_cons (vn 8) (pvs_cons (vn 3) pvs_nil))) pvs_nil)) (v_repr (hr.mono (Nat.zero_le _)) Z.repr_ (pvs_cons (vn 5) pvs_nil))) (vs_one (vs_ret pv_bl)) vs_nil)
      (vs_one (vs_if (vb_cmp op_gt vo_gt (nomark _) (vn 5) pv_int) (vs_one (vs_if (vb_cmp (op_neD hr.units) vo_eqD (nomark _) (v_lcompR ["_law_way", "_law_pts", "_law_family"] [none,some 8,some 3] rfl (vi_tup (v_tup (pvs_cons pv_int (pvs_cons pv_int (pvs_cons pv_int (pvs_cons pv_int (pvs_cons pv_int (pvs_cons pv_int pvs_nil)))))))) (fun _=>(vg_name 0 (show List.Nodup (["_law_way", "_law_pts", "_law_family"]:List Str) by decide +kernel))) (fun _=>vt_nil) (fun _=>(v_call (d__law_refused _) (hr.mono (by decide)) (pvs_cons (vn 0) (pvs_cons (vn 1) (pvs_cons (vn 2) pvs_nil)))))) (v_repL (v_lst (pvs_cons (v_tup (pvs_cons pv_str (pvs_cons pv_str pvs_nil))) pvs_nil)) pv_int)) (vs_one (vs_ret pv_bl)) vs_nil)) (vs_cons (vs_setZ 9 sc.nd (v_call (d__law_refused _) (hr.mono (by decide)) (pvs_cons pv_int (pvs_cons (vn 8) (pvs_cons (vn 3) pvs_nil)))))
      (vs_one (vs_if (PBW.pb (vb_or (vb_not (vb_val (v_isi Z.isinstance_ (pvs_cons (vn 9) (pvs_cons (pv_ty Z.list_ (by rfl)) pvs_nil))))) (vb_or1 (vb_cmp (op_neD hr.units) vo_eqD (nomark _) (v_len Z.len_ (pvs_cons (vn 9) pvs_nil)) (vn 5))))) (vs_one (vs_ret pv_bl)) vs_nil)))))))))))
      (vs_one (vs_ret (v_call (d__law_far_right _) (hr.mono (by decide)) (pvs_cons (vn 1) pvs_nil)))))))) ?_
  intro ns hn
  have sz:=PySem.sizeLine_eq
  have pf:=preF.eq hn
  simp_arith only [grd_t,len_ok,m_vRN,m_vRC,s_rput,asR_r,lenD_l,item_li,pf]
  refine eachR_go ?_ ?_
  · intro i hi K hK
    simp_arith only [grd_t,len_ok,m_vRN,m_vRC,s_rput,asR_r,lenD_l,item_li,p__law_sizes_told.eq]
    (with_reducible (first | refine any_step fun z hz=>?_ | refine sqb_any fun z hz=>?_))
    obtain ⟨b1,b4,d0,d5⟩:=tab17b z hz
    have tb:=tab17 z hz
    obtain ⟨f,us,due⟩:=z
    dsimp only at b1 b4 d0 d5 tb
    have hlaw:∀ ρ,fo [2,3,4,5,6,7,8,9] ρ = [some (.sc ns),some .reel,none,none,none,none,none,none,none,none] -> K (.nx ρ):=fun ρ e=>hK _ (lpS_nx e)
    have l0:(0:Int) < (us.length:Int):=by omega
    have l6:(us.length:Int) < 2 ^ 60:=by omega
    have st:seqD (sqI true us) = some (us.map .int):=rfl
    simp_arith only [grd_t,len_ok,m_vRN,m_vRC,s_rput,asR_r,lenD_l,item_li,BFR,ent_t,st,p__law_draw.eq]
    (with_reducible (first | refine any_step fun t ht=>?_ | refine sqb_any fun t ht=>?_))
    obtain ⟨hu,hs,hb⟩:=tb ⟨t.toNat,by omega⟩ (show t.toNat < us.length by omega)
    dsimp only at hu hs hb
    have er:VL.cutD (us.map PyData.int) (some t) none ++ VL.cutD (us.map PyData.int) none (some t) = (rot t.toNat us).map PyData.int:=by
      unfold rot
      rw [L2.VL.cut_from ht.1,L2.VL.cut_to ht.1,List.map_append,List.map_drop,List.map_take]
    have lc:(VL.cutD (us.map PyData.int) (some t) none).length + (VL.cutD (us.map PyData.int) none (some t)).length <= sizeLine:=by
      rw [<- List.length_append,er,List.length_map]
      have:=hu.2.2
      omega
    have es:PyData.list ((rot t.toNat us).map PyData.int) = sqI false (rot t.toNat us):=rfl
    try simp_arith only [grd_t,len_ok,m_vRN,m_vRC,s_rput,asR_r,lenD_l,item_li,BFR,er,es,p__law_points_so.eq]
    (with_reducible (first | refine any_step fun ps hp=>?_ | refine sqb_any fun ps hp=>?_))
    have em:mlk f.val ps (dimP ps) = due:=(mlk_all hp f.val).trans hs
    have hw:=hp.1
    have sh:=shw_i d0 (show due < 2 ^ 40 by omega)
    have tm:PyData.tuple [PyData.str (Str.ofString "many"),PyData.str (Str.ofString "looks")] = manT:=rfl
    simp_arith only [grd_t,len_ok,m_vRN,m_vRC,s_rput,asR_r,lenD_l,item_li,BFR,p_many_looks.eq,em,tm]
    by_cases hm : 3000 < due
    · have dd:decide (3000 < due) = true:=decide_eq_true hm
      have hM : 3000 < mlk f.val ps (dimP ps):=by omega
      simp_arith only [grd_t,len_ok,m_vRN,m_vRC,s_rput,asR_r,lenD_l,item_li,BFR,dd,tm]
      refine cmap_go (xs:=([0,1,2,3,4,0]:List Int)) (enc:=PyData.int) (fun _=>manT) rfl ?_ (by simp; omega) ?_
      · intro x mx
        have x0 : 0 <= x /\ x <= 4:=by
          simp only [List.mem_cons,List.not_mem_nil,or_false] at mx
          omega
        obtain ⟨x0,x4⟩:=x0
        simp_arith only [grd_t,len_ok,itM,refd_m]
      obtain ⟨s1,s2⟩:=man6s
      rw [show Int.toNat 6 = 6 from rfl]
      refine grd_step s1 (grd_step s2 ?_)
      rw [man6]
      exact hlaw _ rfl
    · have dd:decide (3000 < due) = false:=decide_eq_false hm
      obtain ⟨hC,cl⟩:=ch_so hp hu f.val hb
      have rf:=p__law_refused.eq 0 ps f (by decide) (by decide) hw (fun _=>⟨rfl,hC⟩)
      rw [if_neg (show ¬ 3000 < mlk f.val ps (dimP ps) by omega)] at rf
      generalize chP ((List.range (dimP ps)).map fun j=>sl f.val (nuQ ps j)) = bs at rf cl
      have eqi:∀ i j:Int,PyData.eqv (.int i) (.int j) = (i == j):=fun i j=>by simp [PyData.eqv]
      have el:((bs.length:Int) == due) = true:=by simp; omega
      have isl:isiD (PyData.list (bs.map PyData.tuple)) "list" = true:=rfl
      simp_arith only [grd_t,len_ok,m_vRN,m_vRC,s_rput,asR_r,lenD_l,item_li,BFR,dd,tm,rf,isl,eqi,el,List.length_map]
      exact hlaw _ rfl
  · simp_arith only [grd_t,len_ok,m_vRN,m_vRC,s_rput,asR_r,lenD_l,item_li,p__law_far_right.eq]
    intro _ _
    exact law_end
structure Txt (K:PySem.W.Frag) (mg:Str -> Option Value):Prop where
  bz:Bz mg
  f__law_feed:FnIn K mg "_law_feed" (top 72) ["_law_script"]
  f__law_draw:FnIn K mg "_law_draw" (top 73) ["_law_feed_here", "_law_many"]
  f__law_frac:FnIn K mg "_law_frac" (top 74) ["_law_top", "_law_bottom"]
  f_is_below:FnIn K mg "is_below" (top 20) ["one", "other"]
  f_lesser:FnIn K mg "lesser" (top 21) ["one", "other"]
  f_greater:FnIn K mg "greater" (top 22) ["one", "other"]
  f_in_size:FnIn K mg "in_size" (top 23) ["some"]
  f_sides_of:FnIn K mg "sides_of" (top 34) ["points"]
  f_numbers_at:FnIn K mg "numbers_at" (top 35) ["points", "side"]
  f_side_looks:FnIn K mg "side_looks" (top 39) ["numbers", "family"]
  f_many_side_looks:FnIn K mg "many_side_looks" (top 40) ["many", "family"]
  f_many_looks:FnIn K mg "many_looks" (top 41) ["points", "family"]
  f_choices:FnIn K mg "choices" (top 32) ["rows"]
  f_first_greatest:FnIn K mg "first_greatest" (top 48) ["rows"]
  f__law_sizes_told:FnIn K mg "_law_sizes_told" (top 75) ["_law_feed_here"]
  f__law_points_so:FnIn K mg "_law_points_so" (top 76) ["_law_feed_here", "_law_counts"]
  f__law_refused:FnIn K mg "_law_refused" (top 77) ["_law_way", "_law_pts", "_law_family"]
  f__law_far_right:FnIn K mg "_law_far_right" (top 78) ["_law_feed_here"]
  f_looks_by_side:FnIn K mg "looks_by_side" (top 42) ["points", "family"]
  f_looks:FnIn K mg "looks" (top 43) ["points", "family"]
  f_counted_looks:FnIn K mg "counted_looks" (top 46) ["points", "family"]
  f_misses:FnIn K mg "misses" (top 47) ["points", "family"]
  f_worst:FnIn K mg "worst" (top 49) ["points", "family"]
  f_unevenness:FnIn K mg "unevenness" (top 50) ["points", "family"]
  f_all_worst:FnIn K mg "all_worst" (top 51) ["points", "family"]
  f_even_paper:FnIn K mg "even_paper" (top 67) ["points", "family", "number"]
  g_ONE:GlD K mg "ONE" (.tuple [.int 1,.int 1])
  g_BELOW_ALL:GlD K mg "BELOW_ALL" (.tuple [.int (-1),.int 1])
  g_MOST_LOOKS:GlD K mg "MOST_LOOKS" (.int 3000)
  x_TooMany:XCl K mg "TooMany" "word" "EvenError" "TooMany.__init__" (inClass (top 4) 0) ["self", "word"] ["NoDeed", "NoNet", "NoPaper", "NoRoom", "NoRow", "NoText", "NoUpper", "Nought"]
theorem ok_law {f:Addr} {fd:FuncData} (F:Fun K "law" "law" (top 79) f fd) (T:Txt K mg)  : FnOk P w K mg base CX0 13 f fd ["_law_script"] (spLaw2 K):=by
  have d__law_feed:DfnR P w K mg base "_law_feed" ["_law_script"] 2 preF:=K22.d__law_feed T.f__law_feed T.bz   
  have d__law_draw:∀ rl,Dfn P w K mg base rl "_law_draw" ["_law_feed_here", "_law_many"] 1 p__law_draw:=fun rl=>K22.d__law_draw T.f__law_draw T.bz   
  have d__law_frac:∀ rl,Dfn P w K mg base rl "_law_frac" ["_law_top", "_law_bottom"] 1 p__law_frac:=fun rl=>K22.d__law_frac T.f__law_frac T.bz   
  have d_is_below:∀ rl,Dfn P w K mg base rl "is_below" ["one", "other"] 1 p_is_below:=fun rl=>K22.d_is_below T.f_is_below T.bz   
  have d_lesser:∀ rl,Dfn P w K mg base rl "lesser" ["one", "other"] 2 p_lesser:=fun rl=>K22.d_lesser T.f_lesser T.bz d_is_below  
  have d_greater:∀ rl,Dfn P w K mg base rl "greater" ["one", "other"] 2 p_greater:=fun rl=>K22.d_greater T.f_greater T.bz d_is_below  
  have d_in_size:∀ rl,Dfn P w K mg base rl "in_size" ["some"] 1 p_in_size:=fun rl=>K22.d_in_size T.f_in_size T.bz   
  have d_sides_of:∀ rl,Dfn P w K mg base rl "sides_of" ["points"] 1 p_sides_of:=fun rl=>K22.d_sides_of T.f_sides_of T.bz   
  have d_numbers_at:∀ rl,Dfn P w K mg base rl "numbers_at" ["points", "side"] 2 p_numbers_at:=fun rl=>K22.d_numbers_at T.f_numbers_at T.bz d_in_size  
  have d_side_looks:∀ rl,Dfn P w K mg base rl "side_looks" ["numbers", "family"] 2 p_side_looks:=fun rl=>K22.d_side_looks T.f_side_looks T.bz d_is_below T.g_ONE T.g_BELOW_ALL 
  have d_many_side_looks:∀ rl,Dfn P w K mg base rl "many_side_looks" ["many", "family"] 1 p_many_side_looks:=fun rl=>K22.d_many_side_looks T.f_many_side_looks T.bz   
  have d_many_looks:∀ rl,Dfn P w K mg base rl "many_looks" ["points", "family"] 3 p_many_looks:=fun rl=>K22.d_many_looks T.f_many_looks T.bz d_sides_of d_many_side_looks d_numbers_at  
  have d_choices:∀ rl,Dfn P w K mg base rl "choices" ["rows"] 1 p_choices:=fun rl=>K22.d_choices T.f_choices T.bz   
  have d_first_greatest:∀ rl,Dfn P w K mg base rl "first_greatest" ["rows"] 1 pNo:=fun rl=>K22.d_first_greatest T.f_first_greatest T.bz   
  have d__law_sizes_told:∀ rl,Dfn P w K mg base rl "_law_sizes_told" ["_law_feed_here"] 2 p__law_sizes_told:=fun rl=>K22.d__law_sizes_told T.f__law_sizes_told T.bz d__law_draw  
  have d__law_points_so:∀ rl,Dfn P w K mg base rl "_law_points_so" ["_law_feed_here", "_law_counts"] 2 p__law_points_so:=fun rl=>K22.d__law_points_so T.f__law_points_so T.bz d__law_draw d__law_frac  
  have dE_looks_by_side:∀ rl,DfnE P w K mg base rl "looks_by_side" ["points", "family"] 4 pE_looks_by_side:=fun rl=>K22.dE_looks_by_side T.f_looks_by_side T.bz d_many_looks d_side_looks d_numbers_at d_sides_of T.g_MOST_LOOKS (T.x_TooMany.one i_TooMany)
  have dE_looks:∀ rl,DfnE P w K mg base rl "looks" ["points", "family"] 5 pE_looks:=fun rl=>K22.dE_looks T.f_looks T.bz d_choices  dE_looks_by_side
  have dE_counted_looks:∀ rl,DfnE P w K mg base rl "counted_looks" ["points", "family"] 5 pE_counted_looks:=fun rl=>K22.dE_counted_looks T.f_counted_looks T.bz  T.g_ONE dE_looks_by_side
  have dE_misses:∀ rl,DfnE P w K mg base rl "misses" ["points", "family"] 6 pE_misses:=fun rl=>K22.dE_misses T.f_misses T.bz   dE_counted_looks
  have dE_worst:∀ rl,DfnE P w K mg base rl "worst" ["points", "family"] 7 pE_worst:=fun rl=>K22.dE_worst T.f_worst T.bz d_first_greatest  dE_misses
  have dE_unevenness:∀ rl,DfnE P w K mg base rl "unevenness" ["points", "family"] 8 pE_unevenness:=fun rl=>K22.dE_unevenness T.f_unevenness T.bz   dE_worst
  have dE_all_worst:∀ rl,DfnE P w K mg base rl "all_worst" ["points", "family"] 7 pE_all_worst:=fun rl=>K22.dE_all_worst T.f_all_worst T.bz   dE_misses
  have dE_even_paper:∀ rl,DfnE P w K mg base rl "even_paper" ["points", "family", "number"] 9 pE_even_paper:=fun rl=>K22.dE_even_paper T.f_even_paper T.bz d_is_below  dE_unevenness
  have d__law_refused:∀ rl,Dfn P w K mg base rl "_law_refused" ["_law_way", "_law_pts", "_law_family"] 10 p__law_refused:=fun rl=>K22.d__law_refused T.f__law_refused T.bz dE_looks dE_unevenness dE_worst dE_all_worst dE_even_paper T.x_TooMany
  have d__law_far_right:∀ rl,Dfn P w K mg base rl "_law_far_right" ["_law_feed_here"] 11 p__law_far_right:=fun rl=>K22.d__law_far_right T.f__law_far_right T.bz d__law_points_so d__law_draw d_many_looks d__law_refused  
  exact law_body T.bz d__law_feed d__law_far_right d__law_sizes_told d__law_draw d__law_points_so d__law_refused d_many_looks   F
end
theorem us_0 {us:List Value} (hl:us.length = 0):us = []:=List.eq_nil_of_length_eq_zero hl
theorem us_1 {us:List Value} (hl:us.length = 1):∃ a0,us = [a0]:=by
  cases us with
  | nil=>cases hl
  | cons a0 t=>cases us_0 (Nat.succ.inj hl); exact ⟨a0,rfl⟩
theorem us_2 {us:List Value} (hl:us.length = 2):∃ a0 a1,us = [a0,a1]:=by
  cases us with
  | nil=>cases hl
  | cons a0 t=>obtain ⟨a1,rfl⟩:=us_1 (Nat.succ.inj hl); exact ⟨a0,a1,rfl⟩
theorem us_3 {us:List Value} (hl:us.length = 3):∃ a0 a1 a2,us = [a0,a1,a2]:=by
  cases us with
  | nil=>cases hl
  | cons a0 t=>obtain ⟨a1,a2,rfl⟩:=us_2 (Nat.succ.inj hl); exact ⟨a0,a1,a2,rfl⟩
theorem fin_mk {K:PySem.W.Frag} {h:Heap} {mg:Str -> Option Value} (X:K.In h) (G:h.Ns mainGlobals mg) {x:Str} {st:Stmt} {ps:List Str} {f:Addr} {oc kV dc pm cd ct:Value} {od an:Option Addr} {sl:Array (Option Value)} (a:PySem.W.nsIn K mainGlobals x = some (some (.ref f))) (l:K.lookup f = some ⟨oc,od,.func (PySem.W.fnOf x x (defArgs st) (defBody st) (defScope st) .none kV dc pm an cd ct),sl⟩) (c:PySem.W.codeIn K cd x = true) (k:PySem.W.keepIn K (.ref f) = true) (hb:∀ (kV doc pm:Value) (an:Option Addr) (cdv ct:Value) (us:List Value),us.length = ps.length -> bindArgs (PySem.W.fnOf x x (defArgs st) (defBody st) (defScope st) .none kV doc pm an cdv ct) ⟨us,[]⟩ = pure (ps.zip us)):FnIn K mg x st ps:=⟨⟨f,_,PySem.W.mg_of X G a,fun_mk l c k,(fun_mk l c k).binds hb⟩⟩
abbrev NI (K:PySem.W.Frag) (x:Str) (f:Addr):Prop:=PySem.W.nsIn K mainGlobals x = some (some (.ref f))
abbrev NZ (K:PySem.W.Frag) (x:Str):Prop:=PySem.W.nsIn K mainGlobals x = some none
abbrev LK (K:PySem.W.Frag) (x:Str) (st:Stmt) (f:Addr) (oc:Value) (od:Option Addr) (kV dc pm:Value) (an:Option Addr) (cd ct:Value) (sl:Array (Option Value)):Prop:=K.lookup f = some ⟨oc,od,.func (PySem.W.fnOf x x (defArgs st) (defBody st) (defScope st) .none kV dc pm an cd ct),sl⟩
theorem all_mk {l:PySem.W.OpenLaw} {w:World} {K:PySem.W.Frag} {h:Heap} {mg:Str -> Option Value} {fa:Addr} (X:K.In h) (G:h.Ns mainGlobals mg) (hfa:mg "law" = some (.ref fa))
    {f1 f2 f3 f4 f5 f6 f7 f8 f9 f10 f11 f12 f13 f14 f15 f16 f17 f18 f19 f20 f21 f22 f23 f24 f25 f26 f27:Addr} {od1 an1 od2 an2 od3 an3 od4 an4 od5 an5 od6 an6 od7 an7 od8 an8 od9 an9 od10 an10 od11 an11 od12 an12 od13 an13 od14 an14 od15 an15 od16 an16 od17 an17 od18 an18 od19 an19 od20 an20 od21 an21 od22 an22 od23 an23 od24 an24 od25 an25 od26 an26 od27 an27:Option Addr} {sl1 sl2 sl3 sl4 sl5 sl6 sl7 sl8 sl9 sl10 sl11 sl12 sl13 sl14 sl15 sl16 sl17 sl18 sl19 sl20 sl21 sl22 sl23 sl24 sl25 sl26 sl27:Array (Option Value)} {oc1 kV1 dc1 pm1 cd1 ct1 oc2 kV2 dc2 pm2 cd2 ct2 oc3 kV3 dc3 pm3 cd3 ct3 oc4 kV4 dc4 pm4 cd4 ct4 oc5 kV5 dc5 pm5 cd5 ct5 oc6 kV6 dc6 pm6 cd6 ct6 oc7 kV7 dc7 pm7 cd7 ct7 oc8 kV8 dc8 pm8 cd8 ct8 oc9 kV9 dc9 pm9 cd9 ct9 oc10 kV10 dc10 pm10 cd10 ct10 oc11 kV11 dc11 pm11 cd11 ct11 oc12 kV12 dc12 pm12 cd12 ct12 oc13 kV13 dc13 pm13 cd13 ct13 oc14 kV14 dc14 pm14 cd14 ct14 oc15 kV15 dc15 pm15 cd15 ct15 oc16 kV16 dc16 pm16 cd16 ct16 oc17 kV17 dc17 pm17 cd17 ct17 oc18 kV18 dc18 pm18 cd18 ct18 oc19 kV19 dc19 pm19 cd19 ct19 oc20 kV20 dc20 pm20 cd20 ct20 oc21 kV21 dc21 pm21 cd21 ct21 oc22 kV22 dc22 pm22 cd22 ct22 oc23 kV23 dc23 pm23 cd23 ct23 oc24 kV24 dc24 pm24 cd24 ct24 oc25 kV25 dc25 pm25 cd25 ct25 oc26 kV26 dc26 pm26 cd26 ct26 oc27 kV27 dc27 pm27 cd27 ct27:Value} {xC_TooMany xB_TooMany xF_TooMany x1_TooMany x2_TooMany x3_TooMany x4_TooMany x5_TooMany x6_TooMany x7_TooMany x8_TooMany:Addr} {xod_TooMany xan_TooMany:Option Addr} {xsl_TooMany:Array (Option Value)} {xoc_TooMany xkV_TooMany xdc_TooMany xpm_TooMany xcd_TooMany xct_TooMany:Value}
    (a1:NI K "_law_feed" f1) (l1:LK K "_law_feed" (top 72) f1 oc1 od1 kV1 dc1 pm1 an1 cd1 ct1 sl1) (c1:PySem.W.codeIn K cd1 "_law_feed" = true) (k1:PySem.W.keepIn K (.ref f1) = true) (a2:NI K "_law_draw" f2) (l2:LK K "_law_draw" (top 73) f2 oc2 od2 kV2 dc2 pm2 an2 cd2 ct2 sl2) (c2:PySem.W.codeIn K cd2 "_law_draw" = true) (k2:PySem.W.keepIn K (.ref f2) = true) (a3:NI K "_law_frac" f3) (l3:LK K "_law_frac" (top 74) f3 oc3 od3 kV3 dc3 pm3 an3 cd3 ct3 sl3) (c3:PySem.W.codeIn K cd3 "_law_frac" = true) (k3:PySem.W.keepIn K (.ref f3) = true) (a4:NI K "is_below" f4) (l4:LK K "is_below" (top 20) f4 oc4 od4 kV4 dc4 pm4 an4 cd4 ct4 sl4) (c4:PySem.W.codeIn K cd4 "is_below" = true) (k4:PySem.W.keepIn K (.ref f4) = true) (a5:NI K "lesser" f5) (l5:LK K "lesser" (top 21) f5 oc5 od5 kV5 dc5 pm5 an5 cd5 ct5 sl5) (c5:PySem.W.codeIn K cd5 "lesser" = true) (k5:PySem.W.keepIn K (.ref f5) = true) (a6:NI K "greater" f6) (l6:LK K "greater" (top 22) f6 oc6 od6 kV6 dc6 pm6 an6 cd6 ct6 sl6) (c6:PySem.W.codeIn K cd6 "greater" = true) (k6:PySem.W.keepIn K (.ref f6) = true) (a7:NI K "in_size" f7) (l7:LK K "in_size" (top 23) f7 oc7 od7 kV7 dc7 pm7 an7 cd7 ct7 sl7) (c7:PySem.W.codeIn K cd7 "in_size" = true) (k7:PySem.W.keepIn K (.ref f7) = true) (a8:NI K "sides_of" f8) (l8:LK K "sides_of" (top 34) f8 oc8 od8 kV8 dc8 pm8 an8 cd8 ct8 sl8) (c8:PySem.W.codeIn K cd8 "sides_of" = true) (k8:PySem.W.keepIn K (.ref f8) = true) (a9:NI K "numbers_at" f9) (l9:LK K "numbers_at" (top 35) f9 oc9 od9 kV9 dc9 pm9 an9 cd9 ct9 sl9) (c9:PySem.W.codeIn K cd9 "numbers_at" = true) (k9:PySem.W.keepIn K (.ref f9) = true) (a10:NI K "side_looks" f10) (l10:LK K "side_looks" (top 39) f10 oc10 od10 kV10 dc10 pm10 an10 cd10 ct10 sl10) (c10:PySem.W.codeIn K cd10 "side_looks" = true) (k10:PySem.W.keepIn K (.ref f10) = true) (a11:NI K "many_side_looks" f11) (l11:LK K "many_side_looks" (top 40) f11 oc11 od11 kV11 dc11 pm11 an11 cd11 ct11 sl11) (c11:PySem.W.codeIn K cd11 "many_side_looks" = true) (k11:PySem.W.keepIn K (.ref f11) = true) (a12:NI K "many_looks" f12) (l12:LK K "many_looks" (top 41) f12 oc12 od12 kV12 dc12 pm12 an12 cd12 ct12 sl12) (c12:PySem.W.codeIn K cd12 "many_looks" = true) (k12:PySem.W.keepIn K (.ref f12) = true) (a13:NI K "choices" f13) (l13:LK K "choices" (top 32) f13 oc13 od13 kV13 dc13 pm13 an13 cd13 ct13 sl13) (c13:PySem.W.codeIn K cd13 "choices" = true) (k13:PySem.W.keepIn K (.ref f13) = true) (a14:NI K "first_greatest" f14) (l14:LK K "first_greatest" (top 48) f14 oc14 od14 kV14 dc14 pm14 an14 cd14 ct14 sl14) (c14:PySem.W.codeIn K cd14 "first_greatest" = true) (k14:PySem.W.keepIn K (.ref f14) = true) (a15:NI K "_law_sizes_told" f15) (l15:LK K "_law_sizes_told" (top 75) f15 oc15 od15 kV15 dc15 pm15 an15 cd15 ct15 sl15) (c15:PySem.W.codeIn K cd15 "_law_sizes_told" = true) (k15:PySem.W.keepIn K (.ref f15) = true) (a16:NI K "_law_points_so" f16) (l16:LK K "_law_points_so" (top 76) f16 oc16 od16 kV16 dc16 pm16 an16 cd16 ct16 sl16) (c16:PySem.W.codeIn K cd16 "_law_points_so" = true) (k16:PySem.W.keepIn K (.ref f16) = true) (a17:NI K "_law_refused" f17) (l17:LK K "_law_refused" (top 77) f17 oc17 od17 kV17 dc17 pm17 an17 cd17 ct17 sl17) (c17:PySem.W.codeIn K cd17 "_law_refused" = true) (k17:PySem.W.keepIn K (.ref f17) = true) (a18:NI K "_law_far_right" f18) (l18:LK K "_law_far_right" (top 78) f18 oc18 od18 kV18 dc18 pm18 an18 cd18 ct18 sl18) (c18:PySem.W.codeIn K cd18 "_law_far_right" = true) (k18:PySem.W.keepIn K (.ref f18) = true) (a19:NI K "looks_by_side" f19) (l19:LK K "looks_by_side" (top 42) f19 oc19 od19 kV19 dc19 pm19 an19 cd19 ct19 sl19) (c19:PySem.W.codeIn K cd19 "looks_by_side" = true) (k19:PySem.W.keepIn K (.ref f19) = true) (a20:NI K "looks" f20) (l20:LK K "looks" (top 43) f20 oc20 od20 kV20 dc20 pm20 an20 cd20 ct20 sl20) (c20:PySem.W.codeIn K cd20 "looks" = true) (k20:PySem.W.keepIn K (.ref f20) = true) (a21:NI K "counted_looks" f21) (l21:LK K "counted_looks" (top 46) f21 oc21 od21 kV21 dc21 pm21 an21 cd21 ct21 sl21) (c21:PySem.W.codeIn K cd21 "counted_looks" = true) (k21:PySem.W.keepIn K (.ref f21) = true) (a22:NI K "misses" f22) (l22:LK K "misses" (top 47) f22 oc22 od22 kV22 dc22 pm22 an22 cd22 ct22 sl22) (c22:PySem.W.codeIn K cd22 "misses" = true) (k22:PySem.W.keepIn K (.ref f22) = true) (a23:NI K "worst" f23) (l23:LK K "worst" (top 49) f23 oc23 od23 kV23 dc23 pm23 an23 cd23 ct23 sl23) (c23:PySem.W.codeIn K cd23 "worst" = true) (k23:PySem.W.keepIn K (.ref f23) = true) (a24:NI K "unevenness" f24) (l24:LK K "unevenness" (top 50) f24 oc24 od24 kV24 dc24 pm24 an24 cd24 ct24 sl24) (c24:PySem.W.codeIn K cd24 "unevenness" = true) (k24:PySem.W.keepIn K (.ref f24) = true) (a25:NI K "all_worst" f25) (l25:LK K "all_worst" (top 51) f25 oc25 od25 kV25 dc25 pm25 an25 cd25 ct25 sl25) (c25:PySem.W.codeIn K cd25 "all_worst" = true) (k25:PySem.W.keepIn K (.ref f25) = true) (a26:NI K "even_paper" f26) (l26:LK K "even_paper" (top 67) f26 oc26 od26 kV26 dc26 pm26 an26 cd26 ct26 sl26) (c26:PySem.W.codeIn K cd26 "even_paper" = true) (k26:PySem.W.keepIn K (.ref f26) = true) (a27:NI K "law" f27) (l27:LK K "law" (top 79) f27 oc27 od27 kV27 dc27 pm27 an27 cd27 ct27 sl27) (c27:PySem.W.codeIn K cd27 "law" = true) (k27:PySem.W.keepIn K (.ref f27) = true)
    (z_int:NZ K "int") (z_bool:NZ K "bool") (z_str:NZ K "str") (z_list:NZ K "list") (z_tuple:NZ K "tuple") (z_dict:NZ K "dict") (z_isinstance:NZ K "isinstance") (z_len:NZ K "len") (z_abs:NZ K "abs") (z_repr:NZ K "repr") (z_range:NZ K "range") (z_all:NZ K "all") (z_any:NZ K "any") (z_sum:NZ K "sum") (z_min:NZ K "min") (z_max:NZ K "max") (z_sorted:NZ K "sorted") (z_zip:NZ K "zip") (z_enumerate:NZ K "enumerate") (z_reversed:NZ K "reversed") (z_divmod:NZ K "divmod") (z_set:NZ K "set") (g_ONE:GlK K "ONE" (.tuple [.int 1,.int 1])) (g_BELOW_ALL:GlK K "BELOW_ALL" (.tuple [.int (-1),.int 1])) (g_MOST_LOOKS:GlK K "MOST_LOOKS" (.int 3000))  (xa_TooMany:PySem.W.nsIn K mainGlobals "TooMany" = some (some (.ref xC_TooMany))) (xb_TooMany:PySem.W.nsIn K mainGlobals "EvenError" = some (some (.ref xB_TooMany))) (xi_TooMany:PySem.W.findIn K (.ref xC_TooMany) "__init__" = some (some (.ref xF_TooMany))) (xl_TooMany:K.lookup xF_TooMany = some ⟨xoc_TooMany,xod_TooMany,.func (PySem.W.fnOf "__init__" "TooMany.__init__" (defArgs (inClass (top 4) 0)) (defBody (inClass (top 4) 0)) (defScope (inClass (top 4) 0)) .none xkV_TooMany xdc_TooMany xpm_TooMany xan_TooMany xcd_TooMany xct_TooMany),xsl_TooMany⟩) (xd_TooMany:PySem.W.codeIn K xcd_TooMany "TooMany.__init__" = true) (xk_TooMany:PySem.W.keepIn K (.ref xF_TooMany) = true) (xo1_TooMany:PySem.W.nsIn K mainGlobals "NoDeed" = some (some (.ref x1_TooMany))) (xo2_TooMany:PySem.W.nsIn K mainGlobals "NoNet" = some (some (.ref x2_TooMany))) (xo3_TooMany:PySem.W.nsIn K mainGlobals "NoPaper" = some (some (.ref x3_TooMany))) (xo4_TooMany:PySem.W.nsIn K mainGlobals "NoRoom" = some (some (.ref x4_TooMany))) (xo5_TooMany:PySem.W.nsIn K mainGlobals "NoRow" = some (some (.ref x5_TooMany))) (xo6_TooMany:PySem.W.nsIn K mainGlobals "NoText" = some (some (.ref x6_TooMany))) (xo7_TooMany:PySem.W.nsIn K mainGlobals "NoUpper" = some (some (.ref x7_TooMany))) (xo8_TooMany:PySem.W.nsIn K mainGlobals "Nought" = some (some (.ref x8_TooMany))) (xv_TooMany:NZ K "ValueError") (xx_TooMany:xAll K xC_TooMany xB_TooMany xF_TooMany "word" [x1_TooMany,x2_TooMany,x3_TooMany,x4_TooMany,x5_TooMany,x6_TooMany,x7_TooMany,x8_TooMany] = true) :
    ∃ fd:FuncData,(∀ (s:Shared) (v:Value),BindsTo s fd ⟨[v],[]⟩ [("_law_script", v)]) /\ ∀ base:Heap,K.In base -> base.Ns mainGlobals mg -> FnOk l.prog w K mg base CX0 13 fa fd ["_law_script"] (spLaw2 K):=by
  have e:=hfa.symm.trans (PySem.W.mg_of X G a27)
  cases e
  have B:Bz mg:=⟨PySem.W.mg_none_of X G z_int,PySem.W.mg_none_of X G z_bool,PySem.W.mg_none_of X G z_str,PySem.W.mg_none_of X G z_list,PySem.W.mg_none_of X G z_tuple,PySem.W.mg_none_of X G z_dict,PySem.W.mg_none_of X G z_isinstance,PySem.W.mg_none_of X G z_len,PySem.W.mg_none_of X G z_abs,PySem.W.mg_none_of X G z_repr,PySem.W.mg_none_of X G z_range,PySem.W.mg_none_of X G z_all,PySem.W.mg_none_of X G z_any,PySem.W.mg_none_of X G z_sum,PySem.W.mg_none_of X G z_min,PySem.W.mg_none_of X G z_max,PySem.W.mg_none_of X G z_sorted,PySem.W.mg_none_of X G z_zip,PySem.W.mg_none_of X G z_enumerate,PySem.W.mg_none_of X G z_reversed,PySem.W.mg_none_of X G z_divmod,PySem.W.mg_none_of X G z_set⟩
  have T:Txt K mg:=⟨B,(fin_mk X G a1 l1 c1 k1 fun _ _ _ _ _ _ us hl=>(by obtain ⟨_,rfl⟩:=us_1 hl; exact rfl)),(fin_mk X G a2 l2 c2 k2 fun _ _ _ _ _ _ us hl=>(by obtain ⟨_,_,rfl⟩:=us_2 hl; exact rfl)),(fin_mk X G a3 l3 c3 k3 fun _ _ _ _ _ _ us hl=>(by obtain ⟨_,_,rfl⟩:=us_2 hl; exact rfl)),(fin_mk X G a4 l4 c4 k4 fun _ _ _ _ _ _ us hl=>(by obtain ⟨_,_,rfl⟩:=us_2 hl; exact rfl)),(fin_mk X G a5 l5 c5 k5 fun _ _ _ _ _ _ us hl=>(by obtain ⟨_,_,rfl⟩:=us_2 hl; exact rfl)),(fin_mk X G a6 l6 c6 k6 fun _ _ _ _ _ _ us hl=>(by obtain ⟨_,_,rfl⟩:=us_2 hl; exact rfl)),(fin_mk X G a7 l7 c7 k7 fun _ _ _ _ _ _ us hl=>(by obtain ⟨_,rfl⟩:=us_1 hl; exact rfl)),(fin_mk X G a8 l8 c8 k8 fun _ _ _ _ _ _ us hl=>(by obtain ⟨_,rfl⟩:=us_1 hl; exact rfl)),(fin_mk X G a9 l9 c9 k9 fun _ _ _ _ _ _ us hl=>(by obtain ⟨_,_,rfl⟩:=us_2 hl; exact rfl)),(fin_mk X G a10 l10 c10 k10 fun _ _ _ _ _ _ us hl=>(by obtain ⟨_,_,rfl⟩:=us_2 hl; exact rfl)),(fin_mk X G a11 l11 c11 k11 fun _ _ _ _ _ _ us hl=>(by obtain ⟨_,_,rfl⟩:=us_2 hl; exact rfl)),(fin_mk X G a12 l12 c12 k12 fun _ _ _ _ _ _ us hl=>(by obtain ⟨_,_,rfl⟩:=us_2 hl; exact rfl)),(fin_mk X G a13 l13 c13 k13 fun _ _ _ _ _ _ us hl=>(by obtain ⟨_,rfl⟩:=us_1 hl; exact rfl)),(fin_mk X G a14 l14 c14 k14 fun _ _ _ _ _ _ us hl=>(by obtain ⟨_,rfl⟩:=us_1 hl; exact rfl)),(fin_mk X G a15 l15 c15 k15 fun _ _ _ _ _ _ us hl=>(by obtain ⟨_,rfl⟩:=us_1 hl; exact rfl)),(fin_mk X G a16 l16 c16 k16 fun _ _ _ _ _ _ us hl=>(by obtain ⟨_,_,rfl⟩:=us_2 hl; exact rfl)),(fin_mk X G a17 l17 c17 k17 fun _ _ _ _ _ _ us hl=>(by obtain ⟨_,_,_,rfl⟩:=us_3 hl; exact rfl)),(fin_mk X G a18 l18 c18 k18 fun _ _ _ _ _ _ us hl=>(by obtain ⟨_,rfl⟩:=us_1 hl; exact rfl)),(fin_mk X G a19 l19 c19 k19 fun _ _ _ _ _ _ us hl=>(by obtain ⟨_,_,rfl⟩:=us_2 hl; exact rfl)),(fin_mk X G a20 l20 c20 k20 fun _ _ _ _ _ _ us hl=>(by obtain ⟨_,_,rfl⟩:=us_2 hl; exact rfl)),(fin_mk X G a21 l21 c21 k21 fun _ _ _ _ _ _ us hl=>(by obtain ⟨_,_,rfl⟩:=us_2 hl; exact rfl)),(fin_mk X G a22 l22 c22 k22 fun _ _ _ _ _ _ us hl=>(by obtain ⟨_,_,rfl⟩:=us_2 hl; exact rfl)),(fin_mk X G a23 l23 c23 k23 fun _ _ _ _ _ _ us hl=>(by obtain ⟨_,_,rfl⟩:=us_2 hl; exact rfl)),(fin_mk X G a24 l24 c24 k24 fun _ _ _ _ _ _ us hl=>(by obtain ⟨_,_,rfl⟩:=us_2 hl; exact rfl)),(fin_mk X G a25 l25 c25 k25 fun _ _ _ _ _ _ us hl=>(by obtain ⟨_,_,rfl⟩:=us_2 hl; exact rfl)),(fin_mk X G a26 l26 c26 k26 fun _ _ _ _ _ _ us hl=>(by obtain ⟨_,_,_,rfl⟩:=us_3 hl; exact rfl)),g_ONE.of X G,g_BELOW_ALL.of X G,g_MOST_LOOKS.of X G,.mk' xa_TooMany (PySem.W.mg_of X G xa_TooMany) (PySem.W.mg_of X G xb_TooMany) xi_TooMany (fun_mk (st:=(inClass (top 4) 0)) xl_TooMany xd_TooMany xk_TooMany) ((fun_mk (st:=(inClass (top 4) 0)) xl_TooMany xd_TooMany xk_TooMany).binds (ps:=["self", "word"]) fun _ _ _ _ _ _ us hl=>(by obtain ⟨_,_,rfl⟩:=us_2 hl; exact rfl)) (.cons (PySem.W.mg_of X G xo1_TooMany) (.cons (PySem.W.mg_of X G xo2_TooMany) (.cons (PySem.W.mg_of X G xo3_TooMany) (.cons (PySem.W.mg_of X G xo4_TooMany) (.cons (PySem.W.mg_of X G xo5_TooMany) (.cons (PySem.W.mg_of X G xo6_TooMany) (.cons (PySem.W.mg_of X G xo7_TooMany) (.cons (PySem.W.mg_of X G xo8_TooMany) .nil)))))))) (PySem.W.mg_none_of X G xv_TooMany) xx_TooMany⟩
  have FL:=fun_mk (st:=top 79) l27 c27 k27
  exact ⟨_,fun s v=>.of_eq rfl,fun base _ _=>ok_law FL T ⟩
theorem walk {l:PySem.W.OpenLaw} {q:Program} {loose:List Str} {XP:(Str -> Option Value) -> Heap -> Prop} {YP:World -> Heap -> Prop} {d:DefRec} {K:Params -> PySem.W.Frag} (hn:l.most = some 63) (hdf:d.params.defaults = [])
    (hY:∀ (w:World) (h:Heap),YP w h -> (K w.params).In h)
    (F:∀ (w:World) (mg:Str -> Option Value) (fa:Addr) (h:Heap),(K w.params).In h -> h.Ns mainGlobals mg -> mg d.name = some (.ref fa) ->
      ∃ fd:FuncData,(∀ (s:Shared) (u:Value),BindsTo s fd ⟨[u],[]⟩ [("_law_script", u)]) /\ ∀ base:Heap,(K w.params).In base -> base.Ns mainGlobals mg -> FnOk l.prog w (K w.params) mg base CX0 13 fa fd ["_law_script"] (spLaw2 (K w.params))) :
    PySem.W.WalkO q loose XP YP l.row.toRowW d [] (fun f vs=>PySem.call f vs) :=
  L2.walk_of (n:=63) (k:=13) (x := "_law_script") (CX:=fun _=>CX0) (sp:=fun w=>spLaw2 (K w.params)) hn (by decide) hdf ⟨rfl,by decide,by decide,rfl⟩ hY F (fun _ _ a ns hl _ hS=>⟨a,ns,rfl,hS,hl,fun _=>rfl⟩) fun _ _ _ _ _ z=>z
end K22
noncomputable def PySem.W.Fast.tw12049364971487718699:PySem.Params -> PySem.W.Frag:=K22.heapK
theorem PySem.W.Fast.te12049364971487718699:K22.heapK = PySem.W.Fast.tw12049364971487718699:=rfl
open PySem PySem.W PyProof.Rows
set_option maxRecDepth 100000 in
set_option maxHeartbeats 0 in
theorem PySem.Challenge.cw_evenpoints_k22_looks_too_many_holds : PySem.Challenge.rw_evenpoints_k22_looks_too_many.Holds := by
  refine (congrArg PySem.W.OpenLaw.Holds K22.rw_eq).mpr ?_
  w_on; o_law
  refine holds_open (loose:=["FIRST_WORDS"]) (XP:=XL K22.zview []) (YP:=Hook.says (kHook K22.heapK K22.heapA K22.heapE)) K22.zleft
    (Hook.of _) (Hook.keeps _) (fun s e=>xl_of s (Bool.and_eq_true_iff.mp e).1)
    XL.keeps (by rfl) (by rfl) (by rfl) (fun s e=>recFacts_of (Bool.and_eq_true_iff.mp e).2) (by rfl)
    (by first | assumption | decide +kernel) (by decide +kernel) ⟨rfl,rfl,rfl,rfl,rfl,by decide +kernel⟩ ?hw ?hc
  (case hw=>w_witness2)
  k_fill
  refine K22.walk (l:=K22.rwN) rfl rfl (fun w h Y=>PySem.W.kIn_of (as:=K22.heapA) (e:=K22.heapE) Y) ?F
  case F =>
    intro w mg fa h KX G hmg
    refine' K22.all_mk KX G hmg ?a1 ?l1 ?c1 ?k1 ?a2 ?l2 ?c2 ?k2 ?a3 ?l3 ?c3 ?k3 ?a4 ?l4 ?c4 ?k4 ?a5 ?l5 ?c5 ?k5 ?a6 ?l6 ?c6 ?k6 ?a7 ?l7 ?c7 ?k7 ?a8 ?l8 ?c8 ?k8 ?a9 ?l9 ?c9 ?k9 ?a10 ?l10 ?c10 ?k10 ?a11 ?l11 ?c11 ?k11 ?a12 ?l12 ?c12 ?k12 ?a13 ?l13 ?c13 ?k13 ?a14 ?l14 ?c14 ?k14 ?a15 ?l15 ?c15 ?k15 ?a16 ?l16 ?c16 ?k16 ?a17 ?l17 ?c17 ?k17 ?a18 ?l18 ?c18 ?k18 ?a19 ?l19 ?c19 ?k19 ?a20 ?l20 ?c20 ?k20 ?a21 ?l21 ?c21 ?k21 ?a22 ?l22 ?c22 ?k22 ?a23 ?l23 ?c23 ?k23 ?a24 ?l24 ?c24 ?k24 ?a25 ?l25 ?c25 ?k25 ?a26 ?l26 ?c26 ?k26 ?a27 ?l27 ?c27 ?k27 ?zint ?zbool ?zstr ?zlist ?ztuple ?zdict ?zisinstance ?zlen ?zabs ?zrepr ?zrange ?zall ?zany ?zsum ?zmin ?zmax ?zsorted ?zzip ?zenumerate ?zreversed ?zdivmod ?zset ?gONE ?gBELOW_ALL ?gMOST_LOOKS  ?xa_TooMany ?xb_TooMany ?xi_TooMany ?xl_TooMany ?xd_TooMany ?xk_TooMany ?xo1_TooMany ?xo2_TooMany ?xo3_TooMany ?xo4_TooMany ?xo5_TooMany ?xo6_TooMany ?xo7_TooMany ?xo8_TooMany ?xv_TooMany ?xx_TooMany
    all_goals (try change _ = _)
    (case a1=>k_is); (case l1=>k_is); (case c1=>k_is); (case k1=>k_is)
    (case a2=>k_is); (case l2=>k_is); (case c2=>k_is); (case k2=>k_is)
    (case a3=>k_is); (case l3=>k_is); (case c3=>k_is); (case k3=>k_is)
    (case a4=>k_is); (case l4=>k_is); (case c4=>k_is); (case k4=>k_is)
    (case a5=>k_is); (case l5=>k_is); (case c5=>k_is); (case k5=>k_is)
    (case a6=>k_is); (case l6=>k_is); (case c6=>k_is); (case k6=>k_is)
    (case a7=>k_is); (case l7=>k_is); (case c7=>k_is); (case k7=>k_is)
    (case a8=>k_is); (case l8=>k_is); (case c8=>k_is); (case k8=>k_is)
    (case a9=>k_is); (case l9=>k_is); (case c9=>k_is); (case k9=>k_is)
    (case a10=>k_is); (case l10=>k_is); (case c10=>k_is); (case k10=>k_is)
    (case a11=>k_is); (case l11=>k_is); (case c11=>k_is); (case k11=>k_is)
    (case a12=>k_is); (case l12=>k_is); (case c12=>k_is); (case k12=>k_is)
    (case a13=>k_is); (case l13=>k_is); (case c13=>k_is); (case k13=>k_is)
    (case a14=>k_is); (case l14=>k_is); (case c14=>k_is); (case k14=>k_is)
    (case a15=>k_is); (case l15=>k_is); (case c15=>k_is); (case k15=>k_is)
    (case a16=>k_is); (case l16=>k_is); (case c16=>k_is); (case k16=>k_is)
    (case a17=>k_is); (case l17=>k_is); (case c17=>k_is); (case k17=>k_is)
    (case a18=>k_is); (case l18=>k_is); (case c18=>k_is); (case k18=>k_is)
    (case a19=>k_is); (case l19=>k_is); (case c19=>k_is); (case k19=>k_is)
    (case a20=>k_is); (case l20=>k_is); (case c20=>k_is); (case k20=>k_is)
    (case a21=>k_is); (case l21=>k_is); (case c21=>k_is); (case k21=>k_is)
    (case a22=>k_is); (case l22=>k_is); (case c22=>k_is); (case k22=>k_is)
    (case a23=>k_is); (case l23=>k_is); (case c23=>k_is); (case k23=>k_is)
    (case a24=>k_is); (case l24=>k_is); (case c24=>k_is); (case k24=>k_is)
    (case a25=>k_is); (case l25=>k_is); (case c25=>k_is); (case k25=>k_is)
    (case a26=>k_is); (case l26=>k_is); (case c26=>k_is); (case k26=>k_is)
    (case a27=>k_is); (case l27=>k_is); (case c27=>k_is); (case k27=>k_is)
    (case zint=>k_is)
    (case zbool=>k_is)
    (case zstr=>k_is)
    (case zlist=>k_is)
    (case ztuple=>k_is)
    (case zdict=>k_is)
    (case zisinstance=>k_is)
    (case zlen=>k_is)
    (case zabs=>k_is)
    (case zrepr=>k_is)
    (case zrange=>k_is)
    (case zall=>k_is)
    (case zany=>k_is)
    (case zsum=>k_is)
    (case zmin=>k_is)
    (case zmax=>k_is)
    (case zsorted=>k_is)
    (case zzip=>k_is)
    (case zenumerate=>k_is)
    (case zreversed=>k_is)
    (case zdivmod=>k_is)
    (case zset=>k_is)
    (case gONE=>refine' L2.VL.GlK.pair ?h1 ?h2; (case h1=>k_is); (case h2=>k_is))
    (case gBELOW_ALL=>refine' L2.VL.GlK.pair ?h1 ?h2; (case h1=>k_is); (case h2=>k_is))
    (case gMOST_LOOKS=>refine' L2.VL.GlK.int ?h1; (case h1=>k_is))
    (case xa_TooMany=>k_is)
    (case xb_TooMany=>k_is)
    (case xi_TooMany=>k_is)
    (case xl_TooMany=>k_is)
    (case xd_TooMany=>k_is)
    (case xk_TooMany=>k_is)
    (case xo1_TooMany=>k_is)
    (case xo2_TooMany=>k_is)
    (case xo3_TooMany=>k_is)
    (case xo4_TooMany=>k_is)
    (case xo5_TooMany=>k_is)
    (case xo6_TooMany=>k_is)
    (case xo7_TooMany=>k_is)
    (case xo8_TooMany=>k_is)
    (case xv_TooMany=>k_is)
    (case xx_TooMany=>kernel_rfl)

