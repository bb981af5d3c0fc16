import PyProof.Rows.All
import Wide.All
import OpenK.AllK
import Wide.FinOn
import KE.KStateDown
import KE.GoesEnum
import KE.GoesZip
import KE.GoesMore
import HandS.ForMost
import HandS.Walk
import HandS.ExcInit
import HandS.ExcField
import HandS.TryMany
import HandS.Lambda
import HandS.Defaults
import HandS.HeadHook1
import HandS.Gcd
import HandS.Star
import HandS.SetFor
import KE.KMathGC
import KE.KTupSum
import KE.KDictKeyed
import KE.KeyNested
import HandS.Dict
import HandS.Evl
import PyProof.Rows.TupTab
import KE.KLam
import HandS.EndBits
import HandS.EndTab
import HandS.ExcOwn
import PyProof.ReprRoads
import HandS.IsInst
import HandS.SortKw
import HandS.ExcIs
import KE.KIsAll
import HandS.Words
import HandS.Style
import HandS.ExcValue
import PyProof.Rows.DictMod
import HandS.HeadWalk
import HandS.HeadHook4
import HandS.Head2
import HandS.ListItems
import HandS.NoneIn
import HandS.Head3
import HandS.Codes
import PySem.Challenge.RW_letterround_k00_errors_made
set_option Elab.async false
set_option linter.all false
set_option maxRecDepth 100000
set_option maxHeartbeats 0
namespace Exs
open PySem PySem.Spec PyProof.Rows L2
def clsB (K : PySem.W.Frag) (C : Addr) : Bool := match K.lookup C with
  | some ⟨.type t, _, .cls cd, sl⟩ => (match cd.mro, sl.toList with
    | .ref D :: bm, [_, _, _, _, some (.builtin n), _] => decide (t = "type") && (decide (D = C) && (decide (n = "ValueError.__new__") && (!cd.hasDel && (cd.hasDict && PySem.HandSPX.refsVE bm))))
    | _, _ => false)
  | _ => false
def errB (K : PySem.W.Frag) (C fI : Addr) (f : Str) : Bool := clsB K C && (He.eqO (PySem.W.findIn K (.ref C) "__setattr__") (some (some (.builtin "object.__setattr__"))) && (decide (PySem.W.subIn K (.ref C) (.type "BaseException") = some true) &&
  (decide (PySem.W.typeIn K (.ref C) = some (.type "type")) && (PySem.W.keepIn K (.ref C) && (xfB K C && (He.eqO (PySem.W.findIn K (.ref C) f) (some none) && (He.eqO (PySem.W.findIn K (.ref C) "__init__") (some (some (.ref fI))) &&
  (decide (PySem.W.typeIn K (.ref fI) = some (.type "function")) && decide (PySem.W.exmOne K (.ref C) (.ref C) = some true)))))))))
end Exs
namespace K00
open PySem PySem.Spec PyProof.Rows L2
def top (i : Nat) : Stmt := PySem.Challenge.pw_letterround_k00_errors_made.main.body.getD i (.Pass ⟨0, 0, 0, 0⟩)
def cl_a : List (Str × List Str) := [("BadBegun", ["index"]), ("BadBox", ["thing"]), ("BadBoxes", ["thing"]), ("BadCaps", ["thing"]), ("BadCounts", ["thing"]), ("BadCrossings", ["thing"]), ("BadDeed", ["thing"]), ("BadEnds", ["thing"]), ("BadFlows", ["thing"]), ("BadGiven", ["thing"]), ("BadHouses", ["index"]), ("BadIndex", ["thing"]), ("BadLedger", ["thing"]), ("BadLengths", ["thing"]), ("BadLetters", ["thing"]), ("BadLot", ["index"]), ("BadMembers", ["index"]), ("BadName", ["thing"])]
def cl_b : List (Str × List Str) := [("BadNames", ["thing"]), ("BadNumber", ["thing"]), ("BadNumbers", ["index"]), ("BadPair", ["thing"]), ("BadPairing", ["thing"]), ("BadPairs", ["index"]), ("BadPasses", ["thing"]), ("BadPath", ["thing"]), ("BadPathCounts", ["thing"]), ("BadPaths", ["index"]), ("BadPicker", ["thing"]), ("BadQuestion", ["thing"]), ("BadReturns", ["thing"]), ("BadRings", ["thing"]), ("BadRound", ["index"]), ("BadRow", ["index"]), ("BadRuns", ["index"]), ("BadSome", ["index"])]
def cl_c : List (Str × List Str) := [("BadSpans", ["thing"]), ("BadSpread", ["thing"]), ("BadSteps", ["thing"]), ("BadTellers", ["index"]), ("BadText", ["line"]), ("BadTold", ["thing"]), ("BadTolls", ["thing"]), ("BadWeave", ["thing"]), ("CommonHouse", ["name"]), ("HasLetters", ["name"]), ("InUse", ["question"]), ("IsOut", ["house"]), ("IsWatched", ["thing"]), ("LostNow", []), ("NoCount", ["thing"]), ("NoEnd", ["thing"]), ("NoEnds", ["house"]), ("NoErrands", ["paper"])]
def cl_d : List (Str × List Str) := [("NoHouse", ["thing"]), ("NoLetter", ["house"]), ("NoPath", ["one", "other"]), ("NoRound", ["paper"]), ("NoSign", ["thing"]), ("NoWeave", []), ("NotCarried", ["thing"]), ("NotJoined", ["house"]), ("NotLeaf", ["name"]), ("NotOut", []), ("NotPossible", []), ("NotWatched", ["thing"]), ("SameHouse", ["thing"]), ("SameSign", ["thing"]), ("TakenHouse", ["name"]), ("TooMany", ["number"]), ("WasGone", ["name"]), ("WouldChange", ["question"])]
def cl : List (Str × List Str) := cl_a ++ cl_b ++ cl_c ++ cl_d
abbrev bmVE : List Value := [.type "ValueError", .type "Exception", .type "BaseException", .type "object"]
def clsAd (K : PySem.W.Frag) : List Addr := cl.map fun p => He.ga K p.1
def iniS (i : Nat) : Stmt := (C8.clsBody (top i)).getD 0 (.Pass ⟨0, 0, 0, 0⟩)
def dd (x : Str) (i : Nat) : He.DefD := ⟨(x, none), x, x, defArgs (top i), defBody (top i), defScope (top i), [], []⟩
def di (C : String) (i : Nat) : He.DefD := ⟨((C : Str), some "__init__"), "__init__", ((C ++ ".__init__" : String) : Str), defArgs (iniS i), defBody (iniS i), defScope (iniS i), [], []⟩
def fnA : List He.DefD := [dd "_law_start" 75, dd "_law_draw" 76, dd "_law_mixed" 77, dd "_law_made_a" 78, dd "_law_made_b" 79, dd "_law_made_c" 80, dd "_law_made_d" 81, dd "_law_kinds_a" 82, dd "_law_kinds_b" 83, dd "_law_kinds_c" 84, dd "_law_kinds_d" 85, dd "_law_kinds" 86, dd "_law_is_own" 87, dd "_law_are_these" 88, dd "law" 89, di "BadBegun" 2, di "BadBox" 3, di "BadBoxes" 4, di "BadCaps" 5, di "BadCounts" 6, di "BadCrossings" 7, di "BadDeed" 8, di "BadEnds" 9, di "BadFlows" 10, di "BadGiven" 11, di "BadHouses" 12, di "BadIndex" 13, di "BadLedger" 14]
def fnB : List He.DefD := [di "BadLengths" 15, di "BadLetters" 16, di "BadLot" 17, di "BadMembers" 18, di "BadName" 19, di "BadNames" 20, di "BadNumber" 21, di "BadNumbers" 22, di "BadPair" 23, di "BadPairing" 24, di "BadPairs" 25, di "BadPasses" 26, di "BadPath" 27, di "BadPathCounts" 28, di "BadPaths" 29, di "BadPicker" 30, di "BadQuestion" 31, di "BadReturns" 32, di "BadRings" 33, di "BadRound" 34, di "BadRow" 35, di "BadRuns" 36, di "BadSome" 37, di "BadSpans" 38, di "BadSpread" 39, di "BadSteps" 40, di "BadTellers" 41, di "BadText" 42]
def fnC : List He.DefD := [di "BadTold" 43, di "BadTolls" 44, di "BadWeave" 45, di "CommonHouse" 46, di "HasLetters" 47, di "InUse" 48, di "IsOut" 49, di "IsWatched" 50, di "NoCount" 52, di "NoEnd" 53, di "NoEnds" 54, di "NoErrands" 55, di "NoHouse" 56, di "NoLetter" 57, di "NoPath" 58, di "NoRound" 59, di "NoSign" 60, di "NotCarried" 62, di "NotJoined" 63, di "NotLeaf" 64, di "NotWatched" 67, di "SameHouse" 68, di "SameSign" 69, di "TakenHouse" 70, di "TooMany" 71, di "WasGone" 72, di "WouldChange" 73]
def fn : List He.DefD := fnA ++ (fnB ++ fnC)
def fa : List He.Fa := [.glo "_law_start", .glo "_law_draw", .glo "_law_mixed", .glo "_law_made_a", .glo "_law_made_b", .glo "_law_made_c", .glo "_law_made_d", .glo "_law_kinds_a", .glo "_law_kinds_b", .glo "_law_kinds_c", .glo "_law_kinds_d", .glo "_law_kinds", .glo "_law_is_own", .glo "_law_are_these", .glo "law", .glo "PostError", .glo "BadBegun", .glo "BadBox", .glo "BadBoxes", .glo "BadCaps", .glo "BadCounts", .glo "BadCrossings", .glo "BadDeed", .glo "BadEnds", .glo "BadFlows", .glo "BadGiven", .glo "BadHouses", .glo "BadIndex", .glo "BadLedger", .glo "BadLengths", .glo "BadLetters", .glo "BadLot", .glo "BadMembers", .glo "BadName", .glo "BadNames", .glo "BadNumber", .glo "BadNumbers", .glo "BadPair", .glo "BadPairing", .glo "BadPairs", .glo "BadPasses", .glo "BadPath", .glo "BadPathCounts", .glo "BadPaths", .glo "BadPicker", .glo "BadQuestion", .glo "BadReturns", .glo "BadRings", .glo "BadRound", .glo "BadRow", .glo "BadRuns", .glo "BadSome", .glo "BadSpans", .glo "BadSpread", .glo "BadSteps", .glo "BadTellers", .glo "BadText", .glo "BadTold", .glo "BadTolls", .glo "BadWeave", .glo "CommonHouse", .glo "HasLetters", .glo "InUse", .glo "IsOut", .glo "IsWatched", .glo "LostNow", .glo "NoCount", .glo "NoEnd", .glo "NoEnds", .glo "NoErrands", .glo "NoHouse", .glo "NoLetter", .glo "NoPath", .glo "NoRound", .glo "NoSign", .glo "NoWeave", .glo "NotCarried", .glo "NotJoined", .glo "NotLeaf", .glo "NotOut", .glo "NotPossible", .glo "NotWatched", .glo "SameHouse", .glo "SameSign", .glo "TakenHouse", .glo "TooMany", .glo "WasGone", .glo "WouldChange", .free "int", .free "len", .free "list", .free "range", .free "isinstance", .free "enumerate", .free "repr", .free "ValueError", .free "LookupError"]
def tf : List He.Defn := [("_law_made_a", none), ("_law_made_b", none), ("_law_made_c", none), ("_law_made_d", none)]
def clsEB (K : PySem.W.Frag) (D : Addr) : Bool := He.eqO (PySem.W.findIn K (.ref D) "__getattribute__") (some (some (.builtin "BaseException.__getattribute__"))) && (He.eqO (PySem.W.findIn K (.ref D) "__getattr__") (some none) && (decide (PySem.W.subIn K (.ref D) (.type "BaseException") = some true) && (PySem.W.hasDictIn K D &&
  (He.eqO (PySem.W.findIn K (.ref D) "__class__") (some (some (.builtin "object.__class__"))) && (He.eqO (PySem.W.specialIn K (.builtin "object.__class__") "__get__") (some (some (.builtin "getset_descriptor.__get__"))) && (decide (PySem.W.takesIn K (.builtin "object.__class__") = some true) && decide (PySem.W.mroIn K D (.type "object") = some true)))))))
def mroB (K : PySem.W.Frag) (up : List Value) (C : Addr) : Bool := (match PySem.W.clsIn K C with
  | some cd => decide (cd.mro = .ref C :: (up ++ bmVE))
  | none => false) && decide (PySem.W.typeIn K (.ref C) = some (.type "type"))
def clsOk (K : PySem.W.Frag) (up : List Value) : Str × List Str → Bool
  | (x, [f]) => mroB K up (He.ga K x) && (clsEB K (He.ga K x) && Exs.errB K (He.ga K x) (He.fAd K (x, some "__init__")) f)
  | (x, [f, g]) => mroB K up (He.ga K x) && (clsEB K (He.ga K x) && (Exs.errB K (He.ga K x) (He.fAd K (x, some "__init__")) f && (He.eqO (PySem.W.findIn K (.ref (He.ga K x)) g) (some none) && !(f == g))))
  | (x, _) => mroB K up (He.ga K x) && (clsEB K (He.ga K x) && (PySem.W.excIn K (He.ga K x) bmVE "ValueError.__new__" && PySem.W.keepIn K (.ref (He.ga K x))))
def ascB : List Nat → Bool
  | a :: b :: r => decide (a < b) && ascB (b :: r)
  | _ => true
def sysOk : Option Obj → Bool
  | some ⟨_, _, .dict _ _, _⟩ => true
  | _ => false
def ex (K : PySem.W.Frag) : Bool := clsOk K [] ("PostError", []) && ((cl.all (clsOk K [.ref (He.ga K "PostError")])) && (ascB (He.ga K "PostError" :: clsAd K) && ascB (tf.map fun q => (He.cT K q).2)))
abbrev R : PySem.W.OpenRow := PySem.W.OpenLaw.row PySem.Challenge.rw_letterround_k00_errors_made
def adr0 : List Addr := [3, 6, 24, 44, 63, 82, 101, 120, 139, 158, 177, 196, 215, 234, 253, 272, 291, 310, 329, 348, 367, 386, 405, 424, 443, 462, 481, 500, 519, 538, 557, 576, 595, 614, 633, 652, 671, 690, 709, 728]
def adr1 : List Addr := [747, 766, 785, 804, 823, 842, 861, 880, 899, 918, 937, 956, 968, 987, 1006, 1025, 1044, 1063, 1082, 1101, 1120, 1139, 1151, 1170, 1189, 1208, 1220, 1232, 1251, 1270, 1289, 1308, 1327, 1346, 1365, 1374, 1381, 1386, 1393, 1400]
def adr2 : List Addr := [1407, 1414, 1421, 1428, 1435, 1442, 1449, 1454, 1461, 1468, 0, 23, 43, 62, 81, 100, 119, 138, 157, 176, 195, 214, 233, 252, 271, 290, 309, 328, 347, 366, 385, 404, 423, 442, 461, 480, 499, 518, 537, 556]
def adr3 : List Addr := [575, 594, 613, 632, 651, 670, 689, 708, 727, 746, 765, 784, 803, 822, 841, 860, 879, 898, 917, 936, 955, 967, 986, 1005, 1024, 1043, 1062, 1081, 1100, 1119, 1138, 1150, 1169, 1188, 1207, 1219, 1231, 1250, 1269, 1288]
def adr4 : List Addr := [1307, 1326, 1345, 1364, 1373, 1380, 1385, 1392, 1399, 1406, 1413, 1420, 1427, 1434, 1441, 1448, 1453, 1460, 1467, 25, 41, 60, 79, 98, 117, 136, 155, 174, 193, 212, 231, 250, 269, 288, 307, 326, 345, 364, 383, 402]
def adr5 : List Addr := [421, 440, 459, 478, 497, 516, 535, 554, 573, 592, 611, 630, 649, 668, 687, 706, 725, 744, 763, 782, 801, 820, 839, 858, 877, 896, 915, 934, 953, 984, 1003, 1022, 1041, 1060, 1079, 1098, 1117, 1136, 1167, 1186]
def adr6 : List Addr := [1205, 1248, 1267, 1286, 1305, 1324, 1343, 1362, 1372, 1379, 1384, 1391, 1398, 1405, 1412, 1419, 1426, 1433, 1440, 1447, 1452, 1459, 1466, 40, 59, 78, 97, 116, 135, 154, 173, 192, 211, 230, 249, 268, 287, 306, 325, 344]
def adr7 : List Addr := [363, 382, 401, 420, 439, 458, 477, 496, 515, 534, 553, 572, 591, 610, 629, 648, 667, 686, 705, 724, 743, 762, 781, 800, 819, 838, 857, 876, 895, 914, 933, 952, 983, 1002, 1021, 1040, 1059, 1078, 1097, 1116]
def adr8 : List Addr := [1135, 1166, 1185, 1204, 1247, 1266, 1285, 1304, 1323, 1342, 1361]
def adrs : List Addr := adr0 ++ (adr1 ++ (adr2 ++ (adr3 ++ (adr4 ++ (adr5 ++ (adr6 ++ (adr7 ++ (adr8))))))))
def loose0 : List Str := ["PostError", "BadBegun", "BadBox", "BadBoxes", "BadCaps", "BadCounts", "BadCrossings", "BadDeed", "BadEnds", "BadFlows", "BadGiven", "BadHouses", "BadIndex", "BadLedger", "BadLengths"]
def loose1 : List Str := ["BadLetters", "BadLot", "BadMembers", "BadName", "BadNames", "BadNumber", "BadNumbers", "BadPair", "BadPairing", "BadPairs", "BadPasses", "BadPath", "BadPathCounts", "BadPaths", "BadPicker"]
def loose2 : List Str := ["BadQuestion", "BadReturns", "BadRings", "BadRound", "BadRow", "BadRuns", "BadSome", "BadSpans", "BadSpread", "BadSteps", "BadTellers", "BadText", "BadTold", "BadTolls", "BadWeave"]
def loose3 : List Str := ["CommonHouse", "HasLetters", "InUse", "IsOut", "IsWatched", "LostNow", "NoCount", "NoEnd", "NoEnds", "NoErrands", "NoHouse", "NoLetter", "NoPath", "NoRound", "NoSign"]
def loose4 : List Str := ["NoWeave", "NotCarried", "NotJoined", "NotLeaf", "NotOut", "NotPossible", "NotWatched", "SameHouse", "SameSign", "TakenHouse", "TooMany", "WasGone", "WouldChange", "_law_start", "_law_draw"]
def loose5 : List Str := ["_law_mixed", "_law_made_a", "_law_made_b", "_law_made_c", "_law_made_d", "_law_kinds_a", "_law_kinds_b", "_law_kinds_c", "_law_kinds_d", "_law_kinds", "_law_is_own", "_law_are_these"]
def loose : List Str := loose0 ++ loose1 ++ loose2 ++ loose3 ++ loose4 ++ loose5
noncomputable def fin (w : World) (os : OsState) : Option PySem.W.SharedT := HandSHeadRun.endF (HandSHeadRun.stepQ (HandSHeadRun.denQ HandSHeadRun.tabQ) (PySem.W.RowW.prog (PySem.W.OpenRow.toRowW R)) w) 40000 (PySem.W.RowW.prog (PySem.W.OpenRow.toRowW R)) w os
def KK (s : PySem.W.SharedT) : PySem.W.Frag := He.frT (HandSHeadRun.getT s) adrs
noncomputable def see1 (w : World) (s : PySem.W.SharedT) := (HandSHeadRun.looksF (PySem.W.RowW.prog (PySem.W.OpenRow.toRowW R)) (PySem.W.boot_heap w.params) (PySem.W.SharedT.abs s), HandSHeadRun.seenQ (PySem.W.view R.prog [89]) loose (PySem.importedModules (PySem.W.RowW.prog (PySem.W.OpenRow.toRowW R)).main.body)
  (fun s => PySem.W.xlAt (PySem.W.view R.prog [89]) [] s && PySem.W.recOk (PySem.W.RowW.records (PySem.W.OpenRow.toRowW R)) s) (PySem.W.SharedT.abs s))
theorem run1a (w : World) (os : OsState) : (fin w os).map (fun s => (see1 w s).1) = some true := by
  kernel_rfl
theorem run1b (w : World) (os : OsState) : (fin w os).map (fun s => (see1 w s).2) = some (PySem.W.openGood (PySem.W.view R.prog [89]) loose) := by
  kernel_rfl
theorem run2 (w : World) (os : OsState) : (fin w os).map (fun s => ((fa.all fun f => f.ok (KK s)), He.tabsB (HandSHeadRun.getT s) tf (KK s), sysOk (HandSHeadRun.getT s sysModules))) = some (true, true, true) := by
  kernel_rfl
theorem run3a (w : World) (os : OsState) : (fin w os).map (fun s => clsOk (KK s) [] ("PostError", []) && (cl_a ++ cl_b).all (clsOk (KK s) [.ref (He.ga (KK s) "PostError")])) = some true := by
  kernel_rfl
theorem run3b (w : World) (os : OsState) : (fin w os).map (fun s => (cl_c ++ cl_d).all (clsOk (KK s) [.ref (He.ga (KK s) "PostError")])) = some true := by
  kernel_rfl
theorem run3c (w : World) (os : OsState) : (fin w os).map (fun s => ascB (He.ga (KK s) "PostError" :: clsAd (KK s)) && ascB (tf.map fun q => (He.cT (KK s) q).2)) = some true := by
  kernel_rfl
theorem run4a (w : World) (os : OsState) : (fin w os).map (fun s => fnA.all fun d => d.ok (KK s)) = some true := by
  kernel_rfl
theorem run4b (w : World) (os : OsState) : (fin w os).map (fun s => fnB.all fun d => d.ok (KK s)) = some true := by
  kernel_rfl
theorem run4c (w : World) (os : OsState) : (fin w os).map (fun s => fnC.all fun d => d.ok (KK s)) = some true := by
  kernel_rfl
theorem run5a (w : World) (os : OsState) : (fin w os).map (fun s => fnA.map fun d => He.fnW (KK s) d.at_) = some (fnA.map He.DefD.val) := by
  kernel_rfl
theorem run5b (w : World) (os : OsState) : (fin w os).map (fun s => fnB.map fun d => He.fnW (KK s) d.at_) = some (fnB.map He.DefD.val) := by
  kernel_rfl
theorem run5c (w : World) (os : OsState) : (fin w os).map (fun s => fnC.map fun d => He.fnW (KK s) d.at_) = some (fnC.map He.DefD.val) := by
  kernel_rfl
end K00
namespace Sq
open PySem PySem.Spec PyProof.Rows L2
/-! ### a list or a tuple, by a flag: t true for a tuple -/
def SqK (K : PySem.W.Frag) (H : Hp) (t : Bool) (a : Addr) (xs : List V) : Prop := match t with
  | true => SqT K H a xs
  | false => SqL K H a xs
def IsSq (t : Bool) (h : Heap) (a : Addr) (its : Array Value) : Prop := match t with
  | true => h.IsTuple a its
  | false => h.IsList a its
def IsIt (t : Bool) (h : Heap) (it a : Addr) (i : Nat) : Prop := match t with
  | true => h.IsTupleIter it a i
  | false => h.IsListIter it a i
def itObj (t : Bool) (a : Addr) : Obj := match t with
  | true => { cls := .type "tuple_iterator", data := .fields #[.ref a, .int 0 0] }
  | false => { cls := .type "list_iterator", data := .fields #[.ref a, .int 0 0] }
theorem itObj_it {t : Bool} {h : Heap} {it a : Addr} (e : h.get? it = some (itObj t a)) : IsIt t h it a 0 := by
  cases t <;> exact ⟨_, e, rfl, rfl⟩
theorem IsIt.at_ {t : Bool} {h h' : Heap} {it a : Addr} {i : Nat} (x : IsIt t h it a i) (k : ∀ o, h.get? it = some o → h'.get? it = some o) : IsIt t h' it a i := by
  cases t with
  | true => exact Heap.IsTupleIter.at x k
  | false => exact Heap.IsListIter.at x k
theorem IsIt.obj {t : Bool} {h : Heap} {it a : Addr} {i : Nat} (x : IsIt t h it a i) : ∃ o, h.get? it = some o ∧ ∀ v, o.data ≠ .cell v := by
  cases t <;> (obtain ⟨o, h1, _, h2⟩ := x; exact ⟨o, h1, fun v q => by rw [h2] at q; cases q⟩)
theorem draws {t : Bool} {prog : Program} {w : World} {A : Around} (hh : A.handled = none) (it a : Addr) (hne : a ≠ it) (its : Array Value) :
    Draws prog w A it [it, a] its.size (fun i v => its[i]? = some v) (fun i h => IsIt t h it a i ∧ IsSq t h a its) := by
  cases t with
  | true => exact Draws.tuple hh it a hne its
  | false => exact Draws.list hh it a hne its
theorem begins (t : Bool) (a : Addr) (its : Array Value) : Begins (.ref a) (itObj t a) fun h => IsSq t h a its := by
  cases t with
  | true => exact begins_tuple a its
  | false => exact begins_list a its
section
variable {X : Cx} {pins : List (Addr × Obj)} {σ : L2.St} {H : Hp} {s : Shared} {a : Addr} {xs ys : List V} {t : Bool}
theorem sq_get (I : Inv X pins σ H s) (h : SqK X.K H t a xs) : ∃ its : List Value, Vals xs its ∧ IsSq t s.heap a its.toArray := by
  cases t with
  | true =>
    obtain ⟨its, r, p, _⟩ := I.tuple h
    exact ⟨its, r, p⟩
  | false =>
    obtain ⟨its, r, p, _⟩ := I.list h
    exact ⟨its, r, p.isList⟩
theorem sq_inj (I : Inv X pins σ H s) (h : SqK X.K H t a xs) (h' : SqK X.K H t a ys) : xs = ys := by
  cases t with
  | true => exact I.tuple_inj h h'
  | false => exact I.list_inj h h'
theorem sq_live (I : Inv X pins σ H s) (h : SqK X.K H t a xs) : a < s.heap.objs.size := by
  obtain ⟨its, _, q⟩ := sq_get I h
  cases t <;> (obtain ⟨o, e, _⟩ := q; exact Heap.lt_size e)
end
theorem keepSq {t : Bool} {h h' : Heap} {a : Addr} {its : Array Value} (x : IsSq t h a its) (k : ∀ o, h.get? a = some o → h'.get? a = some o) : IsSq t h' a its := by
  cases t with
  | true =>
    obtain ⟨o, e, r⟩ := x
    exact ⟨o, k o e, r⟩
  | false =>
    obtain ⟨o, e, r⟩ := x
    exact ⟨o, k o e, r⟩
/-! ### enumerate of either -/
def ItE (K : PySem.W.Frag) (t : Bool) (a : Addr) : It :=
  ⟨fun i H => ∃ (xs : List V) (x : V), SqK K H t a xs ∧ xs[i]? = some x, fun i H v H' => ∃ T x, v = .ref T ∧ H T = none ∧ H' = upd H T (.tup [.int (i : Nat), x]) ∧ ∀ xs, SqK K H t a xs → xs[i]? = some x, fun i H => ∃ xs : List V, SqK K H t a xs ∧ xs.length = i⟩
theorem turnE {P : Program} {w : World} {K : PySem.W.Frag} {elts : List Expr} {kk : Nat} {tpos : Pos} (t : Bool) (a e it : Addr) (hne : e ≠ it) (hea : e ≠ a) (hia : a ≠ it) :
    Turn P w K (.Tuple elts kk tpos) (ItE K t a) [e, it] e (fun i h => (∃ old, IsEnum h e it (0 + (i : Int)) old) ∧ IsIt t h it a i) where
  mem := by simp
  obj := fun i h st b hb => by
    obtain ⟨⟨old, he⟩, hi⟩ := st
    rcases List.mem_cons.mp hb with z | z
    · rw [z]
      exact ⟨_, he, fun v q => nomatch q⟩
    · rw [List.mem_singleton.mp z]
      exact hi.obj
  keep := fun i h h' st k => by
    obtain ⟨⟨old, he⟩, hi⟩ := st
    exact ⟨⟨old, k e (by simp) _ he⟩, hi.at_ fun o q => k it (by simp) o q⟩
  item := by
    intro X hP hw hK hc i pins s σ H E I hf st hg
    subst hP hw hK
    obtain ⟨he, hi⟩ := st
    obtain ⟨xs, x, hq, hx⟩ := hg
    obtain ⟨its, rv, hsq⟩ := sq_get I hq
    obtain ⟨u, hu, ru⟩ := rv.get hx
    have hlt : i < its.toArray.size := by simpa using (List.getElem?_eq_some_iff.mp hu).1
    have hal := sq_live I hq
    have WT := WalksT.enumFrom (prog := X.prog) (w := X.w) (A := X.A) 0 (draws (t := t) (A := X.A.in1) (I.ok.hd hc) it a hia its.toArray) e hne (by simp [hne, hea]) (by simp)
    refine WT.item i s _ _ hlt ⟨he, hi, hsq⟩ fun T vals h' tk hv hT htup hmid hk => ?_
    refine ⟨_, rfl, WT.go elts kk tpos i T _ _ _ hmid fun h'' st' hk2 => ?_⟩
    obtain ⟨tok, y, hy, rfl⟩ := hv
    have ey : y = u := by
      have q : its.toArray[i]? = some u := by simpa using hu
      exact Option.some.inj (hy.symm.trans q)
    subst ey
    have tw := WT.apart i T _ hmid
    have new : ObjOk X.prog X.w (upd H T (.tup [.int (i : Nat), x])) h'' T (.tup [.int (i : Nat), x]) := by
      obtain ⟨o, ho, hcl, n, hd⟩ := htup
      refine ⟨by show 2 ≤ sizeLine; decide, [.int (0 + (i : Int)) tok, y], .cons ⟨tok, by rw [Int.zero_add]⟩ (.cons ru .nil), ⟨o, hk2 T o tw ho, hcl, n, hd⟩⟩
    have I1 : Inv X pins σ (upd H T (.tup [.int (i : Nat), x])) { s with heap := h'', toks := tk } := I.turnedNew (ch := [e, it]) (fun b o hb q => hk2 b o hb (hk b o hb q)) hf hT new
    have hn : H T = none := I.hok.fresh hT
    refine ⟨.ref T, _, I1, rfl, ⟨T, x, rfl, hn, rfl, fun zs hz => by rw [sq_inj I hz hq]; exact hx⟩, ⟨?_, st'.2.1⟩, fun b hb => ?_⟩
    · exact st'.1
    · have hbs : b < s.heap.objs.size := by
        rcases List.mem_cons.mp hb with z | z
        · obtain ⟨old, q⟩ := he
          rw [z]
          exact Heap.lt_size q
        · obtain ⟨o, q, _⟩ := hi.obj
          rw [List.mem_singleton.mp z]
          exact Heap.lt_size q
      rw [upd_ne (Nat.ne_of_lt (Nat.lt_of_lt_of_le hbs hT))]
      exact (hf b hb).1
  done := by
    intro X hP hw hK hc i pins s σ H E I hf st hg
    subst hP hw hK
    obtain ⟨he, hi⟩ := st
    obtain ⟨xs, hq, hx⟩ := hg
    obtain ⟨its, rv, hsq⟩ := sq_get I hq
    have hl := rv.length
    have en : its.toArray.size = i := by
      rw [List.size_toArray]
      omega
    have WT := WalksT.enumFrom (prog := X.prog) (w := X.w) (A := X.A) 0 (draws (t := t) (A := X.A.in1) (I.ok.hd hc) it a hia its.toArray) e hne (by simp [hne, hea]) (by simp)
    refine WT.done s _ _ (by rw [en]; exact ⟨he, hi, hsq⟩) fun h' tk hk => ⟨rfl, I.turnedL (ch := [e, it]) (fun b o hb q => hk b o hb q) hf⟩
  self := fun A i s Q E st h => let ⟨⟨_, he⟩, _⟩ := st; wpAny_pyIter_enum he h
set_option maxHeartbeats 4000000 in
theorem meets_enum {v : Value} {o : Obj} {H : Heap → Prop} (B : Begins v o H) :
    Meets (Builtin.«enumerate.__new__» ⟨[.type "enumerate", v], []⟩) (fun _ R s => H s.heap ∧
      R (.ok (.ret (.ref (s.heap.push o).objs.size))) { s with heap := (s.heap.push o).push { cls := .type "enumerate", data := .fields #[.none, .bool false, .ref s.heap.objs.size, rawInt 0, .none, .none] } }) :=
  .of_wp fun prog w A R s h => by
    obtain ⟨hp, g, d, tk, os⟩ := s
    obtain ⟨h1, h2⟩ := h
    have sub := sub_enumerate
    have it1 : ∀ {A' : Around} {E : Value → Shared → Prop} {Q : Value → Shared → Prop}, Q (.ref hp.objs.size) ⟨hp.push o, g, d, tk, os⟩ → wpAny (model prog w) A' (pyIter v) Q E ⟨hp, g, d, tk, os⟩ :=
      fun q => B.iter prog w _ _ ⟨hp, g, d, tk, os⟩ _ h1 q
    wp_walk using it1
    refine wpAny_stack_any fun st => wpAny_pure ?_
    split
    · rename_i c _ _ _ _ _
      cases (c == Value.type "enumerate") <;> (wp_walk using it1; exact ⟨_, rfl, h2⟩)
    · wp_walk using it1
      exact ⟨_, rfl, h2⟩
theorem call_enum {prog : Program} {w : World} {A : Around} {E : Value → Shared → Prop} {s : Shared} {v : Value} {o : Obj} {H : Heap → Prop} {Q : Value → Shared → Prop} (B : Begins v o H) (h1 : H s.heap)
    (h : ∀ h', IsEnum h' (s.heap.objs.size + 1) s.heap.objs.size 0 .none → h'.get? s.heap.objs.size = some o → (∀ b u, s.heap.get? b = some u → h'.get? b = some u) → Q (.ref (s.heap.objs.size + 1)) { s with heap := h' }) :
    wpAny (model prog w) A (call (.type "enumerate") [v]) Q E s := by
  refine callType_new F.called_enumerate (by decide) (F.typeCall_enumerate_1 _) (F.newCall_enumerate_1 _) (fun obj => F.args_object_init_2 obj _) F.entry_enumerate_new (meets_enum B) ⟨h1, ?_⟩
  have hz : (s.heap.push o).objs.size = s.heap.objs.size + 1 := Heap.size_push ..
  rw [hz]
  have he : IsEnum ((s.heap.push o).push { cls := .type "enumerate", data := .fields #[.none, .bool false, .ref s.heap.objs.size, rawInt 0, .none, .none] }) (s.heap.objs.size + 1) s.heap.objs.size 0 .none := by
    have q := Heap.get?_push_size (s.heap.push o) (o := { cls := .type "enumerate", data := .fields #[.none, .bool false, .ref s.heap.objs.size, rawInt 0, .none, .none] }) rfl
    rw [hz] at q
    exact q
  exact ⟨⟨_, he, rfl⟩, h _ he (Heap.get?_push_of_some _ (Heap.get?_push_size _ B.free)) fun b u x => Heap.get?_push_of_some _ (Heap.get?_push_of_some _ x)⟩
/-- enumerate(e), e a list or a tuple -/
def iEnumA (K : PySem.W.Frag) (ta : TA) : TI := fun σ H R => ta σ H fun vs H1 => ∃ t a xs, vs = [.ref a] ∧ SqK K H1 t a xs ∧ R (ItE K t a) H1
theorem pi_enumA {X : Cx} {e : Expr} {ta : TA} {p pos tpos : Pos} {elts : List Expr} {kk : Nat} (hg : Gl X "enumerate") (hm : X.mg "enumerate" = none) (ha : PA X [e] ta) (hs : starEach [e] X.env = [(false, eval e X.env)] := by rfl) :
    PI X (.Tuple elts kk tpos) (.Call (.Name "enumerate" p) [e] [] pos) (iEnumA X.K ta) := by
  refine ⟨fun pins s σ H R I h => ?_⟩
  refine Call_ (ld_blt I hg hm boot_enumerate (PyProof.Rows.callWith_type1 (thn (ha.run pos pins s σ H _ I h) fun us s1 hh => ?_) hs rfl))
  obtain ⟨vs, H1, I1, r1, t, a, xs, rfl, hq, q⟩ := hh
  cases r1 with
  | cons r rr =>
    cases rr
    cases r
    obtain ⟨its, rv, hsq⟩ := sq_get I1 hq
    have hal := sq_live I1 hq
    refine call_enum (begins t a its.toArray) hsq fun h' he hit hk => wpAny_pyIter_enum he ?_
    have I2 : Inv X pins σ H1 { s1 with heap := h' } := I1.kept (t' := s1.toks) hk
    have n1 : s1.heap.objs.size + 1 ≠ s1.heap.objs.size := Nat.succ_ne_self _
    have n2 : s1.heap.objs.size + 1 ≠ a := Nat.ne_of_gt (Nat.lt_succ_of_lt hal)
    refine ⟨s1.heap.objs.size + 1, _, _, _, H1, rfl, I2, turnE t a (s1.heap.objs.size + 1) s1.heap.objs.size n1 n2 (Nat.ne_of_lt hal), ⟨⟨.none, he⟩, itObj_it hit⟩, fun b hb => ?_, q⟩
    have hle : s1.heap.objs.size ≤ b := by
      rcases List.mem_cons.mp hb with z | z
      · rw [z]
        exact Nat.le_succ _
      · rw [List.mem_singleton.mp z]
        exact Nat.le_refl _
    exact I1.fpOk hle (I1.hok.fresh hle)
theorem walk_enumA {K : PySem.W.Frag} {t : Bool} {a : Addr} {xs : List V} : Walk (ItE K t a) xs.length (fun H => SqK K H t a xs) (YPair (fun i => some (.int (i : Nat))) (fun i => xs[i]?)) where
  goes := fun i _ hi q => ⟨xs, xs[i], q, by simp [hi]⟩
  stops := fun _ q => ⟨xs, q, rfl⟩
  yields := fun i H v H' _ q y => by
    obtain ⟨T, x, h1, h2, h3, h4⟩ := y
    exact ⟨T, .int (i : Nat), x, h1, h2, h3, rfl, h4 xs q⟩
/-! ### zip of two, each a list or a tuple -/
def ItZ (K : PySem.W.Frag) (t1 t2 : Bool) (a b : Addr) : It :=
  ⟨fun i H => ∃ (xs ys : List V) (x y : V), SqK K H t1 a xs ∧ SqK K H t2 b ys ∧ xs[i]? = some x ∧ ys[i]? = some y,
   fun i H v H' => ∃ T x y, v = .ref T ∧ H T = none ∧ H' = upd H T (.tup [x, y]) ∧ (∀ xs, SqK K H t1 a xs → xs[i]? = some x) ∧ ∀ ys, SqK K H t2 b ys → ys[i]? = some y,
   fun i H => ∃ xs ys : List V, SqK K H t1 a xs ∧ SqK K H t2 b ys ∧ min xs.length ys.length = i⟩
def stZ (t1 t2 : Bool) (z TI TO i1 i2 a b : Addr) (i : Nat) (h : Heap) : Prop :=
  IsZip h z TI TO .none ∧ IsTupOf2 h TI (.ref i1) (.ref i2) ∧ (∃ a1 a2, IsTupOf2 h TO a1 a2) ∧ IsIt t1 h i1 a i ∧ IsIt t2 h i2 b i
theorem turnZ {P : Program} {w : World} {K : PySem.W.Frag} {elts : List Expr} {kk : Nat} {tpos : Pos} {t1 t2 : Bool} {z TI TO i1 i2 a b : Addr} (S : ZipSep2 z TI TO i1 i2 [i1, a] [i2, b]) (h1a : a ≠ i1) (h2b : b ≠ i2) (hTa : TI ≠ a) (hTb : TI ≠ b) :
    Turn P w K (.Tuple elts kk tpos) (ItZ K t1 t2 a b) [z, TI, TO, i1, i2] z (stZ t1 t2 z TI TO i1 i2 a b) where
  mem := by simp
  obj := fun i h st c hc => by
    obtain ⟨hz, hTI, ⟨x, y, hTO⟩, d1, d2⟩ := st
    simp only [List.mem_cons, List.not_mem_nil, or_false] at hc
    rcases hc with q | q | q | q | q
    · rw [q]
      exact ⟨_, hz, fun v q => nomatch q⟩
    · rw [q]
      exact ⟨_, hTI, fun v q => nomatch q⟩
    · rw [q]
      exact ⟨_, hTO, fun v q => nomatch q⟩
    · rw [q]
      exact d1.obj
    · rw [q]
      exact d2.obj
  keep := fun i h h' st k => by
    obtain ⟨hz, hTI, ⟨x, y, hTO⟩, d1, d2⟩ := st
    exact ⟨k z (by simp) _ hz, k TI (by simp) _ hTI, ⟨x, y, k TO (by simp) _ hTO⟩, d1.at_ fun o q => k i1 (by simp) o q, d2.at_ fun o q => k i2 (by simp) o q⟩
  item := by
    intro X hP hw hK hc i pins s σ H E I hf st hg
    subst hP hw hK
    obtain ⟨xs, ys, x, y, hqx, hqy, hx, hy⟩ := hg
    obtain ⟨its, rv, hsq⟩ := sq_get I hqx
    obtain ⟨jts, rw', hsr⟩ := sq_get I hqy
    obtain ⟨u, hu, ru⟩ := rv.get hx
    obtain ⟨v, hv, rv2⟩ := rw'.get hy
    have hu' : its.toArray[i]? = some u := by simpa using hu
    have hv' : jts.toArray[i]? = some v := by simpa using hv
    have hlt : i < min its.toArray.size jts.toArray.size := by
      have q1 := (Array.getElem?_eq_some_iff.mp hu').1
      have q2 := (Array.getElem?_eq_some_iff.mp hv').1
      omega
    have WT := WalksT.zipD2 (prog := X.prog) (w := X.w) (A := X.A) S (draws (t := t1) (A := X.A.in1) (I.ok.hd hc) i1 a h1a its.toArray) (draws (t := t2) (A := X.A.in1) (I.ok.hd hc) i2 b h2b jts.toArray)
    obtain ⟨s1, s2, s3, s4, s5⟩ := id st
    refine WT.item i s _ _ hlt ⟨s1, s2, s3, ⟨s4, hsq⟩, ⟨s5, hsr⟩⟩ fun T vals h' tk hvals hT htup hmid hk => ?_
    refine ⟨_, rfl, WT.go elts kk tpos i T _ _ _ hmid fun h'' st' hk2 => ?_⟩
    obtain ⟨x1, y1, e1, e2, rfl⟩ := hvals
    have ex1 : x1 = u := Option.some.inj (e1.symm.trans hu')
    have ey1 : y1 = v := Option.some.inj (e2.symm.trans hv')
    subst ex1 ey1
    have tw := WT.apart i T _ hmid
    have new : ObjOk X.prog X.w (upd H T (.tup [x, y])) h'' T (.tup [x, y]) := by
      obtain ⟨o, ho, hcl, n, hd⟩ := htup
      exact ⟨by show 2 ≤ sizeLine; decide, [x1, y1], .cons ru (.cons rv2 .nil), ⟨o, hk2 T o tw ho, hcl, n, hd⟩⟩
    have sub : ∀ c, c ∈ [z, TO, i1, i2] → c ∈ [z, TI, TO, i1, i2] := fun c hc => by
      simp only [List.mem_cons, List.not_mem_nil, or_false] at hc ⊢
      rcases hc with q | q | q | q
      · exact .inl q
      · exact .inr (.inr (.inl q))
      · exact .inr (.inr (.inr (.inl q)))
      · exact .inr (.inr (.inr (.inr q)))
    have I1 : Inv X pins σ (upd H T (.tup [x, y])) { s with heap := h'', toks := tk } := I.turnedNew (ch := [z, TI, TO, i1, i2]) (fun c o hc q => hk2 c o (fun m => hc (sub c m)) (hk c o (fun m => hc (sub c m)) q)) hf hT new
    have hn : H T = none := I.hok.fresh hT
    obtain ⟨r1, r2, r3, ⟨r4, _⟩, ⟨r5, _⟩⟩ := st'
    refine ⟨.ref T, _, I1, rfl, ⟨T, x, y, rfl, hn, rfl, fun zs hz => by rw [sq_inj I hz hqx]; exact hx, fun zs hz => by rw [sq_inj I hz hqy]; exact hy⟩, ⟨r1, r2, r3, r4, r5⟩, fun c hc => ?_⟩
    have hcs : c < s.heap.objs.size := by
      obtain ⟨a1, a2, s3⟩ := s3
      obtain ⟨o4, q4, _⟩ := s4.obj
      obtain ⟨o5, q5, _⟩ := s5.obj
      simp only [List.mem_cons, List.not_mem_nil, or_false] at hc
      rcases hc with q | q | q | q | q <;> rw [q]
      · exact Heap.lt_size s1
      · exact Heap.lt_size s2
      · exact Heap.lt_size s3
      · exact Heap.lt_size q4
      · exact Heap.lt_size q5
    rw [upd_ne (Nat.ne_of_lt (Nat.lt_of_lt_of_le hcs hT))]
    exact (hf c hc).1
  done := by
    intro X hP hw hK hc i pins s σ H E I hf st hg
    subst hP hw hK
    obtain ⟨xs, ys, hqx, hqy, hend⟩ := hg
    obtain ⟨its, rv, hsq⟩ := sq_get I hqx
    obtain ⟨jts, rw', hsr⟩ := sq_get I hqy
    have l1 := rv.length
    have l2 := rw'.length
    have en : min its.toArray.size jts.toArray.size = i := by
      rw [List.size_toArray, List.size_toArray, ← l1, ← l2]
      exact hend
    have WT := WalksT.zipD2 (prog := X.prog) (w := X.w) (A := X.A) S (draws (t := t1) (A := X.A.in1) (I.ok.hd hc) i1 a h1a its.toArray) (draws (t := t2) (A := X.A.in1) (I.ok.hd hc) i2 b h2b jts.toArray)
    obtain ⟨s1, s2, s3, s4, s5⟩ := id st
    refine WT.done s _ _ (by rw [en]; exact ⟨s1, s2, s3, ⟨s4, hsq⟩, ⟨s5, hsr⟩⟩) fun h' tk hk => ⟨rfl, I.turnedL (ch := [z, TI, TO, i1, i2]) (fun c o hb q => hk c o (fun m => hb ?_) q) hf⟩
    simp only [List.mem_cons, List.not_mem_nil, or_false] at m ⊢
    rcases m with q | q | q | q
    · exact .inl q
    · exact .inr (.inr (.inl q))
    · exact .inr (.inr (.inr (.inl q)))
    · exact .inr (.inr (.inr (.inr q)))
  self := fun A i s Q E st h => wpAny_pyIter_zip st.1 h
/-- zip(e, f), each a list or a tuple -/
def iZip2 (K : PySem.W.Frag) (ta : TA) : TI := fun σ H R => ta σ H fun vs H1 => ∃ t1 t2 a b xs ys, vs = [.ref a, .ref b] ∧ SqK K H1 t1 a xs ∧ SqK K H1 t2 b ys ∧ R (ItZ K t1 t2 a b) H1
theorem pi_zip2 {X : Cx} {e f : Expr} {ta : TA} {p pos tpos : Pos} {elts : List Expr} {kk : Nat} (hg : Gl X "zip") (hm : X.mg "zip" = none) (ha : PA X [e, f] ta) (hs : starEach [e, f] X.env = (false, eval e X.env) :: starEach [f] X.env := by rfl) (hp2 : (backTo pos (starEach [f] X.env)).any (·.1) = false := by rfl) :
    PI X (.Tuple elts kk tpos) (.Call (.Name "zip" p) [e, f] [] pos) (iZip2 X.K ta) := by
  refine ⟨fun pins s σ H R I h => ?_⟩
  refine Call_ (ld_blt I hg hm PyProof.Rows.boot_zip (PyProof.Rows.callWith_type1 (thn (ha.run pos pins s σ H _ I h) fun us s1 hh => ?_) hs hp2))
  obtain ⟨vs, H1, I1, r1, t1, t2, a, b, xs, ys, rfl, hqx, hqy, q⟩ := hh
  cases r1 with
  | cons r rr =>
    cases rr with
    | cons r' rr =>
      cases rr
      cases r
      cases r'
      obtain ⟨its, rv, p1⟩ := sq_get I1 hqx
      obtain ⟨jts, rw', p2⟩ := sq_get I1 hqy
      have la := sq_live I1 hqx
      have lb := sq_live I1 hqy
      refine zip_begins2 (begins t1 a its.toArray) (begins t2 b jts.toArray) p1 p2 fun h' hz hTI hTO d1 d2 hsz hk => wpAny_pyIter_zip hz ?_
      have I2 : Inv X pins σ H1 { s1 with heap := h' } := I1.kept (t' := s1.toks) hk
      refine ⟨s1.heap.objs.size + 4, _, _, _, H1, rfl, I2, turnZ (t1 := t1) (t2 := t2) (TI := s1.heap.objs.size + 2) (TO := s1.heap.objs.size + 3) (i1 := s1.heap.objs.size) (i2 := s1.heap.objs.size + 1) (a := a) (b := b)
        (zip_sep2 (fun c hc => by rw [List.mem_singleton.mp hc]; exact la) (fun c hc => by rw [List.mem_singleton.mp hc]; exact lb)) (Nat.ne_of_lt la) (Nat.ne_of_lt (Nat.lt_succ_of_lt lb)) (Nat.ne_of_gt (Nat.lt_of_lt_of_le la (Nat.le_add_right _ _))) (Nat.ne_of_gt (Nat.lt_of_lt_of_le lb (Nat.le_add_right _ _))),
        ⟨hz, hTI, ⟨_, _, hTO⟩, itObj_it d1, itObj_it d2⟩, fun c hc => ?_, q⟩
      have hle : s1.heap.objs.size ≤ c := by
        simp only [List.mem_cons, List.not_mem_nil, or_false] at hc
        rcases hc with z | z | z | z | z <;> rw [z] <;> first | exact Nat.le_refl _ | exact Nat.le_add_right _ _
      exact I1.fpOk hle (I1.hok.fresh hle)
theorem walk_zip2 {K : PySem.W.Frag} {t1 t2 : Bool} {a b : Addr} {xs ys : List V} {n : Nat} (hn : n = min xs.length ys.length) : Walk (ItZ K t1 t2 a b) n (fun H => SqK K H t1 a xs ∧ SqK K H t2 b ys) (YPair (fun i => xs[i]?) (fun i => ys[i]?)) where
  goes := fun i _ hi q => ⟨xs, ys, xs[i]'(by omega), ys[i]'(by omega), q.1, q.2, by simp, by simp⟩
  stops := fun _ q => ⟨xs, ys, q.1, q.2, hn.symm⟩
  yields := fun i H v H' _ q y => by
    obtain ⟨T, x, y, h1, h2, h3, h4, h5⟩ := y
    exact ⟨T, x, y, h1, h2, h3, h4 xs q.1, h5 ys q.2⟩
end Sq
namespace Exs
open PySem PySem.Spec PyProof.Rows L2
/-! ### an own error class beneath ValueError, whose __init__ keeps one thing -/
theorem clsB_ok {K : PySem.W.Frag} {C : Addr} (h : clsB K C = true) :
    ∃ nm q N bs bm sn sub ab col dd k0 k1 k2 k3 k5, K.lookup C = some (excClassObj nm q C N bs bm true sn sub ab col dd k0 k1 k2 k3 k5 "ValueError.__new__") ∧ PySem.HandSPX.refsVE bm = true := by
  unfold clsB at h
  split at h
  · rename_i t dd cd sl hl
    split at h
    · rename_i D bm k0 k1 k2 k3 n k5 hm hs
      simp only [Bool.and_eq_true, decide_eq_true_eq, Bool.not_eq_true'] at h
      obtain ⟨rfl, rfl, rfl, h1, h2, h3⟩ := h
      obtain ⟨nm, bs, mro, ns, qn, hd, sn, sub, ab, col, del⟩ := cd
      dsimp only at hm h1 h2
      subst hm h1 h2
      have es : sl = #[k0, k1, k2, k3, some (.builtin "ValueError.__new__"), k5] := by
        obtain ⟨l⟩ := sl
        dsimp only at hs
        rw [hs]
      subst es
      exact ⟨nm, qn, ns, bs, bm, sn, sub, ab, col, dd, k0, k1, k2, k3, k5, hl, h3⟩
    · cases h
  · cases h
structure ErrC (K : PySem.W.Frag) (C fI : Addr) (f : Str) : Prop where
  oc : OexC K C
  xf : XfC K C
  no : PySem.W.findIn K (.ref C) f = some none
  iC : PySem.W.findIn K (.ref C) "__init__" = some (some (.ref fI))
  tI : PySem.W.typeIn K (.ref fI) = some (.type "function")
  me : PySem.W.exmOne K (.ref C) (.ref C) = some true
theorem errB_ok {K : PySem.W.Frag} {C fI : Addr} {f : Str} (h : errB K C fI f = true) : ErrC K C fI f := by
  obtain ⟨h1, h⟩ := He.ba h
  obtain ⟨h2, h⟩ := He.ba h
  obtain ⟨h3, h⟩ := He.ba h
  obtain ⟨h4, h⟩ := He.ba h
  obtain ⟨h5, h⟩ := He.ba h
  obtain ⟨h6, h⟩ := He.ba h
  obtain ⟨h7, h⟩ := He.ba h
  obtain ⟨h8, h⟩ := He.ba h
  obtain ⟨h9, h0⟩ := He.ba h
  exact ⟨⟨clsB_ok h1, He.eqO_ok h2, of_decide_eq_true h3, of_decide_eq_true h4, h5⟩, xfB_ok h6, He.eqO_ok h7, He.eqO_ok h8, of_decide_eq_true h9, of_decide_eq_true h0⟩
/-- what __init__ does: the thing under its name -/
def spInit (C : Addr) (f : Str) : Sp := fun vs H Q _ => ∃ (a : Addr) (v : V), vs = [.ref a, v] ∧ H a = some (exo a C none) ∧ ∀ dx, H dx = none → dx ≠ a → Q .non (upd (upd H dx (exd dx [(f, v)])) a (exo a C (some dx)))
/-- self.f = f, the block of such an __init__, wherever it stands -/
abbrev initB (f : Str) (p1 p2 p3 p4 : Pos) : List Stmt := [.Assign [.Attribute (.Name "self" p1) f p2] (.Name f p3) p4]
section
variable {P : Program} {w : World} {K : PySem.W.Frag} {mg : Str → Option Value} {base : Heap}
theorem ok_init {x f : Str} {C fI : Addr} {fd : FuncData} {pa : Arguments} {bd : List Stmt} {sc : Scope} {p1 p2 p3 p4 : Pos} (T : ErrC K C fI f) (F : FunD K "__init__" x pa bd sc [] [] fI fd) (hb : bd = initB f p1 p2 p3 p4)
    (S : FnScope ["self", f] ["self", f] sc) (v0 : sc.names.lookup ("self" : Str) = some NameKind.local) (v1 : sc.names.lookup f = some NameKind.local) (hd : (f == ("__debug__" : Str)) = false) (hc : (f == ("__classdict__" : Str)) = false) :
    FnOk P w K mg base CX0 1 fI fd ["self", f] (spInit C f) := by
  subst hb
  refine F.ok S (fun vs H Q E h => ?_) (fun cdv A outer s H vs Q E hr h => ?_)
  · obtain ⟨a, v, rfl, _⟩ := h
    rfl
  · obtain ⟨a, v, rfl, ha, k⟩ := h
    refine ⟨_, PSs.nox (pss_one (ps_ost (pe_var (i := 0) rfl (.inl v0)) (pe_var (i := 1) rfl (.inl v1) hd hc))), ?_⟩
    exact ⟨_, rfl, _, rfl, a, C, rfl, T.oc, T.no, .inl ⟨ha, fun dx n ne => k dx n ne⟩⟩
/-- all that a raise of such an error asks -/
structure Err (P : Program) (w : World) (K : PySem.W.Frag) (mg : Str → Option Value) (base : Heap) (x f : Str) (C fI : Addr) : Prop where
  c : ErrC K C fI f
  g : mg x = some (.ref C)
  fn : ∃ fd, FnOk P w K mg base CX0 1 fI fd ["self", f] (spInit C f) ∧ L2.Binds K fd ["self", f] []
end
/-- what the making of such an error of v asks -/
def RaiseP (C : Addr) (f : Str) (W : XK) (v : V) (H1 : Hp) : Prop := [v].length ≤ 1000 ∧ ∀ a, H1 a = none → spInit C f (.ref a :: ([v] ++ [])) (upd H1 a (exo a C none))
  (fun u H2 => u = .non ∧ ∃ (d : Addr) (fs : List (Str × V)), H2 a = some (exo a C (some d)) ∧ H2 d = some (exd d fs) ∧ H1 d = none ∧ W (.ref C) (some d) (upd (del H2 a) d (.xd fs))) (fun _ _ _ => False)
theorem raiseP {C : Addr} {f : Str} {W : XK} {v : V} {H1 : Hp} (h : ∀ d, H1 d = none → W (.ref C) (some d) (upd H1 d (.xd [(f, v)]))) : RaiseP C f W v H1 := by
  refine ⟨by show 1 ≤ 1000; decide, fun a ha => ⟨a, v, rfl, upd_same, fun dx hdx ne => ⟨rfl, dx, [(f, v)], upd_same, ?_, ?_, ?_⟩⟩⟩
  · rw [upd_ne ne]
    exact upd_same
  · rw [upd_ne ne] at hdx
    exact hdx
  · have hd1 : H1 dx = none := by
      rw [upd_ne ne] at hdx
      exact hdx
    have e : upd (del (upd (upd (upd H1 a (exo a C none)) dx (exd dx [(f, v)])) a (exo a C (some dx))) a) dx (.xd [(f, v)]) = upd H1 dx (.xd [(f, v)]) := by
      funext b
      by_cases hb : b = dx
      · rw [hb, upd_same, upd_same]
      · rw [upd_ne hb, upd_ne hb]
        by_cases hba : b = a
        · rw [hba, del_same, ha]
        · rw [del_ne hba, upd_ne hba, upd_ne hb, upd_ne hba]
    rw [e]
    exact h dx hd1
/-- raise x(e) -/
def tRaise1 (C : Addr) (f : Str) (W : WX) (te : TE) : TS := fun _ σ H => te σ H fun v H1 => RaiseP C f (fun cls d H' => W cls d σ H') v H1
section
variable {X : Cx}
theorem ps_raise1 {x f : Str} {C fI : Addr} {e : Expr} {te : TE} {W : WX} {p pos pos2 : Pos} (hc : X.calm = true) (T : Err X.prog X.w X.K X.mg X.base x f C fI) (hr : Room 2 X.A) (tk : Takes X W) (hg : Gl X x) (he : PE X e te)
    (hdb : (x == ("__debug__" : Str)) = false := by decide) (hs : starEach [e] X.env = (false, eval e X.env) :: starEach [] X.env := by rfl) (hpl : (backTo pos (starEach [] X.env)).any (·.1) = false := by rfl) :
    PS X (.Raise (some (.Call (.Name x p) [e] [] pos)) none pos2) (tRaise1 C f W te) := by
  obtain ⟨fd, F, b⟩ := T.fn
  have base := ps_raise (pos := pos2) hc tk (pmk_oex (p := p) (pos := pos) T.c.oc T.c.iC T.c.tI F hr b .nil pass0 hg T.g (pa_cons he pa_nil hs) hdb hs hpl)
  exact ⟨fun pins s σ H D I h => base.run pins s σ H D I h⟩
end
end Exs
namespace Exs
open PySem PySem.Spec PyProof.Rows L2
/-! ### try with several clauses, each «except X as n» -/
abbrev Suite : Type := Addr → Value → Option Addr → TS
/-- behind a suite its name's slot i is empty -/
def EndsAs (i : Nat) (D : Ends) : Ends := { nx := fun σ H => D.nx (σ.set i none) H, rt := D.rt, bk := fun σ H => D.bk (σ.set i none) H, ct := fun σ H => D.ct (σ.set i none) H }
def wClauses (K : PySem.W.Frag) (nN : Nat) (Wout : WX) (D : Ends) : List (Value × Nat × Suite) → WX
  | [] => Wout
  | (c, i, ts) :: r => fun cls d σ H => ∃ b, PySem.W.exmOne K cls c = some b ∧ (b = true → ∀ a, H a = none → σ.length = nN → ts a cls d (EndsAs i D) (σ.set i (some (.ref a))) H) ∧ (b = false → wClauses K nN Wout D r cls d σ H)
inductive Clauses (X : Cx) : List ExceptHandler → List (Value × Nat × Suite) → Prop
  | nil : Clauses X [] []
  | cons {x n : Str} {c : Value} {i : Nat} {ts : Suite} {st : Stmt} {sts : List Stmt} {p1 p2 : Pos} {hs : List ExceptHandler} {l : List (Value × Nat × Suite)} (hc : Names X x c) (hi : X.N[i]? = some n) (hn : X.env.kindOf n = some .local)
      (go : ∀ (a : Addr) (oe : Obj) (cls : Value) (d : Option Addr) (pn : List (Addr × Obj)), Zc cls d oe → (∃ vs, oe.data = .fields vs) → PSs (X.suite a ((a, oe) :: pn)) (st :: sts) (ts a cls d)) (r : Clauses X hs l) :
      Clauses X (.ExceptHandler (some (.Name x p1)) (some n) (st :: sts) p2 :: hs) ((c, i, ts) :: l)
section
variable {X : Cx} {body : List Stmt} {h0 : ExceptHandler} {hs : List ExceptHandler} {l : List (Value × Nat × Suite)} {pos : Pos} {tb : WX → TS} {Wout : WX}
theorem ps_try_clauses (es : X.stack = X.env :: X.outer) (ef : X.env.frame = some X.env.locals) (hN : X.N.Nodup) (tk : Takes X Wout)
    (hb : ∀ (W : WX) (pn : List (Addr × Obj)) (xe : Value → Shared → Prop), Takes (X.tr pn xe) W → PassesOwn (model X.prog X.w) X.A X.env xe → PSs (X.tr pn xe) body (tb W))
    (cl : Clauses X (h0 :: hs) l) : PS X (.Try body (h0 :: hs) [] [] pos) (fun D σ H => tb (wClauses X.K X.N.length Wout D l) D σ H) := by
  refine ⟨fun pins s σ H D I h => ?_⟩
  have ok := I.ok
  have frs0 : X.A.frames = some (X.env :: X.outer) := by rw [ok.frames, es]
  refine wpAny_Try_except ?_
  refine wpAny_mono ((hb (wClauses X.K X.N.length Wout D l) (X.pn ++ pins) (fun e s1 => wpAny (model X.prog X.w) X.A (noteFrame e X.env) (fun _ s2 => wpAny (model X.prog X.w) X.A (setFlight e none) (fun _ s3 =>
    wpAny (model X.prog X.w) X.A (handleBy e X.env (h0 :: hs)) (SP X pins D) X.xe s3) X.xe s2) X.xe s1) (fun u s' xx => ?_) PassesOwn.looking).run [] s σ H D (I.toTry _) h) (fun f s1 q => ?_) (fun e s1 q => q)
  · obtain ⟨a, B, sI, pins1, σ1, H1, cls, d, rfl, J0, nb, up, sky, na, os, ag, wish⟩ := xx
    have J : Inv X pins σ1 H1 sI := J0.ofTry ok
    rw [es] at sky
    refine (show wpAny (model X.prog X.w) X.A (noteFrame (.ref a) X.env) _ _ _ from Sky.land Zc.steady frs0 ef sky fun h3 fl3 up3 => ?_)
    have J3 : Inv X pins σ1 H1 { s' with heap := h3 } := J.landed nb fl3.1 (up.trans up3) os ag
    obtain ⟨oe3, vs3, he3, hz3, hd3⟩ := fl3.there
    have apart : a ∉ frs (X.env :: X.outer) := fun hm => by
      obtain ⟨_, o2, e2, no⟩ := fl3.2.2.1.mem hm
      rw [he3] at e2
      cases e2
      exact no _ hd3
    have aL : a ≠ X.env.locals := fun z => apart (List.mem_filterMap.mpr ⟨X.env, List.mem_cons_self, by rw [ef, z]⟩)
    have aF : a ∉ X.fs := fun hm => by
      obtain ⟨e, he, q⟩ := List.mem_filterMap.mp hm
      exact apart (List.mem_filterMap.mpr ⟨e, List.mem_cons_of_mem _ he, q⟩)
    have S3 := J3.suite he3 hd3 na aL aF
    have steps : ∀ {hs2 : List ExceptHandler} {l2 : List (Value × Nat × Suite)}, Clauses X hs2 l2 → wClauses X.K X.N.length Wout D l2 cls d σ1 H1 →
        wpAny (model X.prog X.w) X.A (handleBy (.ref a) X.env hs2) (SP X pins D) X.xe { s' with heap := h3 } := by
      intro hs2 l2 hk
      induction hk with
      | nil =>
        intro wish2
        refine wpAny_handleBy_nil ?_
        obtain ⟨k1, k2, k3, oe, vs, T, oT, ts2, he, hz, hd, f1, hr⟩ := id fl3
        unfold PySem.passOn
        refine wpAny_bind (wpAny_field he hd f1 ?_)
        have isT : ¬ ((Value.ref T == Value.none) = true) := by simp
        rw [if_neg isT]
        have out : wpAny (model X.prog X.w) X.A (setFlight (.ref a) X.env.frame) (fun _ s4 => wpAny (model X.prog X.w) X.A (throw (.ref a) : Sem Flow) (SP X pins D) X.xe s4) X.xe { s' with heap := h3 } := by
          rw [ef]
          refine HandSPX.setFlight_upZ fl3 fun h4 held up4 => wpAny_throw (tk _ _ ⟨a, B, sI, pins, σ1, H1, cls, d, rfl, J, nb, (up.trans up3).trans up4, ?_, na, os, ag, wish2⟩)
          rw [es]
          exact .inr (.inr held)
        first | exact wpAny_bind (wpAny_pure (wpAny_bind out)) | exact wpAny_bind out
      | @cons x n c i ts st sts p1 p2 hs3 l3 hc hi hn go r ih =>
        intro wish2
        obtain ⟨b, hb1, yes, no⟩ := wish2
        have hloc : Loc X.env.scope n := .inl hn
        refine wpAny_handleBy_cons (codeAny_handlers_test ?_) (by intro q; cases q)
        have ofCls : PySem.W.Looks (model X.prog X.w) h3 (typeOf (.ref a)) cls := fun A Q E s k q => wpAny_typeOf_ref (k _ _ he3) (by rw [hz3.1]; exact q)
        have meets := PySem.W.exm_one (M := model X.prog X.w) J3.kIn ofCls hb1
        have asks : ∀ {Q : Value → Shared → Prop} {E : Value → Shared → Prop}, Q c { s' with heap := h3 } → wpAny (model X.prog X.w) (X.A.mark (some (.ref a))) (eval (.Name x p1) X.env) Q E { s' with heap := h3 } := fun {Q E} q => by
          obtain ⟨g1, g2, g3 | ⟨g3, g4, g5⟩⟩ := hc
          · exact ld_glob (X := X.suite a ((a, oe3) :: (X.pn ++ pins))) S3 g1 g3 q g2
          · exact ld_blt (X := X.suite a ((a, oe3) :: (X.pn ++ pins))) S3 g1 g3 g4 q g5 g2
        refine asks (meets.here ?_)
        cases b with
        | true =>
          refine codeAny_handlers_suite_as (HandSPX.lands_againZ fl3 fun h4 fl4 up4 => ?_)
          have J4 : Inv X pins σ1 H1 { s' with heap := h4 } := J.landed nb fl4.1 ((up.trans up3).trans up4) os ag
          obtain ⟨oe4, vs4, he4, hz4, hd4⟩ := fl4.there
          refine store_ok (X := X.suite a ((a, oe4) :: (X.pn ++ pins))) (v := .ref a) (J4.suite he4 hd4 na aL aF) hN hi hloc rfl (fun s5 S5 => ?_) (.inr hn)
          refine wpAny_mono ((go a oe4 cls d (X.pn ++ pins) hz4 ⟨_, hd4⟩).run [] s5 _ H1 _ S5 (yes rfl a na J.len)) (fun f s6 q6 => ?_) (fun _ _ z => False.elim z)
          have away : ∀ {σ6 : L2.St} {H6 : Hp} {Q : Shared → Prop}, Inv (X.suite a ((a, oe4) :: (X.pn ++ pins))) [] σ6 H6 s6 → (∀ s7, Inv X pins (σ6.set i none) H6 s7 → Q s7) →
              wpAny (model X.prog X.w) X.A (do bindName X.env n .none; unbindBehindTheSuite X.env n p2) (fun _ s7 => Q s7) X.xe s6 := fun S6 q => gone_ok (S6.unsuite ok) hN hi hn q
          cases f with
          | next =>
            obtain ⟨σ6, H6, S6, q7⟩ := q6
            exact away S6 fun s7 J7 => ⟨_, _, J7, q7⟩
          | brk =>
            obtain ⟨σ6, H6, S6, q7⟩ := q6
            exact away S6 fun s7 J7 => ⟨_, _, J7, q7⟩
          | cont =>
            obtain ⟨σ6, H6, S6, q7⟩ := q6
            exact away S6 fun s7 J7 => ⟨_, _, J7, q7⟩
          | ret u =>
            obtain ⟨v6, σ6, H6, S6, r6, q7⟩ := q6
            exact away S6 fun s7 J7 => ⟨_, _, _, J7, r6, q7⟩
        | false => exact (show wpAny _ X.A (handleBy (.ref a) X.env hs3) _ _ _ from ih (no rfl))
    exact steps cl wish
  · cases f with
    | next =>
      obtain ⟨σ2, H2, J2, q2⟩ := q
      exact wpAny_execs_nil ⟨σ2, H2, J2.ofTry ok, q2⟩
    | brk =>
      obtain ⟨σ2, H2, J2, q2⟩ := q
      exact ⟨σ2, H2, J2.ofTry ok, q2⟩
    | cont =>
      obtain ⟨σ2, H2, J2, q2⟩ := q
      exact ⟨σ2, H2, J2.ofTry ok, q2⟩
    | ret u =>
      obtain ⟨v, σ2, H2, J2, r2, q2⟩ := q
      exact ⟨v, σ2, H2, J2.ofTry ok, r2, q2⟩
end
end Exs
namespace Sq
open PySem PySem.Spec PyProof.Rows L2
section
variable {X : Cx}
/-! ### sum of a list or a tuple; comb; xs[i] op= -/
def rSumK (K : PySem.W.Frag) : List V → Hp → VK → Prop := fun vs H Q => ∃ (t : Bool) (a : Addr) (ns : List Int), vs = [V.ref a] ∧ SqK K H t a (ns.map V.int) ∧ Q (.int ns.sum) H
theorem cr_sumK (hc : X.calm = true) : CallR X (.builtin "sum") (rSumK X.K) := by
  intro pins s σ H vs us Q I r h
  obtain ⟨t, a, ns, rfl, hs, q⟩ := h
  rw [Vals.ref1 r]
  cases t with
  | false =>
    obtain ⟨its, rv, hl, _⟩ := I.list hs
    exact sum_raw (I.ok.hd hc) hl.isList rv.ints fun h' tk t' hk => ⟨.int _, H, I.kept hk, ⟨_, rfl⟩, q⟩
  | true =>
    obtain ⟨its, rv, hl, _⟩ := I.tuple hs
    have hi := rv.ints
    obtain ⟨xs, e⟩ := hi.allInts.items
    have hn : numsOf (intItems xs).toList = ns := by rw [← e]; exact hi.numsOf
    rw [nums_intItems] at hn
    rw [e] at hl
    refine PySem.W.ktm_sumG (I.ok.hd hc) hl fun h' tk t' hk => ?_
    refine ⟨.int _, H, I.kept hk, ⟨_, rfl⟩, ?_⟩
    rw [preSum_eq, List.take_of_length_le (by simp), hn]
    exact q
def rComb : List V → Hp → VK → Prop := fun vs H Q => ∃ a b : Int, vs = [.int a, .int b] ∧ 0 ≤ a ∧ a ≤ 18000 ∧ 0 ≤ b ∧ Q (.int (PySem.W.mcComb a b)) H
theorem cr_comb : CallR X (.builtin "math.comb") rComb := by
  intro pins s σ H vs us Q I r h
  obtain ⟨a, b, rfl, h0, h1, h2, q⟩ := h
  obtain ⟨t, u, rfl⟩ := Vals.int2 r
  have g := PySem.W.mc_gives_comb (a := a) (b := b) t u h0 h2 (by omega) (.inr h1)
  exact call_function_meets PySem.W.MGF.kind_comb PySem.W.MGF.plain_comb PySem.W.MGF.entry_comb (PySem.W.MGF.args_comb _ _) g.meets ⟨.int _, H, I.tok _, ⟨_, rfl⟩, q⟩
def rGetL (K : PySem.W.Frag) : V → V → Hp → VK → Prop := fun o i H Q => ∃ (p : Addr) (xs : List V) (j : Nat) (v : V), o = .ref p ∧ i = .int (j : Nat) ∧ SqL K H p xs ∧ xs[j]? = some v ∧ Q v H
theorem get_list : PGet X (rGetL X.K) := by
  intro pins s σ H o i ov iv Q I ro ri h
  obtain ⟨p, xs, j, v, rfl, rfl, hq, hv, q⟩ := h
  cases ro
  obtain ⟨t, rfl⟩ := ri
  obtain ⟨its, r, pl, hz⟩ := I.list hq
  obtain ⟨w, ew, rw'⟩ := r.get hv
  have hj : j < its.length := (List.getElem?_eq_some_iff.mp ew).1
  have hn := line63
  have hl := r.length
  refine wpAny_getItem_list pl.isList (by omega) ?_ (by simpa using ew) ⟨v, H, I, rw', q⟩
  omega
end
end Sq
namespace Nk
open PySem PySem.Spec PyProof.Rows L2
/-! ### dicts whose keys are tuples of ints, None, and such tuples -/
mutual
inductive KAt (H : Hp) : NestedKey → V → Prop
  | non : KAt H .none .non
  | int (i : Int) : KAt H (.num i) (.int i)
  | tup {a : Addr} {vs : List V} {ks : List NestedKey} (h : H a = some (.tup vs)) (r : KAll H ks vs) : KAt H (.tup ks) (.ref a)
inductive KAll (H : Hp) : List NestedKey → List V → Prop
  | nil : KAll H [] []
  | cons {k : NestedKey} {v : V} {ks : List NestedKey} {vs : List V} (h : KAt H k v) (r : KAll H ks vs) : KAll H (k :: ks) (v :: vs)
end
def TupStay (H H' : Hp) : Prop := ∀ b xs, H b = some (.tup xs) → H' b = some (.tup xs)
mutual
theorem KAt.stay {H H' : Hp} (e : TupStay H H') : ∀ (k : NestedKey) (v : V), KAt H k v → KAt H' k v
  | _, _, .non => .non
  | _, _, .int i => .int i
  | _, _, .tup h r => .tup (e _ _ h) (KAll.stay e _ _ r)
theorem KAll.stay {H H' : Hp} (e : TupStay H H') : ∀ (ks : List NestedKey) (vs : List V), KAll H ks vs → KAll H' ks vs
  | _, _, .nil => .nil
  | _, _, .cons h r => .cons (KAt.stay e _ _ h) (KAll.stay e _ _ r)
end
section
variable {P : Program} {w : World} {H : Hp} {h : Heap}
mutual
theorem KAt.is (ok : HOk P w H h) : ∀ (k : NestedKey) (v : V) (u : Value), KAt H k v → RelV v u → NestedIs h k u
  | _, _, u, .non, r => by
    cases r
    exact .none
  | _, _, u, .int i, r => by
    obtain ⟨t, rfl⟩ := r
    exact .int i t
  | _, _, u, @KAt.tup _ a vs ks e rs, r => by
    cases r
    obtain ⟨_, its, rv, o, h1, h2, n, h3⟩ := (show ObjOk P w H h a (.tup vs) from ok a _ e)
    exact .tup h1 h2 h3 (by simpa using KAll.is ok ks vs its rs rv)
theorem KAll.is (ok : HOk P w H h) : ∀ (ks : List NestedKey) (vs : List V) (us : List Value), KAll H ks vs → Vals vs us → NestedAll h ks us
  | _, _, us, .nil, r => by
    cases r
    exact .nil
  | _, _, us, .cons e rs, r => by
    cases r with
    | cons r1 r2 => exact .cons (KAt.is ok _ _ _ e r1) (KAll.is ok _ _ _ rs r2)
end
end
abbrev KD (P : Program) (w : World) := nestedKind P w
/-- the dict's object at d -/
def DObj (P : Program) (w : World) (d : Addr) (xs : List (NestedKey × Addr × Value)) : HO := .ext fun h => ∃ (o : Obj) (es : Array DictEntry) (ep : Nat), h.get? d = some o ∧ o.ExactDict ∧ o.data = .dict es ep ∧ es.toList = xs.map (entryOfKey (nestedKind P w)) ∧ (xs.map (·.1)).Nodup
abbrev NK (H : Hp) : List (NestedKey × V) → List (NestedKey × Addr × Value) → Prop := Paired fun p q => p.1 = q.1 ∧ (KAt H p.1 (.ref q.2.1) ∧ p.1.depth ≤ 8) ∧ RelV p.2 q.2.2
def DN (P : Program) (w : World) (H : Hp) (d : Addr) (kvs : List (NestedKey × V)) : Prop := (d == sysModules) = false ∧ ∃ xs, NK H kvs xs ∧ H d = some (DObj P w d xs)
abbrev nkVal (kvs : List (NestedKey × V)) (k : NestedKey) : Option V := valV kvs k
theorem NK.stay {H H' : Hp} (e : TupStay H H') {kvs : List (NestedKey × V)} {xs : List (NestedKey × Addr × Value)} (r : NK H kvs xs) : NK H' kvs xs :=
  Paired.mapP r fun _ _ z => ⟨z.1, ⟨KAt.stay e _ _ z.2.1.1, z.2.1.2⟩, z.2.2⟩
theorem DN.stay {P : Program} {w : World} {H H' : Hp} {d : Addr} {kvs : List (NestedKey × V)} (x : DN P w H d kvs) (e : TupStay H H') (hd : H' d = H d) : DN P w H' d kvs := by
  obtain ⟨h1, xs, h2, h3⟩ := x
  exact ⟨h1, xs, NK.stay e h2, by rw [hd]; exact h3⟩
theorem tup_ex {H H' : Hp} (e : Evl.Ex H H') : TupStay H H' := fun _ _ h => e _ _ h
theorem DN.ex {P : Program} {w : World} {H H' : Hp} {d : Addr} {kvs : List (NestedKey × V)} (x : DN P w H d kvs) (e : Evl.Ex H H') : DN P w H' d kvs := by
  obtain ⟨h1, xs, h2, h3⟩ := x
  exact ⟨h1, xs, NK.stay (tup_ex e) h2, e _ _ h3⟩
theorem NK.val {H : Hp} {kvs : List (NestedKey × V)} {xs : List (NestedKey × Addr × Value)} (r : NK H kvs xs) (k : NestedKey) : RelO (nkVal kvs k) ((atKey xs k).map (·.2)) := by
  induction r with
  | nil => exact True.intro
  | @cons p q ps qs h t ih =>
    obtain ⟨h1, _, h2⟩ := h
    unfold nkVal valV atKey at ih ⊢
    by_cases e : p.1 = k
    · have e' : q.1 = k := h1.symm.trans e
      simp only [List.find?_cons, e, e', decide_true, Option.map_some]
      exact h2
    · have e' : ¬ q.1 = k := fun z => e (h1.trans z)
      simp only [List.find?_cons, e, e', decide_false]
      exact ih
section
variable {P : Program} {w : World} {H : Hp} {h : Heap} {d : Addr} {kvs : List (NestedKey × V)}
theorem DN.dict (ok : HOk P w H h) (x : DN P w H d kvs) : (d == sysModules) = false ∧ ∃ xs, NK H kvs xs ∧ h.DictOfH (nestedKind P w) d xs := by
  obtain ⟨h1, xs, h2, h3⟩ := x
  obtain ⟨⟨o, es, ep, e1, e2, e3, e4, e5⟩, _, _⟩ := (show ObjOk P w H h d (DObj P w d xs) from ok d _ h3)
  refine ⟨h1, xs, h2, o, es, ep, e1, e2, e3, e4, fun x hx => ?_, e5⟩
  have all : ∀ {l : List (NestedKey × V)} {m : List (NestedKey × Addr × Value)}, NK H l m → ∀ x ∈ m, (nestedKind P w).is h x.1 x.2.1 := by
    intro l m q
    induction q with
    | nil => intro x hx; exact nomatch hx
    | @cons p q ps qs hq t ih =>
      intro x hx
      rcases List.mem_cons.mp hx with e | hx
      · subst e
        exact ⟨KAt.is ok _ (.ref _) _ (by rw [← hq.1]; exact hq.2.1.1) rfl, by rw [← hq.1]; exact hq.2.1.2⟩
      · exact ih x hx
  exact all h2 x hx
end
def rNkNotIn (P : Program) (w : World) : R2 := fun x y H Q => ∃ (k : NestedKey) (b d : Addr) (kvs : List (NestedKey × V)), x = .ref b ∧ y = .ref d ∧ KAt H k (.ref b) ∧ k.depth ≤ 8 ∧ DN P w H d kvs ∧ Q (.bl (!(nkVal kvs k).isSome)) H
def rNkGet (P : Program) (w : World) : R2 := fun x y H Q => ∃ (k : NestedKey) (b d : Addr) (kvs : List (NestedKey × V)) (v : V), x = .ref d ∧ y = .ref b ∧ KAt H k (.ref b) ∧ k.depth ≤ 8 ∧ DN P w H d kvs ∧ nkVal kvs k = some v ∧ Q v H
def rNkSet (P : Program) (w : World) : V → V → V → Hp → (Hp → Prop) → Prop := fun o i v H Q => ∃ (k : NestedKey) (b d : Addr) (kvs : List (NestedKey × V)), o = .ref d ∧ i = .ref b ∧ KAt H k (.ref b) ∧ k.depth ≤ 8 ∧ DN P w H d kvs ∧ kvs.length ≤ sizeLine ∧
  ∀ H', (∀ c, c ≠ d → H' c = H c) → DN P w H' d (putK kvs k v) → Q H'
section
variable {X : Cx}
theorem op_nkNotIn (hu : X.A.units + 9 < cLine) : OpR X (compareOp .NotIn) (rNkNotIn X.prog X.w) := by
  intro pins s σ H x y v u Q I rx ry h
  obtain ⟨k, b, d, kvs, rfl, rfl, hk, hdp, hd, q⟩ := h
  cases rx
  cases ry
  obtain ⟨z, xs, rel, dd⟩ := DN.dict I.hok hd
  refine wpAny_notIn_heap (knd := nestedKind X.prog X.w) (show X.A.units + 1 + 8 < cLine by omega) ⟨KAt.is I.hok _ _ _ hk rfl, hdp⟩ z dd ?_
  have e := RelO.isSome_eq (NK.val rel k)
  rw [Option.isSome_map] at e
  rw [← e]
  exact ⟨.bl (!(nkVal kvs k).isSome), H, I.tok _, rfl, q⟩
theorem ix_nk (hu : X.A.units + 9 < cLine) : IxR X (rNkGet X.prog X.w) := by
  intro value slice pins s σ H x y v u Q I rx ry h hs
  obtain ⟨k, b, d, kvs, v0, rfl, rfl, hk, hdp, hd, hv, q⟩ := h
  cases rx
  cases ry
  obtain ⟨z, xs, rel, dd⟩ := DN.dict I.hok hd
  obtain ⟨w', hw, rw'⟩ := RelO.some_of (v := v0) (o := (atKey xs k).map (·.2)) (by rw [← hv]; exact NK.val rel k)
  obtain ⟨p, hp, hp2⟩ := Option.map_eq_some_iff.mp hw
  refine subscriptTail_builtinR (x := w') dd.typeIs PySem.F.slot_dict_getitem.lookup ?_ hs
  refine wpAny_getItem_heap (knd := nestedKind X.prog X.w) (show X.A.units + 1 + 8 < cLine by omega) ⟨KAt.is I.hok _ _ _ hk rfl, hdp⟩ dd hp ?_
  rw [hp2]
  exact ⟨rfl, v0, H, I.tok _, rw', q⟩
theorem NK.over {H : Hp} {k : NestedKey} {v : V} {u : Value} (rv : RelV v u) : ∀ {kvs : List (NestedKey × V)} {xs : List (NestedKey × Addr × Value)}, NK H kvs xs → NK H (kvs.map fun e => if e.1 = k then (e.1, v) else e) (xs.map (putAt k u))
  | _, _, .nil => .nil
  | _, _, .cons (a := p) (b := q) r t => by
    refine Paired.cons ?_ (NK.over rv t)
    obtain ⟨a1, a2, a3⟩ := r
    show (if p.1 = k then (p.1, v) else p).1 = (putAt k u q).1 ∧ (KAt H (if p.1 = k then (p.1, v) else p).1 (.ref (putAt k u q).2.1) ∧ (if p.1 = k then (p.1, v) else p).1.depth ≤ 8) ∧ RelV (if p.1 = k then (p.1, v) else p).2 (putAt k u q).2.2
    unfold putAt
    by_cases hk : p.1 = k
    · have hk2 : q.1 = k := a1.symm.trans hk
      simp only [hk, hk2, if_true]
      exact ⟨trivial, hk ▸ a2, rv⟩
    · have hk2 : ¬ q.1 = k := fun z => hk (a1.trans z)
      simp only [hk, hk2, if_false]
      exact ⟨a1, a2, a3⟩
theorem set_nk (hu : X.A.units + 9 < cLine) : PSet X (rNkSet X.prog X.w) := by
  intro pins s σ H o i v ov iv u Q I ro ri rv h
  obtain ⟨k, b, d, kvs, rfl, rfl, hk, hdp, hd, hl, q⟩ := h
  cases ro
  cases ri
  obtain ⟨z, xs, rel, dd⟩ := DN.dict I.hok hd
  obtain ⟨_, xs2, rel2, hH⟩ := id hd
  refine wpAny_setItem_heap (knd := nestedKind X.prog X.w) (hsz := by rw [← Paired.length rel]; exact hl) (show X.A.units + 1 + 8 < cLine by omega) ⟨KAt.is I.hok _ _ _ hk rfl, hdp⟩ dd fun h' dd' hs => ?_
  obtain ⟨o', es, ep, f1, f2, f3, f4, f5, f6⟩ := dd'
  have I' : Inv X pins σ (upd H d (DObj X.prog X.w d (storedH xs k b u))) { s with heap := h', toks := s.toks + (nestedKind X.prog X.w).draws k } :=
    d_write I (by rw [hH]; exact True.intro) hs ⟨o', f1⟩ ⟨⟨o', es, ep, f1, f2, f3, f4, f6⟩, ⟨o', f1⟩, fun h1 h2 ⟨o, es, ep, a1, a2⟩ st => ⟨o, es, ep, st _ a1, a2⟩⟩
  refine ⟨_, I', q _ (fun c hc => upd_ne hc) ⟨z, _, ?_, upd_same⟩⟩
  have ts : TupStay H (upd H d (DObj X.prog X.w d (storedH xs k b u))) := fun c ys e => by
    have : c ≠ d := fun zz => by
      rw [zz, hH] at e
      cases e
    rw [upd_ne this]
    exact e
  have rel3 := NK.stay ts rel
  cases hv : valV kvs k with
  | none =>
    have hat : atKey xs k = none := by
      have e := RelO.none_of (o := (atKey xs k).map (·.2)) (by rw [← hv]; exact NK.val rel k)
      exact Option.map_eq_none_iff.mp e
    rw [putK_new v hv, storedH_new hat]
    rw [storedH_new hat] at rel3 ts
    exact Paired.snoc rel3 ⟨rfl, ⟨KAt.stay ts _ _ hk, hdp⟩, rv⟩
  | some v0 =>
    obtain ⟨w', hw, _⟩ := RelO.some_of (v := v0) (o := (atKey xs k).map (·.2)) (by rw [← hv]; exact NK.val rel k)
    obtain ⟨p, hp, _⟩ := Option.map_eq_some_iff.mp hw
    unfold putK
    rw [valV_any, hv, if_pos (show (some v0).isSome = true from rfl)]
    rw [storedH_old hp] at rel3 ⊢
    exact NK.over rv rel3
def tDNewN (P : Program) (w : World) : TE := fun _ H Q => ∀ p H', H p = none → Evl.Ex H H' → (∀ c, c ≠ p → H' c = H c) → DN P w H' p [] → Q (.ref p) H'
theorem pe_dnewN {pos : Pos} : PE X (.Dict [] [] pos) (tDNewN X.prog X.w) := ⟨fun pins s σ H Q I h => by
  have hf := I.hok.fresh (Nat.le_refl s.heap.objs.size)
  have hg : (s.heap.push { cls := .type "dict", data := .dict #[] }).get? s.heap.objs.size = some { cls := .type "dict", data := .dict #[] } := Heap.get?_push_size _ rfl
  refine wpAny_Dict_empty ⟨.ref s.heap.objs.size, _, I.laid (a := s.heap.objs.size) (o := DObj X.prog X.w s.heap.objs.size []) (t' := s.toks) (fun _ _ q => Heap.get?_push_of_some _ q) (Nat.le_refl _) ?_, rfl, h _ _ hf (Evl.Ex.new hf) (fun c hc => upd_ne hc) ⟨beq_eq_false_iff_ne.mpr (Ne.symm (Nat.ne_of_lt I.big)), [], .nil, upd_same⟩⟩
  exact ⟨⟨_, #[], 0, hg, ⟨rfl, rfl, rfl⟩, rfl, rfl, List.nodup_nil⟩, ⟨_, hg⟩, fun h1 h2 ⟨o, es, ep, a1, a2⟩ st => ⟨o, es, ep, st _ a1, a2⟩⟩⟩
end
end Nk
namespace Lm
open PySem PySem.W PySem.Spec PySem.Calls PyProof.Rows L2
/-! ### a lambda is made, and its own code object's table is known, too -/
section
variable {M : Model} {A : Around} {E : Value → Shared → Prop} {s : Shared} {name qual : Str} {params : Arguments} {body : Expr} {scope : Scope} {env : Env} {c P : Addr} {ps : Array Value} {pos : Pos} {line : Nat} {mg : Str → Option Value} {clos : List (Str × Addr)} {Q : Value → Shared → Prop}
/-- what stands behind the making: the code object c2 with its table P2, still empty -/
structure Made (P : Addr) (ps : Array Value) (pos : Pos) (qual : Str) (h h' : Heap) (c2 P2 : Addr) : Prop where
  keep : Heap.ExtBut P h h'
  big : h.objs.size ≤ c2
  lt : c2 < h'.objs.size
  rec_ : h'.CodeRec (.ref c2) qual
  tab : h'.get? P = some (tabObj (ps ++ #[rawInt pos.line, rawInt pos.col, .ref c2]))
  big2 : h.objs.size ≤ P2
  head : CodeHd h' c2 P2
  tab2 : h'.get? P2 = some (tabObj #[])
theorem make_new (hcl : closureFor scope env = pure clos) (hgl : env.globals = mainGlobals) (hg : s.heap.Ns mainGlobals mg) (hcode : env.code = .ref c) (C : CodeHd s.heap c P) (hP : s.heap.get? P = some (tabObj ps)) (ht : TriplesOk ps.toList)
    (hnf : codeAmong pos ps.toList = none) (hgP : mainGlobals ≠ P) (hb : s.heap.BuiltinsAt mg P)
    (k : ∀ c2 P2 ctv h' tk, Made P ps pos qual s.heap h' c2 P2 → Q (.ref h'.objs.size) { s with heap := h'.push (kla_obj name qual params body scope clos ((mg "__name__").getD .none) c2 ctv), toks := tk }) :
    wpAny M A (makeFunction name qual params (.expr body) scope env [] [] [] pos line) Q E s := by
  rw [makeFunction_eq]
  simp only [List.zip_nil_right, List.filterMap_nil, List.isEmpty_nil, if_true, pure_bind]
  obtain ⟨bm, ob, b1, b2, _, b4, b5, b6, b7, b8⟩ := hb
  have code : ∀ (h0 : Heap) (R : Value → Shared → Prop), (∀ b o, s.heap.get? b = some o → h0.get? b = some o) → s.heap.objs.size ≤ h0.objs.size → h0.Ns mainGlobals mg →
      (∀ c2 P2 h' tk, Made P ps pos qual s.heap h' c2 P2 → h'.Ns mainGlobals mg → h'.get? bm = some ob → R (.ref c2) { s with heap := h', toks := tk }) → wpAny M A (functionCode env pos line name qual params scope (.expr body)) R E { s with heap := h0 } := by
    intro h0 R kp sz hg0 kR
    refine wpAny_functionCodeX hcode ((C.keeps kp).code (kp _ _ hP) ht) ((C.keeps kp).tab (kp _ _ hP)) hnf fun c2 h' tk hx hge hlt _ hrec htb ⟨P2, hP2, hic, hta⟩ => ?_
    have hx' : Heap.ExtBut P s.heap h' := fun b o hb' e => hx b o hb' (kp b o e)
    exact kR c2 P2 h' tk ⟨hx', Nat.le_trans sz hge, hlt, hrec, htb.2, Nat.le_trans sz hP2, CodeHd.of hic hta, hta.2⟩ (hg0.extBut hx hgP) (hx' _ _ b4 b5)
  unfold makeTail
  rw [hcl, hgl]
  refine wpAny_bind (wpAny_pure ?_)
  cases clos with
  | nil =>
    simp only [List.isEmpty_nil, if_true]
    refine wpAny_bind (wpAny_pure (wpAny_bind (code s.heap _ (fun _ _ e => e) (Nat.le_refl _) hg fun c2 P2 h' tk m hn hm => ?_)))
    refine wpAny_bind (wpAny_builtinsFor hn b1 b2 hm b6 b7 b8 (wpAny_bind (wpAny_nsGet hn ?_)))
    exact wpAny_bind (wpAny_pure (wpAny_newObj_type (k c2 P2 .none h' tk m) (by size_fits)))
  | cons q r =>
    simp only [List.isEmpty_cons, Bool.false_eq_true, if_false]
    refine wpAny_bind (wpAny_newTextTuple (wpAny_bind (code (s.heap.push _) _ (fun _ _ e => Heap.get?_push_of_some _ e) (by rw [Heap.size_push]; omega) (hg.push _) fun c2 P2 h' tk m hn hm => ?_)))
    refine wpAny_bind (wpAny_builtinsFor hn b1 b2 hm b6 b7 b8 (wpAny_bind (wpAny_nsGet hn ?_)))
    exact wpAny_bind (wpAny_pure (wpAny_newObj_type (k c2 P2 _ h' tk m) (by size_fits)))
end
/-- a code object of the name q, its table at P2 -/
def CodeT (c : Addr) (q : Str) (P2 : Addr) : HO := .ext fun h => h.CodeRec (.ref c) q ∧ CodeHd h c P2
theorem codeHd_at {h h' : Heap} {c P2 : Addr} (x : CodeHd h c P2) (e : ∀ o, h.get? c = some o → h'.get? c = some o) : CodeHd h' c P2 := by
  obtain ⟨o, r1, r2, r3, r4, r5, r6, r7, r8, g, r⟩ := x
  exact ⟨o, r1, r2, r3, r4, r5, r6, r7, r8, e _ g, r⟩
theorem codeT_ok {P : Program} {w : World} {H : Hp} {h : Heap} {c P2 : Addr} {q : Str} (r : h.CodeRec (.ref c) q) (hd : CodeHd h c P2) : ObjOk P w H h c (CodeT c q P2) := by
  refine ⟨⟨r, hd⟩, ?_, fun h1 h2 ⟨a, b⟩ st => ⟨a.at st, codeHd_at b st⟩⟩
  obtain ⟨_, o, _, _, e, g, _⟩ := r
  cases e
  exact ⟨o, g⟩
theorem codeT_ne {c P2 : Addr} {q : Str} (ps : Array Value) : CodeT c q P2 ≠ .tbl ps := fun z => by
  unfold CodeT at z
  cases z
section
variable {X : Cx} {pins : List (Addr × Obj)} {σ : L2.St} {H : Hp} {s : Shared}
theorem inv_made {P c2 P2 : Addr} {q : Str} {ps : Array Value} {pos : Pos} {h0 h' : Heap} {t' : Nat} (I : Inv X pins σ H s) (hP : H P = some (.tbl ps)) (m : Made P ps pos q s.heap h0 c2 P2) (kh : ∀ b o, h0.get? b = some o → h'.get? b = some o) :
    Inv X pins σ (upd (upd (upd H P (.tbl (ps ++ #[rawInt pos.line, rawInt pos.col, .ref c2]))) c2 (CodeT c2 q P2)) P2 (.tbl #[])) { s with heap := h', toks := t' } := by
  have nC : H c2 = none := I.hok.fresh m.big
  have n2 : H P2 = none := I.hok.fresh m.big2
  have c2P : c2 ≠ P2 := by
    obtain ⟨_, _, _, _, _, _, _, _, _, _, _, _, _, _, _, _, _, _, ne⟩ := m.head
    exact ne
  have nPc : P ≠ c2 := ne_of_none hP nC
  have nP2 : P ≠ P2 := ne_of_none hP n2
  have off : ∀ b, b ≠ P → b ≠ c2 → b ≠ P2 → upd (upd (upd H P (.tbl (ps ++ #[rawInt pos.line, rawInt pos.col, .ref c2]))) c2 (CodeT c2 q P2)) P2 (.tbl #[]) b = H b := fun b h1 h2 h3 => by rw [upd_ne h3, upd_ne h2, upd_ne h1]
  have atP : upd (upd (upd H P (.tbl (ps ++ #[rawInt pos.line, rawInt pos.col, .ref c2]))) c2 (CodeT c2 q P2)) P2 (.tbl #[]) P = some (.tbl (ps ++ #[rawInt pos.line, rawInt pos.col, .ref c2])) := by rw [upd_ne nP2, upd_ne nPc, upd_same]
  have notP : ∀ b u, H b = some u → (∀ z, u ≠ .tbl z) → b ≠ P := fun b u e z y => by
    rw [y, hP] at e
    exact z ps (Option.some.inj e).symm
  have freeP : ∀ b, H b = none → b ≠ P := fun b e z => by
    rw [z, hP] at e
    cases e
  have oldC : ∀ b o, s.heap.get? b = some o → b ≠ c2 := fun b o e z => Nat.lt_irrefl _ (Nat.lt_of_lt_of_le (Heap.lt_size e) (z ▸ m.big))
  have old2 : ∀ b o, s.heap.get? b = some o → b ≠ P2 := fun b o e z => Nat.lt_irrefl _ (Nat.lt_of_lt_of_le (Heap.lt_size e) (z ▸ m.big2))
  have kp : ∀ b o, b ≠ P → s.heap.get? b = some o → h'.get? b = some o := fun b o hb e => kh _ _ (m.keep b o hb e)
  refine I.step (g' := s.gens) (d' := s.drawn) (ch := []) (fun b hb => absurd hb (by simp)) (fun b o _ _ _ e n => kp b o (freeP b n) e) (fun b o _ _ _ e n => ⟨o.slots, kp b o (freeP b n) e⟩)
    (fun b o _ e n => by rw [off b (freeP b n) (oldC b o e) (old2 b o e)]; exact n) (fun b o _ e => ?_) (fun b xs e => ?_) (fun b o u e => ?_) (fun b qs e => ?_) (fun mm hn => ?_) (fun b u e => ?_) I.bare
  · by_cases hb : b = P
    · rw [hb]
      exact ⟨_, kh _ _ m.tab⟩
    · exact ⟨o, kp b o hb e⟩
  · rw [off b (notP b _ e (fun z y => by cases y)) (ne_of_none e nC) (ne_of_none e n2)]
    exact e
  · rw [off b (notP b _ e (fun z y => by cases y)) (ne_of_none e nC) (ne_of_none e n2)]
    exact e
  · by_cases hb : b = P
    · rw [hb, hP] at e
      cases e
      rw [hb, atP]
      exact ⟨_, rfl⟩
    · rw [off b hb (ne_of_none e nC) (ne_of_none e n2), e]
      exact ⟨#[], by simp⟩
  · obtain ⟨ob, es, ep, ho, r⟩ := hn
    exact ⟨ob, es, ep, kp _ ob (freeP _ I.free) ho, r⟩
  · by_cases h2 : b = P2
    · subst h2
      rw [upd_same] at e
      cases e
      exact kh _ _ m.tab2
    · rw [upd_ne h2] at e
      by_cases hc : b = c2
      · subst hc
        rw [upd_same] at e
        cases e
        exact codeT_ok (m.rec_.keeps kh) (m.head.keeps kh)
      · rw [upd_ne hc] at e
        by_cases hb : b = P
        · subst hb
          rw [upd_same] at e
          cases e
          exact kh _ _ m.tab
        · rw [upd_ne hb] at e
          refine (I.hok b u e).stay (fun d v hd y => kp d v ?_ y) (fun d y => ?_) fun d xs y => ?_
          · rcases hd with z | z
            · rw [z]
              exact hb
            · exact notP d _ z (fun z y => by cases y)
          · rw [off d (notP d _ y (fun z y => by cases y)) (ne_of_none y nC) (ne_of_none y n2)]
            exact y
          · rw [off d (notP d _ y (fun z y => by cases y)) (ne_of_none y nC) (ne_of_none y n2)]
            exact y
end
/-- a table's address is none of those that the making of a lambda reads besides -/
def Good (mg : Str → Option Value) (P2 : Addr) : Prop := mainGlobals ≠ P2 ∧ ∀ bm, mg "__builtins__" = some (.ref bm) → bm ≠ P2
/-- the table at P: its code objects bear the first name, their own tables the next ones -/
def TabD (mg : Str → Option Value) : List Str → Hp → Addr → Prop
  | [], _, _ => True
  | q :: qs, H, P => ∃ ps : Array Value, H P = some (.tbl ps) ∧ TriplesOk ps.toList ∧ ∀ (pos : Pos) (cv : Value), codeAmong pos ps.toList = some cv → ∃ c P2, cv = .ref c ∧ H c = some (CodeT c q P2) ∧ P2 ≠ P ∧ TabD mg qs H P2 ∧ Good mg P2
/-- all stays but the table at P -/
def Grow (P : Addr) (H H1 : Hp) : Prop := ∀ b o, b ≠ P → H b = some o → H1 b = some o
theorem tabD_nil {mg : Str → Option Value} {qs : List Str} {H : Hp} {P2 : Addr} (h : H P2 = some (.tbl #[])) : TabD mg qs H P2 := by
  cases qs with
  | nil => exact True.intro
  | cons q r => exact ⟨#[], h, True.intro, fun pos cv hc => by simp [codeAmong] at hc⟩
theorem tabD_one {mg : Str → Option Value} {q : Str} {H H1 : Hp} {P Y : Addr} {ps0 : Array Value} (hP : H P = some (.tbl ps0)) (g : Grow P H H1) (hY : Y ≠ P) (t : TabD mg [q] H Y) : TabD mg [q] H1 Y := by
  obtain ⟨ps, h1, h2, h3⟩ := t
  refine ⟨ps, g _ _ hY h1, h2, fun pos cv hc => ?_⟩
  obtain ⟨c, P2, e1, e2, e3, e4, e5⟩ := h3 pos cv hc
  exact ⟨c, P2, e1, g _ _ (fun z => by rw [z, hP] at e2; exact codeT_ne ps0 (Option.some.inj e2).symm) e2, e3, e4, e5⟩
/-- an inner table has grown: the outer one tells as before -/
theorem tabD_two {mg : Str → Option Value} {q1 q2 : Str} {H H1 : Hp} {P Y : Addr} {ps0 : Array Value} (hP : H P = some (.tbl ps0)) (g : Grow P H H1) (hY : Y ≠ P) (new : TabD mg [q2] H1 P) (t : TabD mg [q1, q2] H Y) : TabD mg [q1, q2] H1 Y := by
  obtain ⟨ps, h1, h2, h3⟩ := t
  refine ⟨ps, g _ _ hY h1, h2, fun pos cv hc => ?_⟩
  obtain ⟨c, P2, e1, e2, e3, e4, e5⟩ := h3 pos cv hc
  refine ⟨c, P2, e1, g _ _ (fun z => by rw [z, hP] at e2; exact codeT_ne ps0 (Option.some.inj e2).symm) e2, e3, ?_, e5⟩
  by_cases hz : P2 = P
  · rw [hz]
    exact new
  · exact tabD_one hP g hz e4
section
variable {X : Cx} {pins : List (Addr × Obj)} {σ : L2.St} {H : Hp} {s : Shared}
/-- a lambda is made: new, or by the code object that stands in the table -/
theorem lam_makeT {qs : List Str} {c P : Addr} {params : Arguments} {body : Expr} {scope : Scope} {pos : Pos} {E : Value → Shared → Prop} {Q : Value → Shared → Prop} (I : Inv X pins σ H s) (C : CodeHd s.heap c P) (hgP : mainGlobals ≠ P) (bP : s.heap.BuiltinsAt X.mg P) (hcode : X.env.code = .ref c)
    (hT : TabD X.mg ((X.env.qual ++ "<lambda>") :: qs) H P) (stab : ∀ H1 Y, Grow P H H1 → Y ≠ P → TabD X.mg qs H Y → TabD X.mg qs H1 Y) (hdef : defaultsOf params X.env = ([], [])) (hfree : ∀ y ∈ scope.names, y.2 = .free → ∃ c, X.env.cells.lookup y.1 = some c)
    (k : ∀ (f c2 P2 : Addr) (pm ctv : Value) (H1 : Hp) (s' : Shared), Inv X pins σ H1 s' → Grow P H H1 → TabD X.mg ((X.env.qual ++ "<lambda>") :: qs) H1 P →
      s'.heap.get? f = some (kla_obj "<lambda>" (X.env.qual ++ "<lambda>") params body scope (cloFrom X.env.cells scope.names []) pm c2 ctv) → H1 f = none → f ∉ frs X.stack → H1 c2 = some (CodeT c2 (X.env.qual ++ "<lambda>") P2) → P2 ≠ P → TabD X.mg qs H1 P2 → Good X.mg P2 → Q (.ref f) s') :
    wpAny (model X.prog X.w) X.A (eval (.Lambda params body scope pos) X.env) Q E s := by
  obtain ⟨ps, hP, ht, ha⟩ := hT
  have hP' : s.heap.get? P = some (tabObj ps) := I.hok P _ hP
  have away : ∀ f, s.heap.objs.size ≤ f → f ∉ frs X.stack := fun f hf z => by
    rcases List.mem_cons.mp (I.stkSub _ z) with e | e
    · exact Nat.lt_irrefl _ (Nat.lt_of_lt_of_le (e ▸ I.lt) hf)
    · exact I.nofs hf e
  refine kla_eval hdef ?_
  cases hc : codeAmong pos ps.toList with
  | some cv =>
    obtain ⟨c2, P2, e, e2, e3, e4, e5⟩ := ha pos cv hc
    subst e
    refine kla_makeFunctionHit (mg := X.mg) (c := c) (P := P) (ps := ps) (closure_ok hfree) I.ok.glob (I.mod.glob.keeps I.bk) hcode C hP' ht hc bP fun ctv h' tk hx hsz => ?_
    exact k h'.objs.size c2 P2 _ ctv H _ (I.kept fun b o e => Heap.get?_push_of_some _ (hx b o e)) (fun _ _ _ e => e) ⟨ps, hP, ht, ha⟩ (Heap.get?_push_size _ rfl) (I.hok.fresh hsz) (away _ hsz) e2 e3 e4 e5
  | none =>
    have bP0 := bP
    obtain ⟨bm, ob, b1, _, _, _, b5, _⟩ := bP0
    refine make_new (mg := X.mg) (c := c) (P := P) (ps := ps) (closure_ok hfree) I.ok.glob (I.mod.glob.keeps I.bk) hcode C hP' ht hc hgP bP fun c2 P2 ctv h' tk m => ?_
    have nC : H c2 = none := I.hok.fresh m.big
    have n2 : H P2 = none := I.hok.fresh m.big2
    have nPc : P ≠ c2 := ne_of_none hP nC
    have nP2 : P ≠ P2 := ne_of_none hP n2
    have c2P : c2 ≠ P2 := by
      obtain ⟨_, _, _, _, _, _, _, _, _, _, _, _, _, _, _, _, _, _, ne⟩ := m.head
      exact ne
    have hsz : s.heap.objs.size ≤ h'.objs.size := Nat.le_trans m.big (Nat.le_of_lt m.lt)
    have I1 := inv_made (t' := tk) (h' := h'.push (kla_obj "<lambda>" (X.env.qual ++ "<lambda>") params body scope (cloFrom X.env.cells scope.names []) ((X.mg "__name__").getD .none) c2 ctv)) I hP m (fun b o e => Heap.get?_push_of_some _ e)
    have gr : Grow P H (upd (upd (upd H P (.tbl (ps ++ #[rawInt pos.line, rawInt pos.col, .ref c2]))) c2 (CodeT c2 (X.env.qual ++ "<lambda>") P2)) P2 (.tbl #[])) := fun b o hb e => by
      rw [upd_ne (ne_of_none e n2), upd_ne (ne_of_none e nC), upd_ne hb]
      exact e
    have hcT : upd (upd (upd H P (.tbl (ps ++ #[rawInt pos.line, rawInt pos.col, .ref c2]))) c2 (CodeT c2 (X.env.qual ++ "<lambda>") P2)) P2 (.tbl #[]) c2 = some (CodeT c2 (X.env.qual ++ "<lambda>") P2) := by rw [upd_ne c2P, upd_same]
    have t2 : TabD X.mg qs (upd (upd (upd H P (.tbl (ps ++ #[rawInt pos.line, rawInt pos.col, .ref c2]))) c2 (CodeT c2 (X.env.qual ++ "<lambda>") P2)) P2 (.tbl #[])) P2 := tabD_nil upd_same
    have gd : Good X.mg P2 := by
      refine ⟨fun z => ?_, fun b hb z => ?_⟩
      · obtain ⟨og, _, _, eg, _⟩ := I.mod.glob.keeps I.bk
        exact Nat.lt_irrefl _ (Nat.lt_of_lt_of_le (Heap.lt_size eg) (z ▸ m.big2))
      · rw [b1] at hb
        cases hb
        exact Nat.lt_irrefl _ (Nat.lt_of_lt_of_le (Heap.lt_size b5) (z ▸ m.big2))
    refine k h'.objs.size c2 P2 _ ctv _ _ I1 gr ⟨_, by rw [upd_ne nP2, upd_ne nPc, upd_same], ?_, fun p' cv hcv => ?_⟩ (Heap.get?_push_size _ rfl) ?_ (away _ hsz) hcT nP2.symm t2 gd
    · rw [show (ps ++ #[rawInt pos.line, rawInt pos.col, .ref c2]).toList = ps.toList ++ [rawInt pos.line, rawInt pos.col, .ref c2] by simp]
      exact PySem.TriplesOk_snoc _ _ _ _ ht
    · rw [show (ps ++ #[rawInt pos.line, rawInt pos.col, .ref c2]).toList = ps.toList ++ [rawInt pos.line, rawInt pos.col, .ref c2] by simp] at hcv
      rcases LamX.among_app _ ht hcv with z | z
      · obtain ⟨c0, P0, e1, e2, e3, e4, e5⟩ := ha p' cv z
        exact ⟨c0, P0, e1, gr _ _ (fun y => by rw [y, hP] at e2; exact codeT_ne ps (Option.some.inj e2).symm) e2, e3, stab _ _ gr e3 e4, e5⟩
      · exact ⟨c2, P2, z, hcT, nP2.symm, t2, gd⟩
    · have n1 : h'.objs.size ≠ c2 := Nat.ne_of_gt m.lt
      have n3 : h'.objs.size ≠ P2 := Nat.ne_of_gt (Heap.lt_size m.tab2)
      have n4 : h'.objs.size ≠ P := Nat.ne_of_gt (Nat.lt_of_lt_of_le (Heap.lt_size hP') hsz)
      rw [upd_ne n3, upd_ne n1, upd_ne n4]
      exact I.hok.fresh hsz
end
section
variable {X : Cx} {pins : List (Addr × Obj)} {σ : L2.St} {H : Hp} {s : Shared}
/-- a(), in the def that got the lambda f: its body, as it stands where the lambda was written -/
theorem pe_actT {CXg : CXT} {Eg : XK} {Ng : List Str} {qg : Str} {sg : Scope} {g f c2 P2 : Addr} {cdg pm ctv : Value} {params : Arguments} {body : Expr} {scope : Scope} {lv i : Nat} {a : Str} {pn : List (Addr × Obj)} {xe : Value → Shared → Prop} {W : WX} {E : XK} {tb : TE} {p1 p2 : Pos}
    (I : Inv X pins σ H s) (L : LamX.LamS X.env.scope scope) (hf : s.heap.get? f = some (kla_obj "<lambda>" (X.env.qual ++ "<lambda>") params body scope (cloFrom X.env.cells scope.names []) pm c2 ctv)) (hfn : H f = none) (hfr : f ∉ frs X.stack)
    (hbind : bindArgs (kla_fn "<lambda>" (X.env.qual ++ "<lambda>") params body scope (cloFrom X.env.cells scope.names []) pm (.ref c2) ctv) ⟨[], []⟩ = pure [])
    (tk : Takes ((cxOf CXg X.prog X.w X.K X.mg X.base Ng qg sg g cdg X.A X.stack s H Eg).tr pn xe) W) (hW : ∀ cls d σ' H', E cls d H' → W cls d σ' H') (hr : Room (lv + 1) (X.A.deeper (envOfC qg sg s.heap.objs.size g cdg)))
    (hbody : ∀ (A : Around) (outer : List Env) (s : Shared) (H : Hp), Room lv (A.deeper (LamX.lamEnv X scope s.heap.objs.size f c2)) → PE (LamX.lamCx X A outer s H E scope f c2) body tb)
    (hN : Ng[i]? = some a) (hv : Vis sg a) (hd : (a == ("__debug__" : Str)) = false := by decide) (hcd : (a == ("__classdict__" : Str)) = false := by decide) :
    PE ((cxOf CXg X.prog X.w X.K X.mg X.base Ng qg sg g cdg X.A X.stack s H Eg).tr pn xe) (.Call (.Name a p1) [] [] p2)
      (fun σZ HZ Q => σZ[i]? = some (some (.ref f)) ∧ HZ c2 = some (CodeT c2 (X.env.qual ++ "<lambda>") P2) ∧ tb σ HZ Q) := by
  refine ⟨fun pz sz σz Hz Q Iz ⟨h1, h2, h3⟩ => ?_⟩
  have hvar := (pe_var (pos := p1) (i := i) hN hv hd hcd).run pz sz σz Hz (fun v H1 => v = .ref f ∧ H1 = Hz) Iz ⟨.ref f, h1, rfl, rfl⟩
  refine wpAny_Call_Name_kw (thn hvar fun u s1 ⟨v, H1, I1, r1, ev, eH⟩ => ?_)
  subst ev eH
  obtain rfl : u = Value.ref f := r1
  have of1 : s1.heap.get? f = some (kla_obj "<lambda>" (X.env.qual ++ "<lambda>") params body scope (cloFrom X.env.cells scope.names []) pm c2 ctv) := I1.base.keep f _ hf hfn hfr (fun z => nomatch (show f ∈ ([] : List Addr) from z))
  obtain ⟨⟨cr, _⟩, _, _⟩ := I1.hok c2 _ h2
  have un : Un (frs X.stack) [] H H1 s.heap s1.heap := I1.base
  refine callWith_F0 ⟨_, _, _, _, of1⟩ ?_
  have run : codeAny (model X.prog X.w) (X.A.deeper (envOfC qg sg s.heap.objs.size g cdg)) (.call (.ref f) ⟨[], []⟩) (CR (L2.CX X.prog X.w) (envOfC qg sg s.heap.objs.size g cdg :: X.stack) X.prog X.w H1 s1 Q E) s1 := by
    refine kla_callFunE hr.depth of1 rfl L.co L.gen rfl cr ?_
    rw [hbind]
    refine wpAny_pure (wpAny_newFunctionEnv (fun y hy => (L.own y hy).2) (fun y hy => absurd hy (by simp)) (fun h₁ hns hsb => ⟨I1.nolimit.fresh _ hsb, ?_⟩) L.kind)
    show codeAny _ _ (.expr body (LamX.lamEnv X scope s1.heap.objs.size f c2)) _ _
    have kp1 : ∀ b o, s1.heap.get? b = some o → h₁.get? b = some o := fun b o e => hsb.extBut b o (Nat.ne_of_lt (Heap.lt_size e)) (Heap.get?_push_of_some _ e)
    have J := LamX.lam_start2 (E := E) (f := f) (c' := c2) (tk := s1.toks + ([] : List (Str × Value)).length) I L I1.env0 hr.hd un hns kp1
    exact kla_codeExpr (wpAny_mono ((hbody _ _ s1 H1 (hr.deeper _)).run [] _ _ H1 Q J h3) (fun v s' ⟨w', H', J', rv, q⟩ => ⟨w', H', J'.os, J'.bare, J'.base, J'.hok, rv, q⟩) fun e s' hq => hq)
  have hx : Passes (L2.CX X.prog X.w) ((cxOf CXg X.prog X.w X.K X.mg X.base Ng qg sg g cdg X.A X.stack s H Eg).tr pn xe) E := passes_call tk hW
  refine wpAny_call (codeAny_mono run fun r s' hq => ?_)
  match r, hq with
  | .error e, hq => exact hx pz σz H1 s1 e s' I1 hq
  | .ok (.ret u), hq => exact I1.after hq
  | .ok .next, hq => exact False.elim hq
  | .ok .brk, hq => exact False.elim hq
  | .ok .cont, hq => exact False.elim hq
end
/-- the def that calls what it got by its name a; TT: what it makes of the lambda's reading -/
def GivesT (X : Cx) (Ng : List Str) (x : Str) (sg : Scope) (g : Addr) (cdg : Value) (bg : List Stmt) (a : Str) (q : Str) (TT : (XK → Hp → VK → Prop) → Hp → VK → Prop) : Prop :=
  ∀ (f c2 P2 : Addr) (s : Shared) (H : Hp) (Q : VK) (tl : XK → Hp → VK → Prop),
    (∀ (W : WX) (pn : List (Addr × Obj)) (xe : Value → Shared → Prop) (E : XK) (p1 p2 : Pos), Takes ((cxOf C8.CX0 X.prog X.w X.K X.mg X.base Ng x sg g cdg X.A X.stack s H C8.E0).tr pn xe) W → (∀ cls d σ' H', E cls d H' → W cls d σ' H') →
      PE ((cxOf C8.CX0 X.prog X.w X.K X.mg X.base Ng x sg g cdg X.A X.stack s H C8.E0).tr pn xe) (.Call (.Name a p1) [] [] p2) (fun σZ HZ Q => σZ[0]? = some (some (.ref f)) ∧ HZ c2 = some (CodeT c2 q P2) ∧ tl E HZ Q)) →
    H c2 = some (CodeT c2 q P2) → TT tl H Q →
    ∃ t, PSs (cxOf C8.CX0 X.prog X.w X.K X.mg X.base Ng x sg g cdg X.A X.stack s H C8.E0).nox bg t ∧ t { nx := fun _ H' => Q .non H', rt := Q } (L2.start Ng [.ref f]) H
/-- what the reading of x(lambda: ..) asks: where the maker's code object is known (Pre), the tables, before and behind -/
def tLamT (mg : Str → Option Value) (Pre : Hp → Prop) (P : Addr) (q : Str) (qs : List Str) (TT : (XK → Hp → VK → Prop) → Hp → VK → Prop) (t : XK → TE) : TE := fun σ H Q => Pre H ∧ TabD mg (q :: qs) H P ∧
  ∀ H1, Grow P H H1 → TabD mg (q :: qs) H1 P → TT (fun E H' Q' => t E σ H' Q') H1 Q
section
variable {X : Cx}
theorem pe_lamT {Pre : Hp → Prop} {qs : List Str} {TT : (XK → Hp → VK → Prop) → Hp → VK → Prop} {x a : Str} {g c P : Addr} {lv : Nat} {pg : Arguments} {bg : List Stmt} {sg : Scope} {dV kV doc pm cdv ct oc : Value} {an od : Option Addr} {osl : Array (Option Value)} {Ng : List Str}
    {params : Arguments} {body : Expr} {scope : Scope} {t : XK → TE} {p lpos pos : Pos} (hg : Gl X x) (hm : X.mg x = some (.ref g)) (hk : keepIn X.K (.ref g) = true)
    (lk : X.K.lookup g = some ⟨oc, od, .func (fnOf x x pg bg sg dV kV doc pm an cdv ct), osl⟩) (hcg : codeIn X.K cdv x = true) (hb : L2.Binds X.K (fnOf x x pg bg sg dV kV doc pm an cdv ct) [a] []) (Sg : FnScope Ng [a] sg) (hNg : Ng[0]? = some a) (hva : Vis sg a)
    (hG : GivesT X Ng x sg g cdv bg a (X.env.qual ++ "<lambda>") TT)
    (src : ∀ pins σ H s, Inv X pins σ H s → Pre H → CodeHd s.heap c P ∧ s.heap.BuiltinsAt X.mg P ∧ mainGlobals ≠ P) (hcode : X.env.code = .ref c) (stab : ∀ H H1 Y, (∃ ps, H P = some (.tbl ps)) → Grow P H H1 → Y ≠ P → TabD X.mg qs H Y → TabD X.mg qs H1 Y) (hr : Room (lv + 2) X.A) (L : LamX.LamS X.env.scope scope) (hdef : defaultsOf params X.env = ([], []))
    (hbind : ∀ (q : Str) (cl : List (Str × Addr)) (pm cv ctv : Value), bindArgs (kla_fn "<lambda>" q params body scope cl pm cv ctv) ⟨[], []⟩ = pure [])
    (hbody : ∀ (A : Around) (outer : List Env) (s : Shared) (H : Hp) (E : XK) (f c2 : Addr), Room lv (A.deeper (LamX.lamEnv X scope s.heap.objs.size f c2)) → PE (LamX.lamCx X A outer s H E scope f c2) body (t E))
    (hdb : (x == ("__debug__" : Str)) = false := by decide) (hd : (a == ("__debug__" : Str)) = false := by decide) (hcd : (a == ("__classdict__" : Str)) = false := by decide) :
    PE X (.Call (.Name x p) [.Lambda params body scope lpos] [] pos) (tLamT X.mg Pre P (X.env.qual ++ "<lambda>") qs TT t) := by
  refine ⟨fun pins s σ H Q I ⟨hpre, hT, h⟩ => ?_⟩
  obtain ⟨sC, sB, sP⟩ := src pins σ H s I hpre
  have htb : ∃ ps, H P = some (.tbl ps) := by
    obtain ⟨ps, h1, _⟩ := hT
    exact ⟨ps, h1⟩
  refine wpAny_Call_Name_kw (ld_glob I hg hm ?_ hdb)
  refine callWith_K (h₀ := X.base) I.ok.mod.kin hk ?_ (by rfl) (by rfl)
  show wpAny _ _ (spliced ((false, eval (.Lambda params body scope lpos) X.env) :: backTo pos (starEach [] X.env))) _ _ s
  refine Calls.spliced_cons (lam_makeT I sC sP sB hcode hT (fun H1 Y => stab H H1 Y htb) hdef (L.has I.ok) fun f c2 P2 pm2 ctv H1 s1 I1 gr T1 hf hfn hfr hco _ _ _ => ?_)
  refine Calls.spliced_nil ⟨I1.kIn, ?_⟩
  have run : codeAny (model X.prog X.w) X.A (.call (.ref g) ⟨[.ref f], []⟩) (CR C8.CX0 X.stack X.prog X.w H1 s1 Q C8.E0) s1 := by
    refine LamX.run_ofS (N := Ng) (ps := [a]) (us := [.ref f]) (vs := [.ref f]) lk hcg Sg hr I1.env0 (hb s1 [.ref f] I1.kIn rfl) (.cons rfl .nil) rfl fun hr2 => ?_
    obtain ⟨t2, ht2, hq2⟩ := hG f c2 P2 s1 H1 Q (fun E H' Q' => t E σ H' Q') (fun W pn xe E p1 p2 tk hW => pe_actT (i := 0) I1 L hf hfn hfr (hbind _ _ _ _ _) tk hW hr2 (fun A outer s H hr3 => hbody A outer s H E f c2 hr3) hNg hva hd hcd) hco (h H1 gr T1)
    exact ⟨t2, ht2.nox, hq2⟩
  refine wpAny_call (codeAny_mono run fun r s2 hq => ?_)
  match r, hq with
  | .error e, hq => exact (show False from hq).elim
  | .ok (.ret u), hq => exact I1.after hq
  | .ok .next, hq => exact False.elim hq
  | .ok .brk, hq => exact False.elim hq
  | .ok .cont, hq => exact False.elim hq
end
/-! ### a lambda with parameters, that captures nothing of the def around it -/
theorem run_lam {CX : CXT} {P : Program} {w : World} {K : Frag} {mg : Str → Option Value} {base : Heap} {lv : Nat} {f c2 : Addr} {qual : Str} {params : Arguments} {body : Expr} {scope : Scope} {pm ctv : Value} {N ps : List Str} {tb : TE} {A : Around} {outer : List Env} {s : Shared} {H : Hp} {us : List Value} {vs : List V} {Q : VK} {E : XK}
    (of1 : s.heap.get? f = some (kla_obj "<lambda>" qual params body scope [] pm c2 ctv)) (cr : s.heap.CodeRec (.ref c2) qual) (S : FnScope N ps scope) (hr : Room (lv + 1) A) (e0 : Env0 P w K mg base A outer s H)
    (hbind : bindArgs (kla_fn "<lambda>" qual params body scope [] pm (.ref c2) ctv) ⟨us, []⟩ = pure (ps.zip us)) (r : Vals vs us) (hl : vs.length = ps.length)
    (hbody : Room lv (A.deeper (envOfC qual scope s.heap.objs.size f (.ref c2))) → PE (cxOf CX P w K mg base N qual scope f (.ref c2) A outer s H E) body tb) (h : tb (L2.start N vs) H Q) :
    codeAny (model P w) A (.call (.ref f) ⟨us, []⟩) (CR CX outer P w H s Q E) s := by
  have lim : s.heap.NoLimit := e0.mod.nolimit.keeps fun b o e => (e0.bs b o e).1
  have hkind : ∀ y ∈ ps.zip us, scope.names.lookup y.1 = some .local ∨ (scope.names.lookup y.1 = some .cell ∧ ((cellsFrom (s.heap.objs.size + 1) scope.names []).lookup y.1).isSome = true) := fun y hy =>
    (S.par y.1 (List.of_mem_zip (a := y.1) (b := y.2) hy).1).elim .inl fun z => .inr ⟨z, cellsFrom_some _ _ _ (.inl z)⟩
  refine kla_callFunE hr.depth of1 rfl S.co S.gen rfl cr ?_
  rw [hbind]
  refine wpAny_pure (wpAny_newFunctionEnv_cells S.kind hkind fun env he s1 x => ?_)
  subst he
  have J : Inv (cxOf CX P w K mg base N qual scope f (.ref c2) A outer s H E) [] (L2.start N vs) H s1 := inv_start S hr.hd e0 hl r x
  refine ⟨lim.keeps x.toInCall.keep, kla_codeExpr (wpAny_mono ((hbody (hr.deeper _)).run [] s1 _ H Q J h) (fun v s' ⟨w', H', J', rv, q⟩ => ⟨w', H', J'.os, J'.bare, J'.base, J'.hok, rv, q⟩) fun e s' hq => hq)⟩
section
variable {X : Cx} {pins : List (Addr × Obj)} {σ : L2.St} {H : Hp} {s : Shared}
/-- a(e), in the def that got such a lambda -/
theorem pe_act1 {CXg : CXT} {Eg : XK} {Ng : List Str} {qg : Str} {sg : Scope} {g f c2 P2 : Addr} {cdg pm ctv : Value} {qual : Str} {params : Arguments} {body e : Expr} {scope : Scope} {lv i : Nat} {a b : Str} {N : List Str} {te tb : TE} {p1 p2 : Pos}
    (I : Inv X pins σ H s) (hf : s.heap.get? f = some (kla_obj "<lambda>" qual params body scope [] pm c2 ctv)) (hfn : H f = none) (hfr : f ∉ frs X.stack) (S : FnScope N [b] scope)
    (hbind : ∀ u : Value, bindArgs (kla_fn "<lambda>" qual params body scope [] pm (.ref c2) ctv) ⟨[u], []⟩ = pure [(b, u)]) (hr : Room (lv + 1) (X.A.deeper (envOfC qg sg s.heap.objs.size g cdg)))
    (he : PE (cxOf CXg X.prog X.w X.K X.mg X.base Ng qg sg g cdg X.A X.stack s H Eg) e te)
    (hbody : ∀ (A : Around) (outer : List Env) (s : Shared) (H : Hp), Room lv (A.deeper (envOfC qual scope s.heap.objs.size f (.ref c2))) → PE (cxOf C8.CX0 X.prog X.w X.K X.mg X.base N qual scope f (.ref c2) A outer s H C8.E0) body tb)
    (hN : Ng[i]? = some a) (hv : Vis sg a) (hd : (a == ("__debug__" : Str)) = false := by decide) (hcd : (a == ("__classdict__" : Str)) = false := by decide)
    (hs : starEach [e] (cxOf CXg X.prog X.w X.K X.mg X.base Ng qg sg g cdg X.A X.stack s H Eg).env = (false, eval e (cxOf CXg X.prog X.w X.K X.mg X.base Ng qg sg g cdg X.A X.stack s H Eg).env) :: starEach [] (cxOf CXg X.prog X.w X.K X.mg X.base Ng qg sg g cdg X.A X.stack s H Eg).env := by rfl) :
    PE (cxOf CXg X.prog X.w X.K X.mg X.base Ng qg sg g cdg X.A X.stack s H Eg) (.Call (.Name a p1) [e] [] p2)
      (fun σZ HZ Q => σZ[i]? = some (some (.ref f)) ∧ te σZ HZ fun v H1 => H1 c2 = some (CodeT c2 qual P2) ∧ tb (L2.start N [v]) H1 Q) := by
  refine ⟨fun pz sz σz Hz Q Iz ⟨h1, h2⟩ => ?_⟩
  have hvar := (pe_var (pos := p1) (i := i) hN hv hd hcd).run pz sz σz Hz (fun v H1 => v = .ref f ∧ H1 = Hz) Iz ⟨.ref f, h1, rfl, rfl⟩
  refine wpAny_Call_Name_kw (thn hvar fun u s1 ⟨v, H1, I1, r1, ev, eH⟩ => ?_)
  subst ev eH
  obtain rfl : u = Value.ref f := r1
  have at_ : ∀ {s2 : Shared} {H2 : Hp}, Inv (cxOf CXg X.prog X.w X.K X.mg X.base Ng qg sg g cdg X.A X.stack s H Eg) pz σz H2 s2 → s2.heap.get? f = some (kla_obj "<lambda>" qual params body scope [] pm c2 ctv) := fun {s2 H2} I2 =>
    I2.base.keep f _ hf hfn hfr (fun z => nomatch (show f ∈ ([] : List Addr) from z))
  have hpa := (pa_cons he pa_nil hs).run p2 pz s1 σz H1 (fun vs H2 => match vs with
    | [v] => H2 c2 = some (CodeT c2 qual P2) ∧ tb (L2.start N [v]) H2 Q
    | _ => False) I1
  refine callWith_F ⟨_, _, _, _, at_ I1⟩ (thn (hpa h2) fun us s2 ⟨vs, H2, I2, r, hm⟩ => ⟨⟨_, _, _, _, at_ I2⟩, ?_⟩) hs rfl
  match vs, r, hm with
  | [v], r, ⟨hc, hq⟩ =>
    obtain ⟨⟨cr, _⟩, _, _⟩ := I2.hok c2 _ hc
    have hus : ∃ u, us = [u] := by
      cases r with
      | cons r1 rr =>
        cases rr
        exact ⟨_, rfl⟩
    obtain ⟨u, rfl⟩ := hus
    have run := run_lam (CX := C8.CX0) (E := C8.E0) (Q := Q) (at_ I2) cr S hr I2.env0 (hbind u) r rfl (fun hr2 => hbody _ _ s2 H2 hr2) hq
    refine wpAny_call (codeAny_mono run fun r s' hq => ?_)
    match r, hq with
    | .error e, hq => exact (show False from hq).elim
    | .ok (.ret u), hq => exact I2.after hq
    | .ok .next, hq => exact False.elim hq
    | .ok .brk, hq => exact False.elim hq
    | .ok .cont, hq => exact False.elim hq
end
/-- the def that calls what it got with one thing; TT: what it makes of the reading -/
def GivesT1 (X : Cx) (Ng : List Str) (x : Str) (sg : Scope) (g : Addr) (cdg : Value) (bg : List Stmt) (a : Str) (q : Str) (TT : Addr → Addr → (V → Hp → VK → Prop) → Hp → VK → Prop) : Prop :=
  ∀ (f c2 P2 : Addr) (s : Shared) (H : Hp) (Q : VK) (tl : V → Hp → VK → Prop),
    (∀ (e : Expr) (te : TE) (p1 p2 : Pos), PE (cxOf C8.CX0 X.prog X.w X.K X.mg X.base Ng x sg g cdg X.A X.stack s H C8.E0) e te →
      (starEach [e] (cxOf C8.CX0 X.prog X.w X.K X.mg X.base Ng x sg g cdg X.A X.stack s H C8.E0).env = (false, eval e (cxOf C8.CX0 X.prog X.w X.K X.mg X.base Ng x sg g cdg X.A X.stack s H C8.E0).env) :: starEach [] (cxOf C8.CX0 X.prog X.w X.K X.mg X.base Ng x sg g cdg X.A X.stack s H C8.E0).env) →
      PE (cxOf C8.CX0 X.prog X.w X.K X.mg X.base Ng x sg g cdg X.A X.stack s H C8.E0) (.Call (.Name a p1) [e] [] p2) (fun σZ HZ Q => σZ[0]? = some (some (.ref f)) ∧ te σZ HZ fun v H1 => H1 c2 = some (CodeT c2 q P2) ∧ tl v H1 Q)) →
    H c2 = some (CodeT c2 q P2) → TT c2 P2 tl H Q →
    ∃ t, PSs (cxOf C8.CX0 X.prog X.w X.K X.mg X.base Ng x sg g cdg X.A X.stack s H C8.E0) bg t ∧ t { nx := fun _ H' => Q .non H', rt := Q } (L2.start Ng [.ref f]) H
def tLamT1 (mg : Str → Option Value) (Pre : Hp → Prop) (P : Addr) (q : Str) (qs : List Str) (N : List Str) (TT : Addr → Addr → (V → Hp → VK → Prop) → Hp → VK → Prop) (tb : Addr → Addr → TE) : TE := fun _ H Q => Pre H ∧ TabD mg (q :: qs) H P ∧
  ∀ H1 c2 P2, Grow P H H1 → TabD mg (q :: qs) H1 P → P2 ≠ P → TabD mg qs H1 P2 → Good mg P2 → H1 c2 = some (CodeT c2 q P2) → TT c2 P2 (fun v H' Q' => tb c2 P2 (L2.start N [v]) H' Q') H1 Q
section
variable {X : Cx}
theorem pe_lamT1 {Pre : Hp → Prop} {qs : List Str} {TT : Addr → Addr → (V → Hp → VK → Prop) → Hp → VK → Prop} {x a b : Str} {g c P : Addr} {lv : Nat} {pg : Arguments} {bg : List Stmt} {sg : Scope} {dV kV doc pm cdv ct oc : Value} {an od : Option Addr} {osl : Array (Option Value)} {Ng N : List Str}
    {params : Arguments} {body : Expr} {scope : Scope} {tb : Addr → Addr → TE} {p lpos pos : Pos} (hg : Gl X x) (hm : X.mg x = some (.ref g)) (hk : keepIn X.K (.ref g) = true)
    (lk : X.K.lookup g = some ⟨oc, od, .func (fnOf x x pg bg sg dV kV doc pm an cdv ct), osl⟩) (hcg : codeIn X.K cdv x = true) (hb : L2.Binds X.K (fnOf x x pg bg sg dV kV doc pm an cdv ct) [a] []) (Sg : FnScope Ng [a] sg) (hNg : Ng[0]? = some a) (hva : Vis sg a)
    (hG : GivesT1 X Ng x sg g cdv bg a (X.env.qual ++ "<lambda>") TT)
    (src : ∀ pins σ H s, Inv X pins σ H s → Pre H → CodeHd s.heap c P ∧ s.heap.BuiltinsAt X.mg P ∧ mainGlobals ≠ P) (hcode : X.env.code = .ref c) (stab : ∀ H H1 Y, (∃ ps, H P = some (.tbl ps)) → Grow P H H1 → Y ≠ P → TabD X.mg qs H Y → TabD X.mg qs H1 Y) (hr : Room (lv + 2) X.A) (S : FnScope N [b] scope) (hcl : cloFrom X.env.cells scope.names [] = []) (hfree : ∀ y ∈ scope.names, y.2 ≠ .free) (hdef : defaultsOf params X.env = ([], []))
    (hbind : ∀ (q : Str) (pm cv ctv u : Value), bindArgs (kla_fn "<lambda>" q params body scope [] pm cv ctv) ⟨[u], []⟩ = pure [(b, u)])
    (hbody : ∀ (A : Around) (outer : List Env) (s : Shared) (H : Hp) (f c2 P2 : Addr), Room lv (A.deeper (envOfC (X.env.qual ++ "<lambda>") scope s.heap.objs.size f (.ref c2))) → PE (cxOf C8.CX0 X.prog X.w X.K X.mg X.base N (X.env.qual ++ "<lambda>") scope f (.ref c2) A outer s H C8.E0) body (tb c2 P2))
    (hdb : (x == ("__debug__" : Str)) = false := by decide) (hd : (a == ("__debug__" : Str)) = false := by decide) (hcd : (a == ("__classdict__" : Str)) = false := by decide) :
    PE X (.Call (.Name x p) [.Lambda params body scope lpos] [] pos) (tLamT1 X.mg Pre P (X.env.qual ++ "<lambda>") qs N TT tb) := by
  refine ⟨fun pins s σ H Q I ⟨hpre, hT, h⟩ => ?_⟩
  obtain ⟨sC, sB, sP⟩ := src pins σ H s I hpre
  have htb : ∃ ps, H P = some (.tbl ps) := by
    obtain ⟨ps, h1, _⟩ := hT
    exact ⟨ps, h1⟩
  refine wpAny_Call_Name_kw (ld_glob I hg hm ?_ hdb)
  refine callWith_K (h₀ := X.base) I.ok.mod.kin hk ?_ (by rfl) (by rfl)
  show wpAny _ _ (spliced ((false, eval (.Lambda params body scope lpos) X.env) :: backTo pos (starEach [] X.env))) _ _ s
  refine Calls.spliced_cons (lam_makeT I sC sP sB hcode hT (fun H1 Y => stab H H1 Y htb) hdef (fun y hy z => absurd z (hfree y hy)) fun f c2 P2 pm2 ctv H1 s1 I1 gr T1 hf hfn hfr hco n2 t2 gd => ?_)
  rw [hcl] at hf
  refine Calls.spliced_nil ⟨I1.kIn, ?_⟩
  have run : codeAny (model X.prog X.w) X.A (.call (.ref g) ⟨[.ref f], []⟩) (CR C8.CX0 X.stack X.prog X.w H1 s1 Q C8.E0) s1 := by
    refine LamX.run_ofS (N := Ng) (ps := [a]) (us := [.ref f]) (vs := [.ref f]) lk hcg Sg hr I1.env0 (hb s1 [.ref f] I1.kIn rfl) (.cons rfl .nil) rfl fun hr2 => ?_
    exact hG f c2 P2 s1 H1 Q (fun v H' Q' => tb c2 P2 (L2.start N [v]) H' Q') (fun e te p1 p2 he hs => pe_act1 (i := 0) (P2 := P2) I1 hf hfn hfr S (fun u => hbind _ _ _ _ u) hr2 he (fun A outer s H hr3 => hbody A outer s H f c2 P2 hr3) hNg hva hd hcd hs) hco (h H1 c2 P2 gr T1 n2 t2 gd hco)
  refine wpAny_call (codeAny_mono run fun r s2 hq => ?_)
  match r, hq with
  | .error e, hq => exact (show False from hq).elim
  | .ok (.ret u), hq => exact I1.after hq
  | .ok .next, hq => exact False.elim hq
  | .ok .brk, hq => exact False.elim hq
  | .ok .cont, hq => exact False.elim hq
end
end Lm
namespace Gd
open PySem PySem.Spec PyProof.Rows L2
/-! ### a def within one surrounding: for what asks more of it than room (repr: nothing may be under way) -/
def OkAt (P : Program) (w : World) (K : PySem.W.Frag) (mg : Str → Option Value) (base : Heap) (CX : CXT) (A : Around) (f : Addr) (fd : FuncData) (ps : List Str) (sp : Sp) : Prop :=
  ∀ (outer : List Env) (st : Shared) (H : Hp) (ar : Args) (us : List Value) (vs : List V) (Q : VK) (E : XK), Env0 P w K mg base A outer st H → BindsTo st fd ar (ps.zip us) → Vals vs us → sp vs H Q E → codeAny (model P w) A (.call (.ref f) ar) (CR CX outer P w H st Q E) st
section
variable {P : Program} {w : World} {K : PySem.W.Frag} {mg : Str → Option Value} {base : Heap} {CX : CXT} {A : Around}
theorem okAt_of {k : Nat} {f : Addr} {fd : FuncData} {ps : List Str} {sp : Sp} (F : FnOk P w K mg base CX k f fd ps sp) (hr : Room k A) : OkAt P w K mg base CX A f fd ps sp := fun outer st H ar us vs Q E e0 hb r h => F.run A outer st H ar us vs Q E hr e0 hb r h
/-- a def whose body is read in this surrounding -/
theorem okAt_def {x qual : Str} {params : Arguments} {body : List Stmt} {scope : Scope} {dvs : List V} {kws : List (Str × V)} {f c : Addr} {fd : FuncData} {N ps : List Str} {k : Nat} {sp : Sp} (F : FunD K x qual params body scope dvs kws f fd) (hc : fd.code = .ref c) (S : FnScope N ps scope) (hr : Room (k + 1) A)
    (len : ∀ vs H Q E, sp vs H Q E → vs.length = ps.length)
    (go : ∀ (outer : List Env) (st : Shared) (H : Hp) (vs : List V) (Q : VK) (E : XK), Room k (A.deeper (envOfC qual scope st.heap.objs.size f (.ref c))) → sp vs H Q E → ∃ t, PSs (cxOf CX P w K mg base N qual scope f (.ref c) A outer st H E) body t ∧ t { nx := fun _ H' => Q .non H', rt := Q } (L2.start N vs) H) :
    OkAt P w K mg base CX A f fd ps sp := by
  obtain ⟨oc, od, dV, kV, doc, pm, an, cdv, ct, osl, rfl, lk, hcd, _, _⟩ := F.ex
  obtain rfl : cdv = .ref c := hc
  exact fun outer st H ar us vs Q E e0 hb r h => LamX.run_ofS lk hcd S hr e0 hb r (len _ _ _ _ h) fun hr2 => go outer st H vs Q E hr2 h
end
/-! ### such a def called -/
section
variable {X : Cx} {CX : CXT} {k i : Nat} {f : Addr} {fd : FuncData} {ps : List Str} {sp : Sp} {E : XK} {x : Str} {p pos : Pos} {e : Expr} {es : List Expr} {t : TA}
def tCallO (sp : Sp) (E : XK) (t : TA) : TE := fun σ H Q => t σ H fun vs H1 => vs.length = vs.length ∧ sp vs H1 Q E
theorem pe_callO (F : OkAt X.prog X.w X.K X.mg X.base CX X.A f fd ps sp) (len : ∀ vs H Q E, sp vs H Q E → vs.length = ps.length) (hg : Gl X x) (hm : X.mg x = some (.ref f)) (hk : PySem.W.keepIn X.K (.ref f) = true) (hb : L2.Binds X.K fd ps []) (hx : Passes CX X E) (ha : PA X (e :: es) t)
    (hdb : (x == ("__debug__" : Str)) = false := by decide) (he : starEach (e :: es) X.env = (false, eval e X.env) :: starEach es X.env := by rfl) (hpl : (backTo pos (starEach es X.env)).any (·.1) = false := by rfl) : PE X (.Call (.Name x p) (e :: es) [] pos) (tCallO sp E t) := by
  refine ⟨fun pins st σ H Q I h => ?_⟩
  refine wpAny_Call_Name_kw (ld_glob I hg hm ?_ hdb)
  refine PySem.W.callWith_K (h₀ := X.base) I.ok.mod.kin hk (thn (ha.run pos pins st σ H _ I h) fun us s1 ⟨vs, H1, I1, r, _, q⟩ => ⟨I1.kIn, ?_⟩) he hpl
  have hl : us.length = ps.length := (Paired.length r).symm.trans (len _ _ _ _ q)
  have b := hb s1 us I1.kIn (by rw [List.append_nil]; exact hl)
  rw [List.append_nil] at b
  refine wpAny_call (codeAny_mono (F X.stack s1 H1 ⟨us, []⟩ us vs Q E I1.env0 b r q) fun z s' hq => ?_)
  match z, hq with
  | .error er, hq => exact hx pins σ H1 s1 er s' I1 hq
  | .ok (.ret u), hq => exact I1.after hq
  | .ok .next, hq => exact False.elim hq
  | .ok .brk, hq => exact False.elim hq
  | .ok .cont, hq => exact False.elim hq
end
/-! ### repr of what stands as data -/
section
variable {X : Cx}
/-- data, dicts with text keys too; not the table of modules -/
inductive Dq (K : PySem.W.Frag) (H : Hp) : V → PyData → Prop
  | dp {v : V} {d : PyData} (h : Dp K H v d) (nd : d.hasDict = false) : Dq K H v d
theorem call_repr (hg : X.A.guards = some []) (hu : X.A.units + 100 < cLine) : CallR X (.builtin "repr") (fun xs H Q => ∃ (a : Addr) (d : PyData), xs = [.ref a] ∧ Dp X.K H (.ref a) d ∧ d.hasDict = false ∧ d.showable = true ∧ d.depth ≤ 50 ∧ d.shown.length ≤ sizeLine ∧ Q (.str d.shown) H) := by
  intro pins st σ H xs us Q I r ⟨a, d, e, hd, nd, hs, hdp, hz, q⟩
  subst e
  match us, r with
  | [u], .cons ru .nil =>
    obtain rfl : u = Value.ref a := ru
    obtain ⟨as, rd⟩ := Dp.reads I d _ _ hd (show RelV (.ref a) (.ref a) from rfl)
    refine PySem.repr_of_reads' (h₀ := st.heap) rd hs (fun z => by rw [nd] at z; cases z) hg (by omega) (fun _ _ e => e) (fun h' u tk k => ?_) hz
    exact ⟨.str d.shown, H, I.kept k, ⟨u, rfl⟩, q⟩
end
end Gd
namespace Ek
open PySem PySem.W PySem.Calls PyProof.Rows PySem.HandSPX
/-! ### an own error class, called with keywords -/
section
variable {M : Model} {A : Around} {E : Value → Shared → Prop} {hp : Heap} {gs : Array GenState} {dr : Drawn} {tk : Nat} {os : OsState}
variable {nm qn : Str} {C N : Addr} {bs bm bmB : List Value} {hd : Bool} {sn : List Str} {sub : List Value} {ab : Bool} {col : Option Bool} {dd : Option Addr} {k0 k1 k2 k3 k5 : Option Value} {B nid iid : String}
theorem check_new_kw (F : ExcBaseFacts B nid iid bmB) (hT : ∀ Y : String, bm.contains (.type Y) = bmB.contains (.type Y)) {us : List Value} {kw : List (Str × Value)} {Q : Unit → Shared → Prop}
    (oC : hp.get? C = some (excClassObj nm qn C N bs bm hd sn sub ab col dd k0 k1 k2 k3 k5 nid)) (q : Q () ⟨hp, gs, dr, tk, os⟩) : wpAny M A (checkBuiltinCall nid ⟨.ref C :: us, kw⟩) Q E ⟨hp, gs, dr, tk, os⟩ := by
  have inB : (Value.ref C :: bm).contains (.type B) = true := by rw [List.contains_cons, hT, F.hasB, Bool.or_true]
  have st := F.noStar
  simp only [checkBuiltinCall, F.newKind, F.newSplit, F.newRow]
  repeat (first | refine wpAny_loadPart_at oC ?_ | (refine wpAny_isSubtype_exc oC ?_; rw [inB]) | refine wpAny_staticBase_exc oC ?_ | refine wpAny_madeBy_exc oC ?_ | simp only [bne_self_eq_false, Bool.false_eq_true, if_false] | wp_step)
  exact q
theorem check_type_kw {us : List Value} {kw : List (Str × Value)} {nid : String} {Q : Unit → Shared → Prop} (oC : hp.get? C = some (excClassObj nm qn C N bs bm hd sn sub ab col dd k0 k1 k2 k3 k5 nid))
    (q : Q () ⟨hp, gs, dr, tk, os⟩) : wpAny M A (checkBuiltinCall "type.__call__" ⟨.ref C :: us, kw⟩) Q E ⟨hp, gs, dr, tk, os⟩ := by
  have g3 := tc_sub
  have ty : (⟨hp, gs, dr, tk, os⟩ : Shared).TypeIs (.ref C) "type" := ⟨_, oC, rfl⟩
  simp only [checkBuiltinCall, tc_kind, tc_split]
  repeat (any_goals (first | assumption | with_reducible refine wpAny_loadPart_at oC ?_ | with_reducible refine wpAny_onRaise ?_ | with_reducible refine wpAny_map ?_ | wp_step))
end
section
variable {prog : Program} {w : World} {A : Around} {E : Value → Shared → Prop} {R : Result → Shared → Prop} {hp : Heap} {gs : Array GenState} {dr : Drawn} {tk : Nat} {os : OsState}
variable {nm qn : Str} {C N : Addr} {bs bm bmB : List Value} {hd : Bool} {sn : List Str} {sub : List Value} {ab : Bool} {col : Option Bool} {dd : Option Addr} {k0 k1 k2 k3 k5 : Option Value} {B nid iid : String}
theorem new_kw (F : ExcBaseFacts B nid iid bmB) (hT : ∀ Y : String, bm.contains (.type Y) = bmB.contains (.type Y)) {us : List Value} {kw : List (Str × Value)}
    (oC : hp.get? C = some (excClassObj nm qn C N bs bm hd sn sub ab col dd k0 k1 k2 k3 k5 nid))
    (q : R (.ok (.ret (.ref (hp.objs.size + 1)))) ⟨(hp.push (kdv_tup us)).push (excO C hp.objs.size), gs, dr, tk, os⟩) (hz : us.length ≤ sizeLine) :
    codeAny (model prog w) A (.builtin nid ⟨.ref C :: us, kw⟩) R ⟨hp, gs, dr, tk, os⟩ := by
  have e1 := F.ends
  have inB : (Value.ref C :: bm).contains (.type B) = true := by rw [List.contains_cons, hT, F.hasB, Bool.or_true]
  have noA : (Value.ref C :: bm).contains (.type "AttributeError") = false := by rw [List.contains_cons, hT, F.noAttr]; rfl
  have noN : (Value.ref C :: bm).contains (.type "NameError") = false := by rw [List.contains_cons, hT, F.noName]; rfl
  refine codeAny_builtinAt F.entry ?_
  unfold Builtin.«BaseException.__new__» <;> refine PySem.wpAt_bind ?_
  show PySem.wpAt _ _ _ (stack >>= _) _ _ _
  refine PySem.wpAt_bind (PySem.wpAt_stack fun _ _ => PySem.wpAt_of_wpAny ?_)
  wp_walk
  refine PySem.wpAt_of_wpAny ?_ <;> rw [F.owner]
  repeat (first | with_reducible refine wpAny_madeHere_exc F.canon oC ?_ | with_reducible refine wpAny_loadPart_at oC ?_ | (with_reducible refine wpAny_isSubtype_exc oC ?_; first | rw [inB] | rw [noA] | rw [noN]) | wp_step)
  show R _ _
  rw [Heap.size_push]
  exact q
theorem type_call_kw (F : ExcBaseFacts B nid iid bmB) (hT : ∀ Y : String, bm.contains (.type Y) = bmB.contains (.type Y)) {us : List Value} {kw : List (Str × Value)} {fI : Addr} {Q : Fin → Shared → Prop}
    (oC : hp.get? C = some (excClassObj nm qn C N bs bm hd sn sub ab col dd k0 k1 k2 k3 k5 nid))
    (hi : W.Looks (model prog w) hp (typeLookup (.ref C) "__init__") (some (.ref fI))) (hb : ∀ me, W.Looks (model prog w) hp (bindSpecial (.ref fI) me) (.ref fI, [me])) (hz : us.length ≤ sizeLine)
    (q : codeAny (model prog w) A (.call (.ref fI) ⟨.ref (hp.objs.size + 1) :: us, kw⟩)
      (fun r s' => match r with | .ok (.ret v) => v = .none ∧ Q (.done (.ret (.ref (hp.objs.size + 1)))) s' | .ok _ => False | .error e => E e s') ⟨(hp.push (kdv_tup us)).push (excO C hp.objs.size), gs, dr, tk, os⟩) :
    wpAny (model prog w) A (Builtin.«type.__call__» ⟨.ref C :: us, kw⟩) Q E ⟨hp, gs, dr, tk, os⟩ := by
  repeat (first | with_reducible refine wpAny_loadPart_at oC ?_ | with_reducible refine wpAny_madeBy_exc oC ?_ | wp_step)
  refine codeAny_call_builtin_code (Code.quiet_builtin _ F.quiet) (check_new_kw F hT oC ?_) <;> refine new_kw F hT oC ?_ hz
  show wpAny _ _ _ _ _ _
  have up : ∀ b o, hp.get? b = some o → ((hp.push (kdv_tup us)).push (excO C hp.objs.size)).get? b = some o := fun b o e => Heap.get?_push_of_some _ (Heap.get?_push_of_some _ e)
  have oC2 := up _ _ oC
  have oE : ((hp.push (kdv_tup us)).push (excO C hp.objs.size)).get? (hp.objs.size + 1) = some (excO C hp.objs.size) := by heap_get
  have me : (Value.ref C :: bm).contains (.ref C) = true := by simp
  have i2 := hi.keeps up
  have b2 := (hb (.ref (hp.objs.size + 1))).keeps up
  unfold isInstance
  repeat (first | with_reducible refine wpAny_loadPart_at oE ?_ | (with_reducible refine wpAny_isSubtype_exc oC2 ?_; rw [me]) | wp_step)
  show wpAny _ _ (typeLookup (.ref C) _) _ _ _
  refine i2.at (wpAny_holding (wpAny_bind (b2.at (wpAny_bind (wpAny_call (codeAny_mono q fun r s' z => ?_))))))
  rcases r with e | (v | _ | _ | _) <;> first | exact z | exact z.elim | skip
  obtain ⟨rfl, z2⟩ := z
  first | exact wpAny_pure (wpAny_pure z2) | (wp_walk; exact z2)
theorem call_kw (F : ExcBaseFacts B nid iid bmB) (hT : ∀ Y : String, bm.contains (.type Y) = bmB.contains (.type Y)) {us : List Value} {kw : List (Str × Value)} {fI : Addr}
    (oC : hp.get? C = some (excClassObj nm qn C N bs bm hd sn sub ab col dd k0 k1 k2 k3 k5 nid))
    (hi : W.Looks (model prog w) hp (typeLookup (.ref C) "__init__") (some (.ref fI))) (hb : ∀ me, W.Looks (model prog w) hp (bindSpecial (.ref fI) me) (.ref fI, [me])) (hz : us.length ≤ sizeLine)
    (q : codeAny (model prog w) (A.under (.builtin "type.__call__" ⟨.ref C :: us, kw⟩)) (.call (.ref fI) ⟨.ref (hp.objs.size + 1) :: us, kw⟩) (W.InitBack (hp.objs.size + 1) R) ⟨(hp.push (kdv_tup us)).push (excO C hp.objs.size), gs, dr, tk, os⟩) :
    codeAny (model prog w) A (.call (.ref C) ⟨us, kw⟩) R ⟨hp, gs, dr, tk, os⟩ := by
  have g1 := tc_lookup
  have g2 := tc_bind (.ref C)
  have ty : (⟨hp, gs, dr, tk, os⟩ : Shared).TypeIs (.ref C) "type" := ⟨_, oC, rfl⟩
  refine codeAny_of_tree (show wpAny _ _ (callAny (.ref C) _) _ _ _ from ?_)
  repeat (any_goals (first | assumption | with_reducible refine wpAny_loadPart_at oC ?_ | wp_step))
  refine ⟨rfl, codeAny_call_builtin_at (Code.quiet_builtin _ (by decide +kernel)) entry_typeCall ?_⟩
  refine check_type_kw oC (type_call_kw F hT oC hi hb hz (codeAny_mono q fun r s' z => ?_))
  rcases r with e | (v | _ | _ | _) <;> exact z
end
/-! ### what __class__ tells of such an error, its dict there or not -/
section
variable {prog : Program} {w : World} {A : Around} {E : Value → Shared → Prop} {st : Shared} {K : Frag} {e D : Addr} {oe : Obj} {od : Option Obj}
/-- what the class must say -/
structure ClsE (K : Frag) (D : Addr) : Prop where
  ga : findIn K (.ref D) "__getattribute__" = some (some (.builtin "BaseException.__getattribute__"))
  gg : findIn K (.ref D) "__getattr__" = some none
  be : subIn K (.ref D) (.type "BaseException") = some true
  dc : hasDictIn K D = true
  cc : findIn K (.ref D) "__class__" = some (some (.builtin "object.__class__"))
  cg : specialIn K (.builtin "object.__class__") "__get__" = some (some (.builtin "getset_descriptor.__get__"))
  ct : takesIn K (.builtin "object.__class__") = some true
  ob : mroIn K D (.type "object") = some true
theorem find_class (C : ClsE K D) : findObj K D od "__class__" = some (.bind (.builtin "getset_descriptor.__get__") (.builtin "object.__class__")) := by
  obtain ⟨cd, h, _⟩ := any_some C.dc
  unfold findObj
  rw [h, Option.bind_some, C.cc, Option.bind_some]
  simp [C.cg, C.ct]
theorem class_told {Q : Option Value → Shared → Prop} (C : ClsE K D) (X : K.In st.heap) (I : InstAt st.heap e oe D od) (q : Q (some (.ref D)) { st with toks := st.toks + 1 }) : wpAny (model prog w) A (getAttr? (.ref e) "__class__") Q E st := by
  have hf := find_class (od := od) C
  obtain ⟨hp, gs, dr, tk, os⟩ := st
  have T0 := I.type (M := model prog w)
  have T1 := looks_findIn (M := model prog w) X C.ga
  have T2 := looks_findIn (M := model prog w) X C.gg
  have T3 := looks_find (M := model prog w) X I hf
  have T4 : Looks (model prog w) hp (isInstance (.ref e) (.type "BaseException")) true := T0.andThen (looks_subIn X C.be)
  have n1 : (Value.builtin "BaseException.__getattribute__" == Value.builtin "object.__getattribute__") = false := by decide +kernel
  have n2 : (onTheHeap (Value.ref D) && Value.builtin "BaseException.__getattribute__" == Value.builtin "object.__getattribute__") = false := by rw [n1]; rfl
  unfold getAttr? getAttrBy? getAttrBy
  refine wpAny_bind (wpAny_mkText (wpAny_bind (wpAny_attempt (wpAny_holding (wpAny_bind (T0.at (wpAny_bind (T1.at ?_))))))))
  refine (show wpAny _ _ (if (onTheHeap (Value.ref D) && Value.builtin "BaseException.__getattribute__" == Value.builtin "object.__getattribute__") = true then _ else _) _ _ _ from ?_)
  rw [n2, if_neg Bool.false_ne_true]
  unfold getAttrByItsOwn hookBefore
  refine wpAny_bind ?_
  rw [if_pos (show onTheHeap (Value.ref D) = true from rfl)]
  refine T2.at (wpAny_bind (wpAny_attempt (wpAny_holding ?_)))
  unfold callGetattribute
  rw [show (false && onTheHeap (Value.builtin "BaseException.__getattribute__")) = false from rfl, if_neg Bool.false_ne_true]
  unfold boundAndCalled
  rw [PySem.F.excAttr_ValueError.ga.bind (.ref e)]
  refine wpAny_bind (wpAny_pure (show wpAny _ _ (call (.builtin "BaseException.__getattribute__") [.ref e, .str "__class__" tk]) _ _ _ from ?_))
  refine wpAny_call (codeAny_call_builtin PySem.F.excAttr_ValueError.ga.plain PySem.F.entry_bexc_ga (@check_slot (model prog w) _ _ ⟨hp, gs, dr, tk + 1, os⟩ "BaseException.__getattribute__" "BaseException" "__getattribute__" (.ref e) [.str "__class__" tk] [] _ (by decide +kernel) (by decide +kernel) T4 (PySem.F.args_bexc_ga (.ref e) (.str "__class__" tk)) ?_))
  unfold Builtin.«object.__getattribute__» <;> refine wpAny_bind (wpAny_of_eq (a := ((Value.ref e : Value), [Value.str "__class__" tk])) (by first | rfl | (simp only [slotArgs]; rfl)) ?_)
  refine wpAny_bind (wpAny_pure (wpAny_bind (T0.at (wpAny_bind (T3.at ?_)))))
  refine (show wpAny _ _ (holding [Value.builtin "object.__class__"] (call (.builtin "getset_descriptor.__get__") [.builtin "object.__class__", .ref e, .ref D]) >>= ret) _ _ _ from ?_)
  refine wpAny_bind (wpAny_holding (wpAny_call (class_get (s := ⟨hp, gs, dr, tk + 1, os⟩) (ox := oe) (od := od) X I C.ob (wpAny_pure ?_))))
  refine (show wpAny _ _ (handedOut (.ref D)) _ _ _ from ?_)
  rw [handedOut_of (v := .ref D) rfl]
  first
    | exact wpAny_pure (wpAny_pure q)
    | exact wpAny_pure (wpAny_bind (wpAny_pure (wpAny_pure q)))
    | exact wpAny_pure q
theorem isE_kit (C : ClsE K D) : KitX K (.ref e) (.ref D) (fun h => InstAt h e oe D od) := by
  have cls_at : ∀ {h : Heap}, K.In h → ∃ dd cd sl, h.get? D = some ⟨.type "type", dd, .cls cd, sl⟩ ∨ ∃ oc, h.get? D = some ⟨oc, dd, .cls cd, sl⟩ := fun {h} X => by
    obtain ⟨cd, z, _⟩ := any_some C.dc
    unfold clsIn at z
    split at z
    · rename_i oc dd cd2 sl ho
      exact ⟨dd, cd2, sl, .inr ⟨oc, X _ _ ho⟩⟩
    · cases z
  refine ⟨fun _ _ _ I => I.type, fun _ h X _ => ?_, fun h tp dd its n sl X htp => ?_, fun X I k => class_told C X I k⟩
  · obtain ⟨dd, cd, sl, z⟩ := cls_at X
    intro A' Q' E' s' k q
    unfold isType loadHead
    rcases z with z | ⟨oc, z⟩
    · exact wpAny_bind (wpAny_loadPart (k _ _ z) (wpAny_pure q))
    · exact wpAny_bind (wpAny_loadPart (k _ _ z) (wpAny_pure q))
  · refine Bool.eq_false_iff.mpr fun q => ?_
    have ed : D = tp := Value.ref.inj (beq_iff_eq.mp q)
    obtain ⟨dd2, cd, sl2, z⟩ := cls_at X
    rw [ed, htp] at z
    rcases z with z | ⟨oc, z⟩ <;> exact nomatch congrArg Obj.data (Option.some.inj z)
end
end Ek
namespace Ek
open PySem PySem.Spec PyProof.Rows L2
/-! ### such an error made as a value: C(e, ..), C(f = e, ..) -/
/-- how the own __init__ takes what stands after self: by place, or by these names -/
structure TakesKw (K : PySem.W.Frag) (fd : FuncData) (fs ks : List Str) : Prop where
  to : ∀ (st : Shared) (me : Value) (us ws : List Value), K.In st.heap → (us ++ ws).length = fs.length → ws.length = ks.length → BindsTo st fd ⟨me :: us, ks.zip ws⟩ ((("self" : Str) :: fs).zip (me :: (us ++ ws)))
/-- what stands behind the making: an error of the class at C at a, its dict at d -/
def Mkd (C : Addr) (H1 : Hp) (fs : List (Str × V)) (Q : VK) : Prop := ∀ a d H2, H1 a = none → H1 d = none → a ≠ d → H2 a = some (exo a C (some d)) → H2 d = some (exd d fs) → Evl.Ex H1 H2 → Q (.ref a) H2
section
variable {X : Cx} {k : Nat} {fI C : Addr} {fd : FuncData} {fs ks : List Str} {sp : Sp} {x : Str} {p pos : Pos} {kws : List Keyword} {t tk : TA}
/-- the call itself, its values at hand -/
theorem run_mk {pins : List (Addr × Obj)} {σ : L2.St} {H : Hp} {st : Shared} {Q : VK} {us ws : List Value} {vs zs : List V} (T : OexC X.K C) (iC : PySem.W.findIn X.K (.ref C) "__init__" = some (some (.ref fI))) (tI : PySem.W.typeIn X.K (.ref fI) = some (.type "function"))
    (F : FnOk X.prog X.w X.K X.mg X.base CX0 k fI fd (("self" : Str) :: fs) sp) (hr : Room (k + 1) X.A) (hb : TakesKw X.K fd fs ks) (I : Inv X pins σ H st) (r : Vals vs us) (rz : Vals zs ws) (hk : zs.length = ks.length) (hz : vs.length ≤ 1000)
    (h : ∀ a, H a = none → sp (.ref a :: (vs ++ zs)) (upd H a (exo a C none)) (fun v H2 => v = .non ∧ Q (.ref a) H2) (fun _ _ _ => False)) :
    wpAny (model X.prog X.w) X.A (call (.ref C) us (ks.zip ws)) (EP X pins σ Q) X.xe st := by
  obtain ⟨nm, qn, N, bs, bm, sn, sub, ab, col, dd, k0, k1, k2, k3, k5, oC, hbm⟩ := T.cls
  obtain ⟨hp, gs, dr, tk0, os⟩ := st
  have fr : H (hp.objs.size + 1) = none := I.hok.fresh (Nat.le_succ _)
  have q := h _ fr
  have up : ∀ b o, hp.get? b = some o → ((hp.push (PySem.W.kdv_tup us)).push (PySem.HandSPX.excO C hp.objs.size)).get? b = some o := fun b o e => Heap.get?_push_of_some _ (Heap.get?_push_of_some _ e)
  have at1 : ((hp.push (PySem.W.kdv_tup us)).push (PySem.HandSPX.excO C hp.objs.size)).get? (hp.objs.size + 1) = some (PySem.HandSPX.excO C hp.objs.size) := by heap_get
  have J : Inv X pins σ (upd H (hp.objs.size + 1) (exo (hp.objs.size + 1) C none)) ⟨(hp.push (PySem.W.kdv_tup us)).push (PySem.HandSPX.excO C hp.objs.size), gs, dr, tk0, os⟩ := I.laid (t' := tk0) up (Nat.le_succ _) (exo_ok at1)
  have rr : Vals (V.ref (hp.objs.size + 1) :: (vs ++ zs)) (Value.ref (hp.objs.size + 1) :: (us ++ ws)) := .cons rfl (r.append rz)
  have hl : (Value.ref (hp.objs.size + 1) :: (us ++ ws)).length = (("self" : Str) :: fs).length := rr.length.symm.trans (F.len _ _ _ _ q)
  have hw : ws.length = ks.length := by rw [← rz.length]; exact hk
  have hu : us.length ≤ sizeLine := by rw [← Paired.length r, sizeLine_eq]; omega
  have bd := hb.to ⟨(hp.push (PySem.W.kdv_tup us)).push (PySem.HandSPX.excO C hp.objs.size), gs, dr, tk0, os⟩ (.ref (hp.objs.size + 1)) us ws J.kIn (by simpa using hl) hw
  refine wpAny_call (call_kw PySem.F.excBase_ValueError (fun Y => PySem.HandSPX.refsVE_contains Y bm hbm) (I.kIn _ _ oC) (PySem.W.looks_findIn I.kIn iC) (fun me => PySem.W.bind_fn I.kIn me tI) hu ?_)
  refine codeAny_mono (F.run _ X.stack _ _ ⟨Value.ref (hp.objs.size + 1) :: us, ks.zip ws⟩ (Value.ref (hp.objs.size + 1) :: (us ++ ws)) _ _ (fun _ _ _ => False) (hr.make C us _) (J.env0.make C us _) bd rr q) fun z s' hq => ?_
  match z, hq with
  | .error er, hq => exact (show False from hq).elim
  | .ok .next, hq => exact False.elim hq
  | .ok .brk, hq => exact False.elim hq
  | .ok .cont, hq => exact False.elim hq
  | .ok (.ret u), hq =>
    obtain ⟨v, H2, o2, b2, un, ok2, rv, rfl, q2⟩ := hq
    exact ⟨rv, J.after ⟨.ref (hp.objs.size + 1), H2, o2, b2, un, ok2, rfl, q2⟩⟩
/-- C(e, ..) -/
def tMkV (C : Addr) (sp : Sp) (t tk : TA) : TE := fun σ H Q => t σ H fun vs H1 => tk σ H1 fun zs H2 => vs.length ≤ 1000 ∧ ∀ a, H2 a = none → sp (.ref a :: (vs ++ zs)) (upd H2 a (exo a C none)) (fun v H3 => v = .non ∧ Q (.ref a) H3) (fun _ _ _ => False)
variable {e : Expr} {es : List Expr}
theorem pe_mkV (T : OexC X.K C) (iC : PySem.W.findIn X.K (.ref C) "__init__" = some (some (.ref fI))) (tI : PySem.W.typeIn X.K (.ref fI) = some (.type "function")) (F : FnOk X.prog X.w X.K X.mg X.base CX0 k fI fd (("self" : Str) :: fs) sp) (hr : Room (k + 1) X.A)
    (hb : TakesKw X.K fd fs []) (hg : Gl X x) (hm : X.mg x = some (.ref C)) (ha : PA X (e :: es) t) (hdb : (x == ("__debug__" : Str)) = false := by decide) (he : starEach (e :: es) X.env = (false, eval e X.env) :: starEach es X.env := by rfl) (hpl : (backTo pos (starEach es X.env)).any (·.1) = false := by rfl) :
    PE X (.Call (.Name x p) (e :: es) [] pos) (tMkV C sp t tNil) := by
  refine ⟨fun pins st σ H Q I h => ?_⟩
  refine wpAny_Call_Name_kw (ld_glob I hg hm ?_ hdb)
  refine PySem.W.callWith_K (h₀ := X.base) I.ok.mod.kin T.kC (thn (ha.run pos pins st σ H _ I h) fun us s1 ⟨vs, H1, I1, r1, hz, q1⟩ => ⟨I1.kIn, ?_⟩) he hpl
  exact run_mk (ks := []) (ws := []) T iC tI F hr hb I1 r1 .nil rfl hz q1
theorem pe_mkK (T : OexC X.K C) (iC : PySem.W.findIn X.K (.ref C) "__init__" = some (some (.ref fI))) (tI : PySem.W.typeIn X.K (.ref fI) = some (.type "function")) (F : FnOk X.prog X.w X.K X.mg X.base CX0 k fI fd (("self" : Str) :: fs) sp) (hr : Room (k + 1) X.A)
    (hb : TakesKw X.K fd fs ks) (hg : Gl X x) (hm : X.mg x = some (.ref C)) (hkw : PK X kws tk) (hall : (backToKw pos (keywordEach kws X.env)).all (·.1.isSome) = true) (hks : (backToKw pos (keywordEach kws X.env)).filterMap (·.1) = ks)
    (hdb : (x == ("__debug__" : Str)) = false := by decide) (hpl : ((backTo pos (starEach [] X.env)).any (·.1) || (backToKw pos (keywordEach kws X.env)).any (·.1.isNone)) = false := by rfl) :
    PE X (.Call (.Name x p) [] kws pos) (fun σ H Q => tMkV C sp tNil (fun σ H Q => tk σ H fun zs H1 => zs.length = ks.length ∧ Q zs H1) σ H Q) := by
  refine ⟨fun pins st σ H Q I h => ?_⟩
  refine wpAny_Call_Name_kw (ld_glob I hg hm ?_ hdb)
  refine PySem.W.callWith_KW0 (h₀ := X.base) I.ok.mod.kin T.kC hall (thn (hkw.run pos pins st σ H _ I h) fun ws s1 ⟨zs, H1, I1, rz, hl, hz, q1⟩ => ⟨I1.kIn, ?_⟩) hpl
  rw [hks]
  exact run_mk (us := []) (vs := []) T iC tI F hr hb I1 .nil rz hl hz q1
end
/-! ### an error class without own __init__: C() -/
section
variable {X : Cx} {C : Addr} {bmB : List Value} {B nid iid : String} {x : Str} {p pos : Pos}
theorem pe_mk0 (F : ExcBaseFacts B nid iid bmB) (q : PySem.W.excIn X.K C bmB nid = true) (hg : Gl X x) (hm : X.mg x = some (.ref C)) (kC : PySem.W.keepIn X.K (.ref C) = true) (hdb : (x == ("__debug__" : Str)) = false := by decide) :
    PE X (.Call (.Name x p) [] [] pos) (fun _ H Q => ∀ a, H a = none → Q (.ref a) (upd H a (exo a C none))) := by
  refine ⟨fun pins st σ H Q I h => wpAny_Call_Name_kw (ld_glob I hg hm ?_ hdb)⟩
  refine PySem.W.callWith_K0 I.kIn kC (show wpAny _ _ (call (.ref C) []) _ _ _ from ?_)
  obtain ⟨bm, N, nm, qn, bs, hd, sn, sub, ab, col, dd, k0, k1, k2, k3, k5, mN, oC, hN, hni, T⟩ := exc_obj I.kIn q
  refine wpAny_call_exc_subT F T oC hN hni (fun h' a made => ?_) (Nat.zero_le _)
  obtain ⟨t, ht, _, _⟩ := made.there
  have fr : H a = none := I.hok.gone made.new
  exact ⟨.ref a, _, I.laidN made.keeps made.new fr (exo_ok ht), rfl, h a fr⟩
end
/-! ### a field read, isinstance -/
section
variable {X : Cx}
def tExf (K : PySem.W.Frag) (n : Str) (te : TE) : TE := fun σ H Q => te σ H fun x H1 => ∃ (a C d : Addr) (fs : List (Str × V)) (v : V), x = .ref a ∧ XfC K C ∧ PySem.W.findIn K (.ref C) n = some none ∧ H1 a = some (exo a C (some d)) ∧ H1 d = some (exd d fs) ∧ fs.lookup n = some v ∧ Q v H1
theorem inst_exo {K : PySem.W.Frag} {P : Program} {w : World} {H : Hp} {h : Heap} {a C : Addr} {d : Option Addr} (ok : HOk P w H h) (e : H a = some (exo a C d)) (hd : ∀ dx, d = some dx → ∃ fs, H dx = some (exd dx fs)) : ∃ oe od, PySem.W.InstAt h a oe C od := by
  obtain ⟨t, ho⟩ := exo_at ok e
  cases d with
  | none => exact ⟨_, none, ho, rfl, rfl, trivial⟩
  | some dx =>
    obtain ⟨fs, hdx⟩ := hd dx rfl
    obtain ⟨mA, hns, _⟩ := exd_at ok hdx
    obtain ⟨od, hod, _⟩ := lookIn_ns hns
    exact ⟨_, some od, ho, rfl, rfl, hod⟩
theorem pe_exf {e : Expr} {te : TE} {pos : Pos} {n : Str} (he : PE X e te) (hb : attributeBase e n X.env (eval e X.env) = eval e X.env := by rfl) : PE X (.Attribute e n pos) (tExf X.K n te) := by
  refine ⟨fun pins st σ H Q I h => attr_of hb (thn (he.run pins st σ H _ I h) fun u s1 ⟨x, H1, I1, rx, a, C, d, fs, v, ex, T, hno, ha, hd, hl, q⟩ => ?_)⟩
  subst ex
  obtain rfl : u = Value.ref a := rx
  obtain ⟨t, ho⟩ := exo_at I1.hok ha
  obtain ⟨mA, hns, hr⟩ := exd_at I1.hok hd
  obtain ⟨od, hod, look⟩ := lookIn_ns hns
  obtain ⟨u2, hu, ru⟩ := RelO.some_of (v := v) (o := mA n) (by rw [← hl]; exact hr n)
  have J : PySem.W.InstAt s1.heap a ({ cls := .ref C, dict := some d, data := .fields #[.ref t, .none, .none, .none, .bool false, .none] } : Obj) C (some od) := ⟨ho, rfl, rfl, hod⟩
  exact HandSPX.exc_get I1.kIn J T.ga T.gg T.exC (PySem.W.findObj_own T.hdC hno rfl (by rw [look, hu])) (handed_of ru) ⟨v, H1, I1.tok _, ru, q⟩
def rIsx (K : PySem.W.Frag) : List V → Hp → VK → Prop := fun xs H Q => ∃ (a C : Addr) (d : Option Addr) (c : V) (cv : Value) (b : Bool), xs = [.ref a, c] ∧ H a = some (exo a C d) ∧ (∀ dx, d = some dx → ∃ fs, H dx = some (exd dx fs)) ∧ ClsE K C ∧ (∀ u, RelV c u → u = cv) ∧ PySem.W.kitOne K (.ref C) cv = some b ∧ Q (.bl b) H
theorem call_isx : CallR X (.builtin "isinstance") (rIsx X.K) := by
  intro pins st σ H xs us Q I r ⟨a, C, d, c, cv, b, exs, ha, hd, hC, hcv, hk, q⟩
  subst exs
  match us, r with
  | [u1, u2], .cons r1 (.cons r2 .nil) =>
    obtain rfl : u1 = Value.ref a := r1
    obtain rfl : u2 = cv := hcv _ r2
    obtain ⟨oe, od, J⟩ := inst_exo (K := X.K) I.hok ha hd
    exact PySem.W.kia_one (isE_kit hC) I.kIn J hk (fun z => nomatch z) fun tk => ⟨.bl b, H, I.kept (t' := tk) fun _ _ z => z, rfl, q⟩
end
/-! ### what the making tells, by __init__'s promise -/
theorem rd_mk1 {C : Addr} {f : Str} {v : V} {H : Hp} {Q : VK} (h : ∀ a d H2, H a = none → H d = none → a ≠ d → H2 a = some (exo a C (some d)) → H2 d = some (exd d [(f, v)]) → Evl.Ex H H2 → Q (.ref a) H2) :
    ∀ a, H a = none → Exs.spInit C f (.ref a :: ([v] ++ [])) (upd H a (exo a C none)) (fun u H3 => u = .non ∧ Q (.ref a) H3) (fun _ _ _ => False) := fun a ha =>
  ⟨a, v, rfl, upd_same, fun dx hdx ne => ⟨rfl, by
    have hd : H dx = none := by
      rw [upd_ne ne] at hdx
      exact hdx
    refine h a dx _ ha hd (Ne.symm ne) upd_same (by rw [upd_ne ne, upd_same]) fun b o e => ?_
    rw [upd_ne (ne_of_none e ha), upd_ne (ne_of_none e hd), upd_ne (ne_of_none e ha)]
    exact e⟩⟩
end Ek
namespace Lm
open PySem PySem.W PySem.Spec PySem.Calls PyProof.Rows L2
/-! ### a lambda kept as a value: it captures nothing -/
/-- at f: such a function object, its code object at c2 -/
def LamO (f : Addr) (q : Str) (params : Arguments) (body : Expr) (scope : Scope) (c2 : Addr) : HO := .ext fun h => ∃ pm ctv, h.get? f = some (kla_obj "<lambda>" q params body scope [] pm c2 ctv)
theorem lamO_ok {P : Program} {w : World} {H : Hp} {h : Heap} {f c2 : Addr} {q : Str} {params : Arguments} {body : Expr} {scope : Scope} {pm ctv : Value} (e : h.get? f = some (kla_obj "<lambda>" q params body scope [] pm c2 ctv)) : ObjOk P w H h f (LamO f q params body scope c2) :=
  ⟨⟨pm, ctv, e⟩, ⟨_, e⟩, fun h1 h2 ⟨a, b, z⟩ k => ⟨a, b, k _ z⟩⟩
theorem lamO_at {P : Program} {w : World} {H : Hp} {h : Heap} {f c2 : Addr} {q : Str} {params : Arguments} {body : Expr} {scope : Scope} (ok : HOk P w H h) (e : H f = some (LamO f q params body scope c2)) : ∃ pm ctv, h.get? f = some (kla_obj "<lambda>" q params body scope [] pm c2 ctv) := by
  have x : ObjOk P w H h f (.ext fun h => ∃ pm ctv, h.get? f = some (kla_obj "<lambda>" q params body scope [] pm c2 ctv)) := ok f _ e
  exact x.1
section
variable {X : Cx} {pins : List (Addr × Obj)} {σ : L2.St} {H : Hp} {s : Shared}
theorem lam_makeV {qs : List Str} {c P : Addr} {params : Arguments} {body : Expr} {scope : Scope} {pos : Pos} {E : Value → Shared → Prop} {Q : Value → Shared → Prop} (I : Inv X pins σ H s) (C : CodeHd s.heap c P) (hgP : mainGlobals ≠ P) (bP : s.heap.BuiltinsAt X.mg P) (hcode : X.env.code = .ref c)
    (hT : TabD X.mg ((X.env.qual ++ "<lambda>") :: qs) H P) (stab : ∀ H1 Y, Grow P H H1 → Y ≠ P → TabD X.mg qs H Y → TabD X.mg qs H1 Y) (hdef : defaultsOf params X.env = ([], [])) (hcl : cloFrom X.env.cells scope.names [] = []) (hfree : ∀ y ∈ scope.names, y.2 ≠ .free)
    (k : ∀ (f c2 P2 : Addr) (H1 : Hp) (s' : Shared), Inv X pins σ (upd H1 f (LamO f (X.env.qual ++ "<lambda>") params body scope c2)) s' → Grow P H H1 → TabD X.mg ((X.env.qual ++ "<lambda>") :: qs) H1 P → H1 f = none → H1 c2 = some (CodeT c2 (X.env.qual ++ "<lambda>") P2) → P2 ≠ P → Q (.ref f) s') :
    wpAny (model X.prog X.w) X.A (eval (.Lambda params body scope pos) X.env) Q E s := by
  obtain ⟨ps, hP, ht, ha⟩ := hT
  have hP' : s.heap.get? P = some (tabObj ps) := I.hok P _ hP
  have hfr : ∀ y ∈ scope.names, y.2 = .free → ∃ c, X.env.cells.lookup y.1 = some c := fun y hy z => absurd z (hfree y hy)
  refine kla_eval hdef ?_
  cases hc : codeAmong pos ps.toList with
  | some cv =>
    obtain ⟨c2, P2, e, e2, e3, e4, e5⟩ := ha pos cv hc
    subst e
    refine kla_makeFunctionHit (mg := X.mg) (c := c) (P := P) (ps := ps) (closure_ok hfr) I.ok.glob (I.mod.glob.keeps I.bk) hcode C hP' ht hc bP fun ctv h' tk hx hsz => ?_
    rw [hcl]
    have I0 := I.kept (t' := tk) hx
    exact k h'.objs.size c2 P2 H _ (I0.laid (t' := tk) (fun b o e => Heap.get?_push_of_some _ e) (Nat.le_refl _) (lamO_ok (Heap.get?_push_size _ rfl))) (fun _ _ _ e => e) ⟨ps, hP, ht, ha⟩ (I.hok.fresh hsz) e2 e3
  | none =>
    have bP0 := bP
    obtain ⟨bm, ob, b1, _, _, _, b5, _⟩ := bP0
    refine make_new (mg := X.mg) (c := c) (P := P) (ps := ps) (closure_ok hfr) I.ok.glob (I.mod.glob.keeps I.bk) hcode C hP' ht hc hgP bP fun c2 P2 ctv h' tk m => ?_
    rw [hcl]
    have nC : H c2 = none := I.hok.fresh m.big
    have n2 : H P2 = none := I.hok.fresh m.big2
    have nPc : P ≠ c2 := ne_of_none hP nC
    have nP2 : P ≠ P2 := ne_of_none hP n2
    have c2P : c2 ≠ P2 := by
      obtain ⟨_, _, _, _, _, _, _, _, _, _, _, _, _, _, _, _, _, _, ne⟩ := m.head
      exact ne
    have I1 := inv_made (t' := tk) (h' := h') I hP m (fun b o e => e)
    have gr : Grow P H (upd (upd (upd H P (.tbl (ps ++ #[rawInt pos.line, rawInt pos.col, .ref c2]))) c2 (CodeT c2 (X.env.qual ++ "<lambda>") P2)) P2 (.tbl #[])) := fun b o hb e => by
      rw [upd_ne (ne_of_none e n2), upd_ne (ne_of_none e nC), upd_ne hb]
      exact e
    have hcT : upd (upd (upd H P (.tbl (ps ++ #[rawInt pos.line, rawInt pos.col, .ref c2]))) c2 (CodeT c2 (X.env.qual ++ "<lambda>") P2)) P2 (.tbl #[]) c2 = some (CodeT c2 (X.env.qual ++ "<lambda>") P2) := by rw [upd_ne c2P, upd_same]
    have t2 : TabD X.mg qs (upd (upd (upd H P (.tbl (ps ++ #[rawInt pos.line, rawInt pos.col, .ref c2]))) c2 (CodeT c2 (X.env.qual ++ "<lambda>") P2)) P2 (.tbl #[])) P2 := tabD_nil upd_same
    have gd : Good X.mg P2 := by
      refine ⟨fun z => ?_, fun b hb z => ?_⟩
      · obtain ⟨og, _, _, eg, _⟩ := I.mod.glob.keeps I.bk
        exact Nat.lt_irrefl _ (Nat.lt_of_lt_of_le (Heap.lt_size eg) (z ▸ m.big2))
      · rw [b1] at hb
        cases hb
        exact Nat.lt_irrefl _ (Nat.lt_of_lt_of_le (Heap.lt_size b5) (z ▸ m.big2))
    have e3 : (ps ++ #[rawInt pos.line, rawInt pos.col, .ref c2]).toList = ps.toList ++ [rawInt pos.line, rawInt pos.col, .ref c2] := by simp
    refine k h'.objs.size c2 P2 _ _ (I1.laid (t' := tk) (fun b o e => Heap.get?_push_of_some _ e) (Nat.le_refl _) (lamO_ok (Heap.get?_push_size _ rfl))) gr ⟨_, by rw [upd_ne nP2, upd_ne nPc, upd_same], ?_, fun p' cv hcv => ?_⟩ (I1.hok.fresh (Nat.le_refl _)) hcT nP2.symm
    · rw [e3]
      exact PySem.TriplesOk_snoc _ _ _ _ ht
    · rw [e3] at hcv
      rcases LamX.among_app _ ht hcv with z | z
      · obtain ⟨c0, P0, e1, e2, e3, e4, e5⟩ := ha p' cv z
        exact ⟨c0, P0, e1, gr _ _ (fun y => by rw [y, hP] at e2; exact codeT_ne ps (Option.some.inj e2).symm) e2, e3, stab _ _ gr e3 e4, e5⟩
      · exact ⟨c2, P2, z, hcT, nP2.symm, t2, gd⟩
/-- the reading: the tables ahead; the new object at f, its code object at c2 -/
def tLamV (mg : Str → Option Value) (P : Addr) (q : Str) (params : Arguments) (body : Expr) (scope : Scope) : TE := fun _ H Q => TabD mg [q] H P ∧ ∀ (f c2 P2 : Addr) (H1 : Hp), Grow P H H1 → TabD mg [q] H1 P → H1 f = none → H1 c2 = some (CodeT c2 q P2) → Q (.ref f) (upd H1 f (LamO f q params body scope c2))
theorem pe_lamV {c P : Addr} {params : Arguments} {body : Expr} {scope : Scope} {pos : Pos} (src : ∀ pins σ H s, Inv X pins σ H s → CodeHd s.heap c P ∧ s.heap.BuiltinsAt X.mg P ∧ mainGlobals ≠ P) (hcode : X.env.code = .ref c) (hdef : defaultsOf params X.env = ([], [])) (hcl : cloFrom X.env.cells scope.names [] = []) (hfree : ∀ y ∈ scope.names, y.2 ≠ .free) :
    PE X (.Lambda params body scope pos) (tLamV X.mg P (X.env.qual ++ "<lambda>") params body scope) := by
  refine ⟨fun pins s σ H Q I ⟨hT, h⟩ => ?_⟩
  obtain ⟨sC, sB, sP⟩ := src pins σ H s I
  exact lam_makeV I sC sP sB hcode hT (fun H1 Y _ _ _ => True.intro) hdef hcl hfree fun f c2 P2 H1 s' I1 g1 T1 nf hc2 _ => ⟨.ref f, _, I1, rfl, h f c2 P2 H1 g1 T1 nf hc2⟩
/-- a lambda that may be called so: one parameter, named b, its body read as tb -/
structure Lam1 (P : Program) (w : World) (K : Frag) (mg : Str → Option Value) (base : Heap) (lv : Nat) (b : Str) (params : Arguments) (body : Expr) (scope : Scope) (tb : TE) : Prop where
  sc : FnScope [b] [b] scope
  bind : ∀ (q : Str) (pm cv ctv u : Value), bindArgs (kla_fn "<lambda>" q params body scope [] pm cv ctv) ⟨[u], []⟩ = pure [(b, u)]
  body : ∀ (q : Str) (f c2 : Addr) (A : Around) (outer : List Env) (s : Shared) (H : Hp), Room lv (A.deeper (envOfC q scope s.heap.objs.size f (.ref c2))) → PE (cxOf L2.CX0 P w K mg base [b] q scope f (.ref c2) A outer s H (fun _ _ _ => False)) body tb
def tCallV (L : Arguments → Expr → Scope → TE → Prop) (i : Nat) (b : Str) (te : TE) : TE := fun σ H Q => ∃ (f : Addr) (q : Str) (params : Arguments) (body : Expr) (scope : Scope) (c2 P2 : Addr) (tb : TE), σ[i]? = some (some (.ref f)) ∧ L params body scope tb ∧ H f = some (LamO f q params body scope c2) ∧
  te σ H fun v H1 => H1 f = some (LamO f q params body scope c2) ∧ H1 c2 = some (CodeT c2 q P2) ∧ tb (L2.start [b] [v]) H1 Q
/-- x(e), x a name that holds such a lambda -/
theorem pe_callV {L : Arguments → Expr → Scope → TE → Prop} {lv i : Nat} {x b : Str} {e : Expr} {te : TE} {p1 p2 : Pos} (hL : ∀ pa bd sc tb, L pa bd sc tb → Lam1 X.prog X.w X.K X.mg X.base lv b pa bd sc tb) (he : PE X e te) (hr : Room (lv + 1) X.A) (hN : X.N[i]? = some x) (hv : Vis X.env.scope x)
    (hd : (x == ("__debug__" : Str)) = false := by decide) (hcd : (x == ("__classdict__" : Str)) = false := by decide) (hs : starEach [e] X.env = (false, eval e X.env) :: starEach [] X.env := by rfl) :
    PE X (.Call (.Name x p1) [e] [] p2) (tCallV L i b te) := by
  refine ⟨fun pins s σ H Q I ⟨f, q, params, body, scope, c2, P2, tb, hσ, hl, hf, h⟩ => ?_⟩
  have M := hL _ _ _ _ hl
  refine wpAny_Call_Name_kw (thn ((pe_var (pos := p1) (i := i) hN hv hd hcd).run pins s σ H (fun v H1 => v = .ref f ∧ H1 = H) I ⟨.ref f, hσ, rfl, rfl⟩) fun u s1 ⟨v, H1, I1, r1, ev, eH⟩ => ?_)
  subst ev eH
  obtain rfl : u = Value.ref f := r1
  obtain ⟨pm1, ct1, o1⟩ := lamO_at I1.hok hf
  refine callWith_F ⟨_, _, _, _, o1⟩ (thn ((pa_cons he pa_nil hs).run p2 pins s1 σ H1 (fun vs H2 => match vs with
    | [v] => H2 f = some (LamO f q params body scope c2) ∧ H2 c2 = some (CodeT c2 q P2) ∧ tb (L2.start [b] [v]) H2 Q
    | _ => False) I1 h) fun us s2 ⟨vs, H2, I2, r, hm⟩ => ?_) hs rfl
  match vs, r, hm with
  | [v], r, ⟨hf2, hc2, hq⟩ =>
    obtain ⟨pm2, ct2, o2⟩ := lamO_at I2.hok hf2
    obtain ⟨⟨cr, _⟩, _, _⟩ := I2.hok c2 _ hc2
    have hus : ∃ u, us = [u] := by
      cases r with
      | cons r1 rr =>
        cases rr
        exact ⟨_, rfl⟩
    obtain ⟨u, rfl⟩ := hus
    refine ⟨⟨_, _, _, _, o2⟩, ?_⟩
    have run := run_lam (CX := L2.CX0) (E := fun _ _ _ => False) (Q := Q) o2 cr M.sc hr I2.env0 (M.bind _ _ _ _ u) r rfl (fun hr2 => M.body q f c2 _ _ s2 H2 hr2) hq
    refine wpAny_call (codeAny_mono run fun z s' hq => ?_)
    match z, hq with
    | .error e, hq => exact (show False from hq).elim
    | .ok (.ret u), hq => exact I2.after hq
    | .ok .next, hq => exact False.elim hq
    | .ok .brk, hq => exact False.elim hq
    | .ok .cont, hq => exact False.elim hq
end
end Lm
namespace Gd
open PySem PySem.Spec PyProof.Rows L2
/-! ### the dict {"a": 1} -/
def DicO (a : Addr) : HO := .ext fun h => a ≠ sysModules ∧ ∃ (o : Obj) (es : Array DictEntry) (n : Nat) (t u : Tok), h.get? a = some o ∧ o.cls = .type "dict" ∧ o.data = .dict es n ∧ es.toList.map (·.key) = [.str "a" t] ∧ es.toList.map (·.val) = [.int 1 u]
theorem dicO_at {P : Program} {w : World} {H : Hp} {h : Heap} {a : Addr} (ok : HOk P w H h) (e : H a = some (DicO a)) : a ≠ sysModules ∧ ∃ (o : Obj) (es : Array DictEntry) (n : Nat) (t u : Tok), h.get? a = some o ∧ o.cls = .type "dict" ∧ o.data = .dict es n ∧ es.toList.map (·.key) = [.str "a" t] ∧ es.toList.map (·.val) = [.int 1 u] := by
  have x : ObjOk P w H h a (.ext fun h => a ≠ sysModules ∧ ∃ (o : Obj) (es : Array DictEntry) (n : Nat) (t u : Tok), h.get? a = some o ∧ o.cls = .type "dict" ∧ o.data = .dict es n ∧ es.toList.map (·.key) = [.str "a" t] ∧ es.toList.map (·.val) = [.int 1 u]) := ok a _ e
  exact x.1
/-- where the table of modules stands, in the base -/
def SysB (base : Heap) : Prop := ∃ (o : Obj) (es : Array DictEntry) (n : Nat), base.get? sysModules = some o ∧ o.data = .dict es n
section
variable {X : Cx}
theorem pe_dicA {p1 p2 pos : Pos} {j1 j2 : Nat} (hB : SysB X.base) : PE X (.Dict [some (.Constant (.str "a") j1 p1)] [.Constant (.int 1) j2 p2] pos) (fun _ H Q => ∀ a, H a = none → Q (.ref a) (upd H a (DicO a))) := by
  refine ⟨fun pins st σ H Q I h => ?_⟩
  obtain ⟨o0, es0, n0, g0, _⟩ := hB
  refine PyProof.Rows.Dict_lits_str (D := [(.str "a", .int 1)]) rfl rfl (by simp [strKeysOf]) rfl rfl (by simp) (Nat.le_of_ble_eq_true rfl) fun a o h1 tk big ho ⟨kvs, ⟨es, ep, hx, hd, hk, hp, hn⟩, hf⟩ keep => ?_
  have lt : sysModules < a := Nat.lt_of_lt_of_le (Heap.lt_size (I.bk _ _ g0)) big
  have fr : H a = none := I.hok.fresh big
  have key : ∃ t u, es.toList.map (·.key) = [.str "a" t] ∧ es.toList.map (·.val) = [.int 1 u] := by
    cases hf with
    | cons fv fr =>
      cases fr
      have z := fv {}
      cases z
      generalize es.toList = l at hp
      cases hp with
      | cons h1 h2 h3 =>
        cases h3
        obtain ⟨t, ht⟩ := Value.isStrOf_shape h1
        exact ⟨t, _, by simp [ht], by simp [h2]; rfl⟩
  obtain ⟨t, u, k1, k2⟩ := key
  have ok : ObjOk X.prog X.w (upd H a (DicO a)) h1 a (DicO a) := ⟨⟨Nat.ne_of_gt lt, o, es, ep, t, u, ho, hx.1, hd, k1, k2⟩, ⟨o, ho⟩, fun g1 g2 ⟨ne, o, es, n, t, u, e, r⟩ k => ⟨ne, o, es, n, t, u, k _ e, r⟩⟩
  exact ⟨.ref a, _, I.laid keep big ok, rfl, h a fr⟩
/-! ### repr of such data -/
theorem reads_lists {h : Heap} : ∀ {v : Value} {d : PyData} {as : List Addr}, Reads h v d as → d.hasDict = false → ∀ b ∈ as, ∃ (o : Obj) (vs : Array Value) (n : Nat), h.get? b = some o ∧ o.data = .seq vs n := by
  intro v d as r
  induction r using Reads.rec (motive_2 := fun vs ds as _ => PyData.hasDictAll ds = false → ∀ b ∈ as, ∃ (o : Obj) (vs : Array Value) (n : Nat), h.get? b = some o ∧ o.data = .seq vs n) with
  | none => exact fun _ b hb => (nomatch hb)
  | bool => exact fun _ b hb => (nomatch hb)
  | int => exact fun _ b hb => (nomatch hb)
  | str => exact fun _ b hb => (nomatch hb)
  | list h1 h2 h3 _ ih =>
    intro nd b hb
    rcases List.mem_cons.mp hb with rfl | hb
    · exact ⟨_, _, _, h1, h3⟩
    · exact ih (by simpa [PyData.hasDict] using nd) b hb
  | tuple h1 h2 h3 _ ih => exact fun nd b hb => ih (by simpa [PyData.hasDict] using nd) b hb
  | dict => exact fun nd => by simp [PyData.hasDict] at nd
  | nil =>
    rename_i hb
    exact nomatch hb
  | cons _ _ i1 i2 =>
    rename_i nd b hb
    have nd2 := (Bool.or_eq_false_iff.mp (by simpa [PyData.hasDictAll] using nd))
    rcases List.mem_append.mp hb with hb | hb
    · exact i1 nd2.1 b hb
    · exact i2 nd2.2 b hb
/-- a thing as data: without a dict, or that dict -/
inductive Dz (K : PySem.W.Frag) (H : Hp) : V → PyData → Prop
  | dp {v : V} {d : PyData} (h : Dp K H v d) (nd : d.hasDict = false) : Dz K H v d
  | dic {a : Addr} (h : H a = some (DicO a)) : Dz K H (.ref a) (.dict [(.str "a", .int 1)])
theorem dz_reads {pins : List (Addr × Obj)} {σ : L2.St} {H : Hp} {st : Shared} (hB : SysB X.base) (I : Inv X pins σ H st) {v : V} {d : PyData} {u : Value} (h : Dz X.K H v d) (r : RelV v u) : ∃ as, Reads st.heap u d as ∧ sysModules ∉ as := by
  obtain ⟨o0, es0, n0, g0, d0⟩ := hB
  have s0 := I.bk _ _ g0
  cases h with
  | dp h nd =>
    obtain ⟨as, rd⟩ := Dp.reads I d v u h r
    refine ⟨as, rd, fun z => ?_⟩
    obtain ⟨o, vs, n, e1, e2⟩ := reads_lists rd nd _ z
    rw [s0] at e1
    cases e1
    rw [d0] at e2
    cases e2
  | @dic a h =>
    obtain ⟨ne, o, es, n, t, w, e1, e2, e3, e4, e5⟩ := dicO_at I.hok h
    obtain rfl : u = Value.ref a := r
    refine ⟨_, Reads.dict e1 e2 e3 (as := []) (bs := []) (by rw [e4]; exact .cons (.str _ _) .nil) (by rw [e5]; exact .cons (.int _ _) .nil), fun z => ?_⟩
    simp at z
    exact ne z.symm
theorem dz_all {pins : List (Addr × Obj)} {σ : L2.St} {H : Hp} {st : Shared} (hB : SysB X.base) (I : Inv X pins σ H st) : ∀ {vs : List V} {ds : List PyData} {us : List Value}, Paired (Dz X.K H) vs ds → Vals vs us → ∃ as, ReadsAll st.heap us ds as ∧ sysModules ∉ as
  | _, _, _, .nil, .nil => ⟨[], .nil, fun z => nomatch z⟩
  | _, _, _, .cons h hs, .cons r rs => by
    obtain ⟨a1, r1, n1⟩ := dz_reads hB I h r
    obtain ⟨a2, r2, n2⟩ := dz_all hB I hs rs
    exact ⟨a1 ++ a2, .cons r1 r2, fun z => (List.mem_append.mp z).elim n1 n2⟩
/-- repr of a list of such things -/
theorem call_reprL (hB : SysB X.base) (hg : X.A.guards = some []) (hu : X.A.units + 100 < cLine) : CallR X (.builtin "repr") (fun xs H Q => ∃ (a : Addr) (vs : List V) (ds : List PyData), xs = [.ref a] ∧ H a = some (.lst vs) ∧ Paired (Dz X.K H) vs ds ∧ (PyData.list ds).showable = true ∧ (PyData.list ds).depth ≤ 50 ∧ (PyData.list ds).shown.length ≤ sizeLine ∧ Q (.str (PyData.list ds).shown) H) := by
  intro pins st σ H xs us Q I r ⟨a, vs, ds, e, ha, hd, hs, hdp, hz, q⟩
  subst e
  match us, r with
  | [u], .cons ru .nil =>
    obtain rfl : u = Value.ref a := ru
    obtain ⟨_, its, n, rv, e1⟩ := (show ObjOk X.prog X.w H st.heap a (.lst vs) from I.hok a _ ha)
    obtain ⟨as, rd, nm⟩ := dz_all hB I hd rv
    have na : a ≠ sysModules := fun z => by
      obtain ⟨o0, es0, n0, g0, d0⟩ := hB
      have s0 := I.bk _ _ g0
      rw [z, s0] at e1
      cases e1
      cases d0
    refine PySem.repr_of_reads' (h₀ := st.heap) (Reads.list e1 rfl rfl (by simpa using rd)) hs (fun _ z => (List.mem_cons.mp z).elim (fun y => na y.symm) nm) hg (by omega) (fun _ _ e => e) (fun h' u tk k => ?_) hz
    exact ⟨.str _, H, I.kept k, ⟨u, rfl⟩, q⟩
end
end Gd
namespace Gd
open PySem PySem.Spec PyProof.Rows L2
/-! ### a law's call where nothing is under way -/
/-- what is tracked as the law begins: the tables of code objects, and the script where the written part has it not -/
def H0 (T : List Addr) (free : Bool) (a : Addr) (ob : Obj) (xs : List V) : Hp := fun b => if b ∈ T then some (.tbl #[]) else if b = a ∧ free = true then some (.frz ob (.lst xs)) else none
section
variable {T : List Addr} {free : Bool} {a b : Addr} {ob : Obj} {xs : List V}
theorem h0_tab (h : b ∈ T) : H0 T free a ob xs b = some (.tbl #[]) := if_pos h
theorem h0_cases {u : HO} (h : H0 T free a ob xs b = some u) : (b ∈ T ∧ u = .tbl #[]) ∨ (b ∉ T ∧ b = a ∧ free = true ∧ u = .frz ob (.lst xs)) := by
  unfold H0 at h
  by_cases h1 : b ∈ T
  · rw [if_pos h1] at h
    exact .inl ⟨h1, (Option.some.inj h).symm⟩
  · rw [if_neg h1] at h
    by_cases h2 : b = a ∧ free = true
    · rw [if_pos h2] at h
      exact .inr ⟨h1, h2.1, h2.2, (Option.some.inj h).symm⟩
    · rw [if_neg h2] at h
      cases h
end
theorem top_run {P : Program} {w : World} {K : PySem.W.Frag} {mg mb : Str → Option Value} {CX : CXT} {fa a : Addr} {cs : List (Addr × Addr)} {fd : FuncData} {x : Str} {sp : Sp} {st : Shared} {vs : List Value} {ns : List Int}
    (inK : K.In st.heap) (gN : st.heap.Ns mainGlobals mg) (bN : st.heap.Ns builtinsNs mb) (bB : ∀ y : Str, y ≠ "__name__" → mb y = bootBuiltins y) (nl : st.heap.NoLimit) (g0 : st.gens = #[])
    (tabs : ∀ p ∈ cs, st.heap.get? p.2 = some { cls := .none, data := .fields #[] }) (tabK : ∀ p ∈ cs, K.lookup p.2 = none) (codes : ∀ p ∈ cs, PySem.W.CodeHd st.heap p.1 p.2)
    (bm : ∃ (m : Addr) (ob : Obj), mg "__builtins__" = some (.ref m) ∧ m ≠ builtinsNs ∧ st.heap.get? m = some ob ∧ ob.cls = .type "module" ∧ ob.dict = some builtinsNs ∧ ob.data = .plain)
    (sys : SysB st.heap) (ha : st.heap.get? a = some { cls := .type "list", data := .seq vs.toArray }) (hi : IntsAre vs ns) (hz : ns.length ≤ sizeLine)
    (F : ∀ base : Heap, K.In base → base.Ns mainGlobals mg → SysB base → (∀ p ∈ cs, LamX.TabB base mg p.1 p.2) → OkAt P w K mg base CX callerA fa fd [x] sp) (bind : ∀ (t : Shared) (u : Value), BindsTo t fd ⟨[u], []⟩ [(x, u)])
    (hsp : ∀ H : Hp, (∀ p ∈ cs, H p.2 = some (.tbl #[])) → SqL K H a (ns.map V.int) → sp [.ref a] H (fun v _ => v = .bl true) fun _ _ _ => False) (hCX : ∀ H e t, CX [] H st (fun _ _ _ => False) e t → False) :
    codeAny (model P w) callerA (.call (.ref fa) ⟨[.ref a], []⟩) (fun r t => r = .ok (.ret (.bool true)) ∧ OldK st.heap t.heap ∧ t.os = st.os ∧ AllBare t.gens) st := by
  have rv := vals_ints hi
  have tabAt : ∀ b ∈ cs.map (·.2), st.heap.get? b = some { cls := .none, data := .fields #[] } ∧ K.lookup b = none := fun b hb => by
    obtain ⟨p, hp, rfl⟩ := List.mem_map.mp hb
    exact ⟨tabs p hp, tabK p hp⟩
  have aT : a ∉ cs.map (·.2) := fun z => by
    have q := (tabAt a z).1
    rw [ha] at q
    exact nomatch congrArg Obj.data (Option.some.inj q)
  obtain ⟨fr, hfr⟩ : ∃ fr : Bool, fr = (K.lookup a).isNone := ⟨_, rfl⟩
  obtain ⟨H, hH⟩ : ∃ H : Hp, H = H0 (cs.map (·.2)) fr a { cls := .type "list", data := .seq vs.toArray } (ns.map V.int) := ⟨_, rfl⟩
  have cas : ∀ {b : Addr} {u : HO}, H b = some u → (b ∈ cs.map (·.2) ∧ u = .tbl #[]) ∨ (b ∉ cs.map (·.2) ∧ b = a ∧ fr = true ∧ u = .frz { cls := .type "list", data := .seq vs.toArray } (.lst (ns.map V.int))) := fun {b u} z => h0_cases (by rw [hH] at z; exact z)
  have isTab : ∀ p ∈ cs, H p.2 = some (.tbl #[]) := fun p hp => by
    rw [hH]
    exact h0_tab (List.mem_map.mpr ⟨p, hp, rfl⟩)
  -- what is neither a list nor an empty table is not tracked, nor is what the written part has
  have away : ∀ {b : Addr} {o : Obj}, st.heap.get? b = some o → (∀ l n, o.data ≠ .seq l n) → o.data ≠ .fields #[] → H b = none := fun {b o} e n1 n2 => by
    cases z : H b with
    | none => rfl
    | some u =>
      rcases cas z with ⟨hb, _⟩ | ⟨_, rfl, _, _⟩
      · rw [(tabAt b hb).1] at e
        cases e
        exact absurd rfl n2
      · rw [ha] at e
        cases e
        exact absurd rfl (n1 _ _)
  have awayK : ∀ {b : Addr} {o : Obj}, K.lookup b = some o → H b = none := fun {b o} e => by
    cases z : H b with
    | none => rfl
    | some u =>
      rcases cas z with ⟨hb, _⟩ | ⟨_, rfl, hf, _⟩
      · rw [(tabAt b hb).2] at e
        cases e
      · rw [hfr, e] at hf
        cases hf
  have script : SqL K H a (ns.map V.int) := by
    cases q : K.lookup a with
    | some o =>
      have e := inK a o q
      rw [ha] at e
      cases e
      exact .inr ⟨_, vs.toArray, _, q, rfl, rfl, rfl, by rw [List.size_toArray, hi.length]; exact hz, by simpa using rv⟩
    | none =>
      refine .inl (.inr ⟨{ cls := .type "list", data := .seq vs.toArray }, ?_⟩)
      rw [hH]
      unfold H0
      rw [if_neg aT, if_pos ⟨rfl, by rw [hfr, q]; rfl⟩]
  have ok : HOk P w H st.heap := fun b u z => by
    rcases cas z with ⟨hb, rfl⟩ | ⟨_, rfl, _, rfl⟩
    · exact (tabAt b hb).1
    · exact ⟨ha, by rw [List.length_map]; exact hz, vs, _, rv, ha⟩
  have ns_at : ∀ {b : Addr} {m : Str → Option Value}, st.heap.Ns b m → (hidT st.heap H).Ns b m := fun {b m} ⟨o, es, ep, e, d, r⟩ =>
    ⟨o, es, ep, hidT_get e (away e (fun l n y => by rw [d] at y; cases y) fun y => by rw [d] at y; cases y), d, r⟩
  have inB : K.In (hidT st.heap H) := fun b o e => hidT_get (inK b o e) (awayK e)
  have sysB : SysB (hidT st.heap H) := by
    obtain ⟨o, es, n, e, d⟩ := sys
    exact ⟨o, es, n, hidT_get e (away e (fun l n y => by rw [d] at y; cases y) fun y => by rw [d] at y; cases y), d⟩
  have tabB : ∀ p ∈ cs, LamX.TabB (hidT st.heap H) mg p.1 p.2 := fun p hp => by
    refine ⟨?_, ?_, fun y => ?_⟩
    · obtain ⟨o, us, r0, r1, r2, r3, r4, r5, r6, e1, q1, q2, q3, q⟩ := codes p hp
      refine ⟨o, us, r0, r1, r2, r3, r4, r5, r6, hidT_get e1 (away e1 (fun l n y => by rw [q2] at y; cases y) fun y => ?_), q1, q2, q3, q⟩
      rw [q2] at y
      cases y
      simp at q3
    · obtain ⟨m, ob, b1, b2, b3, b4, b5, b6⟩ := bm
      have hm : H m = none := away b3 (fun l n y => by rw [b6] at y; cases y) fun y => by rw [b6] at y; cases y
      refine ⟨m, ob, b1, b2, fun y => ?_, fun y => ?_, hidT_get b3 hm, b4, b5, b6⟩
      · obtain ⟨o, es, ep, e, d, _⟩ := gN
        rw [y, e] at b3
        cases b3
        rw [d] at b6
        cases b6
      · rw [y, isTab p hp] at hm
        cases hm
    · obtain ⟨o, es, ep, e, d, _⟩ := gN
      rw [y, tabs p hp] at e
      cases e
      cases d
  obtain ⟨mc, l1, l2⟩ := nl
  have env0 : Env0 P w K mg (hidT st.heap H) callerA [] st H := ⟨rfl, ⟨inB, ns_at gN, ⟨mb, ns_at bN, bB⟩, ⟨mc, ns_at l1, l2⟩⟩, fun b o e => of_hidT e, Nat.le_of_eq (hidT_size _ _), trivial, fun b hb => (nomatch hb), ok, .of_eq g0⟩
  refine codeAny_mono (F _ inB (ns_at gN) sysB tabB [] st H ⟨[.ref a], []⟩ [.ref a] [.ref a] _ _ env0 (bind st (.ref a)) (.cons rfl .nil) (hsp H isTab script)) fun r t h => ?_
  match r, h with
  | .error e, h => exact (hCX H e t h).elim
  | .ok .next, h => exact False.elim h
  | .ok .brk, h => exact False.elim h
  | .ok .cont, h => exact False.elim h
  | .ok (.ret u), ⟨v, H', o1, b1, un, ok2, rr, hv⟩ =>
    have hv : v = .bl true := hv
    subst hv
    obtain rfl : u = Value.bool true := rr
    have keep : ∀ {b : Addr} {o : Obj}, st.heap.get? b = some o → b ∉ cs.map (·.2) → t.heap.get? b = some o := fun {b o} e nb => by
      cases z : H b with
      | none => exact un.keep b o e z (fun y => nomatch y) (fun y => nomatch y)
      | some u =>
        rcases cas z with ⟨hb, _⟩ | ⟨_, rfl, _, rfl⟩
        · exact absurd hb nb
        · have y := (ok2 _ _ (un.frzs _ _ _ z)).1
          rw [ha] at e
          cases e
          exact y
    have more : ∀ p ∈ cs, ∃ m : Array Value, t.heap.get? p.2 = some { cls := .none, data := .fields m } := fun p hp => by
      obtain ⟨m, y⟩ := un.tbls _ _ (isTab p hp)
      exact ⟨_, ok2 _ _ y⟩
    refine ⟨rfl, ⟨fun b o e => ?_, fun b o e => ?_⟩, o1, b1⟩
    · by_cases hb : b ∈ cs.map (·.2)
      · obtain ⟨p, hp, rfl⟩ := List.mem_map.mp hb
        obtain ⟨m, y⟩ := more p hp
        rw [tabs p hp] at e
        cases e
        refine .inr (.inl ⟨((codes p hp).tab (tabs p hp)).isCodeTable, rfl, #[], m, rfl, ?_⟩)
        rw [Array.empty_append]
        exact y
      · exact .inl (keep e hb)
    · by_cases hb : b ∈ cs.map (·.2)
      · obtain ⟨p, hp, rfl⟩ := List.mem_map.mp hb
        exact ⟨_, (more p hp).choose_spec⟩
      · exact ⟨_, keep e hb⟩
/-- the walk of a law's row: what the head tells, then the law at its caller's -/
theorem walk_at {l : PySem.W.OpenLaw} {n : Nat} {q : Program} {loose : List Str} {XP : (Str → Option Value) → Heap → Prop} {YP : World → Heap → Prop} {d : DefRec} {CX : World → CXT} {x : Str} (hn : l.most = some n) (hn2 : n ≤ sizeLine) (hdf : d.params.defaults = [])
    (F : ∀ (w : World) (mg : Str → Option Value) (fa : Addr) (h : Heap), YP w h → h.Ns mainGlobals mg → mg d.name = some (.ref fa) → ∃ (K : PySem.W.Frag) (fd : FuncData) (cs : List (Addr × Addr)) (sp : Sp), K.In h ∧ SysB h ∧ (∀ p ∈ cs, h.get? p.2 = some { cls := .none, data := .fields #[] }) ∧ (∀ p ∈ cs, K.lookup p.2 = none) ∧ (∀ p ∈ cs, PySem.W.CodeHd h p.1 p.2) ∧
      (∀ (t : Shared) (u : Value), BindsTo t fd ⟨[u], []⟩ [(x, u)]) ∧ (∀ (H : Hp) (a : Addr) (ns : List Int), ns.length ≤ n → (∀ p ∈ cs, H p.2 = some (.tbl #[])) → SqL K H a (ns.map V.int) → sp [.ref a] H (fun v _ => v = .bl true) fun _ _ _ => False) ∧
      ∀ base : Heap, K.In base → base.Ns mainGlobals mg → SysB base → (∀ p ∈ cs, LamX.TabB base mg p.1 p.2) → OkAt l.prog w K mg base (CX w) callerA fa fd [x] sp)
    (hCX : ∀ (w : World) (H : Hp) (s : Shared) (e : Value) (t : Shared), CX w [] H s (fun _ _ _ => False) e t → False) : PySem.W.WalkO q loose XP YP l.row.toRowW d [] (fun f vs => PySem.call f vs) := by
  refine Att.attach_callB hn hdf fun w s0 st mg mb fa o pm cd doc a vs ns G Y ho hd hcd hmg hobj hints hlen _ hg => ?_
  obtain ⟨K, fd, cs, sp, inK, sys, tabs, tabK, codes, bind, hsp, ok⟩ := F w mg fa _ Y G.T.g hmg
  exact top_run inK G.T.g G.T.b G.T.builtins G.T.nolimit hg tabs tabK codes G.T.bmain sys hobj hints (Nat.le_trans hlen hn2) ok bind (fun H h1 h2 => hsp H a ns hlen h1 h2) fun H e t => hCX w H st e t
end Gd
namespace K00
open PySem PySem.Spec PyProof.Rows L2
abbrev FnP (K : PySem.W.Frag) (x : Str) (st : Stmt) (f : Addr) (fd : FuncData) : Prop := FunD K x x (defArgs st) (defBody st) (defScope st) [] [] f fd
abbrev sDraw : Stmt := top 76
/-- the stream at p, its cells at c, at most n draws so far -/
def StrN (H : Hp) (p c : Addr) (n L : Nat) : Prop := ∃ (cells : List Int) (a k m : Int), H p = some (.lst [.ref c, .int a, .int k, .int m]) ∧ H c = some (.lst (cells.map V.int)) ∧ cells.length = L ∧ L ≤ 63 ∧ 0 ≤ a ∧ 0 ≤ k ∧ k ≤ n ∧ 0 ≤ m ∧ m < 2147483647
def StrAt (H : Hp) (p c : Addr) (n : Nat) : Prop := ∃ L, StrN H p c n L
theorem str_ne {H : Hp} {p c : Addr} {n L : Nat} (h : StrN H p c n L) : p ≠ c := by
  obtain ⟨cells, a, k, m, h1, h2, _⟩ := h
  refine ne_of h1 h2 fun z => ?_
  injection z with z
  cases cells with
  | nil => cases z
  | cons i r =>
    rw [List.map_cons] at z
    injection z with z1 z2
    cases z1
theorem StrN.set {H : Hp} {p c : Addr} {n' L : Nat} {cells : List Int} {a k m : Int} (h2 : H c = some (.lst (cells.map V.int))) (hne : p ≠ c) (hL : cells.length = L) (hL' : L ≤ 63) (ha : 0 ≤ a) (hk : 0 ≤ k) (hk' : k ≤ n') (hm : 0 ≤ m) (hm' : m < 2147483647) :
    StrN (upd H p (.lst [.ref c, .int a, .int k, .int m])) p c n' L := ⟨cells, a, k, m, upd_same, by rw [upd_ne hne.symm]; exact h2, hL, hL', ha, hk, hk', hm, hm'⟩
theorem StrN.keep {H H' : Hp} {p c : Addr} {n L : Nat} (h : StrN H p c n L) (e : ∀ b o, H b = some o → H' b = some o) : StrN H' p c n L := by
  obtain ⟨cells, a, k, m, h1, h2, r⟩ := h
  exact ⟨cells, a, k, m, e _ _ h1, e _ _ h2, r⟩
theorem StrAt.keep {H H' : Hp} {p c : Addr} {n : Nat} (h : StrAt H p c n) (e : ∀ b o, H b = some o → H' b = some o) : StrAt H' p c n := by
  obtain ⟨L, h⟩ := h
  exact ⟨L, h.keep e⟩
theorem StrAt.new {H : Hp} {p c q : Addr} {n : Nat} {o : HO} (h : StrAt H p c n) (hq : H q = none) : StrAt (upd H q o) p c n := h.keep fun b u e => by
  rw [upd_ne (ne_of_none e hq)]
  exact e
theorem StrAt.mono {H : Hp} {p c : Addr} {n n' : Nat} (h : StrAt H p c n) (hn : n ≤ n') : StrAt H p c n' := by
  obtain ⟨L, cells, a, k, m, h1, h2, h3, h4, h5, h6, h7, h8⟩ := h
  exact ⟨L, cells, a, k, m, h1, h2, h3, h4, h5, h6, by omega, h8⟩
/-- all but the stream stays -/
def Kp (p c : Addr) (H H' : Hp) : Prop := ∀ b o, H b = some o → b ≠ p → b ≠ c → H' b = some o
theorem Kp.refl {p c : Addr} (H : Hp) : Kp p c H H := fun _ _ e _ _ => e
theorem Kp.trans {p c : Addr} {H H1 H2 : Hp} (a : Kp p c H H1) (b : Kp p c H1 H2) : Kp p c H H2 := fun x o e h1 h2 => b x o (a x o e h1 h2) h1 h2
theorem Kp.new {p c q : Addr} {o : HO} {H H' : Hp} (a : Kp p c H H') (h : H' q = none) : Kp p c H (upd H' q o) := fun x u e h1 h2 => by
  have := a x u e h1 h2
  rw [upd_ne (ne_of_none this h)]
  exact this
theorem Kp.stream {p c : Addr} {o : HO} {H H' : Hp} (a : Kp p c H H') : Kp p c H (upd H' p o) := fun x u e h1 h2 => by
  rw [upd_ne h1]
  exact a x u e h1 h2
theorem Kp.cells {p c : Addr} {o : HO} {H H' : Hp} (a : Kp p c H H') : Kp p c H (upd H' c o) := fun x u e h1 h2 => by
  rw [upd_ne h2]
  exact a x u e h1 h2
theorem StrAt.ne {H : Hp} {p c q : Addr} {n : Nat} (h : StrAt H p c n) (hq : H q = none) : q ≠ p ∧ q ≠ c := by
  obtain ⟨L, cells, a, k, m, h1, h2, r⟩ := h
  exact ⟨(ne_of_none h1 hq).symm, (ne_of_none h2 hq).symm⟩
theorem StrAt.upd {H : Hp} {p c q : Addr} {n : Nat} {o : HO} (h : StrAt H p c n) (h1 : q ≠ p) (h2 : q ≠ c) : StrAt (L2.upd H q o) p c n := by
  obtain ⟨L, cells, a, k, m, e1, e2, r⟩ := h
  exact ⟨L, cells, a, k, m, by rw [upd_ne h1.symm]; exact e1, by rw [upd_ne h2.symm]; exact e2, r⟩
theorem Kp.mut {p c q : Addr} {o : HO} {H H' : Hp} (a : Kp p c H H') (h : H q = none) : Kp p c H (L2.upd H' q o) := fun x u e h1 h2 => by
  rw [upd_ne (ne_of_none e h)]
  exact a x u e h1 h2
theorem seq_nat {n j : Nat} (hj : j < n) : seqIndex? (j : Int) n = some j := (ixN_seq (Evl.ixN_nat hj)).1
/-- len of a list or tuple -/
abbrev rLn (K : PySem.W.Frag) : List V → Hp → VK → Prop := fun xs H Q => ∃ p ys, xs = [.ref p] ∧ (SqL K H p ys ∨ SqT K H p ys) ∧ Q (.int ys.length) H
def spDraw : Sp := fun vs H Q _ => ∃ (p c : Addr) (n : Nat) (many : Int), vs = [.ref p, .int many] ∧ StrAt H p c n ∧ n ≤ 1000000000 ∧ 1 ≤ many ∧ many < 1073741824 ∧
  ∀ (d : Int) (H' : Hp), 0 ≤ d → d < many → Kp p c H H' → StrAt H' p c (n + 1) → Q (.int d) H'
theorem dpa_ints {K : PySem.W.Frag} {H : Hp} : ∀ ns : List Int, DpAll K H (ns.map V.int) (ns.map PyData.int)
  | [] => .nil
  | n :: r => .cons (.int n) (dpa_ints r)
theorem dp_ints {K : PySem.W.Frag} {H : Hp} {a : Addr} {ns : List Int} (h : SqL K H a (ns.map V.int)) : Dp K H (.ref a) (.list (ns.map PyData.int)) := .lst h (dpa_ints ns)
theorem lay_ints : ∀ ns : List Int, PyData.canLayAll0 (ns.map PyData.int) = true
  | [] => by simp [PyData.canLayAll0]
  | n :: r => by simp [PyData.canLayAll0, PyData.canLay0, lay_ints r]
theorem depth_ints : ∀ ns : List Int, PyData.depthAll (ns.map PyData.int) = 0
  | [] => by simp [PyData.depthAll]
  | n :: r => by simp [PyData.depthAll, PyData.depth, depth_ints r]
theorem shaped_ints (ns : List Int) : SeqAt.shaped (.list (ns.map PyData.int)) = true := by
  unfold SeqAt.shaped
  simp [PyData.canLay0, PyData.depth, lay_ints, depth_ints]
theorem eqv_nil_ints : ∀ ns : List Int, PyData.eqv (.list (ns.map PyData.int)) (.list []) = ns.isEmpty
  | [] => by simp [PyData.eqv, PyData.eqvAll]
  | n :: r => by simp [PyData.eqv, PyData.eqvAll]
section
variable {P : Program} {w : World} {K : PySem.W.Frag} {mg : Str → Option Value} {base : Heap}
theorem scDraw : FnScope ["stream", "many", "cell", "digit", "mixed"] ["stream", "many"] (defScope sDraw) := ⟨rfl, rfl, rfl, by decide +kernel, rfl, by decide +kernel, by decide +kernel⟩
theorem ok_draw {f : Addr} {fd : FuncData} (F : FnP K "_law_draw" sDraw f fd) (gI : mg "int" = none) : FnOk P w K mg base CX0 1 f fd ["stream", "many"] spDraw := by
  refine F.ok scDraw (fun vs H Q E h => ?_) (fun cdv A outer s H vs Q E hr h => ?_)
  · obtain ⟨p, c, n, many, rfl, _⟩ := h
    rfl
  · obtain ⟨p, c, n, many, rfl, hS, hn, hm1, hm2, k⟩ := h
    refine ⟨_, PSs.nox (pss_cons (ps_asg (pe_op op_add (pe_ix ix_list (pv 0) pe_int (fun _ _ => rfl)) pe_int) (pg_sub (pv 0) pe_int set_list))
      (Evl.pss_cut (ps_while PassesOwn.never (PW.pt (pw_and (pt_cmpR op_eq (pe_ix ix_list (pv 0) pe_int (fun _ _ => rfl)) pe_int (nomark _)) (pw_and1 (pt_cmpR (op_neD hr.units) (pe_ix ix_list (pv 0) pe_int (fun _ _ => rfl)) (pe_lst pa_nil) (nomark _)))))
        (pss_cons (ps_set (i := 2) scDraw.nd rfl (.inl rfl) (pe_bm PySem.F.plainAttrs_list PySem.F.slot_list_pop PySem.F.type_list_pop mt_popAt (pe_ix ix_list (pv 0) pe_int (fun _ _ => rfl)) (pa_cons pe_int pa_nil)))
        (pss_cons (ps_asg (pe_op op_mod (pe_callTy call_int1 rfl gI (by decide +kernel) (pa_cons (pe_op op_add (pe_op op_add (pe_op op_mul (pe_ix ix_list (pv 0) pe_int (fun _ _ => rfl)) pe_int) (pv 2)) pe_int) pa_nil)) pe_int) (pg_sub (pv 0) pe_int set_list))
        (pss_one (ps_asg (pe_ifExp (pt_cmpR op_ge (pv 2) (pe_op op_pow pe_int pe_int) (nomark _)) (pv 2) pe_int) (pg_sub (pv 0) pe_int set_list))))))
      (pss_cons (ps_if (pt_cmpR op_gt (pe_ix ix_list (pv 0) pe_int (fun _ _ => rfl)) pe_int (nomark _))
        (pss_cons (ps_set (i := 3) scDraw.nd rfl (.inl rfl) (pe_op op_mod (pe_callTy call_int1 rfl gI (by decide +kernel) (pa_cons (pe_ix ix_list (pv 0) pe_int (fun _ _ => rfl)) pa_nil)) (pv 1)))
        (pss_cons (ps_asg (pe_op op_fdiv (pe_ix ix_list (pv 0) pe_int (fun _ _ => rfl)) (pv 1)) (pg_sub (pv 0) pe_int set_list))
        (pss_one (ps_ret (pv 3))))) pss_nil)
      (pss_cons (ps_set (i := 4) scDraw.nd rfl (.inl rfl) (pe_op op_mod (pe_callTy call_int1 rfl gI (by decide +kernel) (pa_cons (pe_op op_pow (pe_op op_add (pe_op op_add (pe_ix ix_list (pv 0) pe_int (fun _ _ => rfl)) (pe_op op_mul pe_int (pe_ix ix_list (pv 0) pe_int (fun _ _ => rfl)))) pe_int) pe_int) pa_nil)) pe_int))
      (pss_one (ps_ret (pe_op op_mod (pe_op op_mod (pe_callTy call_int1 rfl gI (by decide +kernel) (pa_cons (pe_op op_pow (pe_op op_add (pe_op op_add (pe_op op_mul (pv 4) pe_int) (pe_op op_mul pe_int (pe_ix ix_list (pv 0) pe_int (fun _ _ => rfl)))) pe_int) pe_int) pa_nil)) pe_int) (pv 1)))))))), ?_⟩
    obtain ⟨L, hS⟩ := hS
    have hpc := str_ne hS
    obtain ⟨cells, a, kk, m, h1, h2, hL, hL6, ha, hk0, hk, hm0, hm⟩ := hS
    refine ⟨_, rfl, p, _, _, _, rfl, rfl, SqL.of h1, rfl, _, _, rfl, rfl, _, rfl, p, _, _, 2, rfl, rfl, h1, rfl, ?_⟩
    show tSeq _ _ _ _ (upd H p (.lst [.ref c, .int a, .int (kk + 1), .int m]))
    have S1 : StrN (upd H p (.lst [.ref c, .int a, .int (kk + 1), .int m])) p c (n + 1) L := StrN.set h2 hpc hL hL6 ha (by omega) (by omega) hm0 hm
    have K1 : Kp p c H (upd H p (.lst [.ref c, .int a, .int (kk + 1), .int m])) := (Kp.refl H).stream
    generalize upd H p (.lst [.ref c, .int a, .int (kk + 1), .int m]) = H1 at S1 K1
    refine ⟨fun σ H' => ∃ v2 v3 v4, σ = [some (.ref p), some (.int many), v2, v3, v4] ∧ Kp p c H H' ∧ ∃ L, StrN H' p c (n + 1) L, ⟨fun L σ H' => ∃ v2 v3 v4, σ = [some (.ref p), some (.int many), v2, v3, v4] ∧ Kp p c H H' ∧ StrN H' p c (n + 1) L, ⟨L, none, none, none, rfl, K1, S1⟩, ?_⟩, ?_⟩
    · rintro L' σ H' ⟨v2, v3, v4, rfl, K2, S2⟩
      obtain ⟨cells', a', k', m', g1, g2, gL, gL6, ga, gk0, gk, gm0, gm⟩ := id S2
      refine ⟨_, rfl, p, _, _, _, rfl, rfl, SqL.of g1, rfl, rfl, _, rfl, ?_⟩
      refine ite2 (fun hz => ?_) (fun hz => ⟨v2, v3, v4, rfl, K2, L', S2⟩)
      refine ⟨_, rfl, p, _, _, _, rfl, rfl, SqL.of g1, rfl, Nat.zero_le _, fun q hq => ?_⟩
      have nqp : p ≠ q := ne_of_none g1 hq
      have nqc : c ≠ q := ne_of_none g2 hq
      have S3 : StrN (upd H' q (.lst [])) p c (n + 1) L' := S2.keep fun b u e => by rw [upd_ne (ne_of_none e hq)]; exact e
      have K3 : Kp p c H (upd H' q (.lst [])) := K2.new hq
      refine ⟨_, _, dp_ints (ns := cells') (SqL.of (by rw [upd_ne nqc]; exact g2)), dp_ints (ns := []) (SqL.of upd_same), shaped_ints _, shaped_ints _, _, rfl, ?_⟩
      rw [show (List.map PyData.int ([] : List Int)) = [] from rfl, eqv_nil_ints]
      have g1' : upd H' q (.lst []) p = some (.lst [.ref c, .int a', .int k', .int m']) := by rw [upd_ne nqp]; exact g1
      have g2' : upd H' q (.lst []) c = some (.lst (cells'.map V.int)) := by rw [upd_ne nqc]; exact g2
      generalize upd H' q (.lst []) = H3 at S3 K3 g1' g2'
      cases cells' with
      | nil => exact iteF ⟨v2, v3, v4, rfl, K3, L', S3⟩
      | cons z r =>
        refine iteT ⟨fun σ' H' => ∃ v2 v3 v4, σ' = [some (.ref p), some (.int many), v2, v3, v4] ∧ Kp p c H H' ∧ StrN H' p c (n + 1) r.length, fun σ' H' q => ⟨r.length, by rw [← gL]; exact Nat.lt_succ_self _, q⟩, ?_⟩
        refine ⟨_, rfl, p, _, _, _, rfl, rfl, SqL.of g1', rfl, .inl ⟨rfl, _, SqL.of g2'⟩, c, _, 0, 0, .int z, rfl, rfl, g2', by decide, by decide, by unfold seqIndex?; simp, rfl, ?_⟩
        have hr63 : r.length ≤ 63 := by
          rw [List.length_cons] at gL
          omega
        have g1c : upd H3 c (.lst (r.map V.int)) p = some (.lst [.ref c, .int a', .int k', .int m']) := by rw [upd_ne hpc]; exact g1'
        have g2c : upd H3 c (.lst (r.map V.int)) c = some (.lst (r.map V.int)) := upd_same
        have K4 : Kp p c H (upd H3 c (.lst (r.map V.int))) := K3.cells
        show tSeq _ _ _ _ (upd H3 c (.lst (r.map V.int)))
        generalize upd H3 c (.lst (r.map V.int)) = H4 at g1c g2c K4
        refine ⟨_, rfl, p, _, _, _, rfl, rfl, SqL.of g1c, rfl, _, _, rfl, rfl, .inr (by decide), _, rfl, _, _, rfl, rfl, _, _, rfl, rfl, .inl ⟨_, rfl, _, _, rfl, rfl, by show (0 : Int) < 2147483647; decide, ?_⟩⟩
        have hmm := Int.emod_nonneg (m' * 8191 + z + 3) (b := 2147483647) (by decide)
        have hmm2 := Int.emod_lt_of_pos (m' * 8191 + z + 3) (b := 2147483647) (by decide)
        refine ⟨_, rfl, p, _, _, 3, rfl, rfl, g1c, rfl, ?_⟩
        dsimp only [List.set]
        have g1d : upd H4 p (.lst [.ref c, .int a', .int k', .int ((m' * 8191 + z + 3) % 2147483647)]) p = some (.lst [.ref c, .int a', .int k', .int ((m' * 8191 + z + 3) % 2147483647)]) := upd_same
        have g2d : upd H4 p (.lst [.ref c, .int a', .int k', .int ((m' * 8191 + z + 3) % 2147483647)]) c = some (.lst (r.map V.int)) := by rw [upd_ne hpc.symm]; exact g2c
        have K5 : Kp p c H (upd H4 p (.lst [.ref c, .int a', .int k', .int ((m' * 8191 + z + 3) % 2147483647)])) := K4.stream
        generalize upd H4 p (.lst [.ref c, .int a', .int k', .int ((m' * 8191 + z + 3) % 2147483647)]) = H5 at g1d g2d K5
        refine ⟨_, rfl, _, _, rfl, rfl, ⟨by decide, by decide, by decide⟩, _, _, rfl, rfl, _, rfl, ?_⟩
        refine ite2 (fun hge => ⟨_, rfl, _, rfl, p, _, _, 1, rfl, rfl, g1d, rfl, ?_⟩) (fun _ => ⟨_, rfl, p, _, _, 1, rfl, rfl, g1d, rfl, ?_⟩)
        · have hz0 : 0 ≤ z := by
            have := of_decide_eq_true hge
            have e : (10 : Int) ^ (18 : Int).toNat = 1000000000000000000 := by decide
            rw [e] at this
            omega
          exact ⟨_, _, _, rfl, K5.stream, StrN.set g2d hpc rfl hr63 hz0 gk0 gk hmm hmm2⟩
        · exact ⟨_, _, _, rfl, K5.stream, StrN.set g2d hpc rfl hr63 (Int.le_refl 0) gk0 gk hmm hmm2⟩
    · rintro σ H' ⟨v2, v3, v4, rfl, K2, L', S2⟩
      obtain ⟨cells', a', k', m', g1, g2, gL, gL6, ga, gk0, gk, gm0, gm⟩ := id S2
      refine ⟨_, rfl, p, _, _, _, rfl, rfl, SqL.of g1, rfl, _, _, rfl, rfl, _, rfl, ?_⟩
      refine ite2 (fun hz => ?_) (fun hz => ?_)
      · have hpos : 0 < a' := of_decide_eq_true hz
        refine ⟨_, rfl, p, _, _, _, rfl, rfl, SqL.of g1, rfl, .inl ⟨_, rfl, _, rfl, _, _, rfl, rfl, by show (0 : Int) < many; omega, ?_⟩⟩
        refine ⟨_, rfl, p, _, _, _, rfl, rfl, SqL.of g1, rfl, _, rfl, _, _, rfl, rfl, ⟨by omega, by omega⟩, _, rfl, p, _, _, 1, rfl, rfl, g1, rfl, ?_⟩
        refine ⟨_, rfl, ?_⟩
        refine k _ _ (Int.emod_nonneg _ (by omega)) (Int.emod_lt_of_pos _ (by omega)) K2.stream ⟨L', StrN.set g2 hpc gL gL6 (Int.ediv_nonneg (by omega) (by omega)) gk0 gk gm0 gm⟩
      · have b1 : 0 ≤ m' + 7919 * k' + 104729 := by omega
        have b2 : m' + 7919 * k' + 104729 < 2 ^ 60 := by omega
        refine ⟨_, rfl, p, _, _, _, rfl, rfl, SqL.of g1, rfl, _, rfl, p, _, _, _, rfl, rfl, SqL.of g1, rfl, _, _, rfl, rfl, .inl (by decide), _, _, rfl, rfl, _, _, rfl, rfl, _, _, rfl, rfl, ⟨by decide, by decide, by omega⟩, .inl ⟨_, rfl, _, _, rfl, rfl, by show (0 : Int) < 2147483629; decide, ?_⟩⟩
        have hmm := Int.emod_nonneg ((m' + 7919 * k' + 104729) ^ (5 : Int).toNat) (b := 2147483629) (by decide)
        have hmm2 := Int.emod_lt_of_pos ((m' + 7919 * k' + 104729) ^ (5 : Int).toNat) (b := 2147483629) (by decide)
        dsimp only [gName]
        generalize (m' + 7919 * k' + 104729) ^ (5 : Int).toNat % 2147483629 = mx at hmm hmm2 ⊢
        refine ⟨_, rfl, _, _, rfl, rfl, .inr (by decide), _, rfl, p, _, _, _, rfl, rfl, SqL.of g1, rfl, _, _, rfl, rfl, .inl (by decide), _, _, rfl, rfl, _, _, rfl, rfl, _, _, rfl, rfl, ⟨by decide, by decide, by omega⟩, .inl ⟨_, rfl, _, _, rfl, rfl, by show (0 : Int) < 1000000007; decide, _, rfl, _, _, rfl, rfl, by show (0 : Int) < many; omega, ?_⟩⟩
        exact k _ _ (Int.emod_nonneg _ (by omega)) (Int.emod_lt_of_pos _ (by omega)) K2 ⟨L', S2⟩

/-! ### _law_start, _law_mixed -/
abbrev sStart : Stmt := top 75
def spStart (K : PySem.W.Frag) : Sp := fun vs H Q _ => ∃ (a : Addr) (ns : List Int), vs = [.ref a] ∧ SqL K H a (ns.map V.int) ∧ ns.length ≤ 63 ∧
  ∀ (p c : Addr) (H' : Hp), H p = none → H c = none → (∀ b o, H b = some o → H' b = some o) → StrAt H' p c 0 → Q (.ref p) H'
theorem scStart : FnScope ["script"] ["script"] (defScope sStart) := ⟨rfl, rfl, rfl, by decide +kernel, rfl, by decide +kernel, by decide +kernel⟩
theorem ok_start {f : Addr} {fd : FuncData} (F : FnP K "_law_start" sStart f fd) (gL : mg "list" = none) : FnOk P w K mg base CX0 1 f fd ["script"] (spStart K) := by
  refine F.ok scStart (fun vs H Q E h => ?_) (fun cdv A outer s H vs Q E hr h => ?_)
  · obtain ⟨a, ns, rfl, _⟩ := h
    rfl
  · obtain ⟨a, ns, rfl, hS, hl, k⟩ := h
    refine ⟨_, PSs.nox (pss_one (ps_ret (pe_lst (pa_cons (pe_callTy call_list_of rfl gL (by decide +kernel) (pa_cons (pv 0) pa_nil)) (pa_cons pe_int (pa_cons pe_int (pa_cons pe_int pa_nil))))))), ?_⟩
    refine ⟨_, rfl, a, _, rfl, .inl hS, fun c hc => ⟨by show 4 ≤ sizeLine; decide, fun p hp => ?_⟩⟩
    have hpc : p ≠ c := fun e => by
      rw [e, upd_same] at hp
      cases hp
    refine k p c _ (by rw [upd_ne hpc] at hp; exact hp) hc (fun b o e => ?_) ⟨ns.length, ns, 0, 0, 11, upd_same, by rw [upd_ne hpc.symm]; exact upd_same, rfl, hl, Int.le_refl _, Int.le_refl _, Int.le_refl _, by decide, by decide⟩
    have hbc := ne_of_none e hc
    have hbp : b ≠ p := fun z => by
      rw [z] at e
      rw [upd_ne hpc, e] at hp
      cases hp
    rw [upd_ne hbp, upd_ne hbc]
    exact e

abbrev sMixed : Stmt := top 77
def spMixed (K : PySem.W.Frag) : Sp := fun vs H Q _ => ∃ (p c l : Addr) (n : Nat) (xs : List V), vs = [.ref p, .ref l] ∧ StrAt H p c n ∧ n + xs.length ≤ 1000000000 ∧ (SqL K H l xs ∨ SqT K H l xs) ∧ xs.length ≤ 1000 ∧
  ∀ (q : Addr) (ys : List V) (H' : Hp), H q = none → H' q = some (.lst ys) → ys.Perm xs → Kp p c H H' → StrAt H' p c (n + xs.length) → Q (.ref q) H'
theorem perm_erase {α : Type} {l : List α} {j : Nat} {x : α} (h : l[j]? = some x) : (x :: l.eraseIdx j).Perm l := by
  induction l generalizing j with
  | nil => simp at h
  | cons a r ih =>
    cases j with
    | zero =>
      simp only [List.getElem?_cons_zero, Option.some.injEq] at h
      subst h
      simp
    | succ j =>
      simp only [List.getElem?_cons_succ] at h
      rw [List.eraseIdx_cons_succ]
      exact (List.Perm.swap a x _).trans ((ih h).cons a)
theorem scMixed : FnScope ["stream", "some", "left", "k"] ["stream", "some"] (defScope sMixed) := ⟨rfl, rfl, rfl, by decide +kernel, rfl, by decide +kernel, by decide +kernel⟩
theorem ok_mixed {f fD : Addr} {fd fdD : FuncData} (F : FnP K "_law_mixed" sMixed f fd) (FD : FnP K "_law_draw" sDraw fD fdD) (gI : mg "int" = none) (gD : mg "_law_draw" = some (.ref fD)) (gL : mg "len" = none) (gLi : mg "list" = none) (gR : mg "range" = none) : FnOk P w K mg base CX0 2 f fd ["stream", "some"] (spMixed K) := by
  have GD : FnOk P w K mg base CX0 1 fD fdD ["stream", "many"] spDraw := ok_draw FD gI
  have bD : Binds K fdD ["stream", "many"] [] := FD.bindsN fun _ _ _ _ _ _ us hl => match us, hl with | [_, _], _ => rfl
  refine F.ok scMixed (fun vs H Q E h => ?_) (fun cdv A outer s H vs Q E hr h => ?_)
  · obtain ⟨p, c, l, n, xs, rfl, _⟩ := h
    rfl
  · obtain ⟨p, c, l, n, xs, rfl, hS, hn, hl, hx, k⟩ := h
    refine' ⟨_, PSs.nox (pss_cons (ps_set (i := 2) scMixed.nd rfl (.inr rfl) (pe_callTy call_list_of rfl gLi (by decide +kernel) (pa_cons (pv 1) pa_nil)))
      (pss_one (ps_ret ?lc))), ?rd⟩
    case lc =>
      refine pe_lc (own := [("k", 3)]) (g := gName 3) (tt := tYes) (te := tBM K "list" rPopAt (tVar 2) (tCons (tCall spDraw [] E0 (tCons (tVar 0) (tCons (tCB (rLn K) (tCons (tVar 2) tNil)) tNil))) tNil)) rfl scMixed.nd (pi_range1 rfl gR (pa_cons (pe_callB call_len_seq (by rfl) gL PySem.boot_len (pa_cons (pv 2) pa_nil)) pa_nil))
        (blkOk_by (own := [("k", 3)]) (N := ["stream", "some", "left", "k"]) (sc := defScope sMixed) (by decide +kernel)) (fun _ _ _ _ _ => pg_name (i := 3) scMixed.nd rfl (.inl rfl)) (fun _ _ _ _ _ => pts_nil) ?_
      intro _ _ _ _ _
      exact pe_bm PySem.F.plainAttrs_list PySem.F.slot_list_pop PySem.F.type_list_pop mt_popAt (pv 2) (pa_cons (pe_call GD hr rfl gD FD.kp bD .nil pass0 (pa_cons (pv 0) (pa_cons (pe_callB call_len_seq (by rfl) gL PySem.boot_len (pa_cons (pv 2) pa_nil)) pa_nil))) pa_nil)
    refine ⟨_, rfl, l, xs, rfl, hl, fun t ht => ?_⟩
    have S1 : StrAt (upd H t (.lst xs)) p c n := hS.new ht
    refine ⟨_, rfl, t, xs, rfl, .inl (SqL.of upd_same), _, rfl, by omega, by omega, fun D hD => ?_⟩
    have hDt : t ≠ D := ne_of_none upd_same hD
    have hDH : H D = none := by rw [upd_ne hDt.symm] at hD; exact hD
    refine lc_range (lo := 0) (n := ((xs.length : Nat) : Int).toNat) (fun i H' => ∃ (left acc : List V), H' t = some (.lst left) ∧ H' D = some (.lst acc) ∧ left.length + i = xs.length ∧ acc.length = i ∧ (acc ++ left).Perm xs ∧ Kp p c H H' ∧ StrAt H' p c (n + i)) ?_ ?_ ?_
    · exact ⟨xs, [], by rw [upd_ne hDt]; exact upd_same, upd_same, by omega, rfl, List.Perm.refl _, ((Kp.refl H).new ht).new hD, S1.new hD⟩
    · rintro i H1 hi ⟨left, acc, e1, e2, e3, e4, e5, e6, e7⟩
      have hil : i < xs.length := by omega
      refine ⟨rfl, _, rfl, .inl ⟨rfl, _, SqL.of e1⟩, ?_⟩
      refine ⟨_, rfl, _, rfl, t, left, rfl, .inl (SqL.of e1), p, c, n + i, (left.length : Int), rfl, e7, by omega, by omega, by omega, fun d H2 d0 d1 hK hS2 => ?_⟩
      obtain ⟨S7a, S7b⟩ := hS.ne ht
      obtain ⟨S8a, S8b⟩ := hS.ne hDH
      obtain ⟨j, rfl⟩ : ∃ j : Nat, d = (j : Int) := ⟨d.toNat, by omega⟩
      have hj : j < left.length := by omega
      have ex : left[j]? = some left[j] := List.getElem?_eq_getElem hj
      have f1 := hK t _ e1 S7a S7b
      have f2 := hK D _ e2 S8a S8b
      refine ⟨t, left, (j : Int), j, left[j], rfl, rfl, f1, by omega, by omega, seq_nat hj, ex, ?_⟩
      refine ⟨acc, by rw [upd_ne hDt.symm]; exact f2, Nat.lt_of_lt_of_le (show acc.length < 1000 by omega) (by decide), left.eraseIdx j, acc ++ [left[j]], ?_, upd_same, ?_, ?_, ?_, ?_, ?_⟩
      · rw [upd_ne hDt]
        exact upd_same
      · rw [List.length_eraseIdx_of_lt hj]
        omega
      · rw [List.length_append, e4]
        rfl
      · refine List.Perm.trans ?_ e5
        rw [List.append_assoc]
        exact (perm_erase ex).append_left acc
      · exact ((e6.trans hK).mut ht).mut hDH
      · exact (hS2.upd S7a S7b).upd S8a S8b
    · rintro H1 ⟨left, acc, e1, e2, e3, e4, e5, e6, e7⟩
      have h0 : left = [] := by
        have : left.length = 0 := by omega
        exact List.length_eq_zero_iff.mp this
      subst h0
      have e8 : ((xs.length : Nat) : Int).toNat = xs.length := by omega
      rw [e8] at e7
      exact k D acc H1 hDH e2 (by rw [List.append_nil] at e5; exact e5) e6 e7
end
end K00
namespace K00
open PySem PySem.Spec PyProof.Rows L2
/-! ### errors as they stand, what is made of one class -/
/-- what is laid once for all stays, and what S says -/
def Kz (S : Addr → Prop) (H H' : Hp) : Prop := ∀ b o, H b = some o → ((∃ f, o = .ext f) ∨ (∃ xs, o = .tup xs) ∨ S b) → H' b = some o
theorem Kz.refl {S : Addr → Prop} (H : Hp) : Kz S H H := fun _ _ e _ => e
theorem Kz.trans {S : Addr → Prop} {H H1 H2 : Hp} (a : Kz S H H1) (b : Kz S H1 H2) : Kz S H H2 := fun x o e h => b x o (a x o e h) h
theorem Kz.of {S : Addr → Prop} {H H1 : Hp} (a : Evl.Ex H H1) : Kz S H H1 := fun x o e _ => a x o e
theorem Kz.mono {S T : Addr → Prop} {H H1 : Hp} (a : Kz S H H1) (h : ∀ b, T b → S b) : Kz T H H1 := fun x o e z => a x o e (z.imp id fun z => z.imp id (h x))
theorem Kz.lst {S : Addr → Prop} {H : Hp} {l : Addr} {xs : List V} {o : HO} (h : H l = some (.lst xs)) (n : ¬ S l) : Kz S H (upd H l o) := fun b u e z => by
  rw [upd_ne (fun y => ?_)]
  · exact e
  · subst y
    rw [h] at e
    cases e
    rcases z with ⟨f, z⟩ | ⟨f, z⟩ | z
    · cases z
    · cases z
    · exact n z
theorem Kz.tbl {S : Addr → Prop} {P : Addr} {H H1 : Hp} {ps : Array Value} (g : Lm.Grow P H H1) (h : H P = some (.tbl ps)) (n : ¬ S P) : Kz S H H1 := fun b u e z => by
  refine g b u (fun y => ?_) e
  subst y
  rw [h] at e
  cases e
  rcases z with ⟨f, z⟩ | ⟨f, z⟩ | z
  · cases z
  · cases z
  · exact n z
/-- an error of class C at m, its dict -/
def ErrAt (H : Hp) (C : Addr) (fv : List (Str × V)) (m : Addr) : Prop := (fv = [] ∧ H m = some (exo m C none)) ∨ ∃ d, H m = some (exo m C (some d)) ∧ H d = some (exd d fv)
theorem ErrAt.keep {S : Addr → Prop} {H H' : Hp} {C m : Addr} {fv : List (Str × V)} (h : ErrAt H C fv m) (k : Kz S H H') : ErrAt H' C fv m := by
  rcases h with ⟨e, h⟩ | ⟨d, h1, h2⟩
  · exact .inl ⟨e, k _ _ h (.inl ⟨_, rfl⟩)⟩
  · exact .inr ⟨d, k _ _ h1 (.inl ⟨_, rfl⟩), k _ _ h2 (.inl ⟨_, rfl⟩)⟩
/-- what makes such an error -/
def Mk (σ : L2.St) (C : Addr) (fv : List (Str × V)) (tm : TE) : Prop := ∀ H Q, (∀ m H', Evl.Ex H H' → ErrAt H' C fv m → Q (.ref m) H') → tm σ H Q
/-- what makes the list of such values -/
def Due (σ : L2.St) (dv : List V) (td : TE) : Prop := ∀ H Q, (∀ p, H p = none → Q (.ref p) (upd H p (.lst dv))) → td σ H Q
theorem mk1 {σ : L2.St} {C : Addr} {f : Str} {v : V} {i : Nat} (h : σ[i]? = some (some v)) : Mk σ C [(f, v)] (Ek.tMkV C (Exs.spInit C f) (tCons (tVar i) tNil) tNil) := fun H Q k =>
  ⟨v, h, by show 1 ≤ 1000; decide, Ek.rd_mk1 fun a d H2 ha hd hne e1 e2 ex => k a H2 ex (.inr ⟨d, e1, e2⟩)⟩
theorem mk1k {σ : L2.St} {C : Addr} {f : Str} {v : V} {i : Nat} (h : σ[i]? = some (some v)) : Mk σ C [(f, v)] (fun σ H Q => Ek.tMkV C (Exs.spInit C f) tNil (fun σ H Q => tCons (tVar i) tNil σ H fun zs H1 => zs.length = [f].length ∧ Q zs H1) σ H Q) := fun H Q k =>
  ⟨v, h, rfl, by show 0 ≤ 1000; decide, Ek.rd_mk1 fun a d H2 ha hd hne e1 e2 ex => k a H2 ex (.inr ⟨d, e1, e2⟩)⟩
theorem mk0 {σ : L2.St} {C : Addr} : Mk σ C [] (fun _ H Q => ∀ a, H a = none → Q (.ref a) (upd H a (exo a C none))) := fun H Q k a ha => k a _ (Evl.Ex.new ha) (.inl ⟨rfl, upd_same⟩)
/-- __init__ with two fields -/
def spInit2 (C : Addr) (f g : Str) : Sp := fun vs H Q _ => ∃ (a : Addr) (v u : V), vs = [.ref a, v, u] ∧ H a = some (exo a C none) ∧ ∀ dx, H dx = none → dx ≠ a → Q .non (upd (upd (upd H dx (exd dx [(f, v)])) a (exo a C (some dx))) dx (exd dx [(g, u), (f, v)]))
theorem rd_mk2 {C : Addr} {f g : Str} {v u : V} {H : Hp} {Q : VK} (h : ∀ a d H2, H2 a = some (exo a C (some d)) → H2 d = some (exd d [(g, u), (f, v)]) → Evl.Ex H H2 → Q (.ref a) H2) :
    ∀ a, H a = none → spInit2 C f g (.ref a :: [v, u]) (upd H a (exo a C none)) (fun x H3 => x = .non ∧ Q (.ref a) H3) (fun _ _ _ => False) := fun a ha =>
  ⟨a, v, u, rfl, upd_same, fun dx hdx ne => ⟨rfl, by
    have hd : H dx = none := by
      rw [upd_ne ne] at hdx
      exact hdx
    refine h a dx _ ?_ upd_same fun b o e => ?_
    · rw [upd_ne (Ne.symm ne), upd_same]
    · rw [upd_ne (ne_of_none e hd), upd_ne (ne_of_none e ha), upd_ne (ne_of_none e hd), upd_ne (ne_of_none e ha)]
      exact e⟩⟩
theorem mk2 {σ : L2.St} {C : Addr} {f g : Str} {v u : V} {i j : Nat} (h : σ[i]? = some (some v)) (h2 : σ[j]? = some (some u)) : Mk σ C [(g, u), (f, v)] (Ek.tMkV C (spInit2 C f g) (tCons (tVar i) (tCons (tVar j) tNil)) tNil) := fun H Q k =>
  ⟨v, h, u, h2, by show 2 ≤ 1000; decide, rd_mk2 fun a d H2 e1 e2 ex => k a H2 ex (.inr ⟨d, e1, e2⟩)⟩
theorem due0 {σ : L2.St} : Due σ [] (tLst tNil) := fun H Q k => ⟨Nat.zero_le _, fun p hp => k p hp⟩
theorem due1 {σ : L2.St} {v : V} {i : Nat} (h : σ[i]? = some (some v)) : Due σ [v] (tLst (tCons (tVar i) tNil)) := fun H Q k => ⟨v, h, by show 1 ≤ sizeLine; decide, fun p hp => k p hp⟩
theorem due2 {σ : L2.St} {v u : V} {i j : Nat} (h : σ[i]? = some (some v)) (h2 : σ[j]? = some (some u)) : Due σ [v, u] (tLst (tCons (tVar i) (tCons (tVar j) tNil))) := fun H Q k => ⟨v, h, u, h2, by show 2 ≤ sizeLine; decide, fun p hp => k p hp⟩
/-- what the lambda tells of such an error -/
def Tells (C : Addr) (fv : List (Str × V)) (dv : List V) (tb : TE) : Prop := ∀ m H Q, ErrAt H C fv m → (∀ l, H l = none → Q (.ref l) (upd H l (.lst dv))) → tb (L2.start ["e"] [.ref m]) H Q
section
variable {P : Program} {w : World} {K : PySem.W.Frag} {mg : Str → Option Value} {base : Heap}
theorem tells0 {C : Addr} {fv : List (Str × V)} : Tells C fv [] (tLst tNil) := fun m H Q _ k => ⟨Nat.zero_le _, fun p hp => k p hp⟩
theorem exf_at {σ : L2.St} {C m : Addr} {f : Str} {v : V} {fv : List (Str × V)} {H : Hp} {Q : VK} (T : XfC K C) (no : PySem.W.findIn K (.ref C) f = some none) (hm : σ[0]? = some (some (.ref m))) (e : ErrAt H C fv m) (hl : fv.lookup f = some v) (q : Q v H) : Ek.tExf K f (tVar 0) σ H Q := by
  rcases e with ⟨z, _⟩ | ⟨d, h1, h2⟩
  · subst z
    cases hl
  · exact ⟨_, hm, m, C, d, fv, v, rfl, T, no, h1, h2, hl, q⟩
theorem tells1 {C : Addr} {f : Str} {v : V} (T : XfC K C) (no : PySem.W.findIn K (.ref C) f = some none) : Tells C [(f, v)] [v] (tLst (tCons (Ek.tExf K f (tVar 0)) tNil)) := fun m H Q e k =>
  exf_at T no rfl e (by simp) ⟨by show 1 ≤ sizeLine; decide, fun p hp => k p hp⟩
theorem tells2 {C : Addr} {f g : Str} {v u : V} (T : XfC K C) (no : PySem.W.findIn K (.ref C) f = some none) (no2 : PySem.W.findIn K (.ref C) g = some none) (ne : (f == g) = false) : Tells C [(g, u), (f, v)] [v, u] (tLst (tCons (Ek.tExf K f (tVar 0)) (tCons (Ek.tExf K g (tVar 0)) tNil))) := fun m H Q e k => by
  show Ek.tExf K f (tVar 0) (L2.start ["e"] [.ref m]) H (fun x H1 => tCons (Ek.tExf K g (tVar 0)) tNil (L2.start ["e"] [.ref m]) H1 fun xs H2 => (x :: xs).length ≤ sizeLine ∧ ∀ p, H2 p = none → Q (.ref p) (upd H2 p (.lst (x :: xs))))
  refine exf_at (v := v) T no rfl e ?_ ?_
  · rw [List.lookup_cons, ne]
    simp
  · show Ek.tExf K g (tVar 0) (L2.start ["e"] [.ref m]) H (fun x H1 => [v, x].length ≤ sizeLine ∧ ∀ p, H1 p = none → Q (.ref p) (upd H1 p (.lst [v, x])))
    refine exf_at (v := u) T no2 rfl e ?_ ?_
    · simp
    · exact ⟨by show 2 ≤ sizeLine; decide, fun p hp => k p hp⟩
/-- one entry: two errors, a lambda, what is due -/
def Ent (P : Program) (w : World) (K : PySem.W.Frag) (mg : Str → Option Value) (base : Heap) (S : Addr → Prop) (H : Hp) (C : Addr) (fv : List (Str × V)) (dv : List V) (t : V) : Prop :=
  ∃ (a m m2 fL c2 P2 du : Addr) (q : Str) (pa : Arguments) (bd : Expr) (sc : Scope) (tb : TE), t = .ref a ∧ S du ∧ H a = some (.tup [.ref m, .ref m2, .ref fL, .ref du]) ∧ ErrAt H C fv m ∧ ErrAt H C fv m2 ∧ H fL = some (Lm.LamO fL q pa bd sc c2) ∧ H c2 = some (Lm.CodeT c2 q P2) ∧ H du = some (.lst dv) ∧
    Lm.Lam1 P w K mg base 1 "e" pa bd sc tb ∧ Tells C fv dv tb
theorem Ent.keep {S : Addr → Prop} {H H' : Hp} {C : Addr} {fv : List (Str × V)} {dv : List V} {t : V} (h : Ent P w K mg base S H C fv dv t) (k : Kz S H H') : Ent P w K mg base S H' C fv dv t := by
  obtain ⟨a, m, m2, fL, c2, P2, du, q, pa, bd, sc, tb, h1, h2, h3, h4, h5, h6, h7, h8, h9, h10⟩ := h
  exact ⟨a, m, m2, fL, c2, P2, du, q, pa, bd, sc, tb, h1, h2, k _ _ h3 (.inr (.inl ⟨_, rfl⟩)), h4.keep k, h5.keep k, k _ _ h6 (.inl ⟨_, rfl⟩), k _ _ h7 (.inl ⟨_, rfl⟩), k _ _ h8 (.inr (.inr h2)), h9, h10⟩
theorem Ent.mono {S T : Addr → Prop} {H : Hp} {C : Addr} {fv : List (Str × V)} {dv : List V} {t : V} (h : Ent P w K mg base S H C fv dv t) (k : ∀ b, S b → T b) : Ent P w K mg base T H C fv dv t := by
  obtain ⟨a, m, m2, fL, c2, P2, du, q, pa, bd, sc, tb, h1, h2, r⟩ := h
  exact ⟨a, m, m2, fL, c2, P2, du, q, pa, bd, sc, tb, h1, k _ h2, r⟩
/-- found.append((.., .., lambda e: .., [..])) -/
def tMade (K : PySem.W.Frag) (mg : Str → Option Value) (PL : Addr) (q : Str) (pa : Arguments) (bd : Expr) (sc : Scope) (tm tw td : TE) : TS := tDrop (tBM K "list" rAppend (tVar 3) (tCons (tTup (tCons tm (tCons tw (tCons (Lm.tLamV mg PL q pa bd sc) (tCons td tNil))))) tNil))
/-- a class, what is kept of x, y, z, what is due -/
structure Sc where
  C : Addr
  fv : V → V → V → List (Str × V)
  dv : V → V → V → List V
/-- entries for such classes -/
inductive Ents (P : Program) (w : World) (K : PySem.W.Frag) (mg : Str → Option Value) (base : Heap) (S : Addr → Prop) (H : Hp) (x y z : V) : List Sc → List V → Prop
  | nil : Ents P w K mg base S H x y z [] []
  | cons {c : Sc} {t : V} {cs : List Sc} {ts : List V} (h : Ent P w K mg base S H c.C (c.fv x y z) (c.dv x y z) t) (r : Ents P w K mg base S H x y z cs ts) : Ents P w K mg base S H x y z (c :: cs) (t :: ts)
theorem Ents.keep {S : Addr → Prop} {H H' : Hp} {x y z : V} (k : Kz S H H') : ∀ {cs : List Sc} {ts : List V}, Ents P w K mg base S H x y z cs ts → Ents P w K mg base S H' x y z cs ts
  | _, _, .nil => .nil
  | _, _, .cons h r => .cons (h.keep k) (r.keep k)
theorem Ents.mono {S T : Addr → Prop} {H : Hp} {x y z : V} (k : ∀ b, S b → T b) : ∀ {cs : List Sc} {ts : List V}, Ents P w K mg base S H x y z cs ts → Ents P w K mg base T H x y z cs ts
  | _, _, .nil => .nil
  | _, _, .cons h r => .cons (h.mono k) (r.mono k)
theorem Ents.append {S : Addr → Prop} {H : Hp} {x y z : V} : ∀ {cs ds : List Sc} {ts us : List V}, Ents P w K mg base S H x y z cs ts → Ents P w K mg base S H x y z ds us → Ents P w K mg base S H x y z (cs ++ ds) (ts ++ us)
  | _, _, _, _, .nil, g => g
  | _, _, _, _, .cons h r, g => .cons h (r.append g)
theorem Ents.length {S : Addr → Prop} {H : Hp} {x y z : V} : ∀ {cs : List Sc} {ts : List V}, Ents P w K mg base S H x y z cs ts → ts.length = cs.length
  | _, _, .nil => rfl
  | _, _, .cons _ r => congrArg (· + 1) r.length
/-- the statements of such a def: appends, then found told -/
inductive MadeB (mg : Str → Option Value) (base : Heap) (X : Cx) (PL : Addr) (q : Str) : List Stmt → List Sc → Prop
  | nil {st : Stmt} (h : PS X st (tRet (tVar 3))) : MadeB mg base X PL q [st] []
  | cons {st : Stmt} {rest : List Stmt} {c : Sc} {more : List Sc} {pa : Arguments} {bd : Expr} {sc : Scope} {tm tw td tb : TE} (h : PS X st (tMade X.K mg PL q pa bd sc tm tw td)) (hm : ∀ x y z l, Mk [some x, some y, some z, some l] c.C (c.fv x y z) tm) (hw : ∀ x y z l, Mk [some x, some y, some z, some l] c.C (c.fv x y z) tw)
      (hd : ∀ x y z l, Due [some x, some y, some z, some l] (c.dv x y z) td) (hl : Lm.Lam1 X.prog X.w X.K mg base 1 "e" pa bd sc tb) (ht : ∀ x y z, Tells c.C (c.fv x y z) (c.dv x y z) tb) (r : MadeB mg base X PL q rest more) : MadeB mg base X PL q (st :: rest) (c :: more)
theorem rd_made {S : Addr → Prop} {H : Hp} {x y z : V} {l PL : Addr} {ps : Array Value} {q : Str} {c : Sc} {pa : Arguments} {bd : Expr} {sc : Scope} {tm tw td tb : TE} {ys : List V} {D : Ends} (hm : ∀ x y z l, Mk [some x, some y, some z, some l] c.C (c.fv x y z) tm) (hw : ∀ x y z l, Mk [some x, some y, some z, some l] c.C (c.fv x y z) tw)
    (hd : ∀ x y z l, Due [some x, some y, some z, some l] (c.dv x y z) td) (hlm : Lm.Lam1 P w K mg base 1 "e" pa bd sc tb) (ht : ∀ x y z, Tells c.C (c.fv x y z) (c.dv x y z) tb) (hl : H l = some (.lst ys)) (hn : ys.length ≤ 1000) (hT : Lm.TabD mg [q] H PL) (nP : ¬ S PL) (nl : ¬ S l) (hS : ∀ b, H b = none → S b)
    (k : ∀ H' t, Kz S H H' → Lm.TabD mg [q] H' PL → H' l = some (.lst (ys ++ [t])) → (∀ b o, H b = some o → b ≠ PL → b ≠ l → H' b = some o) → Ent P w K mg base S H' c.C (c.fv x y z) (c.dv x y z) t → D.nx [some x, some y, some z, some (.ref l)] H') : tMade K mg PL q pa bd sc tm tw td D [some x, some y, some z, some (.ref l)] H := by
  refine ⟨.ref l, rfl, .inl ⟨rfl, ys, SqL.of hl⟩, ?_⟩
  refine hm x y z _ H _ fun m H1 x1 e1 => ?_
  refine hw x y z _ H1 _ fun m2 H2 x2 e2 => ?_
  obtain ⟨ps0, hP0, hr0⟩ := id hT
  have hP2 : H2 PL = some (.tbl ps0) := x2 _ _ (x1 _ _ hP0)
  have hT2 : Lm.TabD mg [q] H2 PL := ⟨ps0, hP2, hr0.1, fun p cv e => by
    obtain ⟨c0, P2, z1, z2, z3⟩ := hr0.2 p cv e
    exact ⟨c0, P2, z1, x2 _ _ (x1 _ _ z2), z3⟩⟩
  refine ⟨hT2, fun fL c2 P2 H3 g3 T3 n3 hc3 => ?_⟩
  have hl2 : H2 l = some (.lst ys) := x2 _ _ (x1 _ _ hl)
  have nlP : l ≠ PL := ne_of hl hP0 (fun z => nomatch z)
  have hl3 := g3 _ _ nlP hl2
  have x4 : Evl.Ex H3 (upd H3 fL (Lm.LamO fL q pa bd sc c2)) := Evl.Ex.new n3
  refine hd x y z _ _ _ fun du hdu => ?_
  have x5 := Evl.Ex.new (o := .lst (c.dv x y z)) hdu
  refine ⟨by show 4 ≤ sizeLine; decide, fun t hnt => ?_⟩
  have x6 := Evl.Ex.new (o := .tup [.ref m, .ref m2, .ref fL, .ref du]) hnt
  have hl6 := x6 _ _ (x5 _ _ (x4 _ _ hl3))
  refine ⟨l, ys, .ref t, rfl, rfl, hl6, Nat.lt_of_le_of_lt hn (by decide), ?_⟩
  have k3 : Kz S H2 H3 := Kz.tbl g3 hP2 nP
  have k6 : Kz S H2 (upd (upd (upd H3 fL (Lm.LamO fL q pa bd sc c2)) du (.lst (c.dv x y z))) t (.tup [.ref m, .ref m2, .ref fL, .ref du])) := k3.trans (((Kz.of x4).trans (Kz.of x5)).trans (Kz.of x6))
  have k7 : Kz S (upd (upd (upd H3 fL (Lm.LamO fL q pa bd sc c2)) du (.lst (c.dv x y z))) t (.tup [.ref m, .ref m2, .ref fL, .ref du])) (upd (upd (upd (upd H3 fL (Lm.LamO fL q pa bd sc c2)) du (.lst (c.dv x y z))) t (.tup [.ref m, .ref m2, .ref fL, .ref du])) l (.lst (ys ++ [.ref t]))) := Kz.lst hl6 nl
  have hduH : H du = none := by
    cases e : H du with
    | none => rfl
    | some o =>
      by_cases hdP : du = PL
      · subst hdP
        obtain ⟨ps3, hP3, _⟩ := T3
        have := x4 _ _ hP3
        rw [hdu] at this
        cases this
      · have := x4 _ _ (g3 _ _ hdP (x2 _ _ (x1 _ _ e)))
        rw [hdu] at this
        cases this
  have dul : du ≠ l := fun e => by
    rw [e, hl] at hduH
    cases hduH
  have dut : du ≠ t := ne_of_none upd_same hnt
  refine k _ (.ref t) (((Kz.of x1).trans (Kz.of x2)).trans (k6.trans k7)) ?_ upd_same (fun b o e n1 n2 => ?_) ?_
  · obtain ⟨ps3, hP3, hr3⟩ := T3
    refine ⟨ps3, ?_, hr3.1, fun p cv e => ?_⟩
    · rw [upd_ne nlP.symm]
      exact x6 _ _ (x5 _ _ (x4 _ _ hP3))
    · obtain ⟨c0, P2, z1, z2, z3⟩ := hr3.2 p cv e
      exact ⟨c0, P2, z1, k7 _ _ (x6 _ _ (x5 _ _ (x4 _ _ z2))) (.inl ⟨_, rfl⟩), z3⟩
  · rw [upd_ne n2]
    exact x6 _ _ (x5 _ _ (x4 _ _ (g3 _ _ n1 (x2 _ _ (x1 _ _ e)))))
  · refine ⟨t, m, m2, fL, c2, P2, du, q, pa, bd, sc, tb, rfl, hS _ hduH, k7 _ _ upd_same (.inr (.inl ⟨_, rfl⟩)), (e1.keep (Kz.of (S := S) x2)).keep (k6.trans k7), e2.keep (k6.trans k7), ?_, ?_, ?_, hlm, ht x y z⟩
    · exact k7 _ _ (x6 _ _ (x5 _ _ upd_same)) (.inl ⟨_, rfl⟩)
    · exact k7 _ _ (x6 _ _ (x5 _ _ (x4 _ _ hc3))) (.inl ⟨_, rfl⟩)
    · rw [upd_ne dul, upd_ne dut]
      exact upd_same
/-- the whole of such a body -/
theorem made_pss {X : Cx} {PL : Addr} {q : Str} : ∀ {b : List Stmt} {cs : List Sc}, MadeB mg base X PL q b cs → ∃ t, PSs X b t ∧ ∀ (S : Addr → Prop) (x y z : V) (l : Addr) (H : Hp) (ys : List V) (don : List Sc) (D : Ends), H l = some (.lst ys) → ys.length + cs.length ≤ 1000 → Lm.TabD mg [q] H PL → ¬ S PL → ¬ S l → (∀ b, H b = none → S b) → Ents X.prog X.w X.K mg base S H x y z don ys →
    (∀ H' zs, Kz S H H' → Lm.TabD mg [q] H' PL → H' l = some (.lst zs) → (∀ b o, H b = some o → b ≠ PL → b ≠ l → H' b = some o) → Ents X.prog X.w X.K mg base S H' x y z (don ++ cs) zs → D.rt (.ref l) H') → t D [some x, some y, some z, some (.ref l)] H
  | _, _, .nil h => ⟨_, pss_one h, fun S x y z l H ys don D h1 h2 h3 h4 h5 h6 h7 k => ⟨_, rfl, k H ys (Kz.refl H) h3 h1 (fun _ _ e _ _ => e) (by rw [List.append_nil]; exact h7)⟩⟩
  | _, _, @MadeB.cons _ _ _ _ _ st rest c more pa bd sc tm tw td tb h hm hw hd hl ht r => by
    obtain ⟨t, ht2, go⟩ := made_pss r
    refine ⟨_, pss_cons h ht2, fun S x y z l H ys don D h1 h2 h3 h4 h5 h6 h7 k => ?_⟩
    rw [List.length_cons] at h2
    refine rd_made (ps := #[]) hm hw hd hl ht h1 (by omega) h3 h4 h5 h6 fun H' t k1 T1 l1 g1 en => ?_
    refine go S x y z l H' (ys ++ [t]) (don ++ [c]) D l1 (by rw [List.length_append]; show ys.length + 1 + _ ≤ _; omega) T1 h4 h5 (fun b hb => ?_) ((h7.keep k1).append (.cons en .nil)) fun H2 zs k2 T2 l2 g2 en2 => ?_
    · refine h6 b ?_
      cases e : H b with
      | none => rfl
      | some o =>
        by_cases hb1 : b = PL
        · subst hb1
          obtain ⟨ps3, hP3, _⟩ := T1
          rw [hb] at hP3
          cases hP3
        · by_cases hb2 : b = l
          · rw [hb2, l1] at hb
            cases hb
          · rw [g1 _ _ e hb1 hb2] at hb
            cases hb
    · exact k H2 zs (k1.trans k2) T2 l2 (fun b o e n1 n2 => g2 _ _ (g1 _ _ e n1 n2) n1 n2) (by rw [List.append_assoc] at en2; exact en2)
end
end K00
namespace K00
open PySem PySem.Spec PyProof.Rows L2
/-! ### the classes, and what is known of each -/
/-- a class with one field -/
structure E1 (P : Program) (w : World) (K : PySem.W.Frag) (mg : Str → Option Value) (base : Heap) (x f : Str) (C fI : Addr) (fd : FuncData) : Prop where
  oc : OexC K C
  xf : XfC K C
  no : PySem.W.findIn K (.ref C) f = some none
  iC : PySem.W.findIn K (.ref C) "__init__" = some (some (.ref fI))
  tI : PySem.W.typeIn K (.ref fI) = some (.type "function")
  g : mg x = some (.ref C)
  fn : FnOk P w K mg base CX0 1 fI fd ["self", f] (Exs.spInit C f)
  kw0 : Ek.TakesKw K fd [f] []
  kw1 : Ek.TakesKw K fd [f] [f]
/-- C(g = .., f = ..), where __init__ has f, g -/
def TakesPerm (K : PySem.W.Frag) (fd : FuncData) (f g : Str) : Prop := ∀ (st : Shared) (me u v : Value), K.In st.heap → BindsTo st fd ⟨[me], [(g, v), (f, u)]⟩ [("self", me), (f, u), (g, v)]
section
variable {X : Cx} {k : Nat} {fI C : Addr} {fd : FuncData} {f g : Str} {sp : Sp} {x : Str} {p pos : Pos} {kws : List Keyword} {tk : TA}
theorem run_mkP {pins : List (Addr × Obj)} {σ : L2.St} {H : Hp} {st : Shared} {Q : VK} {u1 u2 : Value} {v1 v2 : V} (T : OexC X.K C) (iC : PySem.W.findIn X.K (.ref C) "__init__" = some (some (.ref fI))) (tI : PySem.W.typeIn X.K (.ref fI) = some (.type "function"))
    (F : FnOk X.prog X.w X.K X.mg X.base CX0 k fI fd ["self", f, g] sp) (hr : Room (k + 1) X.A) (hb : TakesPerm X.K fd f g) (I : Inv X pins σ H st) (r : Vals [v1, v2] [u1, u2])
    (h : ∀ a, H a = none → sp [.ref a, v1, v2] (upd H a (exo a C none)) (fun v H2 => v = .non ∧ Q (.ref a) H2) (fun _ _ _ => False)) :
    wpAny (model X.prog X.w) X.A (call (.ref C) [] [(g, u2), (f, u1)]) (EP X pins σ Q) X.xe st := by
  obtain ⟨nm, qn, N, bs, bm, sn, sub, ab, col, dd, k0, k1, k2, k3, k5, oC, hbm⟩ := T.cls
  obtain ⟨hp, gs, dr, tk0, os⟩ := st
  have fr : H (hp.objs.size + 1) = none := I.hok.fresh (Nat.le_succ _)
  have q := h _ fr
  have up : ∀ b o, hp.get? b = some o → ((hp.push (PySem.W.kdv_tup [])).push (PySem.HandSPX.excO C hp.objs.size)).get? b = some o := fun b o e => Heap.get?_push_of_some _ (Heap.get?_push_of_some _ e)
  have at1 : ((hp.push (PySem.W.kdv_tup [])).push (PySem.HandSPX.excO C hp.objs.size)).get? (hp.objs.size + 1) = some (PySem.HandSPX.excO C hp.objs.size) := by heap_get
  have J : Inv X pins σ (upd H (hp.objs.size + 1) (exo (hp.objs.size + 1) C none)) ⟨(hp.push (PySem.W.kdv_tup [])).push (PySem.HandSPX.excO C hp.objs.size), gs, dr, tk0, os⟩ := I.laid (t' := tk0) up (Nat.le_succ _) (exo_ok at1)
  have rr : Vals [V.ref (hp.objs.size + 1), v1, v2] [Value.ref (hp.objs.size + 1), u1, u2] := .cons rfl r
  have bd := hb ⟨(hp.push (PySem.W.kdv_tup [])).push (PySem.HandSPX.excO C hp.objs.size), gs, dr, tk0, os⟩ (.ref (hp.objs.size + 1)) u1 u2 J.kIn
  refine wpAny_call (Ek.call_kw PySem.F.excBase_ValueError (fun Y => PySem.HandSPX.refsVE_contains Y bm hbm) (I.kIn _ _ oC) (PySem.W.looks_findIn I.kIn iC) (fun me => PySem.W.bind_fn I.kIn me tI) (Nat.zero_le _) ?_)
  refine codeAny_mono (F.run _ X.stack _ _ ⟨[Value.ref (hp.objs.size + 1)], [(g, u2), (f, u1)]⟩ [Value.ref (hp.objs.size + 1), u1, u2] _ _ (fun _ _ _ => False) (hr.make C [] _) (J.env0.make C [] _) bd rr q) fun z s' hq => ?_
  match z, hq with
  | .error er, hq => exact (show False from hq).elim
  | .ok .next, hq => exact False.elim hq
  | .ok .brk, hq => exact False.elim hq
  | .ok .cont, hq => exact False.elim hq
  | .ok (.ret u), hq =>
    obtain ⟨v, H2, o2, b2, un, ok2, rv, rfl, q2⟩ := hq
    exact ⟨rv, J.after ⟨.ref (hp.objs.size + 1), H2, o2, b2, un, ok2, rfl, q2⟩⟩
theorem pe_mkP (T : OexC X.K C) (iC : PySem.W.findIn X.K (.ref C) "__init__" = some (some (.ref fI))) (tI : PySem.W.typeIn X.K (.ref fI) = some (.type "function")) (F : FnOk X.prog X.w X.K X.mg X.base CX0 k fI fd ["self", f, g] sp) (hr : Room (k + 1) X.A)
    (hb : TakesPerm X.K fd f g) (hg : Gl X x) (hm : X.mg x = some (.ref C)) (hkw : PK X kws tk) (hall : (backToKw pos (keywordEach kws X.env)).all (·.1.isSome) = true) (hks : (backToKw pos (keywordEach kws X.env)).filterMap (·.1) = [g, f])
    (hdb : (x == ("__debug__" : Str)) = false := by decide) (hpl : ((backTo pos (starEach [] X.env)).any (·.1) || (backToKw pos (keywordEach kws X.env)).any (·.1.isNone)) = false := by rfl) :
    PE X (.Call (.Name x p) [] kws pos) (fun σ H Q => tk σ H fun zs H1 => ∃ v1 v2, zs = [v2, v1] ∧ ∀ a, H1 a = none → sp [.ref a, v1, v2] (upd H1 a (exo a C none)) (fun v H3 => v = .non ∧ Q (.ref a) H3) (fun _ _ _ => False)) := by
  refine ⟨fun pins st σ H Q I h => ?_⟩
  refine wpAny_Call_Name_kw (ld_glob I hg hm ?_ hdb)
  refine PySem.W.callWith_KW0 (h₀ := X.base) I.ok.mod.kin T.kC hall (thn (hkw.run pos pins st σ H _ I h) ?_) hpl
  rintro ws s1 ⟨zs, H1, I1, rz, v1, v2, hz, q1⟩
  refine ⟨I1.kIn, ?_⟩
  rw [hks]
  clear hks hall hpl h
  subst hz
  cases rz with
  | cons r2 rz =>
    cases rz with
    | cons r1 rz =>
      cases rz
      have e := run_mkP T iC tI F hr hb I1 (.cons r1 (.cons r2 .nil)) q1
      exact e
end
theorem mk2k {σ : L2.St} {C : Addr} {f g : Str} {v u : V} {i j : Nat} (h : σ[i]? = some (some v)) (h2 : σ[j]? = some (some u)) : Mk σ C [(g, u), (f, v)] (fun σ H Q => tCons (tVar j) (tCons (tVar i) tNil) σ H fun zs H1 => ∃ v1 v2, zs = [v2, v1] ∧ ∀ a, H1 a = none → spInit2 C f g [.ref a, v1, v2] (upd H1 a (exo a C none)) (fun v H3 => v = .non ∧ Q (.ref a) H3) (fun _ _ _ => False)) := fun H Q k =>
  ⟨u, h2, v, h, v, u, rfl, rd_mk2 fun a d H2 e1 e2 ex => k a H2 ex (.inr ⟨d, e1, e2⟩)⟩
/-- a class with two fields -/
structure E2 (P : Program) (w : World) (K : PySem.W.Frag) (mg : Str → Option Value) (base : Heap) (x f g : Str) (C fI : Addr) (fd : FuncData) : Prop where
  oc : OexC K C
  xf : XfC K C
  no : PySem.W.findIn K (.ref C) f = some none
  no2 : PySem.W.findIn K (.ref C) g = some none
  ne : (f == g) = false
  iC : PySem.W.findIn K (.ref C) "__init__" = some (some (.ref fI))
  tI : PySem.W.typeIn K (.ref fI) = some (.type "function")
  gl : mg x = some (.ref C)
  fn : FnOk P w K mg base CX0 1 fI fd ["self", f, g] (spInit2 C f g)
  kw0 : Ek.TakesKw K fd [f, g] []
  kw1 : TakesPerm K fd f g
/-- a class without own __init__ -/
structure E0 (K : PySem.W.Frag) (mg : Str → Option Value) (x : Str) (C : Addr) : Prop where
  q : PySem.W.excIn K C bmVE "ValueError.__new__" = true
  kp : PySem.W.keepIn K (.ref C) = true
  g : mg x = some (.ref C)
def CAt (P : Program) (w : World) (K : PySem.W.Frag) (mg : Str → Option Value) (base : Heap) : Str × List Str → Prop
  | (x, [f]) => ∃ fI fd, E1 P w K mg base x f (He.ga K x) fI fd
  | (x, []) => E0 K mg x (He.ga K x)
  | (x, [f, g]) => ∃ fI fd, E2 P w K mg base x f g (He.ga K x) fI fd
  | _ => False
def CAll (P : Program) (w : World) (K : PySem.W.Frag) (mg : Str → Option Value) (base : Heap) : List (Str × List Str) → Prop
  | [] => True
  | p :: r => CAt P w K mg base p ∧ CAll P w K mg base r
def scOf (K : PySem.W.Frag) : Str × List Str → Sc
  | (x, [f]) => ⟨He.ga K x, fun x _ _ => [(f, x)], fun x _ _ => [x]⟩
  | (x, [f, g]) => ⟨He.ga K x, fun x y _ => [(g, y), (f, x)], fun x y _ => [x, y]⟩
  | (x, _) => ⟨He.ga K x, fun _ _ _ => [], fun _ _ _ => []⟩
/-- what such a def tells -/
def spMade (P : Program) (w : World) (K : PySem.W.Frag) (mg : Str → Option Value) (base : Heap) (PL : Addr) (q : Str) (cs : List Sc) : Sp := fun vs H Q _ => ∃ x y z, vs = [x, y, z] ∧ Lm.TabD mg [q] H PL ∧
  ∀ l H' zs, H l = none → Lm.TabD mg [q] H' PL → H' l = some (.lst zs) → (∀ b o, H b = some o → b ≠ PL → H' b = some o) → Ents P w K mg base (fun b => H b = none ∧ b ≠ l) H' x y z cs zs → Q (.ref l) H'
abbrev nmMade : List Str := ["x", "y", "z", "found"]
section
variable {P : Program} {w : World} {K : PySem.W.Frag} {mg : Str → Option Value} {base : Heap}
theorem okCd {x qual : Str} {params : Arguments} {body : List Stmt} {scope : Scope} {dvs : List V} {kws : List (Str × V)} {f c : Addr} {fd : FuncData} {CX : CXT} {N ps : List Str} {k : Nat} {sp : Sp} (F : FunD K x qual params body scope dvs kws f fd) (hc : fd.code = .ref c) (S : FnScope N ps scope) (len : ∀ vs H Q E, sp vs H Q E → vs.length = ps.length)
    (hbody : ∀ (A : Around) (outer : List Env) (s : Shared) (H : Hp) (vs : List V) (Q : VK) (E : XK), Room k (A.deeper (envOfC qual scope s.heap.objs.size f (.ref c))) → sp vs H Q E →
      ∃ t, PSs (cxOf CX P w K mg base N qual scope f (.ref c) A outer s H E) body t ∧ t { nx := fun _ H' => Q .non H', rt := Q } (start N vs) H) : FnOk P w K mg base CX (k + 1) f fd ps sp := by
  obtain ⟨oc, od, dV, kV, doc, pm, an, cdv, ct, osl, rfl, lk, hcd, _, _⟩ := F.ex
  obtain rfl : cdv = .ref c := hc
  exact fn_of lk hcd S len fun A outer s H vs Q E hr hsp => hbody A outer s H vs Q E hr hsp
/-- such a def, by its statements -/
theorem ok_made {x : Str} {params : Arguments} {st : Stmt} {b : List Stmt} {scope : Scope} {f c PL : Addr} {fd : FuncData} {cs : List Sc} (F : FunD K x x params (st :: b) scope [] [] f fd) (hc : fd.code = .ref c) (S : FnScope nmMade ["x", "y", "z"] scope) (hn : cs.length ≤ 1000)
    (first : ∀ A outer s H E, PS ((cxOf CX0 P w K mg base nmMade x scope f (.ref c) A outer s H E).nox) st (tAsg (tLst tNil) (gName 3)))
    (rest : ∀ A outer s H E, Room 2 (A.deeper (envOfC x scope s.heap.objs.size f (.ref c))) → MadeB mg base ((cxOf CX0 P w K mg base nmMade x scope f (.ref c) A outer s H E).nox) PL (x ++ ".<locals>." ++ "<lambda>") b cs) :
    FnOk P w K mg base CX0 3 f fd ["x", "y", "z"] (spMade P w K mg base PL (x ++ ".<locals>." ++ "<lambda>") cs) := by
  refine okCd F hc S (fun vs H Q E h => ?_) (fun A outer s H vs Q E hr h => ?_)
  · obtain ⟨x, y, z, rfl, _⟩ := h
    rfl
  · obtain ⟨x, y, z, rfl, hT, k⟩ := h
    obtain ⟨t, h1, h2⟩ := made_pss (rest A outer s H E hr)
    refine ⟨_, PSs.nox (pss_cons (first A outer s H E) h1), ?_⟩
    refine ⟨Nat.zero_le _, fun l hl => ?_⟩
    have x1 := Evl.Ex.new (o := .lst []) hl
    obtain ⟨ps0, hP0, hr0⟩ := id hT
    refine h2 (fun b => H b = none ∧ b ≠ l) x y z l (upd H l (.lst [])) [] [] _ upd_same (by simpa using hn) ⟨ps0, x1 _ _ hP0, hr0.1, fun p cv e => ?_⟩ (fun e => ?_) (fun e => e.2 rfl) (fun b hb => ?_) .nil fun H' zs k1 T1 l1 g1 en => ?_
    · obtain ⟨c0, P2, z1, z2, z3⟩ := hr0.2 p cv e
      exact ⟨c0, P2, z1, x1 _ _ z2, z3⟩
    · have := e.1
      rw [hP0] at this
      cases this
    · have hbl : b ≠ l := fun e => by
        rw [e, upd_same] at hb
        cases hb
      rw [upd_ne hbl] at hb
      exact ⟨hb, hbl⟩
    · refine k l H' zs hl T1 l1 (fun b o e n => ?_) en
      exact g1 _ _ (x1 _ _ e) n (ne_of_none e hl)
end
end K00
namespace K00
open PySem PySem.Spec PyProof.Rows L2
/-! ### the defs that make errors -/
section
variable {P : Program} {w : World} {K : PySem.W.Frag} {mg : Str → Option Value} {base : Heap}
theorem lamS {pa : Arguments} {bd : Expr} {sc : Scope} {tb : TE} (h1 : FnScope ["e"] ["e"] sc) (h2 : ∀ (q : Str) (pm cv ctv u : Value), bindArgs (PySem.W.kla_fn "<lambda>" q pa bd sc [] pm cv ctv) ⟨[u], []⟩ = pure [(("e" : Str), u)])
    (h3 : ∀ (q : Str) (f c2 : Addr) (A : Around) (outer : List Env) (s : Shared) (H : Hp), Room 1 (A.deeper (envOfC q sc s.heap.objs.size f (.ref c2))) → PE (cxOf L2.CX0 P w K mg base ["e"] q sc f (.ref c2) A outer s H (fun _ _ _ => False)) bd tb) : Lm.Lam1 P w K mg base 1 "e" pa bd sc tb := ⟨h1, h2, h3⟩
theorem ok_made_a {f c PL : Addr} {fd : FuncData} (F : FnP K "_law_made_a" (top 78) f fd) (hc : fd.code = .ref c) (TB : LamX.TabB base mg c PL) (hC : CAll P w K mg base cl_a) :
    FnOk P w K mg base CX0 3 f fd ["x", "y", "z"] (spMade P w K mg base PL ("_law_made_a" ++ ".<locals>." ++ "<lambda>") (cl_a.map (scOf K))) := by
  obtain ⟨⟨_, _, e0⟩, ⟨_, _, e1⟩, ⟨_, _, e2⟩, ⟨_, _, e3⟩, ⟨_, _, e4⟩, ⟨_, _, e5⟩, ⟨_, _, e6⟩, ⟨_, _, e7⟩, ⟨_, _, e8⟩, ⟨_, _, e9⟩, ⟨_, _, e10⟩, ⟨_, _, e11⟩, ⟨_, _, e12⟩, ⟨_, _, e13⟩, ⟨_, _, e14⟩, ⟨_, _, e15⟩, ⟨_, _, e16⟩, ⟨_, _, e17⟩, _⟩ := hC
  refine ok_made (st := (defBody (top 78)).getD 0 (.Pass ⟨0, 0, 0, 0⟩)) (b := (defBody (top 78)).drop 1) F hc ⟨rfl, rfl, rfl, by decide +kernel, rfl, by decide +kernel, by decide +kernel⟩ (by rw [List.length_map]; decide) (fun A outer s H E => ps_set (i := 3) (show nmMade.Nodup by decide +kernel) rfl (.inl rfl) (pe_lst pa_nil)) fun A outer s H E hr => ?_
  have src : ∀ pins σ H1 s1, Inv (cxOf CX0 P w K mg base nmMade "_law_made_a" (defScope (top 78)) f (.ref c) A outer s H E).nox pins σ H1 s1 → PySem.W.CodeHd s1.heap c PL ∧ s1.heap.BuiltinsAt mg PL ∧ mainGlobals ≠ PL := fun pins σ H s I => ⟨TB.code.keeps I.bk, TB.bm.keeps I.bk, TB.gP⟩
  exact MadeB.cons (ps_expr (pe_bm PySem.F.plainAttrs_list PySem.F.slot_list_append PySem.F.type_list_append mt_append (pv 3) (pa_cons (pe_tup (pa_cons (Ek.pe_mkV e0.oc e0.iC e0.tI e0.fn hr e0.kw0 (by rfl) e0.g (pa_cons (pv 0) pa_nil)) (pa_cons (Ek.pe_mkK e0.oc e0.iC e0.tI e0.fn hr e0.kw1 (by rfl) e0.g (pk_cons (pv 0) pk_nil) (by rfl) (by rfl)) (pa_cons (Lm.pe_lamV src rfl rfl rfl (by decide +kernel)) (pa_cons (pe_lst (pa_cons (pv 0) pa_nil)) pa_nil))))) pa_nil))) (fun _ _ _ _ => mk1 rfl) (fun _ _ _ _ => mk1k rfl) (fun _ _ _ _ => due1 rfl) (lamS (by exact ⟨rfl, rfl, rfl, by decide +kernel, rfl, by decide +kernel, by decide +kernel⟩) (fun _ _ _ _ _ => rfl) fun _ _ _ _ _ _ _ _ => pe_lst (pa_cons (Ek.pe_exf (pe_var (i := 0) rfl (.inl rfl))) pa_nil)) (fun _ _ _ => tells1 e0.xf e0.no) <|
    MadeB.cons (ps_expr (pe_bm PySem.F.plainAttrs_list PySem.F.slot_list_append PySem.F.type_list_append mt_append (pv 3) (pa_cons (pe_tup (pa_cons (Ek.pe_mkV e1.oc e1.iC e1.tI e1.fn hr e1.kw0 (by rfl) e1.g (pa_cons (pv 0) pa_nil)) (pa_cons (Ek.pe_mkK e1.oc e1.iC e1.tI e1.fn hr e1.kw1 (by rfl) e1.g (pk_cons (pv 0) pk_nil) (by rfl) (by rfl)) (pa_cons (Lm.pe_lamV src rfl rfl rfl (by decide +kernel)) (pa_cons (pe_lst (pa_cons (pv 0) pa_nil)) pa_nil))))) pa_nil))) (fun _ _ _ _ => mk1 rfl) (fun _ _ _ _ => mk1k rfl) (fun _ _ _ _ => due1 rfl) (lamS (by exact ⟨rfl, rfl, rfl, by decide +kernel, rfl, by decide +kernel, by decide +kernel⟩) (fun _ _ _ _ _ => rfl) fun _ _ _ _ _ _ _ _ => pe_lst (pa_cons (Ek.pe_exf (pe_var (i := 0) rfl (.inl rfl))) pa_nil)) (fun _ _ _ => tells1 e1.xf e1.no) <|
    MadeB.cons (ps_expr (pe_bm PySem.F.plainAttrs_list PySem.F.slot_list_append PySem.F.type_list_append mt_append (pv 3) (pa_cons (pe_tup (pa_cons (Ek.pe_mkV e2.oc e2.iC e2.tI e2.fn hr e2.kw0 (by rfl) e2.g (pa_cons (pv 0) pa_nil)) (pa_cons (Ek.pe_mkK e2.oc e2.iC e2.tI e2.fn hr e2.kw1 (by rfl) e2.g (pk_cons (pv 0) pk_nil) (by rfl) (by rfl)) (pa_cons (Lm.pe_lamV src rfl rfl rfl (by decide +kernel)) (pa_cons (pe_lst (pa_cons (pv 0) pa_nil)) pa_nil))))) pa_nil))) (fun _ _ _ _ => mk1 rfl) (fun _ _ _ _ => mk1k rfl) (fun _ _ _ _ => due1 rfl) (lamS (by exact ⟨rfl, rfl, rfl, by decide +kernel, rfl, by decide +kernel, by decide +kernel⟩) (fun _ _ _ _ _ => rfl) fun _ _ _ _ _ _ _ _ => pe_lst (pa_cons (Ek.pe_exf (pe_var (i := 0) rfl (.inl rfl))) pa_nil)) (fun _ _ _ => tells1 e2.xf e2.no) <|
    MadeB.cons (ps_expr (pe_bm PySem.F.plainAttrs_list PySem.F.slot_list_append PySem.F.type_list_append mt_append (pv 3) (pa_cons (pe_tup (pa_cons (Ek.pe_mkV e3.oc e3.iC e3.tI e3.fn hr e3.kw0 (by rfl) e3.g (pa_cons (pv 0) pa_nil)) (pa_cons (Ek.pe_mkK e3.oc e3.iC e3.tI e3.fn hr e3.kw1 (by rfl) e3.g (pk_cons (pv 0) pk_nil) (by rfl) (by rfl)) (pa_cons (Lm.pe_lamV src rfl rfl rfl (by decide +kernel)) (pa_cons (pe_lst (pa_cons (pv 0) pa_nil)) pa_nil))))) pa_nil))) (fun _ _ _ _ => mk1 rfl) (fun _ _ _ _ => mk1k rfl) (fun _ _ _ _ => due1 rfl) (lamS (by exact ⟨rfl, rfl, rfl, by decide +kernel, rfl, by decide +kernel, by decide +kernel⟩) (fun _ _ _ _ _ => rfl) fun _ _ _ _ _ _ _ _ => pe_lst (pa_cons (Ek.pe_exf (pe_var (i := 0) rfl (.inl rfl))) pa_nil)) (fun _ _ _ => tells1 e3.xf e3.no) <|
    MadeB.cons (ps_expr (pe_bm PySem.F.plainAttrs_list PySem.F.slot_list_append PySem.F.type_list_append mt_append (pv 3) (pa_cons (pe_tup (pa_cons (Ek.pe_mkV e4.oc e4.iC e4.tI e4.fn hr e4.kw0 (by rfl) e4.g (pa_cons (pv 0) pa_nil)) (pa_cons (Ek.pe_mkK e4.oc e4.iC e4.tI e4.fn hr e4.kw1 (by rfl) e4.g (pk_cons (pv 0) pk_nil) (by rfl) (by rfl)) (pa_cons (Lm.pe_lamV src rfl rfl rfl (by decide +kernel)) (pa_cons (pe_lst (pa_cons (pv 0) pa_nil)) pa_nil))))) pa_nil))) (fun _ _ _ _ => mk1 rfl) (fun _ _ _ _ => mk1k rfl) (fun _ _ _ _ => due1 rfl) (lamS (by exact ⟨rfl, rfl, rfl, by decide +kernel, rfl, by decide +kernel, by decide +kernel⟩) (fun _ _ _ _ _ => rfl) fun _ _ _ _ _ _ _ _ => pe_lst (pa_cons (Ek.pe_exf (pe_var (i := 0) rfl (.inl rfl))) pa_nil)) (fun _ _ _ => tells1 e4.xf e4.no) <|
    MadeB.cons (ps_expr (pe_bm PySem.F.plainAttrs_list PySem.F.slot_list_append PySem.F.type_list_append mt_append (pv 3) (pa_cons (pe_tup (pa_cons (Ek.pe_mkV e5.oc e5.iC e5.tI e5.fn hr e5.kw0 (by rfl) e5.g (pa_cons (pv 0) pa_nil)) (pa_cons (Ek.pe_mkK e5.oc e5.iC e5.tI e5.fn hr e5.kw1 (by rfl) e5.g (pk_cons (pv 0) pk_nil) (by rfl) (by rfl)) (pa_cons (Lm.pe_lamV src rfl rfl rfl (by decide +kernel)) (pa_cons (pe_lst (pa_cons (pv 0) pa_nil)) pa_nil))))) pa_nil))) (fun _ _ _ _ => mk1 rfl) (fun _ _ _ _ => mk1k rfl) (fun _ _ _ _ => due1 rfl) (lamS (by exact ⟨rfl, rfl, rfl, by decide +kernel, rfl, by decide +kernel, by decide +kernel⟩) (fun _ _ _ _ _ => rfl) fun _ _ _ _ _ _ _ _ => pe_lst (pa_cons (Ek.pe_exf (pe_var (i := 0) rfl (.inl rfl))) pa_nil)) (fun _ _ _ => tells1 e5.xf e5.no) <|
    MadeB.cons (ps_expr (pe_bm PySem.F.plainAttrs_list PySem.F.slot_list_append PySem.F.type_list_append mt_append (pv 3) (pa_cons (pe_tup (pa_cons (Ek.pe_mkV e6.oc e6.iC e6.tI e6.fn hr e6.kw0 (by rfl) e6.g (pa_cons (pv 0) pa_nil)) (pa_cons (Ek.pe_mkK e6.oc e6.iC e6.tI e6.fn hr e6.kw1 (by rfl) e6.g (pk_cons (pv 0) pk_nil) (by rfl) (by rfl)) (pa_cons (Lm.pe_lamV src rfl rfl rfl (by decide +kernel)) (pa_cons (pe_lst (pa_cons (pv 0) pa_nil)) pa_nil))))) pa_nil))) (fun _ _ _ _ => mk1 rfl) (fun _ _ _ _ => mk1k rfl) (fun _ _ _ _ => due1 rfl) (lamS (by exact ⟨rfl, rfl, rfl, by decide +kernel, rfl, by decide +kernel, by decide +kernel⟩) (fun _ _ _ _ _ => rfl) fun _ _ _ _ _ _ _ _ => pe_lst (pa_cons (Ek.pe_exf (pe_var (i := 0) rfl (.inl rfl))) pa_nil)) (fun _ _ _ => tells1 e6.xf e6.no) <|
    MadeB.cons (ps_expr (pe_bm PySem.F.plainAttrs_list PySem.F.slot_list_append PySem.F.type_list_append mt_append (pv 3) (pa_cons (pe_tup (pa_cons (Ek.pe_mkV e7.oc e7.iC e7.tI e7.fn hr e7.kw0 (by rfl) e7.g (pa_cons (pv 0) pa_nil)) (pa_cons (Ek.pe_mkK e7.oc e7.iC e7.tI e7.fn hr e7.kw1 (by rfl) e7.g (pk_cons (pv 0) pk_nil) (by rfl) (by rfl)) (pa_cons (Lm.pe_lamV src rfl rfl rfl (by decide +kernel)) (pa_cons (pe_lst (pa_cons (pv 0) pa_nil)) pa_nil))))) pa_nil))) (fun _ _ _ _ => mk1 rfl) (fun _ _ _ _ => mk1k rfl) (fun _ _ _ _ => due1 rfl) (lamS (by exact ⟨rfl, rfl, rfl, by decide +kernel, rfl, by decide +kernel, by decide +kernel⟩) (fun _ _ _ _ _ => rfl) fun _ _ _ _ _ _ _ _ => pe_lst (pa_cons (Ek.pe_exf (pe_var (i := 0) rfl (.inl rfl))) pa_nil)) (fun _ _ _ => tells1 e7.xf e7.no) <|
    MadeB.cons (ps_expr (pe_bm PySem.F.plainAttrs_list PySem.F.slot_list_append PySem.F.type_list_append mt_append (pv 3) (pa_cons (pe_tup (pa_cons (Ek.pe_mkV e8.oc e8.iC e8.tI e8.fn hr e8.kw0 (by rfl) e8.g (pa_cons (pv 0) pa_nil)) (pa_cons (Ek.pe_mkK e8.oc e8.iC e8.tI e8.fn hr e8.kw1 (by rfl) e8.g (pk_cons (pv 0) pk_nil) (by rfl) (by rfl)) (pa_cons (Lm.pe_lamV src rfl rfl rfl (by decide +kernel)) (pa_cons (pe_lst (pa_cons (pv 0) pa_nil)) pa_nil))))) pa_nil))) (fun _ _ _ _ => mk1 rfl) (fun _ _ _ _ => mk1k rfl) (fun _ _ _ _ => due1 rfl) (lamS (by exact ⟨rfl, rfl, rfl, by decide +kernel, rfl, by decide +kernel, by decide +kernel⟩) (fun _ _ _ _ _ => rfl) fun _ _ _ _ _ _ _ _ => pe_lst (pa_cons (Ek.pe_exf (pe_var (i := 0) rfl (.inl rfl))) pa_nil)) (fun _ _ _ => tells1 e8.xf e8.no) <|
    MadeB.cons (ps_expr (pe_bm PySem.F.plainAttrs_list PySem.F.slot_list_append PySem.F.type_list_append mt_append (pv 3) (pa_cons (pe_tup (pa_cons (Ek.pe_mkV e9.oc e9.iC e9.tI e9.fn hr e9.kw0 (by rfl) e9.g (pa_cons (pv 0) pa_nil)) (pa_cons (Ek.pe_mkK e9.oc e9.iC e9.tI e9.fn hr e9.kw1 (by rfl) e9.g (pk_cons (pv 0) pk_nil) (by rfl) (by rfl)) (pa_cons (Lm.pe_lamV src rfl rfl rfl (by decide +kernel)) (pa_cons (pe_lst (pa_cons (pv 0) pa_nil)) pa_nil))))) pa_nil))) (fun _ _ _ _ => mk1 rfl) (fun _ _ _ _ => mk1k rfl) (fun _ _ _ _ => due1 rfl) (lamS (by exact ⟨rfl, rfl, rfl, by decide +kernel, rfl, by decide +kernel, by decide +kernel⟩) (fun _ _ _ _ _ => rfl) fun _ _ _ _ _ _ _ _ => pe_lst (pa_cons (Ek.pe_exf (pe_var (i := 0) rfl (.inl rfl))) pa_nil)) (fun _ _ _ => tells1 e9.xf e9.no) <|
    MadeB.cons (ps_expr (pe_bm PySem.F.plainAttrs_list PySem.F.slot_list_append PySem.F.type_list_append mt_append (pv 3) (pa_cons (pe_tup (pa_cons (Ek.pe_mkV e10.oc e10.iC e10.tI e10.fn hr e10.kw0 (by rfl) e10.g (pa_cons (pv 0) pa_nil)) (pa_cons (Ek.pe_mkK e10.oc e10.iC e10.tI e10.fn hr e10.kw1 (by rfl) e10.g (pk_cons (pv 0) pk_nil) (by rfl) (by rfl)) (pa_cons (Lm.pe_lamV src rfl rfl rfl (by decide +kernel)) (pa_cons (pe_lst (pa_cons (pv 0) pa_nil)) pa_nil))))) pa_nil))) (fun _ _ _ _ => mk1 rfl) (fun _ _ _ _ => mk1k rfl) (fun _ _ _ _ => due1 rfl) (lamS (by exact ⟨rfl, rfl, rfl, by decide +kernel, rfl, by decide +kernel, by decide +kernel⟩) (fun _ _ _ _ _ => rfl) fun _ _ _ _ _ _ _ _ => pe_lst (pa_cons (Ek.pe_exf (pe_var (i := 0) rfl (.inl rfl))) pa_nil)) (fun _ _ _ => tells1 e10.xf e10.no) <|
    MadeB.cons (ps_expr (pe_bm PySem.F.plainAttrs_list PySem.F.slot_list_append PySem.F.type_list_append mt_append (pv 3) (pa_cons (pe_tup (pa_cons (Ek.pe_mkV e11.oc e11.iC e11.tI e11.fn hr e11.kw0 (by rfl) e11.g (pa_cons (pv 0) pa_nil)) (pa_cons (Ek.pe_mkK e11.oc e11.iC e11.tI e11.fn hr e11.kw1 (by rfl) e11.g (pk_cons (pv 0) pk_nil) (by rfl) (by rfl)) (pa_cons (Lm.pe_lamV src rfl rfl rfl (by decide +kernel)) (pa_cons (pe_lst (pa_cons (pv 0) pa_nil)) pa_nil))))) pa_nil))) (fun _ _ _ _ => mk1 rfl) (fun _ _ _ _ => mk1k rfl) (fun _ _ _ _ => due1 rfl) (lamS (by exact ⟨rfl, rfl, rfl, by decide +kernel, rfl, by decide +kernel, by decide +kernel⟩) (fun _ _ _ _ _ => rfl) fun _ _ _ _ _ _ _ _ => pe_lst (pa_cons (Ek.pe_exf (pe_var (i := 0) rfl (.inl rfl))) pa_nil)) (fun _ _ _ => tells1 e11.xf e11.no) <|
    MadeB.cons (ps_expr (pe_bm PySem.F.plainAttrs_list PySem.F.slot_list_append PySem.F.type_list_append mt_append (pv 3) (pa_cons (pe_tup (pa_cons (Ek.pe_mkV e12.oc e12.iC e12.tI e12.fn hr e12.kw0 (by rfl) e12.g (pa_cons (pv 0) pa_nil)) (pa_cons (Ek.pe_mkK e12.oc e12.iC e12.tI e12.fn hr e12.kw1 (by rfl) e12.g (pk_cons (pv 0) pk_nil) (by rfl) (by rfl)) (pa_cons (Lm.pe_lamV src rfl rfl rfl (by decide +kernel)) (pa_cons (pe_lst (pa_cons (pv 0) pa_nil)) pa_nil))))) pa_nil))) (fun _ _ _ _ => mk1 rfl) (fun _ _ _ _ => mk1k rfl) (fun _ _ _ _ => due1 rfl) (lamS (by exact ⟨rfl, rfl, rfl, by decide +kernel, rfl, by decide +kernel, by decide +kernel⟩) (fun _ _ _ _ _ => rfl) fun _ _ _ _ _ _ _ _ => pe_lst (pa_cons (Ek.pe_exf (pe_var (i := 0) rfl (.inl rfl))) pa_nil)) (fun _ _ _ => tells1 e12.xf e12.no) <|
    MadeB.cons (ps_expr (pe_bm PySem.F.plainAttrs_list PySem.F.slot_list_append PySem.F.type_list_append mt_append (pv 3) (pa_cons (pe_tup (pa_cons (Ek.pe_mkV e13.oc e13.iC e13.tI e13.fn hr e13.kw0 (by rfl) e13.g (pa_cons (pv 0) pa_nil)) (pa_cons (Ek.pe_mkK e13.oc e13.iC e13.tI e13.fn hr e13.kw1 (by rfl) e13.g (pk_cons (pv 0) pk_nil) (by rfl) (by rfl)) (pa_cons (Lm.pe_lamV src rfl rfl rfl (by decide +kernel)) (pa_cons (pe_lst (pa_cons (pv 0) pa_nil)) pa_nil))))) pa_nil))) (fun _ _ _ _ => mk1 rfl) (fun _ _ _ _ => mk1k rfl) (fun _ _ _ _ => due1 rfl) (lamS (by exact ⟨rfl, rfl, rfl, by decide +kernel, rfl, by decide +kernel, by decide +kernel⟩) (fun _ _ _ _ _ => rfl) fun _ _ _ _ _ _ _ _ => pe_lst (pa_cons (Ek.pe_exf (pe_var (i := 0) rfl (.inl rfl))) pa_nil)) (fun _ _ _ => tells1 e13.xf e13.no) <|
    MadeB.cons (ps_expr (pe_bm PySem.F.plainAttrs_list PySem.F.slot_list_append PySem.F.type_list_append mt_append (pv 3) (pa_cons (pe_tup (pa_cons (Ek.pe_mkV e14.oc e14.iC e14.tI e14.fn hr e14.kw0 (by rfl) e14.g (pa_cons (pv 0) pa_nil)) (pa_cons (Ek.pe_mkK e14.oc e14.iC e14.tI e14.fn hr e14.kw1 (by rfl) e14.g (pk_cons (pv 0) pk_nil) (by rfl) (by rfl)) (pa_cons (Lm.pe_lamV src rfl rfl rfl (by decide +kernel)) (pa_cons (pe_lst (pa_cons (pv 0) pa_nil)) pa_nil))))) pa_nil))) (fun _ _ _ _ => mk1 rfl) (fun _ _ _ _ => mk1k rfl) (fun _ _ _ _ => due1 rfl) (lamS (by exact ⟨rfl, rfl, rfl, by decide +kernel, rfl, by decide +kernel, by decide +kernel⟩) (fun _ _ _ _ _ => rfl) fun _ _ _ _ _ _ _ _ => pe_lst (pa_cons (Ek.pe_exf (pe_var (i := 0) rfl (.inl rfl))) pa_nil)) (fun _ _ _ => tells1 e14.xf e14.no) <|
    MadeB.cons (ps_expr (pe_bm PySem.F.plainAttrs_list PySem.F.slot_list_append PySem.F.type_list_append mt_append (pv 3) (pa_cons (pe_tup (pa_cons (Ek.pe_mkV e15.oc e15.iC e15.tI e15.fn hr e15.kw0 (by rfl) e15.g (pa_cons (pv 0) pa_nil)) (pa_cons (Ek.pe_mkK e15.oc e15.iC e15.tI e15.fn hr e15.kw1 (by rfl) e15.g (pk_cons (pv 0) pk_nil) (by rfl) (by rfl)) (pa_cons (Lm.pe_lamV src rfl rfl rfl (by decide +kernel)) (pa_cons (pe_lst (pa_cons (pv 0) pa_nil)) pa_nil))))) pa_nil))) (fun _ _ _ _ => mk1 rfl) (fun _ _ _ _ => mk1k rfl) (fun _ _ _ _ => due1 rfl) (lamS (by exact ⟨rfl, rfl, rfl, by decide +kernel, rfl, by decide +kernel, by decide +kernel⟩) (fun _ _ _ _ _ => rfl) fun _ _ _ _ _ _ _ _ => pe_lst (pa_cons (Ek.pe_exf (pe_var (i := 0) rfl (.inl rfl))) pa_nil)) (fun _ _ _ => tells1 e15.xf e15.no) <|
    MadeB.cons (ps_expr (pe_bm PySem.F.plainAttrs_list PySem.F.slot_list_append PySem.F.type_list_append mt_append (pv 3) (pa_cons (pe_tup (pa_cons (Ek.pe_mkV e16.oc e16.iC e16.tI e16.fn hr e16.kw0 (by rfl) e16.g (pa_cons (pv 0) pa_nil)) (pa_cons (Ek.pe_mkK e16.oc e16.iC e16.tI e16.fn hr e16.kw1 (by rfl) e16.g (pk_cons (pv 0) pk_nil) (by rfl) (by rfl)) (pa_cons (Lm.pe_lamV src rfl rfl rfl (by decide +kernel)) (pa_cons (pe_lst (pa_cons (pv 0) pa_nil)) pa_nil))))) pa_nil))) (fun _ _ _ _ => mk1 rfl) (fun _ _ _ _ => mk1k rfl) (fun _ _ _ _ => due1 rfl) (lamS (by exact ⟨rfl, rfl, rfl, by decide +kernel, rfl, by decide +kernel, by decide +kernel⟩) (fun _ _ _ _ _ => rfl) fun _ _ _ _ _ _ _ _ => pe_lst (pa_cons (Ek.pe_exf (pe_var (i := 0) rfl (.inl rfl))) pa_nil)) (fun _ _ _ => tells1 e16.xf e16.no) <|
    MadeB.cons (ps_expr (pe_bm PySem.F.plainAttrs_list PySem.F.slot_list_append PySem.F.type_list_append mt_append (pv 3) (pa_cons (pe_tup (pa_cons (Ek.pe_mkV e17.oc e17.iC e17.tI e17.fn hr e17.kw0 (by rfl) e17.g (pa_cons (pv 0) pa_nil)) (pa_cons (Ek.pe_mkK e17.oc e17.iC e17.tI e17.fn hr e17.kw1 (by rfl) e17.g (pk_cons (pv 0) pk_nil) (by rfl) (by rfl)) (pa_cons (Lm.pe_lamV src rfl rfl rfl (by decide +kernel)) (pa_cons (pe_lst (pa_cons (pv 0) pa_nil)) pa_nil))))) pa_nil))) (fun _ _ _ _ => mk1 rfl) (fun _ _ _ _ => mk1k rfl) (fun _ _ _ _ => due1 rfl) (lamS (by exact ⟨rfl, rfl, rfl, by decide +kernel, rfl, by decide +kernel, by decide +kernel⟩) (fun _ _ _ _ _ => rfl) fun _ _ _ _ _ _ _ _ => pe_lst (pa_cons (Ek.pe_exf (pe_var (i := 0) rfl (.inl rfl))) pa_nil)) (fun _ _ _ => tells1 e17.xf e17.no) <|
    MadeB.nil (ps_ret (pv 3))
theorem ok_made_b {f c PL : Addr} {fd : FuncData} (F : FnP K "_law_made_b" (top 79) f fd) (hc : fd.code = .ref c) (TB : LamX.TabB base mg c PL) (hC : CAll P w K mg base cl_b) :
    FnOk P w K mg base CX0 3 f fd ["x", "y", "z"] (spMade P w K mg base PL ("_law_made_b" ++ ".<locals>." ++ "<lambda>") (cl_b.map (scOf K))) := by
  obtain ⟨⟨_, _, e0⟩, ⟨_, _, e1⟩, ⟨_, _, e2⟩, ⟨_, _, e3⟩, ⟨_, _, e4⟩, ⟨_, _, e5⟩, ⟨_, _, e6⟩, ⟨_, _, e7⟩, ⟨_, _, e8⟩, ⟨_, _, e9⟩, ⟨_, _, e10⟩, ⟨_, _, e11⟩, ⟨_, _, e12⟩, ⟨_, _, e13⟩, ⟨_, _, e14⟩, ⟨_, _, e15⟩, ⟨_, _, e16⟩, ⟨_, _, e17⟩, _⟩ := hC
  refine ok_made (st := (defBody (top 79)).getD 0 (.Pass ⟨0, 0, 0, 0⟩)) (b := (defBody (top 79)).drop 1) F hc ⟨rfl, rfl, rfl, by decide +kernel, rfl, by decide +kernel, by decide +kernel⟩ (by rw [List.length_map]; decide) (fun A outer s H E => ps_set (i := 3) (show nmMade.Nodup by decide +kernel) rfl (.inl rfl) (pe_lst pa_nil)) fun A outer s H E hr => ?_
  have src : ∀ pins σ H1 s1, Inv (cxOf CX0 P w K mg base nmMade "_law_made_b" (defScope (top 79)) f (.ref c) A outer s H E).nox pins σ H1 s1 → PySem.W.CodeHd s1.heap c PL ∧ s1.heap.BuiltinsAt mg PL ∧ mainGlobals ≠ PL := fun pins σ H s I => ⟨TB.code.keeps I.bk, TB.bm.keeps I.bk, TB.gP⟩
  exact MadeB.cons (ps_expr (pe_bm PySem.F.plainAttrs_list PySem.F.slot_list_append PySem.F.type_list_append mt_append (pv 3) (pa_cons (pe_tup (pa_cons (Ek.pe_mkV e0.oc e0.iC e0.tI e0.fn hr e0.kw0 (by rfl) e0.g (pa_cons (pv 0) pa_nil)) (pa_cons (Ek.pe_mkK e0.oc e0.iC e0.tI e0.fn hr e0.kw1 (by rfl) e0.g (pk_cons (pv 0) pk_nil) (by rfl) (by rfl)) (pa_cons (Lm.pe_lamV src rfl rfl rfl (by decide +kernel)) (pa_cons (pe_lst (pa_cons (pv 0) pa_nil)) pa_nil))))) pa_nil))) (fun _ _ _ _ => mk1 rfl) (fun _ _ _ _ => mk1k rfl) (fun _ _ _ _ => due1 rfl) (lamS (by exact ⟨rfl, rfl, rfl, by decide +kernel, rfl, by decide +kernel, by decide +kernel⟩) (fun _ _ _ _ _ => rfl) fun _ _ _ _ _ _ _ _ => pe_lst (pa_cons (Ek.pe_exf (pe_var (i := 0) rfl (.inl rfl))) pa_nil)) (fun _ _ _ => tells1 e0.xf e0.no) <|
    MadeB.cons (ps_expr (pe_bm PySem.F.plainAttrs_list PySem.F.slot_list_append PySem.F.type_list_append mt_append (pv 3) (pa_cons (pe_tup (pa_cons (Ek.pe_mkV e1.oc e1.iC e1.tI e1.fn hr e1.kw0 (by rfl) e1.g (pa_cons (pv 0) pa_nil)) (pa_cons (Ek.pe_mkK e1.oc e1.iC e1.tI e1.fn hr e1.kw1 (by rfl) e1.g (pk_cons (pv 0) pk_nil) (by rfl) (by rfl)) (pa_cons (Lm.pe_lamV src rfl rfl rfl (by decide +kernel)) (pa_cons (pe_lst (pa_cons (pv 0) pa_nil)) pa_nil))))) pa_nil))) (fun _ _ _ _ => mk1 rfl) (fun _ _ _ _ => mk1k rfl) (fun _ _ _ _ => due1 rfl) (lamS (by exact ⟨rfl, rfl, rfl, by decide +kernel, rfl, by decide +kernel, by decide +kernel⟩) (fun _ _ _ _ _ => rfl) fun _ _ _ _ _ _ _ _ => pe_lst (pa_cons (Ek.pe_exf (pe_var (i := 0) rfl (.inl rfl))) pa_nil)) (fun _ _ _ => tells1 e1.xf e1.no) <|
    MadeB.cons (ps_expr (pe_bm PySem.F.plainAttrs_list PySem.F.slot_list_append PySem.F.type_list_append mt_append (pv 3) (pa_cons (pe_tup (pa_cons (Ek.pe_mkV e2.oc e2.iC e2.tI e2.fn hr e2.kw0 (by rfl) e2.g (pa_cons (pv 0) pa_nil)) (pa_cons (Ek.pe_mkK e2.oc e2.iC e2.tI e2.fn hr e2.kw1 (by rfl) e2.g (pk_cons (pv 0) pk_nil) (by rfl) (by rfl)) (pa_cons (Lm.pe_lamV src rfl rfl rfl (by decide +kernel)) (pa_cons (pe_lst (pa_cons (pv 0) pa_nil)) pa_nil))))) pa_nil))) (fun _ _ _ _ => mk1 rfl) (fun _ _ _ _ => mk1k rfl) (fun _ _ _ _ => due1 rfl) (lamS (by exact ⟨rfl, rfl, rfl, by decide +kernel, rfl, by decide +kernel, by decide +kernel⟩) (fun _ _ _ _ _ => rfl) fun _ _ _ _ _ _ _ _ => pe_lst (pa_cons (Ek.pe_exf (pe_var (i := 0) rfl (.inl rfl))) pa_nil)) (fun _ _ _ => tells1 e2.xf e2.no) <|
    MadeB.cons (ps_expr (pe_bm PySem.F.plainAttrs_list PySem.F.slot_list_append PySem.F.type_list_append mt_append (pv 3) (pa_cons (pe_tup (pa_cons (Ek.pe_mkV e3.oc e3.iC e3.tI e3.fn hr e3.kw0 (by rfl) e3.g (pa_cons (pv 0) pa_nil)) (pa_cons (Ek.pe_mkK e3.oc e3.iC e3.tI e3.fn hr e3.kw1 (by rfl) e3.g (pk_cons (pv 0) pk_nil) (by rfl) (by rfl)) (pa_cons (Lm.pe_lamV src rfl rfl rfl (by decide +kernel)) (pa_cons (pe_lst (pa_cons (pv 0) pa_nil)) pa_nil))))) pa_nil))) (fun _ _ _ _ => mk1 rfl) (fun _ _ _ _ => mk1k rfl) (fun _ _ _ _ => due1 rfl) (lamS (by exact ⟨rfl, rfl, rfl, by decide +kernel, rfl, by decide +kernel, by decide +kernel⟩) (fun _ _ _ _ _ => rfl) fun _ _ _ _ _ _ _ _ => pe_lst (pa_cons (Ek.pe_exf (pe_var (i := 0) rfl (.inl rfl))) pa_nil)) (fun _ _ _ => tells1 e3.xf e3.no) <|
    MadeB.cons (ps_expr (pe_bm PySem.F.plainAttrs_list PySem.F.slot_list_append PySem.F.type_list_append mt_append (pv 3) (pa_cons (pe_tup (pa_cons (Ek.pe_mkV e4.oc e4.iC e4.tI e4.fn hr e4.kw0 (by rfl) e4.g (pa_cons (pv 0) pa_nil)) (pa_cons (Ek.pe_mkK e4.oc e4.iC e4.tI e4.fn hr e4.kw1 (by rfl) e4.g (pk_cons (pv 0) pk_nil) (by rfl) (by rfl)) (pa_cons (Lm.pe_lamV src rfl rfl rfl (by decide +kernel)) (pa_cons (pe_lst (pa_cons (pv 0) pa_nil)) pa_nil))))) pa_nil))) (fun _ _ _ _ => mk1 rfl) (fun _ _ _ _ => mk1k rfl) (fun _ _ _ _ => due1 rfl) (lamS (by exact ⟨rfl, rfl, rfl, by decide +kernel, rfl, by decide +kernel, by decide +kernel⟩) (fun _ _ _ _ _ => rfl) fun _ _ _ _ _ _ _ _ => pe_lst (pa_cons (Ek.pe_exf (pe_var (i := 0) rfl (.inl rfl))) pa_nil)) (fun _ _ _ => tells1 e4.xf e4.no) <|
    MadeB.cons (ps_expr (pe_bm PySem.F.plainAttrs_list PySem.F.slot_list_append PySem.F.type_list_append mt_append (pv 3) (pa_cons (pe_tup (pa_cons (Ek.pe_mkV e5.oc e5.iC e5.tI e5.fn hr e5.kw0 (by rfl) e5.g (pa_cons (pv 0) pa_nil)) (pa_cons (Ek.pe_mkK e5.oc e5.iC e5.tI e5.fn hr e5.kw1 (by rfl) e5.g (pk_cons (pv 0) pk_nil) (by rfl) (by rfl)) (pa_cons (Lm.pe_lamV src rfl rfl rfl (by decide +kernel)) (pa_cons (pe_lst (pa_cons (pv 0) pa_nil)) pa_nil))))) pa_nil))) (fun _ _ _ _ => mk1 rfl) (fun _ _ _ _ => mk1k rfl) (fun _ _ _ _ => due1 rfl) (lamS (by exact ⟨rfl, rfl, rfl, by decide +kernel, rfl, by decide +kernel, by decide +kernel⟩) (fun _ _ _ _ _ => rfl) fun _ _ _ _ _ _ _ _ => pe_lst (pa_cons (Ek.pe_exf (pe_var (i := 0) rfl (.inl rfl))) pa_nil)) (fun _ _ _ => tells1 e5.xf e5.no) <|
    MadeB.cons (ps_expr (pe_bm PySem.F.plainAttrs_list PySem.F.slot_list_append PySem.F.type_list_append mt_append (pv 3) (pa_cons (pe_tup (pa_cons (Ek.pe_mkV e6.oc e6.iC e6.tI e6.fn hr e6.kw0 (by rfl) e6.g (pa_cons (pv 0) pa_nil)) (pa_cons (Ek.pe_mkK e6.oc e6.iC e6.tI e6.fn hr e6.kw1 (by rfl) e6.g (pk_cons (pv 0) pk_nil) (by rfl) (by rfl)) (pa_cons (Lm.pe_lamV src rfl rfl rfl (by decide +kernel)) (pa_cons (pe_lst (pa_cons (pv 0) pa_nil)) pa_nil))))) pa_nil))) (fun _ _ _ _ => mk1 rfl) (fun _ _ _ _ => mk1k rfl) (fun _ _ _ _ => due1 rfl) (lamS (by exact ⟨rfl, rfl, rfl, by decide +kernel, rfl, by decide +kernel, by decide +kernel⟩) (fun _ _ _ _ _ => rfl) fun _ _ _ _ _ _ _ _ => pe_lst (pa_cons (Ek.pe_exf (pe_var (i := 0) rfl (.inl rfl))) pa_nil)) (fun _ _ _ => tells1 e6.xf e6.no) <|
    MadeB.cons (ps_expr (pe_bm PySem.F.plainAttrs_list PySem.F.slot_list_append PySem.F.type_list_append mt_append (pv 3) (pa_cons (pe_tup (pa_cons (Ek.pe_mkV e7.oc e7.iC e7.tI e7.fn hr e7.kw0 (by rfl) e7.g (pa_cons (pv 0) pa_nil)) (pa_cons (Ek.pe_mkK e7.oc e7.iC e7.tI e7.fn hr e7.kw1 (by rfl) e7.g (pk_cons (pv 0) pk_nil) (by rfl) (by rfl)) (pa_cons (Lm.pe_lamV src rfl rfl rfl (by decide +kernel)) (pa_cons (pe_lst (pa_cons (pv 0) pa_nil)) pa_nil))))) pa_nil))) (fun _ _ _ _ => mk1 rfl) (fun _ _ _ _ => mk1k rfl) (fun _ _ _ _ => due1 rfl) (lamS (by exact ⟨rfl, rfl, rfl, by decide +kernel, rfl, by decide +kernel, by decide +kernel⟩) (fun _ _ _ _ _ => rfl) fun _ _ _ _ _ _ _ _ => pe_lst (pa_cons (Ek.pe_exf (pe_var (i := 0) rfl (.inl rfl))) pa_nil)) (fun _ _ _ => tells1 e7.xf e7.no) <|
    MadeB.cons (ps_expr (pe_bm PySem.F.plainAttrs_list PySem.F.slot_list_append PySem.F.type_list_append mt_append (pv 3) (pa_cons (pe_tup (pa_cons (Ek.pe_mkV e8.oc e8.iC e8.tI e8.fn hr e8.kw0 (by rfl) e8.g (pa_cons (pv 0) pa_nil)) (pa_cons (Ek.pe_mkK e8.oc e8.iC e8.tI e8.fn hr e8.kw1 (by rfl) e8.g (pk_cons (pv 0) pk_nil) (by rfl) (by rfl)) (pa_cons (Lm.pe_lamV src rfl rfl rfl (by decide +kernel)) (pa_cons (pe_lst (pa_cons (pv 0) pa_nil)) pa_nil))))) pa_nil))) (fun _ _ _ _ => mk1 rfl) (fun _ _ _ _ => mk1k rfl) (fun _ _ _ _ => due1 rfl) (lamS (by exact ⟨rfl, rfl, rfl, by decide +kernel, rfl, by decide +kernel, by decide +kernel⟩) (fun _ _ _ _ _ => rfl) fun _ _ _ _ _ _ _ _ => pe_lst (pa_cons (Ek.pe_exf (pe_var (i := 0) rfl (.inl rfl))) pa_nil)) (fun _ _ _ => tells1 e8.xf e8.no) <|
    MadeB.cons (ps_expr (pe_bm PySem.F.plainAttrs_list PySem.F.slot_list_append PySem.F.type_list_append mt_append (pv 3) (pa_cons (pe_tup (pa_cons (Ek.pe_mkV e9.oc e9.iC e9.tI e9.fn hr e9.kw0 (by rfl) e9.g (pa_cons (pv 0) pa_nil)) (pa_cons (Ek.pe_mkK e9.oc e9.iC e9.tI e9.fn hr e9.kw1 (by rfl) e9.g (pk_cons (pv 0) pk_nil) (by rfl) (by rfl)) (pa_cons (Lm.pe_lamV src rfl rfl rfl (by decide +kernel)) (pa_cons (pe_lst (pa_cons (pv 0) pa_nil)) pa_nil))))) pa_nil))) (fun _ _ _ _ => mk1 rfl) (fun _ _ _ _ => mk1k rfl) (fun _ _ _ _ => due1 rfl) (lamS (by exact ⟨rfl, rfl, rfl, by decide +kernel, rfl, by decide +kernel, by decide +kernel⟩) (fun _ _ _ _ _ => rfl) fun _ _ _ _ _ _ _ _ => pe_lst (pa_cons (Ek.pe_exf (pe_var (i := 0) rfl (.inl rfl))) pa_nil)) (fun _ _ _ => tells1 e9.xf e9.no) <|
    MadeB.cons (ps_expr (pe_bm PySem.F.plainAttrs_list PySem.F.slot_list_append PySem.F.type_list_append mt_append (pv 3) (pa_cons (pe_tup (pa_cons (Ek.pe_mkV e10.oc e10.iC e10.tI e10.fn hr e10.kw0 (by rfl) e10.g (pa_cons (pv 0) pa_nil)) (pa_cons (Ek.pe_mkK e10.oc e10.iC e10.tI e10.fn hr e10.kw1 (by rfl) e10.g (pk_cons (pv 0) pk_nil) (by rfl) (by rfl)) (pa_cons (Lm.pe_lamV src rfl rfl rfl (by decide +kernel)) (pa_cons (pe_lst (pa_cons (pv 0) pa_nil)) pa_nil))))) pa_nil))) (fun _ _ _ _ => mk1 rfl) (fun _ _ _ _ => mk1k rfl) (fun _ _ _ _ => due1 rfl) (lamS (by exact ⟨rfl, rfl, rfl, by decide +kernel, rfl, by decide +kernel, by decide +kernel⟩) (fun _ _ _ _ _ => rfl) fun _ _ _ _ _ _ _ _ => pe_lst (pa_cons (Ek.pe_exf (pe_var (i := 0) rfl (.inl rfl))) pa_nil)) (fun _ _ _ => tells1 e10.xf e10.no) <|
    MadeB.cons (ps_expr (pe_bm PySem.F.plainAttrs_list PySem.F.slot_list_append PySem.F.type_list_append mt_append (pv 3) (pa_cons (pe_tup (pa_cons (Ek.pe_mkV e11.oc e11.iC e11.tI e11.fn hr e11.kw0 (by rfl) e11.g (pa_cons (pv 0) pa_nil)) (pa_cons (Ek.pe_mkK e11.oc e11.iC e11.tI e11.fn hr e11.kw1 (by rfl) e11.g (pk_cons (pv 0) pk_nil) (by rfl) (by rfl)) (pa_cons (Lm.pe_lamV src rfl rfl rfl (by decide +kernel)) (pa_cons (pe_lst (pa_cons (pv 0) pa_nil)) pa_nil))))) pa_nil))) (fun _ _ _ _ => mk1 rfl) (fun _ _ _ _ => mk1k rfl) (fun _ _ _ _ => due1 rfl) (lamS (by exact ⟨rfl, rfl, rfl, by decide +kernel, rfl, by decide +kernel, by decide +kernel⟩) (fun _ _ _ _ _ => rfl) fun _ _ _ _ _ _ _ _ => pe_lst (pa_cons (Ek.pe_exf (pe_var (i := 0) rfl (.inl rfl))) pa_nil)) (fun _ _ _ => tells1 e11.xf e11.no) <|
    MadeB.cons (ps_expr (pe_bm PySem.F.plainAttrs_list PySem.F.slot_list_append PySem.F.type_list_append mt_append (pv 3) (pa_cons (pe_tup (pa_cons (Ek.pe_mkV e12.oc e12.iC e12.tI e12.fn hr e12.kw0 (by rfl) e12.g (pa_cons (pv 0) pa_nil)) (pa_cons (Ek.pe_mkK e12.oc e12.iC e12.tI e12.fn hr e12.kw1 (by rfl) e12.g (pk_cons (pv 0) pk_nil) (by rfl) (by rfl)) (pa_cons (Lm.pe_lamV src rfl rfl rfl (by decide +kernel)) (pa_cons (pe_lst (pa_cons (pv 0) pa_nil)) pa_nil))))) pa_nil))) (fun _ _ _ _ => mk1 rfl) (fun _ _ _ _ => mk1k rfl) (fun _ _ _ _ => due1 rfl) (lamS (by exact ⟨rfl, rfl, rfl, by decide +kernel, rfl, by decide +kernel, by decide +kernel⟩) (fun _ _ _ _ _ => rfl) fun _ _ _ _ _ _ _ _ => pe_lst (pa_cons (Ek.pe_exf (pe_var (i := 0) rfl (.inl rfl))) pa_nil)) (fun _ _ _ => tells1 e12.xf e12.no) <|
    MadeB.cons (ps_expr (pe_bm PySem.F.plainAttrs_list PySem.F.slot_list_append PySem.F.type_list_append mt_append (pv 3) (pa_cons (pe_tup (pa_cons (Ek.pe_mkV e13.oc e13.iC e13.tI e13.fn hr e13.kw0 (by rfl) e13.g (pa_cons (pv 0) pa_nil)) (pa_cons (Ek.pe_mkK e13.oc e13.iC e13.tI e13.fn hr e13.kw1 (by rfl) e13.g (pk_cons (pv 0) pk_nil) (by rfl) (by rfl)) (pa_cons (Lm.pe_lamV src rfl rfl rfl (by decide +kernel)) (pa_cons (pe_lst (pa_cons (pv 0) pa_nil)) pa_nil))))) pa_nil))) (fun _ _ _ _ => mk1 rfl) (fun _ _ _ _ => mk1k rfl) (fun _ _ _ _ => due1 rfl) (lamS (by exact ⟨rfl, rfl, rfl, by decide +kernel, rfl, by decide +kernel, by decide +kernel⟩) (fun _ _ _ _ _ => rfl) fun _ _ _ _ _ _ _ _ => pe_lst (pa_cons (Ek.pe_exf (pe_var (i := 0) rfl (.inl rfl))) pa_nil)) (fun _ _ _ => tells1 e13.xf e13.no) <|
    MadeB.cons (ps_expr (pe_bm PySem.F.plainAttrs_list PySem.F.slot_list_append PySem.F.type_list_append mt_append (pv 3) (pa_cons (pe_tup (pa_cons (Ek.pe_mkV e14.oc e14.iC e14.tI e14.fn hr e14.kw0 (by rfl) e14.g (pa_cons (pv 0) pa_nil)) (pa_cons (Ek.pe_mkK e14.oc e14.iC e14.tI e14.fn hr e14.kw1 (by rfl) e14.g (pk_cons (pv 0) pk_nil) (by rfl) (by rfl)) (pa_cons (Lm.pe_lamV src rfl rfl rfl (by decide +kernel)) (pa_cons (pe_lst (pa_cons (pv 0) pa_nil)) pa_nil))))) pa_nil))) (fun _ _ _ _ => mk1 rfl) (fun _ _ _ _ => mk1k rfl) (fun _ _ _ _ => due1 rfl) (lamS (by exact ⟨rfl, rfl, rfl, by decide +kernel, rfl, by decide +kernel, by decide +kernel⟩) (fun _ _ _ _ _ => rfl) fun _ _ _ _ _ _ _ _ => pe_lst (pa_cons (Ek.pe_exf (pe_var (i := 0) rfl (.inl rfl))) pa_nil)) (fun _ _ _ => tells1 e14.xf e14.no) <|
    MadeB.cons (ps_expr (pe_bm PySem.F.plainAttrs_list PySem.F.slot_list_append PySem.F.type_list_append mt_append (pv 3) (pa_cons (pe_tup (pa_cons (Ek.pe_mkV e15.oc e15.iC e15.tI e15.fn hr e15.kw0 (by rfl) e15.g (pa_cons (pv 0) pa_nil)) (pa_cons (Ek.pe_mkK e15.oc e15.iC e15.tI e15.fn hr e15.kw1 (by rfl) e15.g (pk_cons (pv 0) pk_nil) (by rfl) (by rfl)) (pa_cons (Lm.pe_lamV src rfl rfl rfl (by decide +kernel)) (pa_cons (pe_lst (pa_cons (pv 0) pa_nil)) pa_nil))))) pa_nil))) (fun _ _ _ _ => mk1 rfl) (fun _ _ _ _ => mk1k rfl) (fun _ _ _ _ => due1 rfl) (lamS (by exact ⟨rfl, rfl, rfl, by decide +kernel, rfl, by decide +kernel, by decide +kernel⟩) (fun _ _ _ _ _ => rfl) fun _ _ _ _ _ _ _ _ => pe_lst (pa_cons (Ek.pe_exf (pe_var (i := 0) rfl (.inl rfl))) pa_nil)) (fun _ _ _ => tells1 e15.xf e15.no) <|
    MadeB.cons (ps_expr (pe_bm PySem.F.plainAttrs_list PySem.F.slot_list_append PySem.F.type_list_append mt_append (pv 3) (pa_cons (pe_tup (pa_cons (Ek.pe_mkV e16.oc e16.iC e16.tI e16.fn hr e16.kw0 (by rfl) e16.g (pa_cons (pv 0) pa_nil)) (pa_cons (Ek.pe_mkK e16.oc e16.iC e16.tI e16.fn hr e16.kw1 (by rfl) e16.g (pk_cons (pv 0) pk_nil) (by rfl) (by rfl)) (pa_cons (Lm.pe_lamV src rfl rfl rfl (by decide +kernel)) (pa_cons (pe_lst (pa_cons (pv 0) pa_nil)) pa_nil))))) pa_nil))) (fun _ _ _ _ => mk1 rfl) (fun _ _ _ _ => mk1k rfl) (fun _ _ _ _ => due1 rfl) (lamS (by exact ⟨rfl, rfl, rfl, by decide +kernel, rfl, by decide +kernel, by decide +kernel⟩) (fun _ _ _ _ _ => rfl) fun _ _ _ _ _ _ _ _ => pe_lst (pa_cons (Ek.pe_exf (pe_var (i := 0) rfl (.inl rfl))) pa_nil)) (fun _ _ _ => tells1 e16.xf e16.no) <|
    MadeB.cons (ps_expr (pe_bm PySem.F.plainAttrs_list PySem.F.slot_list_append PySem.F.type_list_append mt_append (pv 3) (pa_cons (pe_tup (pa_cons (Ek.pe_mkV e17.oc e17.iC e17.tI e17.fn hr e17.kw0 (by rfl) e17.g (pa_cons (pv 0) pa_nil)) (pa_cons (Ek.pe_mkK e17.oc e17.iC e17.tI e17.fn hr e17.kw1 (by rfl) e17.g (pk_cons (pv 0) pk_nil) (by rfl) (by rfl)) (pa_cons (Lm.pe_lamV src rfl rfl rfl (by decide +kernel)) (pa_cons (pe_lst (pa_cons (pv 0) pa_nil)) pa_nil))))) pa_nil))) (fun _ _ _ _ => mk1 rfl) (fun _ _ _ _ => mk1k rfl) (fun _ _ _ _ => due1 rfl) (lamS (by exact ⟨rfl, rfl, rfl, by decide +kernel, rfl, by decide +kernel, by decide +kernel⟩) (fun _ _ _ _ _ => rfl) fun _ _ _ _ _ _ _ _ => pe_lst (pa_cons (Ek.pe_exf (pe_var (i := 0) rfl (.inl rfl))) pa_nil)) (fun _ _ _ => tells1 e17.xf e17.no) <|
    MadeB.nil (ps_ret (pv 3))
theorem ok_made_c {f c PL : Addr} {fd : FuncData} (F : FnP K "_law_made_c" (top 80) f fd) (hc : fd.code = .ref c) (TB : LamX.TabB base mg c PL) (hC : CAll P w K mg base cl_c) :
    FnOk P w K mg base CX0 3 f fd ["x", "y", "z"] (spMade P w K mg base PL ("_law_made_c" ++ ".<locals>." ++ "<lambda>") (cl_c.map (scOf K))) := by
  obtain ⟨⟨_, _, e0⟩, ⟨_, _, e1⟩, ⟨_, _, e2⟩, ⟨_, _, e3⟩, ⟨_, _, e4⟩, ⟨_, _, e5⟩, ⟨_, _, e6⟩, ⟨_, _, e7⟩, ⟨_, _, e8⟩, ⟨_, _, e9⟩, ⟨_, _, e10⟩, ⟨_, _, e11⟩, ⟨_, _, e12⟩, e13, ⟨_, _, e14⟩, ⟨_, _, e15⟩, ⟨_, _, e16⟩, ⟨_, _, e17⟩, _⟩ := hC
  refine ok_made (st := (defBody (top 80)).getD 0 (.Pass ⟨0, 0, 0, 0⟩)) (b := (defBody (top 80)).drop 1) F hc ⟨rfl, rfl, rfl, by decide +kernel, rfl, by decide +kernel, by decide +kernel⟩ (by rw [List.length_map]; decide) (fun A outer s H E => ps_set (i := 3) (show nmMade.Nodup by decide +kernel) rfl (.inl rfl) (pe_lst pa_nil)) fun A outer s H E hr => ?_
  have src : ∀ pins σ H1 s1, Inv (cxOf CX0 P w K mg base nmMade "_law_made_c" (defScope (top 80)) f (.ref c) A outer s H E).nox pins σ H1 s1 → PySem.W.CodeHd s1.heap c PL ∧ s1.heap.BuiltinsAt mg PL ∧ mainGlobals ≠ PL := fun pins σ H s I => ⟨TB.code.keeps I.bk, TB.bm.keeps I.bk, TB.gP⟩
  exact MadeB.cons (ps_expr (pe_bm PySem.F.plainAttrs_list PySem.F.slot_list_append PySem.F.type_list_append mt_append (pv 3) (pa_cons (pe_tup (pa_cons (Ek.pe_mkV e0.oc e0.iC e0.tI e0.fn hr e0.kw0 (by rfl) e0.g (pa_cons (pv 0) pa_nil)) (pa_cons (Ek.pe_mkK e0.oc e0.iC e0.tI e0.fn hr e0.kw1 (by rfl) e0.g (pk_cons (pv 0) pk_nil) (by rfl) (by rfl)) (pa_cons (Lm.pe_lamV src rfl rfl rfl (by decide +kernel)) (pa_cons (pe_lst (pa_cons (pv 0) pa_nil)) pa_nil))))) pa_nil))) (fun _ _ _ _ => mk1 rfl) (fun _ _ _ _ => mk1k rfl) (fun _ _ _ _ => due1 rfl) (lamS (by exact ⟨rfl, rfl, rfl, by decide +kernel, rfl, by decide +kernel, by decide +kernel⟩) (fun _ _ _ _ _ => rfl) fun _ _ _ _ _ _ _ _ => pe_lst (pa_cons (Ek.pe_exf (pe_var (i := 0) rfl (.inl rfl))) pa_nil)) (fun _ _ _ => tells1 e0.xf e0.no) <|
    MadeB.cons (ps_expr (pe_bm PySem.F.plainAttrs_list PySem.F.slot_list_append PySem.F.type_list_append mt_append (pv 3) (pa_cons (pe_tup (pa_cons (Ek.pe_mkV e1.oc e1.iC e1.tI e1.fn hr e1.kw0 (by rfl) e1.g (pa_cons (pv 0) pa_nil)) (pa_cons (Ek.pe_mkK e1.oc e1.iC e1.tI e1.fn hr e1.kw1 (by rfl) e1.g (pk_cons (pv 0) pk_nil) (by rfl) (by rfl)) (pa_cons (Lm.pe_lamV src rfl rfl rfl (by decide +kernel)) (pa_cons (pe_lst (pa_cons (pv 0) pa_nil)) pa_nil))))) pa_nil))) (fun _ _ _ _ => mk1 rfl) (fun _ _ _ _ => mk1k rfl) (fun _ _ _ _ => due1 rfl) (lamS (by exact ⟨rfl, rfl, rfl, by decide +kernel, rfl, by decide +kernel, by decide +kernel⟩) (fun _ _ _ _ _ => rfl) fun _ _ _ _ _ _ _ _ => pe_lst (pa_cons (Ek.pe_exf (pe_var (i := 0) rfl (.inl rfl))) pa_nil)) (fun _ _ _ => tells1 e1.xf e1.no) <|
    MadeB.cons (ps_expr (pe_bm PySem.F.plainAttrs_list PySem.F.slot_list_append PySem.F.type_list_append mt_append (pv 3) (pa_cons (pe_tup (pa_cons (Ek.pe_mkV e2.oc e2.iC e2.tI e2.fn hr e2.kw0 (by rfl) e2.g (pa_cons (pv 0) pa_nil)) (pa_cons (Ek.pe_mkK e2.oc e2.iC e2.tI e2.fn hr e2.kw1 (by rfl) e2.g (pk_cons (pv 0) pk_nil) (by rfl) (by rfl)) (pa_cons (Lm.pe_lamV src rfl rfl rfl (by decide +kernel)) (pa_cons (pe_lst (pa_cons (pv 0) pa_nil)) pa_nil))))) pa_nil))) (fun _ _ _ _ => mk1 rfl) (fun _ _ _ _ => mk1k rfl) (fun _ _ _ _ => due1 rfl) (lamS (by exact ⟨rfl, rfl, rfl, by decide +kernel, rfl, by decide +kernel, by decide +kernel⟩) (fun _ _ _ _ _ => rfl) fun _ _ _ _ _ _ _ _ => pe_lst (pa_cons (Ek.pe_exf (pe_var (i := 0) rfl (.inl rfl))) pa_nil)) (fun _ _ _ => tells1 e2.xf e2.no) <|
    MadeB.cons (ps_expr (pe_bm PySem.F.plainAttrs_list PySem.F.slot_list_append PySem.F.type_list_append mt_append (pv 3) (pa_cons (pe_tup (pa_cons (Ek.pe_mkV e3.oc e3.iC e3.tI e3.fn hr e3.kw0 (by rfl) e3.g (pa_cons (pv 0) pa_nil)) (pa_cons (Ek.pe_mkK e3.oc e3.iC e3.tI e3.fn hr e3.kw1 (by rfl) e3.g (pk_cons (pv 0) pk_nil) (by rfl) (by rfl)) (pa_cons (Lm.pe_lamV src rfl rfl rfl (by decide +kernel)) (pa_cons (pe_lst (pa_cons (pv 0) pa_nil)) pa_nil))))) pa_nil))) (fun _ _ _ _ => mk1 rfl) (fun _ _ _ _ => mk1k rfl) (fun _ _ _ _ => due1 rfl) (lamS (by exact ⟨rfl, rfl, rfl, by decide +kernel, rfl, by decide +kernel, by decide +kernel⟩) (fun _ _ _ _ _ => rfl) fun _ _ _ _ _ _ _ _ => pe_lst (pa_cons (Ek.pe_exf (pe_var (i := 0) rfl (.inl rfl))) pa_nil)) (fun _ _ _ => tells1 e3.xf e3.no) <|
    MadeB.cons (ps_expr (pe_bm PySem.F.plainAttrs_list PySem.F.slot_list_append PySem.F.type_list_append mt_append (pv 3) (pa_cons (pe_tup (pa_cons (Ek.pe_mkV e4.oc e4.iC e4.tI e4.fn hr e4.kw0 (by rfl) e4.g (pa_cons (pv 0) pa_nil)) (pa_cons (Ek.pe_mkK e4.oc e4.iC e4.tI e4.fn hr e4.kw1 (by rfl) e4.g (pk_cons (pv 0) pk_nil) (by rfl) (by rfl)) (pa_cons (Lm.pe_lamV src rfl rfl rfl (by decide +kernel)) (pa_cons (pe_lst (pa_cons (pv 0) pa_nil)) pa_nil))))) pa_nil))) (fun _ _ _ _ => mk1 rfl) (fun _ _ _ _ => mk1k rfl) (fun _ _ _ _ => due1 rfl) (lamS (by exact ⟨rfl, rfl, rfl, by decide +kernel, rfl, by decide +kernel, by decide +kernel⟩) (fun _ _ _ _ _ => rfl) fun _ _ _ _ _ _ _ _ => pe_lst (pa_cons (Ek.pe_exf (pe_var (i := 0) rfl (.inl rfl))) pa_nil)) (fun _ _ _ => tells1 e4.xf e4.no) <|
    MadeB.cons (ps_expr (pe_bm PySem.F.plainAttrs_list PySem.F.slot_list_append PySem.F.type_list_append mt_append (pv 3) (pa_cons (pe_tup (pa_cons (Ek.pe_mkV e5.oc e5.iC e5.tI e5.fn hr e5.kw0 (by rfl) e5.g (pa_cons (pv 0) pa_nil)) (pa_cons (Ek.pe_mkK e5.oc e5.iC e5.tI e5.fn hr e5.kw1 (by rfl) e5.g (pk_cons (pv 0) pk_nil) (by rfl) (by rfl)) (pa_cons (Lm.pe_lamV src rfl rfl rfl (by decide +kernel)) (pa_cons (pe_lst (pa_cons (pv 0) pa_nil)) pa_nil))))) pa_nil))) (fun _ _ _ _ => mk1 rfl) (fun _ _ _ _ => mk1k rfl) (fun _ _ _ _ => due1 rfl) (lamS (by exact ⟨rfl, rfl, rfl, by decide +kernel, rfl, by decide +kernel, by decide +kernel⟩) (fun _ _ _ _ _ => rfl) fun _ _ _ _ _ _ _ _ => pe_lst (pa_cons (Ek.pe_exf (pe_var (i := 0) rfl (.inl rfl))) pa_nil)) (fun _ _ _ => tells1 e5.xf e5.no) <|
    MadeB.cons (ps_expr (pe_bm PySem.F.plainAttrs_list PySem.F.slot_list_append PySem.F.type_list_append mt_append (pv 3) (pa_cons (pe_tup (pa_cons (Ek.pe_mkV e6.oc e6.iC e6.tI e6.fn hr e6.kw0 (by rfl) e6.g (pa_cons (pv 0) pa_nil)) (pa_cons (Ek.pe_mkK e6.oc e6.iC e6.tI e6.fn hr e6.kw1 (by rfl) e6.g (pk_cons (pv 0) pk_nil) (by rfl) (by rfl)) (pa_cons (Lm.pe_lamV src rfl rfl rfl (by decide +kernel)) (pa_cons (pe_lst (pa_cons (pv 0) pa_nil)) pa_nil))))) pa_nil))) (fun _ _ _ _ => mk1 rfl) (fun _ _ _ _ => mk1k rfl) (fun _ _ _ _ => due1 rfl) (lamS (by exact ⟨rfl, rfl, rfl, by decide +kernel, rfl, by decide +kernel, by decide +kernel⟩) (fun _ _ _ _ _ => rfl) fun _ _ _ _ _ _ _ _ => pe_lst (pa_cons (Ek.pe_exf (pe_var (i := 0) rfl (.inl rfl))) pa_nil)) (fun _ _ _ => tells1 e6.xf e6.no) <|
    MadeB.cons (ps_expr (pe_bm PySem.F.plainAttrs_list PySem.F.slot_list_append PySem.F.type_list_append mt_append (pv 3) (pa_cons (pe_tup (pa_cons (Ek.pe_mkV e7.oc e7.iC e7.tI e7.fn hr e7.kw0 (by rfl) e7.g (pa_cons (pv 0) pa_nil)) (pa_cons (Ek.pe_mkK e7.oc e7.iC e7.tI e7.fn hr e7.kw1 (by rfl) e7.g (pk_cons (pv 0) pk_nil) (by rfl) (by rfl)) (pa_cons (Lm.pe_lamV src rfl rfl rfl (by decide +kernel)) (pa_cons (pe_lst (pa_cons (pv 0) pa_nil)) pa_nil))))) pa_nil))) (fun _ _ _ _ => mk1 rfl) (fun _ _ _ _ => mk1k rfl) (fun _ _ _ _ => due1 rfl) (lamS (by exact ⟨rfl, rfl, rfl, by decide +kernel, rfl, by decide +kernel, by decide +kernel⟩) (fun _ _ _ _ _ => rfl) fun _ _ _ _ _ _ _ _ => pe_lst (pa_cons (Ek.pe_exf (pe_var (i := 0) rfl (.inl rfl))) pa_nil)) (fun _ _ _ => tells1 e7.xf e7.no) <|
    MadeB.cons (ps_expr (pe_bm PySem.F.plainAttrs_list PySem.F.slot_list_append PySem.F.type_list_append mt_append (pv 3) (pa_cons (pe_tup (pa_cons (Ek.pe_mkV e8.oc e8.iC e8.tI e8.fn hr e8.kw0 (by rfl) e8.g (pa_cons (pv 0) pa_nil)) (pa_cons (Ek.pe_mkK e8.oc e8.iC e8.tI e8.fn hr e8.kw1 (by rfl) e8.g (pk_cons (pv 0) pk_nil) (by rfl) (by rfl)) (pa_cons (Lm.pe_lamV src rfl rfl rfl (by decide +kernel)) (pa_cons (pe_lst (pa_cons (pv 0) pa_nil)) pa_nil))))) pa_nil))) (fun _ _ _ _ => mk1 rfl) (fun _ _ _ _ => mk1k rfl) (fun _ _ _ _ => due1 rfl) (lamS (by exact ⟨rfl, rfl, rfl, by decide +kernel, rfl, by decide +kernel, by decide +kernel⟩) (fun _ _ _ _ _ => rfl) fun _ _ _ _ _ _ _ _ => pe_lst (pa_cons (Ek.pe_exf (pe_var (i := 0) rfl (.inl rfl))) pa_nil)) (fun _ _ _ => tells1 e8.xf e8.no) <|
    MadeB.cons (ps_expr (pe_bm PySem.F.plainAttrs_list PySem.F.slot_list_append PySem.F.type_list_append mt_append (pv 3) (pa_cons (pe_tup (pa_cons (Ek.pe_mkV e9.oc e9.iC e9.tI e9.fn hr e9.kw0 (by rfl) e9.g (pa_cons (pv 0) pa_nil)) (pa_cons (Ek.pe_mkK e9.oc e9.iC e9.tI e9.fn hr e9.kw1 (by rfl) e9.g (pk_cons (pv 0) pk_nil) (by rfl) (by rfl)) (pa_cons (Lm.pe_lamV src rfl rfl rfl (by decide +kernel)) (pa_cons (pe_lst (pa_cons (pv 0) pa_nil)) pa_nil))))) pa_nil))) (fun _ _ _ _ => mk1 rfl) (fun _ _ _ _ => mk1k rfl) (fun _ _ _ _ => due1 rfl) (lamS (by exact ⟨rfl, rfl, rfl, by decide +kernel, rfl, by decide +kernel, by decide +kernel⟩) (fun _ _ _ _ _ => rfl) fun _ _ _ _ _ _ _ _ => pe_lst (pa_cons (Ek.pe_exf (pe_var (i := 0) rfl (.inl rfl))) pa_nil)) (fun _ _ _ => tells1 e9.xf e9.no) <|
    MadeB.cons (ps_expr (pe_bm PySem.F.plainAttrs_list PySem.F.slot_list_append PySem.F.type_list_append mt_append (pv 3) (pa_cons (pe_tup (pa_cons (Ek.pe_mkV e10.oc e10.iC e10.tI e10.fn hr e10.kw0 (by rfl) e10.g (pa_cons (pv 0) pa_nil)) (pa_cons (Ek.pe_mkK e10.oc e10.iC e10.tI e10.fn hr e10.kw1 (by rfl) e10.g (pk_cons (pv 0) pk_nil) (by rfl) (by rfl)) (pa_cons (Lm.pe_lamV src rfl rfl rfl (by decide +kernel)) (pa_cons (pe_lst (pa_cons (pv 0) pa_nil)) pa_nil))))) pa_nil))) (fun _ _ _ _ => mk1 rfl) (fun _ _ _ _ => mk1k rfl) (fun _ _ _ _ => due1 rfl) (lamS (by exact ⟨rfl, rfl, rfl, by decide +kernel, rfl, by decide +kernel, by decide +kernel⟩) (fun _ _ _ _ _ => rfl) fun _ _ _ _ _ _ _ _ => pe_lst (pa_cons (Ek.pe_exf (pe_var (i := 0) rfl (.inl rfl))) pa_nil)) (fun _ _ _ => tells1 e10.xf e10.no) <|
    MadeB.cons (ps_expr (pe_bm PySem.F.plainAttrs_list PySem.F.slot_list_append PySem.F.type_list_append mt_append (pv 3) (pa_cons (pe_tup (pa_cons (Ek.pe_mkV e11.oc e11.iC e11.tI e11.fn hr e11.kw0 (by rfl) e11.g (pa_cons (pv 0) pa_nil)) (pa_cons (Ek.pe_mkK e11.oc e11.iC e11.tI e11.fn hr e11.kw1 (by rfl) e11.g (pk_cons (pv 0) pk_nil) (by rfl) (by rfl)) (pa_cons (Lm.pe_lamV src rfl rfl rfl (by decide +kernel)) (pa_cons (pe_lst (pa_cons (pv 0) pa_nil)) pa_nil))))) pa_nil))) (fun _ _ _ _ => mk1 rfl) (fun _ _ _ _ => mk1k rfl) (fun _ _ _ _ => due1 rfl) (lamS (by exact ⟨rfl, rfl, rfl, by decide +kernel, rfl, by decide +kernel, by decide +kernel⟩) (fun _ _ _ _ _ => rfl) fun _ _ _ _ _ _ _ _ => pe_lst (pa_cons (Ek.pe_exf (pe_var (i := 0) rfl (.inl rfl))) pa_nil)) (fun _ _ _ => tells1 e11.xf e11.no) <|
    MadeB.cons (ps_expr (pe_bm PySem.F.plainAttrs_list PySem.F.slot_list_append PySem.F.type_list_append mt_append (pv 3) (pa_cons (pe_tup (pa_cons (Ek.pe_mkV e12.oc e12.iC e12.tI e12.fn hr e12.kw0 (by rfl) e12.g (pa_cons (pv 0) pa_nil)) (pa_cons (Ek.pe_mkK e12.oc e12.iC e12.tI e12.fn hr e12.kw1 (by rfl) e12.g (pk_cons (pv 0) pk_nil) (by rfl) (by rfl)) (pa_cons (Lm.pe_lamV src rfl rfl rfl (by decide +kernel)) (pa_cons (pe_lst (pa_cons (pv 0) pa_nil)) pa_nil))))) pa_nil))) (fun _ _ _ _ => mk1 rfl) (fun _ _ _ _ => mk1k rfl) (fun _ _ _ _ => due1 rfl) (lamS (by exact ⟨rfl, rfl, rfl, by decide +kernel, rfl, by decide +kernel, by decide +kernel⟩) (fun _ _ _ _ _ => rfl) fun _ _ _ _ _ _ _ _ => pe_lst (pa_cons (Ek.pe_exf (pe_var (i := 0) rfl (.inl rfl))) pa_nil)) (fun _ _ _ => tells1 e12.xf e12.no) <|
    MadeB.cons (ps_expr (pe_bm PySem.F.plainAttrs_list PySem.F.slot_list_append PySem.F.type_list_append mt_append (pv 3) (pa_cons (pe_tup (pa_cons (Ek.pe_mk0 PySem.F.excBase_ValueError e13.q (by rfl) e13.g e13.kp) (pa_cons (Ek.pe_mk0 PySem.F.excBase_ValueError e13.q (by rfl) e13.g e13.kp) (pa_cons (Lm.pe_lamV src rfl rfl rfl (by decide +kernel)) (pa_cons (pe_lst pa_nil) pa_nil))))) pa_nil))) (fun _ _ _ _ => mk0) (fun _ _ _ _ => mk0) (fun _ _ _ _ => due0) (lamS (by exact ⟨rfl, rfl, rfl, by decide +kernel, rfl, by decide +kernel, by decide +kernel⟩) (fun _ _ _ _ _ => rfl) fun _ _ _ _ _ _ _ _ => pe_lst pa_nil) (fun _ _ _ => tells0) <|
    MadeB.cons (ps_expr (pe_bm PySem.F.plainAttrs_list PySem.F.slot_list_append PySem.F.type_list_append mt_append (pv 3) (pa_cons (pe_tup (pa_cons (Ek.pe_mkV e14.oc e14.iC e14.tI e14.fn hr e14.kw0 (by rfl) e14.g (pa_cons (pv 0) pa_nil)) (pa_cons (Ek.pe_mkK e14.oc e14.iC e14.tI e14.fn hr e14.kw1 (by rfl) e14.g (pk_cons (pv 0) pk_nil) (by rfl) (by rfl)) (pa_cons (Lm.pe_lamV src rfl rfl rfl (by decide +kernel)) (pa_cons (pe_lst (pa_cons (pv 0) pa_nil)) pa_nil))))) pa_nil))) (fun _ _ _ _ => mk1 rfl) (fun _ _ _ _ => mk1k rfl) (fun _ _ _ _ => due1 rfl) (lamS (by exact ⟨rfl, rfl, rfl, by decide +kernel, rfl, by decide +kernel, by decide +kernel⟩) (fun _ _ _ _ _ => rfl) fun _ _ _ _ _ _ _ _ => pe_lst (pa_cons (Ek.pe_exf (pe_var (i := 0) rfl (.inl rfl))) pa_nil)) (fun _ _ _ => tells1 e14.xf e14.no) <|
    MadeB.cons (ps_expr (pe_bm PySem.F.plainAttrs_list PySem.F.slot_list_append PySem.F.type_list_append mt_append (pv 3) (pa_cons (pe_tup (pa_cons (Ek.pe_mkV e15.oc e15.iC e15.tI e15.fn hr e15.kw0 (by rfl) e15.g (pa_cons (pv 0) pa_nil)) (pa_cons (Ek.pe_mkK e15.oc e15.iC e15.tI e15.fn hr e15.kw1 (by rfl) e15.g (pk_cons (pv 0) pk_nil) (by rfl) (by rfl)) (pa_cons (Lm.pe_lamV src rfl rfl rfl (by decide +kernel)) (pa_cons (pe_lst (pa_cons (pv 0) pa_nil)) pa_nil))))) pa_nil))) (fun _ _ _ _ => mk1 rfl) (fun _ _ _ _ => mk1k rfl) (fun _ _ _ _ => due1 rfl) (lamS (by exact ⟨rfl, rfl, rfl, by decide +kernel, rfl, by decide +kernel, by decide +kernel⟩) (fun _ _ _ _ _ => rfl) fun _ _ _ _ _ _ _ _ => pe_lst (pa_cons (Ek.pe_exf (pe_var (i := 0) rfl (.inl rfl))) pa_nil)) (fun _ _ _ => tells1 e15.xf e15.no) <|
    MadeB.cons (ps_expr (pe_bm PySem.F.plainAttrs_list PySem.F.slot_list_append PySem.F.type_list_append mt_append (pv 3) (pa_cons (pe_tup (pa_cons (Ek.pe_mkV e16.oc e16.iC e16.tI e16.fn hr e16.kw0 (by rfl) e16.g (pa_cons (pv 0) pa_nil)) (pa_cons (Ek.pe_mkK e16.oc e16.iC e16.tI e16.fn hr e16.kw1 (by rfl) e16.g (pk_cons (pv 0) pk_nil) (by rfl) (by rfl)) (pa_cons (Lm.pe_lamV src rfl rfl rfl (by decide +kernel)) (pa_cons (pe_lst (pa_cons (pv 0) pa_nil)) pa_nil))))) pa_nil))) (fun _ _ _ _ => mk1 rfl) (fun _ _ _ _ => mk1k rfl) (fun _ _ _ _ => due1 rfl) (lamS (by exact ⟨rfl, rfl, rfl, by decide +kernel, rfl, by decide +kernel, by decide +kernel⟩) (fun _ _ _ _ _ => rfl) fun _ _ _ _ _ _ _ _ => pe_lst (pa_cons (Ek.pe_exf (pe_var (i := 0) rfl (.inl rfl))) pa_nil)) (fun _ _ _ => tells1 e16.xf e16.no) <|
    MadeB.cons (ps_expr (pe_bm PySem.F.plainAttrs_list PySem.F.slot_list_append PySem.F.type_list_append mt_append (pv 3) (pa_cons (pe_tup (pa_cons (Ek.pe_mkV e17.oc e17.iC e17.tI e17.fn hr e17.kw0 (by rfl) e17.g (pa_cons (pv 0) pa_nil)) (pa_cons (Ek.pe_mkK e17.oc e17.iC e17.tI e17.fn hr e17.kw1 (by rfl) e17.g (pk_cons (pv 0) pk_nil) (by rfl) (by rfl)) (pa_cons (Lm.pe_lamV src rfl rfl rfl (by decide +kernel)) (pa_cons (pe_lst (pa_cons (pv 0) pa_nil)) pa_nil))))) pa_nil))) (fun _ _ _ _ => mk1 rfl) (fun _ _ _ _ => mk1k rfl) (fun _ _ _ _ => due1 rfl) (lamS (by exact ⟨rfl, rfl, rfl, by decide +kernel, rfl, by decide +kernel, by decide +kernel⟩) (fun _ _ _ _ _ => rfl) fun _ _ _ _ _ _ _ _ => pe_lst (pa_cons (Ek.pe_exf (pe_var (i := 0) rfl (.inl rfl))) pa_nil)) (fun _ _ _ => tells1 e17.xf e17.no) <|
    MadeB.nil (ps_ret (pv 3))
theorem ok_made_d {f c PL : Addr} {fd : FuncData} (F : FnP K "_law_made_d" (top 81) f fd) (hc : fd.code = .ref c) (TB : LamX.TabB base mg c PL) (hC : CAll P w K mg base cl_d) :
    FnOk P w K mg base CX0 3 f fd ["x", "y", "z"] (spMade P w K mg base PL ("_law_made_d" ++ ".<locals>." ++ "<lambda>") (cl_d.map (scOf K))) := by
  obtain ⟨⟨_, _, e0⟩, ⟨_, _, e1⟩, ⟨_, _, e2⟩, ⟨_, _, e3⟩, ⟨_, _, e4⟩, e5, ⟨_, _, e6⟩, ⟨_, _, e7⟩, ⟨_, _, e8⟩, e9, e10, ⟨_, _, e11⟩, ⟨_, _, e12⟩, ⟨_, _, e13⟩, ⟨_, _, e14⟩, ⟨_, _, e15⟩, ⟨_, _, e16⟩, ⟨_, _, e17⟩, _⟩ := hC
  refine ok_made (st := (defBody (top 81)).getD 0 (.Pass ⟨0, 0, 0, 0⟩)) (b := (defBody (top 81)).drop 1) F hc ⟨rfl, rfl, rfl, by decide +kernel, rfl, by decide +kernel, by decide +kernel⟩ (by rw [List.length_map]; decide) (fun A outer s H E => ps_set (i := 3) (show nmMade.Nodup by decide +kernel) rfl (.inl rfl) (pe_lst pa_nil)) fun A outer s H E hr => ?_
  have src : ∀ pins σ H1 s1, Inv (cxOf CX0 P w K mg base nmMade "_law_made_d" (defScope (top 81)) f (.ref c) A outer s H E).nox pins σ H1 s1 → PySem.W.CodeHd s1.heap c PL ∧ s1.heap.BuiltinsAt mg PL ∧ mainGlobals ≠ PL := fun pins σ H s I => ⟨TB.code.keeps I.bk, TB.bm.keeps I.bk, TB.gP⟩
  exact MadeB.cons (ps_expr (pe_bm PySem.F.plainAttrs_list PySem.F.slot_list_append PySem.F.type_list_append mt_append (pv 3) (pa_cons (pe_tup (pa_cons (Ek.pe_mkV e0.oc e0.iC e0.tI e0.fn hr e0.kw0 (by rfl) e0.g (pa_cons (pv 0) pa_nil)) (pa_cons (Ek.pe_mkK e0.oc e0.iC e0.tI e0.fn hr e0.kw1 (by rfl) e0.g (pk_cons (pv 0) pk_nil) (by rfl) (by rfl)) (pa_cons (Lm.pe_lamV src rfl rfl rfl (by decide +kernel)) (pa_cons (pe_lst (pa_cons (pv 0) pa_nil)) pa_nil))))) pa_nil))) (fun _ _ _ _ => mk1 rfl) (fun _ _ _ _ => mk1k rfl) (fun _ _ _ _ => due1 rfl) (lamS (by exact ⟨rfl, rfl, rfl, by decide +kernel, rfl, by decide +kernel, by decide +kernel⟩) (fun _ _ _ _ _ => rfl) fun _ _ _ _ _ _ _ _ => pe_lst (pa_cons (Ek.pe_exf (pe_var (i := 0) rfl (.inl rfl))) pa_nil)) (fun _ _ _ => tells1 e0.xf e0.no) <|
    MadeB.cons (ps_expr (pe_bm PySem.F.plainAttrs_list PySem.F.slot_list_append PySem.F.type_list_append mt_append (pv 3) (pa_cons (pe_tup (pa_cons (Ek.pe_mkV e1.oc e1.iC e1.tI e1.fn hr e1.kw0 (by rfl) e1.g (pa_cons (pv 0) pa_nil)) (pa_cons (Ek.pe_mkK e1.oc e1.iC e1.tI e1.fn hr e1.kw1 (by rfl) e1.g (pk_cons (pv 0) pk_nil) (by rfl) (by rfl)) (pa_cons (Lm.pe_lamV src rfl rfl rfl (by decide +kernel)) (pa_cons (pe_lst (pa_cons (pv 0) pa_nil)) pa_nil))))) pa_nil))) (fun _ _ _ _ => mk1 rfl) (fun _ _ _ _ => mk1k rfl) (fun _ _ _ _ => due1 rfl) (lamS (by exact ⟨rfl, rfl, rfl, by decide +kernel, rfl, by decide +kernel, by decide +kernel⟩) (fun _ _ _ _ _ => rfl) fun _ _ _ _ _ _ _ _ => pe_lst (pa_cons (Ek.pe_exf (pe_var (i := 0) rfl (.inl rfl))) pa_nil)) (fun _ _ _ => tells1 e1.xf e1.no) <|
    MadeB.cons (ps_expr (pe_bm PySem.F.plainAttrs_list PySem.F.slot_list_append PySem.F.type_list_append mt_append (pv 3) (pa_cons (pe_tup (pa_cons (Ek.pe_mkV e2.oc e2.iC e2.tI e2.fn hr e2.kw0 (by rfl) e2.gl (pa_cons (pv 0) (pa_cons (pv 1) pa_nil))) (pa_cons (pe_mkP e2.oc e2.iC e2.tI e2.fn hr e2.kw1 (by rfl) e2.gl (pk_cons (pv 1) (pk_cons (pv 0) pk_nil)) (by rfl) (by rfl)) (pa_cons (Lm.pe_lamV src rfl rfl rfl (by decide +kernel)) (pa_cons (pe_lst (pa_cons (pv 0) (pa_cons (pv 1) pa_nil))) pa_nil))))) pa_nil))) (fun _ _ _ _ => mk2 rfl rfl) (fun _ _ _ _ => mk2k rfl rfl) (fun _ _ _ _ => due2 rfl rfl) (lamS (by exact ⟨rfl, rfl, rfl, by decide +kernel, rfl, by decide +kernel, by decide +kernel⟩) (fun _ _ _ _ _ => rfl) fun _ _ _ _ _ _ _ _ => pe_lst (pa_cons (Ek.pe_exf (pe_var (i := 0) rfl (.inl rfl))) (pa_cons (Ek.pe_exf (pe_var (i := 0) rfl (.inl rfl))) pa_nil))) (fun _ _ _ => tells2 e2.xf e2.no e2.no2 e2.ne) <|
    MadeB.cons (ps_expr (pe_bm PySem.F.plainAttrs_list PySem.F.slot_list_append PySem.F.type_list_append mt_append (pv 3) (pa_cons (pe_tup (pa_cons (Ek.pe_mkV e3.oc e3.iC e3.tI e3.fn hr e3.kw0 (by rfl) e3.g (pa_cons (pv 0) pa_nil)) (pa_cons (Ek.pe_mkK e3.oc e3.iC e3.tI e3.fn hr e3.kw1 (by rfl) e3.g (pk_cons (pv 0) pk_nil) (by rfl) (by rfl)) (pa_cons (Lm.pe_lamV src rfl rfl rfl (by decide +kernel)) (pa_cons (pe_lst (pa_cons (pv 0) pa_nil)) pa_nil))))) pa_nil))) (fun _ _ _ _ => mk1 rfl) (fun _ _ _ _ => mk1k rfl) (fun _ _ _ _ => due1 rfl) (lamS (by exact ⟨rfl, rfl, rfl, by decide +kernel, rfl, by decide +kernel, by decide +kernel⟩) (fun _ _ _ _ _ => rfl) fun _ _ _ _ _ _ _ _ => pe_lst (pa_cons (Ek.pe_exf (pe_var (i := 0) rfl (.inl rfl))) pa_nil)) (fun _ _ _ => tells1 e3.xf e3.no) <|
    MadeB.cons (ps_expr (pe_bm PySem.F.plainAttrs_list PySem.F.slot_list_append PySem.F.type_list_append mt_append (pv 3) (pa_cons (pe_tup (pa_cons (Ek.pe_mkV e4.oc e4.iC e4.tI e4.fn hr e4.kw0 (by rfl) e4.g (pa_cons (pv 0) pa_nil)) (pa_cons (Ek.pe_mkK e4.oc e4.iC e4.tI e4.fn hr e4.kw1 (by rfl) e4.g (pk_cons (pv 0) pk_nil) (by rfl) (by rfl)) (pa_cons (Lm.pe_lamV src rfl rfl rfl (by decide +kernel)) (pa_cons (pe_lst (pa_cons (pv 0) pa_nil)) pa_nil))))) pa_nil))) (fun _ _ _ _ => mk1 rfl) (fun _ _ _ _ => mk1k rfl) (fun _ _ _ _ => due1 rfl) (lamS (by exact ⟨rfl, rfl, rfl, by decide +kernel, rfl, by decide +kernel, by decide +kernel⟩) (fun _ _ _ _ _ => rfl) fun _ _ _ _ _ _ _ _ => pe_lst (pa_cons (Ek.pe_exf (pe_var (i := 0) rfl (.inl rfl))) pa_nil)) (fun _ _ _ => tells1 e4.xf e4.no) <|
    MadeB.cons (ps_expr (pe_bm PySem.F.plainAttrs_list PySem.F.slot_list_append PySem.F.type_list_append mt_append (pv 3) (pa_cons (pe_tup (pa_cons (Ek.pe_mk0 PySem.F.excBase_ValueError e5.q (by rfl) e5.g e5.kp) (pa_cons (Ek.pe_mk0 PySem.F.excBase_ValueError e5.q (by rfl) e5.g e5.kp) (pa_cons (Lm.pe_lamV src rfl rfl rfl (by decide +kernel)) (pa_cons (pe_lst pa_nil) pa_nil))))) pa_nil))) (fun _ _ _ _ => mk0) (fun _ _ _ _ => mk0) (fun _ _ _ _ => due0) (lamS (by exact ⟨rfl, rfl, rfl, by decide +kernel, rfl, by decide +kernel, by decide +kernel⟩) (fun _ _ _ _ _ => rfl) fun _ _ _ _ _ _ _ _ => pe_lst pa_nil) (fun _ _ _ => tells0) <|
    MadeB.cons (ps_expr (pe_bm PySem.F.plainAttrs_list PySem.F.slot_list_append PySem.F.type_list_append mt_append (pv 3) (pa_cons (pe_tup (pa_cons (Ek.pe_mkV e6.oc e6.iC e6.tI e6.fn hr e6.kw0 (by rfl) e6.g (pa_cons (pv 0) pa_nil)) (pa_cons (Ek.pe_mkK e6.oc e6.iC e6.tI e6.fn hr e6.kw1 (by rfl) e6.g (pk_cons (pv 0) pk_nil) (by rfl) (by rfl)) (pa_cons (Lm.pe_lamV src rfl rfl rfl (by decide +kernel)) (pa_cons (pe_lst (pa_cons (pv 0) pa_nil)) pa_nil))))) pa_nil))) (fun _ _ _ _ => mk1 rfl) (fun _ _ _ _ => mk1k rfl) (fun _ _ _ _ => due1 rfl) (lamS (by exact ⟨rfl, rfl, rfl, by decide +kernel, rfl, by decide +kernel, by decide +kernel⟩) (fun _ _ _ _ _ => rfl) fun _ _ _ _ _ _ _ _ => pe_lst (pa_cons (Ek.pe_exf (pe_var (i := 0) rfl (.inl rfl))) pa_nil)) (fun _ _ _ => tells1 e6.xf e6.no) <|
    MadeB.cons (ps_expr (pe_bm PySem.F.plainAttrs_list PySem.F.slot_list_append PySem.F.type_list_append mt_append (pv 3) (pa_cons (pe_tup (pa_cons (Ek.pe_mkV e7.oc e7.iC e7.tI e7.fn hr e7.kw0 (by rfl) e7.g (pa_cons (pv 0) pa_nil)) (pa_cons (Ek.pe_mkK e7.oc e7.iC e7.tI e7.fn hr e7.kw1 (by rfl) e7.g (pk_cons (pv 0) pk_nil) (by rfl) (by rfl)) (pa_cons (Lm.pe_lamV src rfl rfl rfl (by decide +kernel)) (pa_cons (pe_lst (pa_cons (pv 0) pa_nil)) pa_nil))))) pa_nil))) (fun _ _ _ _ => mk1 rfl) (fun _ _ _ _ => mk1k rfl) (fun _ _ _ _ => due1 rfl) (lamS (by exact ⟨rfl, rfl, rfl, by decide +kernel, rfl, by decide +kernel, by decide +kernel⟩) (fun _ _ _ _ _ => rfl) fun _ _ _ _ _ _ _ _ => pe_lst (pa_cons (Ek.pe_exf (pe_var (i := 0) rfl (.inl rfl))) pa_nil)) (fun _ _ _ => tells1 e7.xf e7.no) <|
    MadeB.cons (ps_expr (pe_bm PySem.F.plainAttrs_list PySem.F.slot_list_append PySem.F.type_list_append mt_append (pv 3) (pa_cons (pe_tup (pa_cons (Ek.pe_mkV e8.oc e8.iC e8.tI e8.fn hr e8.kw0 (by rfl) e8.g (pa_cons (pv 0) pa_nil)) (pa_cons (Ek.pe_mkK e8.oc e8.iC e8.tI e8.fn hr e8.kw1 (by rfl) e8.g (pk_cons (pv 0) pk_nil) (by rfl) (by rfl)) (pa_cons (Lm.pe_lamV src rfl rfl rfl (by decide +kernel)) (pa_cons (pe_lst (pa_cons (pv 0) pa_nil)) pa_nil))))) pa_nil))) (fun _ _ _ _ => mk1 rfl) (fun _ _ _ _ => mk1k rfl) (fun _ _ _ _ => due1 rfl) (lamS (by exact ⟨rfl, rfl, rfl, by decide +kernel, rfl, by decide +kernel, by decide +kernel⟩) (fun _ _ _ _ _ => rfl) fun _ _ _ _ _ _ _ _ => pe_lst (pa_cons (Ek.pe_exf (pe_var (i := 0) rfl (.inl rfl))) pa_nil)) (fun _ _ _ => tells1 e8.xf e8.no) <|
    MadeB.cons (ps_expr (pe_bm PySem.F.plainAttrs_list PySem.F.slot_list_append PySem.F.type_list_append mt_append (pv 3) (pa_cons (pe_tup (pa_cons (Ek.pe_mk0 PySem.F.excBase_ValueError e9.q (by rfl) e9.g e9.kp) (pa_cons (Ek.pe_mk0 PySem.F.excBase_ValueError e9.q (by rfl) e9.g e9.kp) (pa_cons (Lm.pe_lamV src rfl rfl rfl (by decide +kernel)) (pa_cons (pe_lst pa_nil) pa_nil))))) pa_nil))) (fun _ _ _ _ => mk0) (fun _ _ _ _ => mk0) (fun _ _ _ _ => due0) (lamS (by exact ⟨rfl, rfl, rfl, by decide +kernel, rfl, by decide +kernel, by decide +kernel⟩) (fun _ _ _ _ _ => rfl) fun _ _ _ _ _ _ _ _ => pe_lst pa_nil) (fun _ _ _ => tells0) <|
    MadeB.cons (ps_expr (pe_bm PySem.F.plainAttrs_list PySem.F.slot_list_append PySem.F.type_list_append mt_append (pv 3) (pa_cons (pe_tup (pa_cons (Ek.pe_mk0 PySem.F.excBase_ValueError e10.q (by rfl) e10.g e10.kp) (pa_cons (Ek.pe_mk0 PySem.F.excBase_ValueError e10.q (by rfl) e10.g e10.kp) (pa_cons (Lm.pe_lamV src rfl rfl rfl (by decide +kernel)) (pa_cons (pe_lst pa_nil) pa_nil))))) pa_nil))) (fun _ _ _ _ => mk0) (fun _ _ _ _ => mk0) (fun _ _ _ _ => due0) (lamS (by exact ⟨rfl, rfl, rfl, by decide +kernel, rfl, by decide +kernel, by decide +kernel⟩) (fun _ _ _ _ _ => rfl) fun _ _ _ _ _ _ _ _ => pe_lst pa_nil) (fun _ _ _ => tells0) <|
    MadeB.cons (ps_expr (pe_bm PySem.F.plainAttrs_list PySem.F.slot_list_append PySem.F.type_list_append mt_append (pv 3) (pa_cons (pe_tup (pa_cons (Ek.pe_mkV e11.oc e11.iC e11.tI e11.fn hr e11.kw0 (by rfl) e11.g (pa_cons (pv 0) pa_nil)) (pa_cons (Ek.pe_mkK e11.oc e11.iC e11.tI e11.fn hr e11.kw1 (by rfl) e11.g (pk_cons (pv 0) pk_nil) (by rfl) (by rfl)) (pa_cons (Lm.pe_lamV src rfl rfl rfl (by decide +kernel)) (pa_cons (pe_lst (pa_cons (pv 0) pa_nil)) pa_nil))))) pa_nil))) (fun _ _ _ _ => mk1 rfl) (fun _ _ _ _ => mk1k rfl) (fun _ _ _ _ => due1 rfl) (lamS (by exact ⟨rfl, rfl, rfl, by decide +kernel, rfl, by decide +kernel, by decide +kernel⟩) (fun _ _ _ _ _ => rfl) fun _ _ _ _ _ _ _ _ => pe_lst (pa_cons (Ek.pe_exf (pe_var (i := 0) rfl (.inl rfl))) pa_nil)) (fun _ _ _ => tells1 e11.xf e11.no) <|
    MadeB.cons (ps_expr (pe_bm PySem.F.plainAttrs_list PySem.F.slot_list_append PySem.F.type_list_append mt_append (pv 3) (pa_cons (pe_tup (pa_cons (Ek.pe_mkV e12.oc e12.iC e12.tI e12.fn hr e12.kw0 (by rfl) e12.g (pa_cons (pv 0) pa_nil)) (pa_cons (Ek.pe_mkK e12.oc e12.iC e12.tI e12.fn hr e12.kw1 (by rfl) e12.g (pk_cons (pv 0) pk_nil) (by rfl) (by rfl)) (pa_cons (Lm.pe_lamV src rfl rfl rfl (by decide +kernel)) (pa_cons (pe_lst (pa_cons (pv 0) pa_nil)) pa_nil))))) pa_nil))) (fun _ _ _ _ => mk1 rfl) (fun _ _ _ _ => mk1k rfl) (fun _ _ _ _ => due1 rfl) (lamS (by exact ⟨rfl, rfl, rfl, by decide +kernel, rfl, by decide +kernel, by decide +kernel⟩) (fun _ _ _ _ _ => rfl) fun _ _ _ _ _ _ _ _ => pe_lst (pa_cons (Ek.pe_exf (pe_var (i := 0) rfl (.inl rfl))) pa_nil)) (fun _ _ _ => tells1 e12.xf e12.no) <|
    MadeB.cons (ps_expr (pe_bm PySem.F.plainAttrs_list PySem.F.slot_list_append PySem.F.type_list_append mt_append (pv 3) (pa_cons (pe_tup (pa_cons (Ek.pe_mkV e13.oc e13.iC e13.tI e13.fn hr e13.kw0 (by rfl) e13.g (pa_cons (pv 0) pa_nil)) (pa_cons (Ek.pe_mkK e13.oc e13.iC e13.tI e13.fn hr e13.kw1 (by rfl) e13.g (pk_cons (pv 0) pk_nil) (by rfl) (by rfl)) (pa_cons (Lm.pe_lamV src rfl rfl rfl (by decide +kernel)) (pa_cons (pe_lst (pa_cons (pv 0) pa_nil)) pa_nil))))) pa_nil))) (fun _ _ _ _ => mk1 rfl) (fun _ _ _ _ => mk1k rfl) (fun _ _ _ _ => due1 rfl) (lamS (by exact ⟨rfl, rfl, rfl, by decide +kernel, rfl, by decide +kernel, by decide +kernel⟩) (fun _ _ _ _ _ => rfl) fun _ _ _ _ _ _ _ _ => pe_lst (pa_cons (Ek.pe_exf (pe_var (i := 0) rfl (.inl rfl))) pa_nil)) (fun _ _ _ => tells1 e13.xf e13.no) <|
    MadeB.cons (ps_expr (pe_bm PySem.F.plainAttrs_list PySem.F.slot_list_append PySem.F.type_list_append mt_append (pv 3) (pa_cons (pe_tup (pa_cons (Ek.pe_mkV e14.oc e14.iC e14.tI e14.fn hr e14.kw0 (by rfl) e14.g (pa_cons (pv 0) pa_nil)) (pa_cons (Ek.pe_mkK e14.oc e14.iC e14.tI e14.fn hr e14.kw1 (by rfl) e14.g (pk_cons (pv 0) pk_nil) (by rfl) (by rfl)) (pa_cons (Lm.pe_lamV src rfl rfl rfl (by decide +kernel)) (pa_cons (pe_lst (pa_cons (pv 0) pa_nil)) pa_nil))))) pa_nil))) (fun _ _ _ _ => mk1 rfl) (fun _ _ _ _ => mk1k rfl) (fun _ _ _ _ => due1 rfl) (lamS (by exact ⟨rfl, rfl, rfl, by decide +kernel, rfl, by decide +kernel, by decide +kernel⟩) (fun _ _ _ _ _ => rfl) fun _ _ _ _ _ _ _ _ => pe_lst (pa_cons (Ek.pe_exf (pe_var (i := 0) rfl (.inl rfl))) pa_nil)) (fun _ _ _ => tells1 e14.xf e14.no) <|
    MadeB.cons (ps_expr (pe_bm PySem.F.plainAttrs_list PySem.F.slot_list_append PySem.F.type_list_append mt_append (pv 3) (pa_cons (pe_tup (pa_cons (Ek.pe_mkV e15.oc e15.iC e15.tI e15.fn hr e15.kw0 (by rfl) e15.g (pa_cons (pv 0) pa_nil)) (pa_cons (Ek.pe_mkK e15.oc e15.iC e15.tI e15.fn hr e15.kw1 (by rfl) e15.g (pk_cons (pv 0) pk_nil) (by rfl) (by rfl)) (pa_cons (Lm.pe_lamV src rfl rfl rfl (by decide +kernel)) (pa_cons (pe_lst (pa_cons (pv 0) pa_nil)) pa_nil))))) pa_nil))) (fun _ _ _ _ => mk1 rfl) (fun _ _ _ _ => mk1k rfl) (fun _ _ _ _ => due1 rfl) (lamS (by exact ⟨rfl, rfl, rfl, by decide +kernel, rfl, by decide +kernel, by decide +kernel⟩) (fun _ _ _ _ _ => rfl) fun _ _ _ _ _ _ _ _ => pe_lst (pa_cons (Ek.pe_exf (pe_var (i := 0) rfl (.inl rfl))) pa_nil)) (fun _ _ _ => tells1 e15.xf e15.no) <|
    MadeB.cons (ps_expr (pe_bm PySem.F.plainAttrs_list PySem.F.slot_list_append PySem.F.type_list_append mt_append (pv 3) (pa_cons (pe_tup (pa_cons (Ek.pe_mkV e16.oc e16.iC e16.tI e16.fn hr e16.kw0 (by rfl) e16.g (pa_cons (pv 0) pa_nil)) (pa_cons (Ek.pe_mkK e16.oc e16.iC e16.tI e16.fn hr e16.kw1 (by rfl) e16.g (pk_cons (pv 0) pk_nil) (by rfl) (by rfl)) (pa_cons (Lm.pe_lamV src rfl rfl rfl (by decide +kernel)) (pa_cons (pe_lst (pa_cons (pv 0) pa_nil)) pa_nil))))) pa_nil))) (fun _ _ _ _ => mk1 rfl) (fun _ _ _ _ => mk1k rfl) (fun _ _ _ _ => due1 rfl) (lamS (by exact ⟨rfl, rfl, rfl, by decide +kernel, rfl, by decide +kernel, by decide +kernel⟩) (fun _ _ _ _ _ => rfl) fun _ _ _ _ _ _ _ _ => pe_lst (pa_cons (Ek.pe_exf (pe_var (i := 0) rfl (.inl rfl))) pa_nil)) (fun _ _ _ => tells1 e16.xf e16.no) <|
    MadeB.cons (ps_expr (pe_bm PySem.F.plainAttrs_list PySem.F.slot_list_append PySem.F.type_list_append mt_append (pv 3) (pa_cons (pe_tup (pa_cons (Ek.pe_mkV e17.oc e17.iC e17.tI e17.fn hr e17.kw0 (by rfl) e17.g (pa_cons (pv 0) pa_nil)) (pa_cons (Ek.pe_mkK e17.oc e17.iC e17.tI e17.fn hr e17.kw1 (by rfl) e17.g (pk_cons (pv 0) pk_nil) (by rfl) (by rfl)) (pa_cons (Lm.pe_lamV src rfl rfl rfl (by decide +kernel)) (pa_cons (pe_lst (pa_cons (pv 0) pa_nil)) pa_nil))))) pa_nil))) (fun _ _ _ _ => mk1 rfl) (fun _ _ _ _ => mk1k rfl) (fun _ _ _ _ => due1 rfl) (lamS (by exact ⟨rfl, rfl, rfl, by decide +kernel, rfl, by decide +kernel, by decide +kernel⟩) (fun _ _ _ _ _ => rfl) fun _ _ _ _ _ _ _ _ => pe_lst (pa_cons (Ek.pe_exf (pe_var (i := 0) rfl (.inl rfl))) pa_nil)) (fun _ _ _ => tells1 e17.xf e17.no) <|
    MadeB.nil (ps_ret (pv 3))
end
end K00
namespace K00
open PySem PySem.Spec PyProof.Rows L2
/-! ### of which classes an error is -/
/-- an error at m, of class C -/
def Eat (H : Hp) (C m : Addr) : Prop := ∃ d, H m = some (exo m C d) ∧ ∀ dx, d = some dx → ∃ fs, H dx = some (exd dx fs)
theorem ErrAt.eat {H : Hp} {C m : Addr} {fv : List (Str × V)} (h : ErrAt H C fv m) : Eat H C m := by
  rcases h with ⟨_, h⟩ | ⟨d, h1, h2⟩
  · exact ⟨none, h, fun _ z => nomatch z⟩
  · exact ⟨some d, h1, fun dx z => by
      cases z
      exact ⟨_, h2⟩⟩
theorem Eat.ex {H H' : Hp} {C m : Addr} (h : Eat H C m) (k : Evl.Ex H H') : Eat H' C m := by
  obtain ⟨d, h1, h2⟩ := h
  exact ⟨d, k _ _ h1, fun dx z => by
    obtain ⟨fs, e⟩ := h2 dx z
    exact ⟨fs, k _ _ e⟩⟩
/-- a def that tells of which of these classes an error is -/
def spKinds (K : PySem.W.Frag) (ds : List Addr) : Sp := fun vs H Q _ => ∃ (m C : Addr) (kit : Addr → Bool), vs = [.ref m] ∧ Eat H C m ∧ Ek.ClsE K C ∧ (∀ D ∈ ds, PySem.W.kitOne K (.ref C) (.ref D) = some (kit D)) ∧
  ∀ l H', H l = none → Evl.Ex H H' → H' l = some (.lst (ds.map fun D => .bl (kit D))) → Q (.ref l) H'
section
variable {P : Program} {w : World} {K : PySem.W.Frag} {mg : Str → Option Value} {base : Heap}
abbrev tIs (K : PySem.W.Frag) (c : V) : TE := tCB (Ek.rIsx K) (tCons (tVar 0) (tCons (tC c) tNil))
theorem rd_is {σ : L2.St} {H : Hp} {m C D : Addr} {b : Bool} {Q : VK} (h0 : σ[0]? = some (some (.ref m))) (e : Eat H C m) (hC : Ek.ClsE K C) (hk : PySem.W.kitOne K (.ref C) (.ref D) = some b) (q : Q (.bl b) H) : tIs K (.ref D) σ H Q := by
  obtain ⟨d, h1, h2⟩ := e
  exact ⟨_, h0, m, C, d, _, .ref D, b, rfl, h1, h2, hC, fun u z => z, hk, q⟩
theorem rd_isT {σ : L2.St} {H : Hp} {m C : Addr} {T : String} {b : Bool} {Q : VK} (h0 : σ[0]? = some (some (.ref m))) (e : Eat H C m) (hC : Ek.ClsE K C) (hk : PySem.W.kitOne K (.ref C) (.type T) = some b) (q : Q (.bl b) H) : tIs K (.ty T) σ H Q := by
  obtain ⟨d, h1, h2⟩ := e
  exact ⟨_, h0, m, C, d, _, .type T, b, rfl, h1, h2, hC, fun u z => z, hk, q⟩
/-- found.extend([isinstance(e, ..), isinstance(e, ..)]) -/
def tKind (K : PySem.W.Frag) (D1 D2 : Addr) : TS := tDrop (tBM K "list" rExtend (tVar 1) (tCons (tLst (tCons (tIs K (.ref D1)) (tCons (tIs K (.ref D2)) tNil))) tNil))
inductive KindB (X : Cx) : List Stmt → List Addr → Prop
  | nil {st : Stmt} (h : PS X st (tRet (tVar 1))) : KindB X [st] []
  | cons {st : Stmt} {rest : List Stmt} {D1 D2 : Addr} {more : List Addr} (h : PS X st (tKind X.K D1 D2)) (r : KindB X rest more) : KindB X (st :: rest) (D1 :: D2 :: more)
theorem kind_pss {X : Cx} : ∀ {b : List Stmt} {ds : List Addr}, KindB X b ds → ∃ t, PSs X b t ∧ ∀ (m C l : Addr) (kit : Addr → Bool) (H0 H : Hp) (acc : List V) (D : Ends), Eat H0 C m → Ek.ClsE X.K C → (∀ D ∈ ds, PySem.W.kitOne X.K (.ref C) (.ref D) = some (kit D)) → H0 l = none → Evl.Ex H0 H → H l = some (.lst acc) → acc.length + ds.length ≤ 1000 →
    (∀ H', Evl.Ex H0 H' → H' l = some (.lst (acc ++ ds.map fun D => .bl (kit D))) → D.rt (.ref l) H') → t D [some (.ref m), some (.ref l)] H
  | _, _, .nil h => ⟨_, pss_one h, fun m C l kit H0 H acc D he hC hk h0 ex hl hn k => ⟨_, rfl, k H ex (by rw [List.map_nil, List.append_nil]; exact hl)⟩⟩
  | _, _, @KindB.cons _ st rest D1 D2 more h r => by
    obtain ⟨t, ht, go⟩ := kind_pss r
    refine ⟨_, pss_cons h ht, fun m C l kit H0 H acc D he hC hk h0 ex hl hn k => ?_⟩
    refine ⟨.ref l, rfl, .inl ⟨rfl, acc, SqL.of hl⟩, ?_⟩
    refine rd_is (m := m) (C := C) (b := kit D1) rfl (he.ex ex) hC (hk D1 (by simp)) ?_
    refine rd_is (m := m) (C := C) (b := kit D2) rfl (he.ex ex) hC (hk D2 (by simp)) ?_
    refine ⟨by show 2 ≤ sizeLine; decide, fun p hp => ?_⟩
    have x1 := Evl.Ex.new (o := .lst [.bl (kit D1), .bl (kit D2)]) hp
    have hn2 : acc.length + (more.length + 1 + 1) ≤ 1000 := hn
    refine ⟨l, p, acc, [.bl (kit D1), .bl (kit D2)], rfl, rfl, x1 _ _ hl, upd_same, Nat.le_trans (show acc.length + 2 ≤ 1000 by omega) (by decide), ?_⟩
    refine go m C l kit H0 _ (acc ++ [.bl (kit D1), .bl (kit D2)]) D he hC (fun D hD => hk D (List.mem_cons_of_mem _ (List.mem_cons_of_mem _ hD))) h0 (fun b o e => ?_) upd_same (by rw [List.length_append]; show acc.length + 2 + _ ≤ _; omega) fun H' x2 l2 => ?_
    · rw [upd_ne (ne_of_none e h0)]
      exact x1 _ _ (ex _ _ e)
    · exact k H' x2 (by rw [List.append_assoc] at l2; exact l2)
theorem ok_kind {x : Str} {params : Arguments} {st : Stmt} {b : List Stmt} {scope : Scope} {f : Addr} {fd : FuncData} {ds : List Addr} (F : FunD K x x params (st :: b) scope [] [] f fd) (S : FnScope ["e", "found"] ["e"] scope) (hn : ds.length ≤ 1000)
    (first : ∀ cdv A outer s H E, PS ((cxOf CX0 P w K mg base ["e", "found"] x scope f cdv A outer s H E).nox) st (tAsg (tLst tNil) (gName 1)))
    (rest : ∀ cdv A outer s H E, KindB ((cxOf CX0 P w K mg base ["e", "found"] x scope f cdv A outer s H E).nox) b ds) : FnOk P w K mg base CX0 1 f fd ["e"] (spKinds K ds) := by
  refine F.ok S (fun vs H Q E h => ?_) (fun cdv A outer s H vs Q E hr h => ?_)
  · obtain ⟨m, C, kit, rfl, _⟩ := h
    rfl
  · obtain ⟨m, C, kit, rfl, he, hC, hk, k⟩ := h
    obtain ⟨t, h1, h2⟩ := kind_pss (rest cdv A outer s H E)
    refine ⟨_, PSs.nox (pss_cons (first cdv A outer s H E) h1), ?_⟩
    refine ⟨Nat.zero_le _, fun l hl => ?_⟩
    exact h2 m C l kit H (upd H l (.lst [])) [] _ he hC hk hl (Evl.Ex.new hl) upd_same (by simpa using hn) fun H' x1 l1 => k l H' hl x1 l1
/-- such names known -/
def GAll (K : PySem.W.Frag) (mg : Str → Option Value) : List (Str × List Str) → Prop
  | [] => True
  | p :: r => mg p.1 = some (.ref (He.ga K p.1)) ∧ GAll K mg r
theorem ok_kinds_a {f : Addr} {fd : FuncData} (F : FnP K "_law_kinds_a" (top 82) f fd) (gS : mg "isinstance" = none) (hC : GAll K mg cl_a) : FnOk P w K mg base CX0 1 f fd ["e"] (spKinds K (cl_a.map fun p => He.ga K p.1)) := by
  obtain ⟨e0, e1, e2, e3, e4, e5, e6, e7, e8, e9, e10, e11, e12, e13, e14, e15, e16, e17, _⟩ := hC
  refine ok_kind (st := (defBody (top 82)).getD 0 (.Pass ⟨0, 0, 0, 0⟩)) (b := (defBody (top 82)).drop 1) F ⟨rfl, rfl, rfl, by decide +kernel, rfl, by decide +kernel, by decide +kernel⟩ (by rw [List.length_map]; decide) (fun cdv A outer s H E => ps_set (i := 1) (show (["e", "found"] : List Str).Nodup by decide +kernel) rfl (.inl rfl) (pe_lst pa_nil)) fun cdv A outer s H E => ?_
  exact KindB.cons (ps_expr (pe_bm PySem.F.plainAttrs_list PySem.F.slot_list_extend PySem.F.type_list_extend mt_extend (pv 1) (pa_cons (pe_lst (pa_cons (pe_callB Ek.call_isx (by rfl) gS (by decide +kernel) (pa_cons (pv 0) (pa_cons (pe_glob (by rfl) e0 rfl) pa_nil))) (pa_cons (pe_callB Ek.call_isx (by rfl) gS (by decide +kernel) (pa_cons (pv 0) (pa_cons (pe_glob (by rfl) e1 rfl) pa_nil))) pa_nil))) pa_nil))) <|
    KindB.cons (ps_expr (pe_bm PySem.F.plainAttrs_list PySem.F.slot_list_extend PySem.F.type_list_extend mt_extend (pv 1) (pa_cons (pe_lst (pa_cons (pe_callB Ek.call_isx (by rfl) gS (by decide +kernel) (pa_cons (pv 0) (pa_cons (pe_glob (by rfl) e2 rfl) pa_nil))) (pa_cons (pe_callB Ek.call_isx (by rfl) gS (by decide +kernel) (pa_cons (pv 0) (pa_cons (pe_glob (by rfl) e3 rfl) pa_nil))) pa_nil))) pa_nil))) <|
    KindB.cons (ps_expr (pe_bm PySem.F.plainAttrs_list PySem.F.slot_list_extend PySem.F.type_list_extend mt_extend (pv 1) (pa_cons (pe_lst (pa_cons (pe_callB Ek.call_isx (by rfl) gS (by decide +kernel) (pa_cons (pv 0) (pa_cons (pe_glob (by rfl) e4 rfl) pa_nil))) (pa_cons (pe_callB Ek.call_isx (by rfl) gS (by decide +kernel) (pa_cons (pv 0) (pa_cons (pe_glob (by rfl) e5 rfl) pa_nil))) pa_nil))) pa_nil))) <|
    KindB.cons (ps_expr (pe_bm PySem.F.plainAttrs_list PySem.F.slot_list_extend PySem.F.type_list_extend mt_extend (pv 1) (pa_cons (pe_lst (pa_cons (pe_callB Ek.call_isx (by rfl) gS (by decide +kernel) (pa_cons (pv 0) (pa_cons (pe_glob (by rfl) e6 rfl) pa_nil))) (pa_cons (pe_callB Ek.call_isx (by rfl) gS (by decide +kernel) (pa_cons (pv 0) (pa_cons (pe_glob (by rfl) e7 rfl) pa_nil))) pa_nil))) pa_nil))) <|
    KindB.cons (ps_expr (pe_bm PySem.F.plainAttrs_list PySem.F.slot_list_extend PySem.F.type_list_extend mt_extend (pv 1) (pa_cons (pe_lst (pa_cons (pe_callB Ek.call_isx (by rfl) gS (by decide +kernel) (pa_cons (pv 0) (pa_cons (pe_glob (by rfl) e8 rfl) pa_nil))) (pa_cons (pe_callB Ek.call_isx (by rfl) gS (by decide +kernel) (pa_cons (pv 0) (pa_cons (pe_glob (by rfl) e9 rfl) pa_nil))) pa_nil))) pa_nil))) <|
    KindB.cons (ps_expr (pe_bm PySem.F.plainAttrs_list PySem.F.slot_list_extend PySem.F.type_list_extend mt_extend (pv 1) (pa_cons (pe_lst (pa_cons (pe_callB Ek.call_isx (by rfl) gS (by decide +kernel) (pa_cons (pv 0) (pa_cons (pe_glob (by rfl) e10 rfl) pa_nil))) (pa_cons (pe_callB Ek.call_isx (by rfl) gS (by decide +kernel) (pa_cons (pv 0) (pa_cons (pe_glob (by rfl) e11 rfl) pa_nil))) pa_nil))) pa_nil))) <|
    KindB.cons (ps_expr (pe_bm PySem.F.plainAttrs_list PySem.F.slot_list_extend PySem.F.type_list_extend mt_extend (pv 1) (pa_cons (pe_lst (pa_cons (pe_callB Ek.call_isx (by rfl) gS (by decide +kernel) (pa_cons (pv 0) (pa_cons (pe_glob (by rfl) e12 rfl) pa_nil))) (pa_cons (pe_callB Ek.call_isx (by rfl) gS (by decide +kernel) (pa_cons (pv 0) (pa_cons (pe_glob (by rfl) e13 rfl) pa_nil))) pa_nil))) pa_nil))) <|
    KindB.cons (ps_expr (pe_bm PySem.F.plainAttrs_list PySem.F.slot_list_extend PySem.F.type_list_extend mt_extend (pv 1) (pa_cons (pe_lst (pa_cons (pe_callB Ek.call_isx (by rfl) gS (by decide +kernel) (pa_cons (pv 0) (pa_cons (pe_glob (by rfl) e14 rfl) pa_nil))) (pa_cons (pe_callB Ek.call_isx (by rfl) gS (by decide +kernel) (pa_cons (pv 0) (pa_cons (pe_glob (by rfl) e15 rfl) pa_nil))) pa_nil))) pa_nil))) <|
    KindB.cons (ps_expr (pe_bm PySem.F.plainAttrs_list PySem.F.slot_list_extend PySem.F.type_list_extend mt_extend (pv 1) (pa_cons (pe_lst (pa_cons (pe_callB Ek.call_isx (by rfl) gS (by decide +kernel) (pa_cons (pv 0) (pa_cons (pe_glob (by rfl) e16 rfl) pa_nil))) (pa_cons (pe_callB Ek.call_isx (by rfl) gS (by decide +kernel) (pa_cons (pv 0) (pa_cons (pe_glob (by rfl) e17 rfl) pa_nil))) pa_nil))) pa_nil))) <|
    KindB.nil (ps_ret (pv 1))
theorem ok_kinds_b {f : Addr} {fd : FuncData} (F : FnP K "_law_kinds_b" (top 83) f fd) (gS : mg "isinstance" = none) (hC : GAll K mg cl_b) : FnOk P w K mg base CX0 1 f fd ["e"] (spKinds K (cl_b.map fun p => He.ga K p.1)) := by
  obtain ⟨e0, e1, e2, e3, e4, e5, e6, e7, e8, e9, e10, e11, e12, e13, e14, e15, e16, e17, _⟩ := hC
  refine ok_kind (st := (defBody (top 83)).getD 0 (.Pass ⟨0, 0, 0, 0⟩)) (b := (defBody (top 83)).drop 1) F ⟨rfl, rfl, rfl, by decide +kernel, rfl, by decide +kernel, by decide +kernel⟩ (by rw [List.length_map]; decide) (fun cdv A outer s H E => ps_set (i := 1) (show (["e", "found"] : List Str).Nodup by decide +kernel) rfl (.inl rfl) (pe_lst pa_nil)) fun cdv A outer s H E => ?_
  exact KindB.cons (ps_expr (pe_bm PySem.F.plainAttrs_list PySem.F.slot_list_extend PySem.F.type_list_extend mt_extend (pv 1) (pa_cons (pe_lst (pa_cons (pe_callB Ek.call_isx (by rfl) gS (by decide +kernel) (pa_cons (pv 0) (pa_cons (pe_glob (by rfl) e0 rfl) pa_nil))) (pa_cons (pe_callB Ek.call_isx (by rfl) gS (by decide +kernel) (pa_cons (pv 0) (pa_cons (pe_glob (by rfl) e1 rfl) pa_nil))) pa_nil))) pa_nil))) <|
    KindB.cons (ps_expr (pe_bm PySem.F.plainAttrs_list PySem.F.slot_list_extend PySem.F.type_list_extend mt_extend (pv 1) (pa_cons (pe_lst (pa_cons (pe_callB Ek.call_isx (by rfl) gS (by decide +kernel) (pa_cons (pv 0) (pa_cons (pe_glob (by rfl) e2 rfl) pa_nil))) (pa_cons (pe_callB Ek.call_isx (by rfl) gS (by decide +kernel) (pa_cons (pv 0) (pa_cons (pe_glob (by rfl) e3 rfl) pa_nil))) pa_nil))) pa_nil))) <|
    KindB.cons (ps_expr (pe_bm PySem.F.plainAttrs_list PySem.F.slot_list_extend PySem.F.type_list_extend mt_extend (pv 1) (pa_cons (pe_lst (pa_cons (pe_callB Ek.call_isx (by rfl) gS (by decide +kernel) (pa_cons (pv 0) (pa_cons (pe_glob (by rfl) e4 rfl) pa_nil))) (pa_cons (pe_callB Ek.call_isx (by rfl) gS (by decide +kernel) (pa_cons (pv 0) (pa_cons (pe_glob (by rfl) e5 rfl) pa_nil))) pa_nil))) pa_nil))) <|
    KindB.cons (ps_expr (pe_bm PySem.F.plainAttrs_list PySem.F.slot_list_extend PySem.F.type_list_extend mt_extend (pv 1) (pa_cons (pe_lst (pa_cons (pe_callB Ek.call_isx (by rfl) gS (by decide +kernel) (pa_cons (pv 0) (pa_cons (pe_glob (by rfl) e6 rfl) pa_nil))) (pa_cons (pe_callB Ek.call_isx (by rfl) gS (by decide +kernel) (pa_cons (pv 0) (pa_cons (pe_glob (by rfl) e7 rfl) pa_nil))) pa_nil))) pa_nil))) <|
    KindB.cons (ps_expr (pe_bm PySem.F.plainAttrs_list PySem.F.slot_list_extend PySem.F.type_list_extend mt_extend (pv 1) (pa_cons (pe_lst (pa_cons (pe_callB Ek.call_isx (by rfl) gS (by decide +kernel) (pa_cons (pv 0) (pa_cons (pe_glob (by rfl) e8 rfl) pa_nil))) (pa_cons (pe_callB Ek.call_isx (by rfl) gS (by decide +kernel) (pa_cons (pv 0) (pa_cons (pe_glob (by rfl) e9 rfl) pa_nil))) pa_nil))) pa_nil))) <|
    KindB.cons (ps_expr (pe_bm PySem.F.plainAttrs_list PySem.F.slot_list_extend PySem.F.type_list_extend mt_extend (pv 1) (pa_cons (pe_lst (pa_cons (pe_callB Ek.call_isx (by rfl) gS (by decide +kernel) (pa_cons (pv 0) (pa_cons (pe_glob (by rfl) e10 rfl) pa_nil))) (pa_cons (pe_callB Ek.call_isx (by rfl) gS (by decide +kernel) (pa_cons (pv 0) (pa_cons (pe_glob (by rfl) e11 rfl) pa_nil))) pa_nil))) pa_nil))) <|
    KindB.cons (ps_expr (pe_bm PySem.F.plainAttrs_list PySem.F.slot_list_extend PySem.F.type_list_extend mt_extend (pv 1) (pa_cons (pe_lst (pa_cons (pe_callB Ek.call_isx (by rfl) gS (by decide +kernel) (pa_cons (pv 0) (pa_cons (pe_glob (by rfl) e12 rfl) pa_nil))) (pa_cons (pe_callB Ek.call_isx (by rfl) gS (by decide +kernel) (pa_cons (pv 0) (pa_cons (pe_glob (by rfl) e13 rfl) pa_nil))) pa_nil))) pa_nil))) <|
    KindB.cons (ps_expr (pe_bm PySem.F.plainAttrs_list PySem.F.slot_list_extend PySem.F.type_list_extend mt_extend (pv 1) (pa_cons (pe_lst (pa_cons (pe_callB Ek.call_isx (by rfl) gS (by decide +kernel) (pa_cons (pv 0) (pa_cons (pe_glob (by rfl) e14 rfl) pa_nil))) (pa_cons (pe_callB Ek.call_isx (by rfl) gS (by decide +kernel) (pa_cons (pv 0) (pa_cons (pe_glob (by rfl) e15 rfl) pa_nil))) pa_nil))) pa_nil))) <|
    KindB.cons (ps_expr (pe_bm PySem.F.plainAttrs_list PySem.F.slot_list_extend PySem.F.type_list_extend mt_extend (pv 1) (pa_cons (pe_lst (pa_cons (pe_callB Ek.call_isx (by rfl) gS (by decide +kernel) (pa_cons (pv 0) (pa_cons (pe_glob (by rfl) e16 rfl) pa_nil))) (pa_cons (pe_callB Ek.call_isx (by rfl) gS (by decide +kernel) (pa_cons (pv 0) (pa_cons (pe_glob (by rfl) e17 rfl) pa_nil))) pa_nil))) pa_nil))) <|
    KindB.nil (ps_ret (pv 1))
theorem ok_kinds_c {f : Addr} {fd : FuncData} (F : FnP K "_law_kinds_c" (top 84) f fd) (gS : mg "isinstance" = none) (hC : GAll K mg cl_c) : FnOk P w K mg base CX0 1 f fd ["e"] (spKinds K (cl_c.map fun p => He.ga K p.1)) := by
  obtain ⟨e0, e1, e2, e3, e4, e5, e6, e7, e8, e9, e10, e11, e12, e13, e14, e15, e16, e17, _⟩ := hC
  refine ok_kind (st := (defBody (top 84)).getD 0 (.Pass ⟨0, 0, 0, 0⟩)) (b := (defBody (top 84)).drop 1) F ⟨rfl, rfl, rfl, by decide +kernel, rfl, by decide +kernel, by decide +kernel⟩ (by rw [List.length_map]; decide) (fun cdv A outer s H E => ps_set (i := 1) (show (["e", "found"] : List Str).Nodup by decide +kernel) rfl (.inl rfl) (pe_lst pa_nil)) fun cdv A outer s H E => ?_
  exact KindB.cons (ps_expr (pe_bm PySem.F.plainAttrs_list PySem.F.slot_list_extend PySem.F.type_list_extend mt_extend (pv 1) (pa_cons (pe_lst (pa_cons (pe_callB Ek.call_isx (by rfl) gS (by decide +kernel) (pa_cons (pv 0) (pa_cons (pe_glob (by rfl) e0 rfl) pa_nil))) (pa_cons (pe_callB Ek.call_isx (by rfl) gS (by decide +kernel) (pa_cons (pv 0) (pa_cons (pe_glob (by rfl) e1 rfl) pa_nil))) pa_nil))) pa_nil))) <|
    KindB.cons (ps_expr (pe_bm PySem.F.plainAttrs_list PySem.F.slot_list_extend PySem.F.type_list_extend mt_extend (pv 1) (pa_cons (pe_lst (pa_cons (pe_callB Ek.call_isx (by rfl) gS (by decide +kernel) (pa_cons (pv 0) (pa_cons (pe_glob (by rfl) e2 rfl) pa_nil))) (pa_cons (pe_callB Ek.call_isx (by rfl) gS (by decide +kernel) (pa_cons (pv 0) (pa_cons (pe_glob (by rfl) e3 rfl) pa_nil))) pa_nil))) pa_nil))) <|
    KindB.cons (ps_expr (pe_bm PySem.F.plainAttrs_list PySem.F.slot_list_extend PySem.F.type_list_extend mt_extend (pv 1) (pa_cons (pe_lst (pa_cons (pe_callB Ek.call_isx (by rfl) gS (by decide +kernel) (pa_cons (pv 0) (pa_cons (pe_glob (by rfl) e4 rfl) pa_nil))) (pa_cons (pe_callB Ek.call_isx (by rfl) gS (by decide +kernel) (pa_cons (pv 0) (pa_cons (pe_glob (by rfl) e5 rfl) pa_nil))) pa_nil))) pa_nil))) <|
    KindB.cons (ps_expr (pe_bm PySem.F.plainAttrs_list PySem.F.slot_list_extend PySem.F.type_list_extend mt_extend (pv 1) (pa_cons (pe_lst (pa_cons (pe_callB Ek.call_isx (by rfl) gS (by decide +kernel) (pa_cons (pv 0) (pa_cons (pe_glob (by rfl) e6 rfl) pa_nil))) (pa_cons (pe_callB Ek.call_isx (by rfl) gS (by decide +kernel) (pa_cons (pv 0) (pa_cons (pe_glob (by rfl) e7 rfl) pa_nil))) pa_nil))) pa_nil))) <|
    KindB.cons (ps_expr (pe_bm PySem.F.plainAttrs_list PySem.F.slot_list_extend PySem.F.type_list_extend mt_extend (pv 1) (pa_cons (pe_lst (pa_cons (pe_callB Ek.call_isx (by rfl) gS (by decide +kernel) (pa_cons (pv 0) (pa_cons (pe_glob (by rfl) e8 rfl) pa_nil))) (pa_cons (pe_callB Ek.call_isx (by rfl) gS (by decide +kernel) (pa_cons (pv 0) (pa_cons (pe_glob (by rfl) e9 rfl) pa_nil))) pa_nil))) pa_nil))) <|
    KindB.cons (ps_expr (pe_bm PySem.F.plainAttrs_list PySem.F.slot_list_extend PySem.F.type_list_extend mt_extend (pv 1) (pa_cons (pe_lst (pa_cons (pe_callB Ek.call_isx (by rfl) gS (by decide +kernel) (pa_cons (pv 0) (pa_cons (pe_glob (by rfl) e10 rfl) pa_nil))) (pa_cons (pe_callB Ek.call_isx (by rfl) gS (by decide +kernel) (pa_cons (pv 0) (pa_cons (pe_glob (by rfl) e11 rfl) pa_nil))) pa_nil))) pa_nil))) <|
    KindB.cons (ps_expr (pe_bm PySem.F.plainAttrs_list PySem.F.slot_list_extend PySem.F.type_list_extend mt_extend (pv 1) (pa_cons (pe_lst (pa_cons (pe_callB Ek.call_isx (by rfl) gS (by decide +kernel) (pa_cons (pv 0) (pa_cons (pe_glob (by rfl) e12 rfl) pa_nil))) (pa_cons (pe_callB Ek.call_isx (by rfl) gS (by decide +kernel) (pa_cons (pv 0) (pa_cons (pe_glob (by rfl) e13 rfl) pa_nil))) pa_nil))) pa_nil))) <|
    KindB.cons (ps_expr (pe_bm PySem.F.plainAttrs_list PySem.F.slot_list_extend PySem.F.type_list_extend mt_extend (pv 1) (pa_cons (pe_lst (pa_cons (pe_callB Ek.call_isx (by rfl) gS (by decide +kernel) (pa_cons (pv 0) (pa_cons (pe_glob (by rfl) e14 rfl) pa_nil))) (pa_cons (pe_callB Ek.call_isx (by rfl) gS (by decide +kernel) (pa_cons (pv 0) (pa_cons (pe_glob (by rfl) e15 rfl) pa_nil))) pa_nil))) pa_nil))) <|
    KindB.cons (ps_expr (pe_bm PySem.F.plainAttrs_list PySem.F.slot_list_extend PySem.F.type_list_extend mt_extend (pv 1) (pa_cons (pe_lst (pa_cons (pe_callB Ek.call_isx (by rfl) gS (by decide +kernel) (pa_cons (pv 0) (pa_cons (pe_glob (by rfl) e16 rfl) pa_nil))) (pa_cons (pe_callB Ek.call_isx (by rfl) gS (by decide +kernel) (pa_cons (pv 0) (pa_cons (pe_glob (by rfl) e17 rfl) pa_nil))) pa_nil))) pa_nil))) <|
    KindB.nil (ps_ret (pv 1))
theorem ok_kinds_d {f : Addr} {fd : FuncData} (F : FnP K "_law_kinds_d" (top 85) f fd) (gS : mg "isinstance" = none) (hC : GAll K mg cl_d) : FnOk P w K mg base CX0 1 f fd ["e"] (spKinds K (cl_d.map fun p => He.ga K p.1)) := by
  obtain ⟨e0, e1, e2, e3, e4, e5, e6, e7, e8, e9, e10, e11, e12, e13, e14, e15, e16, e17, _⟩ := hC
  refine ok_kind (st := (defBody (top 85)).getD 0 (.Pass ⟨0, 0, 0, 0⟩)) (b := (defBody (top 85)).drop 1) F ⟨rfl, rfl, rfl, by decide +kernel, rfl, by decide +kernel, by decide +kernel⟩ (by rw [List.length_map]; decide) (fun cdv A outer s H E => ps_set (i := 1) (show (["e", "found"] : List Str).Nodup by decide +kernel) rfl (.inl rfl) (pe_lst pa_nil)) fun cdv A outer s H E => ?_
  exact KindB.cons (ps_expr (pe_bm PySem.F.plainAttrs_list PySem.F.slot_list_extend PySem.F.type_list_extend mt_extend (pv 1) (pa_cons (pe_lst (pa_cons (pe_callB Ek.call_isx (by rfl) gS (by decide +kernel) (pa_cons (pv 0) (pa_cons (pe_glob (by rfl) e0 rfl) pa_nil))) (pa_cons (pe_callB Ek.call_isx (by rfl) gS (by decide +kernel) (pa_cons (pv 0) (pa_cons (pe_glob (by rfl) e1 rfl) pa_nil))) pa_nil))) pa_nil))) <|
    KindB.cons (ps_expr (pe_bm PySem.F.plainAttrs_list PySem.F.slot_list_extend PySem.F.type_list_extend mt_extend (pv 1) (pa_cons (pe_lst (pa_cons (pe_callB Ek.call_isx (by rfl) gS (by decide +kernel) (pa_cons (pv 0) (pa_cons (pe_glob (by rfl) e2 rfl) pa_nil))) (pa_cons (pe_callB Ek.call_isx (by rfl) gS (by decide +kernel) (pa_cons (pv 0) (pa_cons (pe_glob (by rfl) e3 rfl) pa_nil))) pa_nil))) pa_nil))) <|
    KindB.cons (ps_expr (pe_bm PySem.F.plainAttrs_list PySem.F.slot_list_extend PySem.F.type_list_extend mt_extend (pv 1) (pa_cons (pe_lst (pa_cons (pe_callB Ek.call_isx (by rfl) gS (by decide +kernel) (pa_cons (pv 0) (pa_cons (pe_glob (by rfl) e4 rfl) pa_nil))) (pa_cons (pe_callB Ek.call_isx (by rfl) gS (by decide +kernel) (pa_cons (pv 0) (pa_cons (pe_glob (by rfl) e5 rfl) pa_nil))) pa_nil))) pa_nil))) <|
    KindB.cons (ps_expr (pe_bm PySem.F.plainAttrs_list PySem.F.slot_list_extend PySem.F.type_list_extend mt_extend (pv 1) (pa_cons (pe_lst (pa_cons (pe_callB Ek.call_isx (by rfl) gS (by decide +kernel) (pa_cons (pv 0) (pa_cons (pe_glob (by rfl) e6 rfl) pa_nil))) (pa_cons (pe_callB Ek.call_isx (by rfl) gS (by decide +kernel) (pa_cons (pv 0) (pa_cons (pe_glob (by rfl) e7 rfl) pa_nil))) pa_nil))) pa_nil))) <|
    KindB.cons (ps_expr (pe_bm PySem.F.plainAttrs_list PySem.F.slot_list_extend PySem.F.type_list_extend mt_extend (pv 1) (pa_cons (pe_lst (pa_cons (pe_callB Ek.call_isx (by rfl) gS (by decide +kernel) (pa_cons (pv 0) (pa_cons (pe_glob (by rfl) e8 rfl) pa_nil))) (pa_cons (pe_callB Ek.call_isx (by rfl) gS (by decide +kernel) (pa_cons (pv 0) (pa_cons (pe_glob (by rfl) e9 rfl) pa_nil))) pa_nil))) pa_nil))) <|
    KindB.cons (ps_expr (pe_bm PySem.F.plainAttrs_list PySem.F.slot_list_extend PySem.F.type_list_extend mt_extend (pv 1) (pa_cons (pe_lst (pa_cons (pe_callB Ek.call_isx (by rfl) gS (by decide +kernel) (pa_cons (pv 0) (pa_cons (pe_glob (by rfl) e10 rfl) pa_nil))) (pa_cons (pe_callB Ek.call_isx (by rfl) gS (by decide +kernel) (pa_cons (pv 0) (pa_cons (pe_glob (by rfl) e11 rfl) pa_nil))) pa_nil))) pa_nil))) <|
    KindB.cons (ps_expr (pe_bm PySem.F.plainAttrs_list PySem.F.slot_list_extend PySem.F.type_list_extend mt_extend (pv 1) (pa_cons (pe_lst (pa_cons (pe_callB Ek.call_isx (by rfl) gS (by decide +kernel) (pa_cons (pv 0) (pa_cons (pe_glob (by rfl) e12 rfl) pa_nil))) (pa_cons (pe_callB Ek.call_isx (by rfl) gS (by decide +kernel) (pa_cons (pv 0) (pa_cons (pe_glob (by rfl) e13 rfl) pa_nil))) pa_nil))) pa_nil))) <|
    KindB.cons (ps_expr (pe_bm PySem.F.plainAttrs_list PySem.F.slot_list_extend PySem.F.type_list_extend mt_extend (pv 1) (pa_cons (pe_lst (pa_cons (pe_callB Ek.call_isx (by rfl) gS (by decide +kernel) (pa_cons (pv 0) (pa_cons (pe_glob (by rfl) e14 rfl) pa_nil))) (pa_cons (pe_callB Ek.call_isx (by rfl) gS (by decide +kernel) (pa_cons (pv 0) (pa_cons (pe_glob (by rfl) e15 rfl) pa_nil))) pa_nil))) pa_nil))) <|
    KindB.cons (ps_expr (pe_bm PySem.F.plainAttrs_list PySem.F.slot_list_extend PySem.F.type_list_extend mt_extend (pv 1) (pa_cons (pe_lst (pa_cons (pe_callB Ek.call_isx (by rfl) gS (by decide +kernel) (pa_cons (pv 0) (pa_cons (pe_glob (by rfl) e16 rfl) pa_nil))) (pa_cons (pe_callB Ek.call_isx (by rfl) gS (by decide +kernel) (pa_cons (pv 0) (pa_cons (pe_glob (by rfl) e17 rfl) pa_nil))) pa_nil))) pa_nil))) <|
    KindB.nil (ps_ret (pv 1))
end
end K00
namespace K00
open PySem PySem.Spec PyProof.Rows L2
/-! ### _law_kinds, _law_is_own, _law_are_these -/
theorem dp_bools {K : PySem.W.Frag} {H : Hp} : ∀ bs : List Bool, DpAll K H (bs.map V.bl) (bs.map PyData.bool)
  | [] => .nil
  | b :: r => .cons (.bl b) (dp_bools r)
theorem lay_bools : ∀ bs : List Bool, PyData.canLayAll0 (bs.map PyData.bool) = true
  | [] => by simp [PyData.canLayAll0]
  | b :: r => by simp [PyData.canLayAll0, PyData.canLay0, lay_bools r]
theorem depth_bools : ∀ bs : List Bool, PyData.depthAll (bs.map PyData.bool) = 0
  | [] => by simp [PyData.depthAll]
  | b :: r => by simp [PyData.depthAll, PyData.depth, depth_bools r]
theorem shaped_bools (bs : List Bool) : SeqAt.shaped (.list (bs.map PyData.bool)) = true := by
  unfold SeqAt.shaped
  simp [PyData.canLay0, PyData.depth, lay_bools, depth_bools]
theorem eqv_boolsA : ∀ bs : List Bool, PyData.eqvAll (bs.map PyData.bool) (bs.map PyData.bool) = true
  | [] => by simp [PyData.eqvAll]
  | b :: r => by simp [PyData.eqvAll, PyData.eqv, eqv_boolsA r]
theorem eqv_bools (bs : List Bool) : PyData.eqv (.list (bs.map PyData.bool)) (.list (bs.map PyData.bool)) = true := by
  simp [PyData.eqv, eqv_boolsA]
abbrev gaL (K : PySem.W.Frag) (l : List (Str × List Str)) : List Addr := l.map fun p => He.ga K p.1
theorem clsAd_eq (K : PySem.W.Frag) : clsAd K = gaL K cl_a ++ gaL K cl_b ++ gaL K cl_c ++ gaL K cl_d := by
  unfold clsAd cl gaL
  rw [List.map_append, List.map_append, List.map_append]
/-- an error that is of the class at this place alone -/
def spOwn (K : PySem.W.Frag) (PE : Addr) : Sp := fun vs H Q _ => ∃ (m C : Addr) (at_ : Nat) (kit : Addr → Bool), vs = [.ref m, .int (at_ : Nat)] ∧ Eat H C m ∧ Ek.ClsE K C ∧ (∀ D ∈ clsAd K, PySem.W.kitOne K (.ref C) (.ref D) = some (kit D)) ∧
  PySem.W.kitOne K (.ref C) (.ref PE) = some true ∧ PySem.W.kitOne K (.ref C) (.type "ValueError") = some true ∧ PySem.W.kitOne K (.ref C) (.type "LookupError") = some false ∧ (clsAd K).map kit = (List.range 72).map (fun k => decide (k = at_)) ∧ ∀ H', Evl.Ex H H' → Q (.bl true) H'
/-- two lists of the same things -/
def spThese (K : PySem.W.Frag) : Sp := fun vs H Q _ => ∃ (l du : Addr) (xs : List V) (ds : List PyData), vs = [.ref l, .ref du] ∧ H l = some (.lst xs) ∧ H du = some (.lst xs) ∧ Paired (Gd.Dz K H) xs ds ∧ (PyData.list ds).showable = true ∧ (PyData.list ds).depth ≤ 50 ∧ (PyData.list ds).shown.length ≤ sizeLine ∧ Q (.bl true) H
section
variable {P : Program} {w : World} {K : PySem.W.Frag} {mg : Str → Option Value} {base : Heap}
theorem ok_kinds {f fA fB fC fD : Addr} {fd dA dB dC dD : FuncData} (F : FnP K "_law_kinds" (top 86) f fd) (GA : FnOk P w K mg base CX0 1 fA dA ["e"] (spKinds K (gaL K cl_a))) (gA : mg "_law_kinds_a" = some (.ref fA)) (kA : PySem.W.keepIn K (.ref fA) = true) (bA : L2.Binds K dA ["e"] [])
    (GB : FnOk P w K mg base CX0 1 fB dB ["e"] (spKinds K (gaL K cl_b))) (gB : mg "_law_kinds_b" = some (.ref fB)) (kB : PySem.W.keepIn K (.ref fB) = true) (bB : L2.Binds K dB ["e"] [])
    (GC : FnOk P w K mg base CX0 1 fC dC ["e"] (spKinds K (gaL K cl_c))) (gC : mg "_law_kinds_c" = some (.ref fC)) (kC : PySem.W.keepIn K (.ref fC) = true) (bC : L2.Binds K dC ["e"] [])
    (GD : FnOk P w K mg base CX0 1 fD dD ["e"] (spKinds K (gaL K cl_d))) (gD : mg "_law_kinds_d" = some (.ref fD)) (kD : PySem.W.keepIn K (.ref fD) = true) (bD : L2.Binds K dD ["e"] []) : FnOk P w K mg base CX0 2 f fd ["e"] (spKinds K (clsAd K)) := by
  refine F.ok (N := ["e"]) ⟨rfl, rfl, rfl, by decide +kernel, rfl, by decide +kernel, by decide +kernel⟩ (fun vs H Q E h => ?_) (fun cdv A outer s H vs Q E hr h => ?_)
  · obtain ⟨m, C, kit, rfl, _⟩ := h
    rfl
  · obtain ⟨m, C, kit, rfl, he, hC, hk, k⟩ := h
    rw [clsAd_eq] at hk k
    refine ⟨_, PSs.nox (pss_one (ps_ret (pe_op op_cat (pe_op op_cat (pe_op op_cat (pe_call GA hr (by rfl) gA kA bA .nil pass0 (pa_cons (pv 0) pa_nil)) (pe_call GB hr (by rfl) gB kB bB .nil pass0 (pa_cons (pv 0) pa_nil))) (pe_call GC hr (by rfl) gC kC bC .nil pass0 (pa_cons (pv 0) pa_nil))) (pe_call GD hr (by rfl) gD kD bD .nil pass0 (pa_cons (pv 0) pa_nil))))), ?_⟩
    refine ⟨_, rfl, m, C, kit, rfl, he, hC, fun D hD => hk D (by simp [hD]), fun l1 H1 n1 x1 e1 => ?_⟩
    refine ⟨_, rfl, m, C, kit, rfl, he.ex x1, hC, fun D hD => hk D (by simp [hD]), fun l2 H2 n2 x2 e2 => ?_⟩
    refine ⟨l1, l2, _, _, rfl, rfl, x2 _ _ e1, e2, by rw [List.length_map, List.length_map, List.length_map, List.length_map]; decide, fun p1 np1 => ?_⟩
    have y1 := Evl.Ex.new (o := .lst ((gaL K cl_a).map (fun D => V.bl (kit D)) ++ (gaL K cl_b).map (fun D => V.bl (kit D)))) np1
    refine ⟨_, rfl, m, C, kit, rfl, ((he.ex x1).ex x2).ex y1, hC, fun D hD => hk D (by simp [hD]), fun l3 H3 n3 x3 e3 => ?_⟩
    refine ⟨p1, l3, _, _, rfl, rfl, x3 _ _ upd_same, e3, by rw [List.length_append, List.length_map, List.length_map, List.length_map, List.length_map, List.length_map, List.length_map]; decide, fun p2 np2 => ?_⟩
    have y2 := Evl.Ex.new (o := .lst ((gaL K cl_a).map (fun D => V.bl (kit D)) ++ (gaL K cl_b).map (fun D => V.bl (kit D)) ++ (gaL K cl_c).map (fun D => V.bl (kit D)))) np2
    refine ⟨_, rfl, m, C, kit, rfl, ((((he.ex x1).ex x2).ex y1).ex x3).ex y2, hC, fun D hD => hk D (by simp [hD]), fun l4 H4 n4 x4 e4 => ?_⟩
    refine ⟨p2, l4, _, _, rfl, rfl, x4 _ _ upd_same, e4, by rw [List.length_append, List.length_append, List.length_map, List.length_map, List.length_map, List.length_map, List.length_map, List.length_map, List.length_map, List.length_map]; decide, fun p3 np3 => ?_⟩
    have all : Evl.Ex H (upd H4 p3 (.lst ((gaL K cl_a).map (fun D => V.bl (kit D)) ++ (gaL K cl_b).map (fun D => V.bl (kit D)) ++ (gaL K cl_c).map (fun D => V.bl (kit D)) ++ (gaL K cl_d).map (fun D => V.bl (kit D))))) := fun b o e => by
      rw [upd_ne (ne_of_none (x4 _ _ (y2 _ _ (x3 _ _ (y1 _ _ (x2 _ _ (x1 _ _ e)))))) np3)]
      exact x4 _ _ (y2 _ _ (x3 _ _ (y1 _ _ (x2 _ _ (x1 _ _ e)))))
    have n0 : H p3 = none := by
      cases e : H p3 with
      | none => rfl
      | some o =>
        have := x4 _ _ (y2 _ _ (x3 _ _ (y1 _ _ (x2 _ _ (x1 _ _ e)))))
        rw [np3] at this
        cases this
    refine k p3 _ n0 all ?_
    rw [upd_same, List.map_append, List.map_append, List.map_append]
theorem ok_own {f fK PE : Addr} {fd dK : FuncData} (F : FnP K "_law_is_own" (top 87) f fd) (GK : FnOk P w K mg base CX0 2 fK dK ["e"] (spKinds K (clsAd K))) (gK : mg "_law_kinds" = some (.ref fK)) (kK : PySem.W.keepIn K (.ref fK) = true) (bK : L2.Binds K dK ["e"] [])
    (gS : mg "isinstance" = none) (gP : mg "PostError" = some (.ref PE)) (gV : mg "ValueError" = none) (gL : mg "LookupError" = none) (gR : mg "range" = none) : FnOk P w K mg base CX0 3 f fd ["e", "at"] (spOwn K PE) := by
  have sc : FnScope ["e", "at", "k"] ["e", "at"] (defScope (top 87)) := ⟨rfl, rfl, rfl, by decide +kernel, rfl, by decide +kernel, by decide +kernel⟩
  refine F.ok sc (fun vs H Q E h => ?_) (fun cdv A outer s H vs Q E hr h => ?_)
  · obtain ⟨m, C, at_, kit, rfl, _⟩ := h
    rfl
  · obtain ⟨m, C, at_, kit, rfl, he, hC, hk, k1, k2, k3, hm, k⟩ := h
    refine' ⟨_, PSs.nox (pss_cons (ps_if (PW.pt (pw_or (pt_not (pt_val (pe_callB Ek.call_isx (by rfl) gS (by decide +kernel) (pa_cons (pv 0) (pa_cons (pe_glob (v := .ref PE) (by rfl) gP rfl) pa_nil))))) (pw_or (pt_not (pt_val (pe_callB Ek.call_isx (by rfl) gS (by decide +kernel) (pa_cons (pv 0) (pa_cons (pe_bltn (v := .ty "ValueError") rfl gV (by decide +kernel) rfl) pa_nil)))))
      (pw_or1 (pt_val (pe_callB Ek.call_isx (by rfl) gS (by decide +kernel) (pa_cons (pv 0) (pa_cons (pe_bltn (v := .ty "LookupError") rfl gL (by decide +kernel) rfl) pa_nil)))))))) (pss_one (ps_ret pe_bl)) pss_nil)
      (pss_one (ps_ret (pe_cmpR (op_eqD hr.units) (pe_call GK hr (by rfl) gK kK bK .nil pass0 (pa_cons (pv 0) pa_nil)) ?lc (nomark _))))), ?rd⟩
    case lc =>
      refine pe_lc (own := [("k", 2)]) (g := gName 2) (tt := tYes) (te := tOp rEq (tVar 2) (tVar 1)) rfl sc.nd (pi_range1 rfl gR (pa_cons pe_int pa_nil))
        (blkOk_by (own := [("k", 2)]) (N := ["e", "at", "k"]) (sc := defScope (top 87)) (by decide +kernel)) (fun _ _ _ _ _ => pg_name (i := 2) sc.nd rfl (.inl rfl)) (fun _ _ _ _ _ => pts_nil) ?_
      intro _ _ _ _ _
      exact pe_cmpR op_eq (pv 2) (pv 1) (nomark _)
    case rd =>
      refine rd_is (m := m) (C := C) rfl he hC k1 ⟨_, rfl, iteF ?_⟩
      refine rd_isT (m := m) (C := C) rfl he hC k2 ⟨_, rfl, iteF ?_⟩
      refine rd_isT (m := m) (C := C) rfl he hC k3 ⟨_, rfl, iteF ?_⟩
      refine ⟨_, rfl, m, C, kit, rfl, he, hC, hk, fun l H1 n1 x1 e1 => ?_⟩
      refine ⟨_, rfl, by decide, by decide, fun D hD => ?_⟩
      have y1 := Evl.Ex.new (o := .lst []) hD
      refine lc_range (lo := 0) (n := 72) (fun i H' => Evl.Ex H1 H' ∧ H' D = some (.lst (((List.range i).map fun k => decide (k = at_)).map V.bl))) ⟨y1, upd_same⟩ ?_ ?_
      · rintro i H2 hi ⟨x2, e2⟩
        refine ⟨rfl, _, rfl, _, rfl, rfl, _, e2, Nat.lt_of_lt_of_le (show _ < 1000 by rw [List.length_map, List.length_map, List.length_range]; omega) (by decide), fun b o e => ?_, ?_⟩
        · rw [upd_ne (ne_of_none e hD)]
          exact x2 _ _ e
        · rw [upd_same, List.range_succ, List.map_append, List.map_append]
          have z : decide (V.int (0 + (i : Int)) = V.int (at_ : Int)) = decide (i = at_) := by
            refine decide_eq_decide.mpr ⟨fun z => ?_, fun z => ?_⟩
            · injection z with z
              omega
            · rw [z]
              simp
          simp only [List.map_cons, List.map_nil]
          rw [← z]
      · rintro H2 ⟨x2, e2⟩
        have e : (clsAd K).map (fun D => V.bl (kit D)) = ((List.range 72).map fun k => decide (k = at_)).map V.bl := by
          rw [← hm, List.map_map]
          rfl
        rw [e] at e1
        refine ⟨.list (((List.range 72).map fun k => decide (k = at_)).map PyData.bool), .list (((List.range 72).map fun k => decide (k = at_)).map PyData.bool), .lst (SqL.of (x2 _ _ e1)) (dp_bools _), .lst (SqL.of e2) (dp_bools _), shaped_bools _, shaped_bools _, ?_⟩
        rw [eqv_bools]
        exact k _ fun b o e => x2 _ _ (x1 _ _ e)
theorem ok_these {f c : Addr} {fd : FuncData} {A : Around} (F : FnP K "_law_are_these" (top 88) f fd) (hc : fd.code = .ref c) (hr : Room 1 A) (hg : A.guards = some []) (hB : Gd.SysB base) (gR : mg "repr" = none) (gN : mg "len" = none) : Gd.OkAt P w K mg base CX0 A f fd ["found", "due"] (spThese K) := by
  refine Gd.okAt_def (k := 0) (N := ["found", "due"]) F hc ⟨rfl, rfl, rfl, by decide +kernel, rfl, by decide +kernel, by decide +kernel⟩ hr (fun vs H Q E h => ?_) (fun outer st H vs Q E hr2 h => ?_)
  · obtain ⟨l, du, xs, ds, rfl, _⟩ := h
    rfl
  · obtain ⟨l, du, xs, ds, rfl, e1, e2, hp, s1, s2, s3, k⟩ := h
    have hu : (A.deeper (envOfC "_law_are_these" (defScope (top 88)) st.heap.objs.size f (.ref c))).units + 100 < cLine := by
      have := hr2.un
      omega
    have cR : ∀ X : Cx, X.base = base → X.A.guards = some [] → X.A.units + 100 < cLine → CallR X (.builtin "repr") _ := fun X hb h1 h2 => Gd.call_reprL (hb ▸ hB) h1 h2
    refine ⟨_, PSs.nox (pss_one (ps_ret (pe_and (pe_cmpR op_eq (pe_callB (cR _ rfl hg hu) (by rfl) gR (by decide +kernel) (pa_cons (pv 0) pa_nil)) (pe_callB (cR _ rfl hg hu) (by rfl) gR (by decide +kernel) (pa_cons (pv 1) pa_nil)) (nomark _))
      (pe_one (pe_cmpR op_eq (pe_callB call_len_seq (by rfl) gN PySem.boot_len (pa_cons (pv 0) pa_nil)) (pe_callB call_len_seq (by rfl) gN PySem.boot_len (pa_cons (pv 1) pa_nil)) (nomark _)))))), ?_⟩
    refine ⟨_, rfl, l, xs, ds, rfl, e1, hp, s1, s2, s3, ?_⟩
    refine ⟨_, rfl, du, xs, ds, rfl, e2, hp, s1, s2, s3, ?_⟩
    refine ⟨rfl, ?_⟩
    rw [decide_eq_true (rfl : V.str (PyData.list ds).shown = V.str (PyData.list ds).shown)]
    refine ⟨_, rfl, iteT ⟨_, rfl, l, xs, rfl, .inl (SqL.of e1), _, rfl, du, xs, rfl, .inl (SqL.of e2), rfl, ?_⟩⟩
    rw [decide_eq_true (rfl : V.int (xs.length : Nat) = V.int (xs.length : Nat))]
    exact k
end
end K00
namespace K00
open PySem PySem.Spec PyProof.Rows L2
/-! ### the things that are drawn, what stands while the law runs -/
/-- the fifteen things, and the list that grows -/
inductive V15 (S : Addr → Prop) (H : Hp) : V → PyData → Prop
  | non : V15 S H .non .none
  | int (i : Int) (h : i ∈ [(5 : Int), -1, 10 ^ 30, 0, 1]) : V15 S H (.int i) (.int i)
  | bl (b : Bool) : V15 S H (.bl b) (.bool b)
  | str (s : Str) (h : s ∈ [("a" : Str), ""]) : V15 S H (.str s) (.str s)
  | l1 {a : Addr} (h : H a = some (.lst [.int 1, .str "b"])) (s : S a) : V15 S H (.ref a) (.list [.int 1, .str "b"])
  | t1 {a : Addr} (h : H a = some (.tup [.int 2, .non])) : V15 S H (.ref a) (.tuple [.int 2, .none])
  | dic {a : Addr} (h : H a = some (Gd.DicO a)) : V15 S H (.ref a) (.dict [(.str "a", .int 1)])
  | l2 {a b : Addr} (h : H a = some (.lst [.ref b])) (h2 : H b = some (.lst [.str "x"])) (s : S a) (s2 : S b) : V15 S H (.ref a) (.list [.list [.str "x"]])
  | t2 {a : Addr} (h : H a = some (.tup [.str "s", .int 3])) : V15 S H (.ref a) (.tuple [.str "s", .int 3])
  | held {a : Addr} (h : H a = some (.lst [.str "v", .str "w"])) (s : S a) : V15 S H (.ref a) (.list [.str "v", .str "w"])
def d15 : List PyData := [.none, .int 5, .int (-1), .int (10 ^ 30), .int 0, .int 1, .bool true, .bool false, .str "a", .str "", .list [.int 1, .str "b"], .tuple [.int 2, .none], .dict [(.str "a", .int 1)], .list [.list [.str "x"]], .tuple [.str "s", .int 3], .list [.str "v", .str "w"]]
def shB (ds : List PyData) : Bool := (PyData.list ds).showable && (decide ((PyData.list ds).depth ≤ 50) && decide ((PyData.list ds).shown.length ≤ 1000))
theorem sh0 : shB [] = true := by decide +kernel
theorem sh1 : (d15.all fun d => shB [d]) = true := by decide +kernel
theorem sh2 : (d15.all fun d => d15.all fun e => shB [d, e]) = true := by decide +kernel
theorem shB_ok {ds : List PyData} (h : shB ds = true) : (PyData.list ds).showable = true ∧ (PyData.list ds).depth ≤ 50 ∧ (PyData.list ds).shown.length ≤ sizeLine := by
  obtain ⟨h1, h⟩ := He.ba h
  obtain ⟨h2, h3⟩ := He.ba h
  exact ⟨h1, of_decide_eq_true h2, Nat.le_trans (of_decide_eq_true h3) (by decide)⟩
section
variable {S : Addr → Prop} {H H' : Hp} {v : V} {d : PyData}
theorem V15.keep (h : V15 S H v d) (k : Kz S H H') : V15 S H' v d := by
  cases h with
  | non => exact .non
  | int i h => exact .int i h
  | bl b => exact .bl b
  | str s h => exact .str s h
  | l1 h s => exact .l1 (k _ _ h (.inr (.inr s))) s
  | t1 h => exact .t1 (k _ _ h (.inr (.inl ⟨_, rfl⟩)))
  | dic h => exact .dic (k _ _ h (.inl ⟨_, rfl⟩))
  | l2 h h2 s s2 => exact .l2 (k _ _ h (.inr (.inr s))) (k _ _ h2 (.inr (.inr s2))) s s2
  | t2 h => exact .t2 (k _ _ h (.inr (.inl ⟨_, rfl⟩)))
  | held h s => exact .held (k _ _ h (.inr (.inr s))) s
theorem V15.mem (h : V15 S H v d) : d ∈ d15 := by
  cases h with
  | int i h =>
    simp only [List.mem_cons, List.not_mem_nil, or_false] at h
    rcases h with rfl | rfl | rfl | rfl | rfl <;> simp [d15]
  | bl b => cases b <;> simp [d15]
  | str s h =>
    simp only [List.mem_cons, List.not_mem_nil, or_false] at h
    rcases h with rfl | rfl <;> simp [d15]
  | _ => simp [d15]
theorem V15.dz {K : PySem.W.Frag} (h : V15 S H v d) : Gd.Dz K H v d := by
  cases h with
  | non => exact .dp .non rfl
  | int i h => exact .dp (.int i) rfl
  | bl b => exact .dp (.bl b) rfl
  | str s h => exact .dp (.str s) rfl
  | l1 h s => exact .dp (.lst (SqL.of h) (.cons (.int 1) (.cons (.str "b") .nil))) (by simp [PyData.hasDict, PyData.hasDictAll])
  | t1 h => exact .dp (.tup (SqT.of h) (.cons (.int 2) (.cons .non .nil))) (by simp [PyData.hasDict, PyData.hasDictAll])
  | dic h => exact .dic h
  | l2 h h2 s s2 => exact .dp (.lst (SqL.of h) (.cons (.lst (SqL.of h2) (.cons (.str "x") .nil)) .nil)) (by simp [PyData.hasDict, PyData.hasDictAll])
  | t2 h => exact .dp (.tup (SqT.of h) (.cons (.str "s") (.cons (.int 3) .nil))) (by simp [PyData.hasDict, PyData.hasDictAll])
  | held h s => exact .dp (.lst (SqL.of h) (.cons (.str "v") (.cons (.str "w") .nil))) (by simp [PyData.hasDict, PyData.hasDictAll])
end
/-- what a promise of _law_are_these asks of such a list -/
def Fit (S : Addr → Prop) (H : Hp) (xs : List V) : Prop := ∃ ds, Paired (V15 S H) xs ds ∧ shB ds = true
theorem Fit.keep {S : Addr → Prop} {H H' : Hp} {xs : List V} (h : Fit S H xs) (k : Kz S H H') : Fit S H' xs := by
  obtain ⟨ds, h1, h2⟩ := h
  refine ⟨ds, ?_, h2⟩
  clear h2
  induction h1 with
  | nil => exact .nil
  | cons a r ih => exact .cons (a.keep k) ih
theorem dz_paired {S : Addr → Prop} {H : Hp} {K : PySem.W.Frag} : ∀ {xs : List V} {ds : List PyData}, Paired (V15 S H) xs ds → Paired (Gd.Dz K H) xs ds
  | _, _, .nil => .nil
  | _, _, .cons a r => .cons a.dz (dz_paired r)
theorem fit0 {S : Addr → Prop} {H : Hp} : Fit S H [] := ⟨[], .nil, sh0⟩
theorem fit1 {S : Addr → Prop} {H : Hp} {x : V} (h : ∃ d, V15 S H x d) : Fit S H [x] := by
  obtain ⟨d, h⟩ := h
  exact ⟨[d], .cons h .nil, List.all_eq_true.mp sh1 d h.mem⟩
theorem fit2 {S : Addr → Prop} {H : Hp} {x y : V} (h : ∃ d, V15 S H x d) (g : ∃ d, V15 S H y d) : Fit S H [x, y] := by
  obtain ⟨d, h⟩ := h
  obtain ⟨e, g⟩ := g
  exact ⟨[d, e], .cons h (.cons g .nil), List.all_eq_true.mp (List.all_eq_true.mp sh2 d h.mem) e g.mem⟩
theorem fit_of {S : Addr → Prop} {H : Hp} {K : PySem.W.Frag} {x y z : V} (hx : ∃ d, V15 S H x d) (hy : ∃ d, V15 S H y d) : ∀ p : Str × List Str, Fit S H ((scOf K p).dv x y z)
  | (_, [_]) => fit1 hx
  | (_, [_, _]) => fit2 hx hy
  | (_, []) => fit0
  | (_, _ :: _ :: _ :: _) => fit0
/-! ### the state -/
/-- what is changed while the law runs: the stream, the tables of code objects -/
def SL (p c : Addr) (tabs : List (Addr × Str)) : Addr → Prop := fun b => b ≠ p ∧ b ≠ c ∧ ∀ t ∈ tabs, b ≠ t.1
structure LS (mg : Str → Option Value) (p c : Addr) (tabs : List (Addr × Str)) (n : Nat) (H : Hp) : Prop where
  str : StrAt H p c n
  tab : ∀ t ∈ tabs, Lm.TabD mg [t.2] H t.1
section
variable {mg : Str → Option Value} {p c : Addr} {tabs : List (Addr × Str)} {n : Nat} {H H' : Hp}
theorem tabD_kz {S : Addr → Prop} {q : Str} {Y : Addr} (k : Kz S H H') (h : Lm.TabD mg [q] H Y) (e : ∀ o, H Y = some o → H' Y = some o) : Lm.TabD mg [q] H' Y := by
  obtain ⟨ps, hP, h1, h2⟩ := h
  refine ⟨ps, e _ hP, h1, fun pos cv z => ?_⟩
  obtain ⟨c0, P2, z1, z2, z3⟩ := h2 pos cv z
  exact ⟨c0, P2, z1, k _ _ z2 (.inl ⟨_, rfl⟩), z3⟩
theorem LS.ex (L : LS mg p c tabs n H) (x : Evl.Ex H H') : LS mg p c tabs n H' := ⟨L.str.keep x, fun t ht => tabD_kz (S := fun _ => True) (Kz.of x) (L.tab t ht) fun o e => x _ _ e⟩
theorem LS.isTab (L : LS mg p c tabs n H) {t : Addr × Str} (ht : t ∈ tabs) : ∃ ps, H t.1 = some (.tbl ps) := by
  obtain ⟨ps, h, _⟩ := L.tab t ht
  exact ⟨ps, h⟩
theorem LS.ne (L : LS mg p c tabs n H) {t : Addr × Str} (ht : t ∈ tabs) : t.1 ≠ p ∧ t.1 ≠ c := by
  obtain ⟨ps, h⟩ := L.isTab ht
  obtain ⟨_, cells, a, k, m, h1, h2, _⟩ := L.str
  exact ⟨ne_of h h1 (fun z => nomatch z), ne_of h h2 (fun z => nomatch z)⟩
theorem LS.kp {n' : Nat} (L : LS mg p c tabs n H) (x : Kp p c H H') (s : StrAt H' p c n') : LS mg p c tabs n' H' ∧ Kz (SL p c tabs) H H' := by
  have kz : ∀ b o, H b = some o → ((∃ f, o = .ext f) ∨ (∃ xs, o = .tup xs) ∨ (b ≠ p ∧ b ≠ c)) → H' b = some o := fun b o e z => by
    obtain ⟨_, cells, a, k, m, h1, h2, _⟩ := L.str
    rcases z with ⟨f, rfl⟩ | ⟨f, rfl⟩ | z
    · exact x b _ e (ne_of e h1 (fun z => nomatch z)) (ne_of e h2 (fun z => nomatch z))
    · exact x b _ e (ne_of e h1 (fun z => nomatch z)) (ne_of e h2 (fun z => nomatch z))
    · exact x b o e z.1 z.2
  refine ⟨⟨s, fun t ht => tabD_kz (S := fun b => b ≠ p ∧ b ≠ c) kz (L.tab t ht) fun o e => x _ _ e (L.ne ht).1 (L.ne ht).2⟩, fun b o e z => kz b o e ?_⟩
  rcases z with z | z | z
  · exact .inl z
  · exact .inr (.inl z)
  · exact .inr (.inr ⟨z.1, z.2.1⟩)
theorem LS.grow (nd : (tabs.map (·.1)).Nodup) (L : LS mg p c tabs n H) {t : Addr × Str} (ht : t ∈ tabs) (g : Lm.Grow t.1 H H') (T : Lm.TabD mg [t.2] H' t.1) : LS mg p c tabs n H' ∧ Kz (SL p c tabs) H H' := by
  obtain ⟨ps, hP⟩ := L.isTab ht
  have kz : Kz (SL p c tabs) H H' := Kz.tbl g hP fun z => z.2.2 t ht rfl
  refine ⟨⟨?_, fun u hu => ?_⟩, kz⟩
  · obtain ⟨k, cells, a, kk, m, h1, h2, r⟩ := L.str
    exact ⟨k, cells, a, kk, m, g _ _ (L.ne ht).1.symm h1, g _ _ (L.ne ht).2.symm h2, r⟩
  · by_cases e : u.1 = t.1
    · have : u = t := by
        have h1 := nd
        clear L T g hP kz
        induction tabs with
        | nil => cases ht
        | cons z r ih =>
          rw [List.map_cons, List.nodup_cons] at h1
          rcases List.mem_cons.mp ht with rfl | ht2
          · rcases List.mem_cons.mp hu with rfl | hu2
            · rfl
            · exact absurd (List.mem_map.mpr ⟨u, hu2, e⟩) h1.1
          · rcases List.mem_cons.mp hu with rfl | hu2
            · exact absurd (List.mem_map.mpr ⟨t, ht2, e.symm⟩) h1.1
            · exact ih h1.2 ht2 hu2 h1.2
      rw [this]
      exact T
    · exact tabD_kz kz (L.tab u hu) fun o z => g _ _ e z
theorem LS.sl (L : LS mg p c tabs n H) {b : Addr} (h : H b = none) : SL p c tabs b := by
  obtain ⟨_, cells, a, k, m, h1, h2, _⟩ := L.str
  exact ⟨(ne_of_none h1 h).symm, (ne_of_none h2 h).symm, fun t ht => by
    obtain ⟨ps, hP⟩ := L.isTab ht
    exact (ne_of_none hP h).symm⟩
end
end K00
namespace K00
open PySem PySem.Spec PyProof.Rows L2
/-! ### all that is made -/
section
variable {P : Program} {w : World} {K : PySem.W.Frag} {mg : Str → Option Value} {base : Heap}
theorem Ents.get {S : Addr → Prop} {H : Hp} {x y z : V} : ∀ {cs : List Sc} {ts : List V}, Ents P w K mg base S H x y z cs ts → ∀ {i : Nat} {t : V}, ts[i]? = some t → ∃ c, cs[i]? = some c ∧ Ent P w K mg base S H c.C (c.fv x y z) (c.dv x y z) t
  | _, _, .nil, i, t, h => by simp at h
  | _, _, .cons (c := c) a r, 0, t, h => by
    simp only [List.getElem?_cons_zero, Option.some.injEq] at h
    subst h
    exact ⟨c, rfl, a⟩
  | _, _, .cons a r, i + 1, t, h => by
    simp only [List.getElem?_cons_succ] at h
    obtain ⟨c, h1, h2⟩ := r.get h
    exact ⟨c, by simpa using h1, h2⟩
theorem Ent.live {S : Addr → Prop} {H : Hp} {C : Addr} {fv : List (Str × V)} {dv : List V} {t : V} (h : Ent P w K mg base S H C fv dv t) : Ent P w K mg base (fun b => S b ∧ H b ≠ none) H C fv dv t := by
  obtain ⟨a, m, m2, fL, c2, P2, du, q, pa, bd, sc, tb, h1, h2, h3, h4, h5, h6, h7, h8, h9⟩ := h
  exact ⟨a, m, m2, fL, c2, P2, du, q, pa, bd, sc, tb, h1, ⟨h2, fun z => by rw [h8] at z; cases z⟩, h3, h4, h5, h6, h7, h8, h9⟩
theorem Ents.live {S : Addr → Prop} {H : Hp} {x y z : V} : ∀ {cs : List Sc} {ts : List V}, Ents P w K mg base S H x y z cs ts → Ents P w K mg base (fun b => S b ∧ H b ≠ none) H x y z cs ts
  | _, _, .nil => .nil
  | _, _, .cons h r => .cons h.live r.live
theorem Kz.fresh {S : Addr → Prop} {H H1 : Hp} {l : Addr} {o : HO} (k : Kz S H H1) (h : H l = none) : Kz S H (upd H1 l o) := fun b u e z => by
  rw [upd_ne (ne_of_none e h)]
  exact k b u e z
/-- the four defs -/
structure Four (P : Program) (w : World) (K : PySem.W.Frag) (mg : Str → Option Value) (base : Heap) (x : Str) (f : Addr) (fd : FuncData) (t : Addr × Str) (cs : List Sc) : Prop where
  ok : FnOk P w K mg base CX0 3 f fd ["x", "y", "z"] (spMade P w K mg base t.1 t.2 cs)
  g : mg x = some (.ref f)
  kp : PySem.W.keepIn K (.ref f) = true
  b : L2.Binds K fd ["x", "y", "z"] []
  n : cs.length ≤ 100
abbrev tMk (P : Program) (w : World) (K : PySem.W.Frag) (mg : Str → Option Value) (base : Heap) (t : Addr × Str) (cs : List Sc) (i j k : Nat) : TE := tCall (spMade P w K mg base t.1 t.2 cs) [] L2.E0 (tCons (tVar i) (tCons (tVar j) (tCons (tVar k) tNil)))
variable {p c : Addr} {tabs : List (Addr × Str)} {n : Nat}
/-- such a call, while the law runs -/
theorem rd_mk {σ : L2.St} {H0 H : Hp} {i j k : Nat} {x y z : V} {t : Addr × Str} {cs : List Sc} {Q : VK} (nd : (tabs.map (·.1)).Nodup) (ht : t ∈ tabs) (L : LS mg p c tabs n H) (hx : σ[i]? = some (some x)) (hy : σ[j]? = some (some y)) (hz : σ[k]? = some (some z)) (dm : ∀ b, H b = none → H0 b = none)
    (q : ∀ l H' zs, H l = none → LS mg p c tabs n H' → Kz (SL p c tabs) H H' → (∀ b, H' b = none → H0 b = none) → (∀ b o, H b = some o → b ≠ t.1 → H' b = some o) → H' l = some (.lst zs) → Ents P w K mg base (fun b => (H0 b = none ∧ SL p c tabs b) ∧ b ≠ l) H' x y z cs zs → (∀ b, (H0 b = none ∧ SL p c tabs b) ∧ H b ≠ none → (H0 b = none ∧ SL p c tabs b) ∧ b ≠ l) → Q (.ref l) H') : tMk P w K mg base t cs i j k σ H Q := by
  refine ⟨x, hx, y, hy, z, hz, x, y, z, rfl, L.tab t ht, fun l H' zs nl T e g en => ?_⟩
  obtain ⟨L2', kz⟩ := L.grow nd ht (fun b o h1 h2 => g b o h2 h1) T
  refine q l H' zs nl L2' kz (fun b hb => dm b ?_) g e (en.mono fun b hb => ⟨⟨dm b hb.1, L.sl hb.1⟩, hb.2⟩) fun b hb => ⟨hb.1, fun e => hb.2 (e ▸ nl)⟩
  cases e2 : H b with
  | none => rfl
  | some o =>
    by_cases hbt : b = t.1
    · obtain ⟨ps, hP⟩ := L2'.isTab ht
      rw [hbt, hP] at hb
      cases hb
    · rw [g b o e2 hbt] at hb
      cases hb
/-- made = .. + .. + .. ; made.extend(..) -/
theorem rd_all {σ : L2.St} {H : Hp} {i j k : Nat} {x y z : V} {tA tB tC tD : Addr × Str} {cA cB cC cD : List Sc} {rest : TS} {D : Ends} (nd : (tabs.map (·.1)).Nodup) (hA : tA ∈ tabs) (hB : tB ∈ tabs) (hC : tC ∈ tabs) (hD : tD ∈ tabs) (nA : cA.length ≤ 100) (nB : cB.length ≤ 100) (nC : cC.length ≤ 100) (nD : cD.length ≤ 100) (L : LS mg p c tabs n H)
    (hx : σ[i]? = some (some x)) (hy : σ[j]? = some (some y)) (hz : σ[k]? = some (some z)) (ni : i ≠ 7) (nj : j ≠ 7) (nk : k ≠ 7) (hσ : 7 < σ.length)
    (q : ∀ l H' zs, LS mg p c tabs n H' → Kz (SL p c tabs) H H' → (∀ b, H' b = none → H b = none) → H l = none → H' l = some (.lst zs) → Ents P w K mg base (fun b => (H b = none ∧ SL p c tabs b) ∧ b ≠ l) H' x y z (cA ++ cB ++ cC ++ cD) zs → rest D (σ.set 7 (some (.ref l))) H') :
    tSeq (tAsg (tOp rCat (tOp rCat (tMk P w K mg base tA cA i j k) (tMk P w K mg base tB cB i j k)) (tMk P w K mg base tC cC i j k)) (gName 7)) (tSeq (tDrop (tBM K "list" rExtend (tVar 7) (tCons (tMk P w K mg base tD cD i j k) tNil))) rest) D σ H := by
  refine rd_mk (H0 := H) nd hA L hx hy hz (fun _ e => e) fun l1 H1 z1 n1 L1 k1 d1 g1 e1 en1 m1 => ?_
  refine rd_mk (H0 := H) nd hB L1 hx hy hz d1 fun l2 H2 z2 n2 L2' k2 d2 g2 e2 en2 m2 => ?_
  have nt : ∀ {t : Addr × Str} {H' : Hp} {l : Addr} {zs : List V}, t ∈ tabs → LS mg p c tabs n H' → H' l = some (.lst zs) → l ≠ t.1 := fun ht L e => by
    obtain ⟨ps, hP⟩ := L.isTab ht
    exact ne_of e hP (fun z => nomatch z)
  have en1' := (en1.live.mono fun b hb => (⟨hb.1.1, hb.2⟩ : (H b = none ∧ SL p c tabs b) ∧ H1 b ≠ none))
  have a2 : Ents P w K mg base (fun b => H b = none ∧ SL p c tabs b) H2 x y z cA z1 := (en1.mono fun b hb => hb.1).keep (k2.mono fun b hb => hb.2)
  have b2 : Ents P w K mg base (fun b => H b = none ∧ SL p c tabs b) H2 x y z cB z2 := en2.mono fun b hb => hb.1
  refine ⟨l1, l2, z1, z2, rfl, rfl, g2 _ _ e1 (nt hB L1 e1), e2, by rw [a2.length, b2.length]; exact Nat.le_trans (show _ ≤ 200 by omega) (by decide), fun l3 n3 => ?_⟩
  have x3 := Evl.Ex.new (o := .lst (z1 ++ z2)) n3
  have ab := (a2.append b2).keep (Kz.of x3)
  refine rd_mk (H0 := H) nd hC (L2'.ex x3) hx hy hz (fun b hb => d2 b (by
    cases e : H2 b with
    | none => rfl
    | some o =>
      rw [x3 _ _ e] at hb
      cases hb)) fun l4 H4 z4 n4 L4 k4 d4 g4 e4 en4 m4 => ?_
  have e34 := g4 _ _ upd_same (nt hC (L2'.ex x3) upd_same)
  have ab4 : Ents P w K mg base (fun b => H b = none ∧ SL p c tabs b) H4 x y z (cA ++ cB) (z1 ++ z2) := ab.keep (k4.mono fun b hb => hb.2)
  have c4 : Ents P w K mg base (fun b => H b = none ∧ SL p c tabs b) H4 x y z cC z4 := en4.mono fun b hb => hb.1
  refine ⟨l3, l4, z1 ++ z2, z4, rfl, rfl, e34, e4, by rw [List.length_append, a2.length, b2.length, c4.length]; exact Nat.le_trans (show _ ≤ 300 by omega) (by decide), fun l n5 => ?_⟩
  have x5 := Evl.Ex.new (o := .lst (z1 ++ z2 ++ z4)) n5
  have abc : Ents P w K mg base (fun b => (H b = none ∧ SL p c tabs b) ∧ b ≠ l) (upd H4 l (.lst (z1 ++ z2 ++ z4))) x y z (cA ++ cB ++ cC) (z1 ++ z2 ++ z4) := ((ab4.append c4).live.mono fun b hb => ⟨hb.1, fun e => hb.2 (e ▸ n5)⟩).keep (Kz.of x5)
  have hl0 : H l = none := d4 l n5
  have s7 : (σ.set 7 (some (V.ref l)))[7]? = some (some (.ref l)) := List.getElem?_set_self hσ
  have L5 := L4.ex x5
  refine ⟨.ref l, s7, .inl ⟨rfl, _, SqL.of upd_same⟩, ?_⟩
  refine rd_mk (H0 := upd H4 l (.lst (z1 ++ z2 ++ z4))) nd hD L5 (by rw [List.getElem?_set_ne (Ne.symm ni)]; exact hx) (by rw [List.getElem?_set_ne (Ne.symm nj)]; exact hy) (by rw [List.getElem?_set_ne (Ne.symm nk)]; exact hz) (fun _ e => e) fun l6 H6 z6 n6 L6 k6 d6 g6 e6 en6 m6 => ?_
  have el := g6 _ _ upd_same (nt hD L5 upd_same)
  refine ⟨l, l6, z1 ++ z2 ++ z4, z6, rfl, rfl, el, e6, by rw [List.length_append, List.length_append, a2.length, b2.length, c4.length, (en6.length)]; exact Nat.le_trans (show _ ≤ 400 by omega) (by decide), ?_⟩
  have big : Kz (fun b => (H b = none ∧ SL p c tabs b) ∧ b ≠ l) H6 (upd H6 l (.lst (z1 ++ z2 ++ z4 ++ z6))) := Kz.lst el fun z => z.2 rfl
  have dm5 : ∀ b, upd H4 l (.lst (z1 ++ z2 ++ z4)) b = none → H b = none ∧ b ≠ l := fun b hb => by
    have hbl : b ≠ l := fun e => by
      rw [e, upd_same] at hb
      cases hb
    rw [upd_ne hbl] at hb
    exact ⟨d4 b hb, hbl⟩
  have kz0 : Kz (SL p c tabs) H (upd H4 l (.lst (z1 ++ z2 ++ z4))) := (((k1.trans k2).trans (Kz.of x3)).trans k4).trans (Kz.of x5)
  refine q l _ (z1 ++ z2 ++ z4 ++ z6) ⟨?_, fun t ht => ?_⟩ ((kz0.trans k6).fresh hl0) (fun b hb => ?_) hl0 upd_same ((abc.keep (k6.mono fun b hb => hb.1.2)).append (en6.mono fun b hb => ⟨⟨(dm5 b hb.1.1).1, hb.1.2⟩, (dm5 b hb.1.1).2⟩) |>.keep big)
  · have sl := L.sl hl0
    exact L6.str.upd sl.1 sl.2.1
  · exact tabD_kz (S := fun b => (H b = none ∧ SL p c tabs b) ∧ b ≠ l) big (L6.tab t ht) fun o e => by
      rw [upd_ne ((nt ht L6 el).symm)]
      exact e
  · have hbl : b ≠ l := fun e => by
      rw [e, upd_same] at hb
      cases hb
    rw [upd_ne hbl] at hb
    exact (dm5 b (d6 b hb)).1
end
end K00
namespace K00
open PySem PySem.Spec PyProof.Rows L2
/-! ### law -/
abbrev nmLaw : List Str := ["script", "stream", "some", "turn", "x", "y", "z", "made", "at", "mine", "twin", "field", "due", "held", "base"]
theorem scLaw : FnScope nmLaw ["script"] (defScope (top 89)) := ⟨rfl, rfl, rfl, by decide +kernel, rfl, by decide +kernel, by decide +kernel⟩
/-- what is known of the class at each place -/
def OwnF (K : PySem.W.Frag) (PE : Addr) : Prop := ∀ (i : Nat) (q : Str × List Str), cl[i]? = some q → Ek.ClsE K (He.ga K q.1) ∧ (∀ D ∈ clsAd K, PySem.W.kitOne K (.ref (He.ga K q.1)) (.ref D) = some (decide (D = He.ga K q.1))) ∧
  PySem.W.kitOne K (.ref (He.ga K q.1)) (.ref PE) = some true ∧ PySem.W.kitOne K (.ref (He.ga K q.1)) (.type "ValueError") = some true ∧ PySem.W.kitOne K (.ref (He.ga K q.1)) (.type "LookupError") = some false ∧ (clsAd K).map (fun D => decide (D = He.ga K q.1)) = (List.range 72).map (fun k => decide (k = i))
def spLaw (K : PySem.W.Frag) (tabs : List (Addr × Str)) : Sp := fun vs H Q _ => ∃ (a : Addr) (ns : List Int), vs = [.ref a] ∧ SqL K H a (ns.map V.int) ∧ ns.length ≤ 63 ∧ (∀ t ∈ tabs, H t.1 = some (.tbl #[])) ∧ ∀ H', Q (.bl true) H'
section
variable {P : Program} {w : World} {K : PySem.W.Frag} {mg : Str → Option Value} {base : Heap}
theorem Fit_ds {S : Addr → Prop} {H H' : Hp} : ∀ {xs : List V} {ds : List PyData}, Paired (V15 S H) xs ds → Kz S H H' → Paired (V15 S H') xs ds
  | _, _, .nil, _ => .nil
  | _, _, .cons a r, k => .cons (a.keep k) (Fit_ds r k)
theorem scC (q : Str × List Str) : (scOf K q).C = He.ga K q.1 := by
  match q with
  | (_, [_]) => rfl
  | (_, [_, _]) => rfl
  | (_, []) => rfl
  | (_, _ :: _ :: _ :: _) => rfl
abbrev csL (K : PySem.W.Frag) (l : List (Str × List Str)) : List Sc := l.map (scOf K)
theorem cs_all (K : PySem.W.Frag) : csL K cl_a ++ csL K cl_b ++ csL K cl_c ++ csL K cl_d = csL K cl := by
  unfold cl csL
  rw [List.map_append, List.map_append, List.map_append]
theorem ok_law {f fS fM fK fO fT cT' : Addr} {tA tB tC tD : Addr × Str} {fA fB fC fD : Addr} {fd dS dM dK dO dT dA dB dC dD : FuncData} {PE : Addr} {A : Around} {cL : Addr} (F : FnP K "law" (top 89) f fd) (hcode : fd.code = .ref cL) (hr0 : Room 4 A) (hg : A.guards = some []) (hB : Gd.SysB base)
    (GS : FnOk P w K mg base CX0 1 fS dS ["script"] (spStart K)) (gS : mg "_law_start" = some (.ref fS)) (kS : PySem.W.keepIn K (.ref fS) = true) (bS : L2.Binds K dS ["script"] [])
    (GM : FnOk P w K mg base CX0 2 fM dM ["stream", "some"] (spMixed K)) (gM : mg "_law_mixed" = some (.ref fM)) (kM : PySem.W.keepIn K (.ref fM) = true) (bM : L2.Binds K dM ["stream", "some"] [])
    (GK : FnOk P w K mg base CX0 2 fK dK ["e"] (spKinds K (clsAd K))) (gK : mg "_law_kinds" = some (.ref fK)) (kK : PySem.W.keepIn K (.ref fK) = true) (bK : L2.Binds K dK ["e"] [])
    (GO : FnOk P w K mg base CX0 3 fO dO ["e", "at"] (spOwn K PE)) (gO : mg "_law_is_own" = some (.ref fO)) (kO : PySem.W.keepIn K (.ref fO) = true) (bO : L2.Binds K dO ["e", "at"] [])
    (FT : FnP K "_law_are_these" (top 88) fT dT) (hcT : dT.code = .ref cT') (gT : mg "_law_are_these" = some (.ref fT)) (gRp : mg "repr" = none) (gN : mg "len" = none)
    (RA : Four P w K mg base "_law_made_a" fA dA tA (csL K cl_a)) (RB : Four P w K mg base "_law_made_b" fB dB tB (csL K cl_b)) (RC : Four P w K mg base "_law_made_c" fC dC tC (csL K cl_c)) (RD : Four P w K mg base "_law_made_d" fD dD tD (csL K cl_d))
    (nd : ([tA, tB, tC, tD].map (·.1)).Nodup) (gR : mg "range" = none) (gE : mg "enumerate" = none) (gI : mg "isinstance" = none) (gV : mg "ValueError" = none) (gP : mg "PostError" = some (.ref PE))
    (qP : PySem.W.excIn K PE bmVE "ValueError.__new__" = true) (kP : PySem.W.keepIn K (.ref PE) = true) (cP : Ek.ClsE K PE) (vP : PySem.W.kitOne K (.ref PE) (.type "ValueError") = some true) (oP : ∀ D ∈ clsAd K, PySem.W.kitOne K (.ref PE) (.ref D) = some false) (OF : OwnF K PE) :
    Gd.OkAt P w K mg base CX0 A f fd ["script"] (spLaw K [tA, tB, tC, tD]) := by
  refine Gd.okAt_def (k := 3) F hcode scLaw hr0 (fun vs H Q E h => ?_) (fun outer s H vs Q E hr h => ?_)
  · obtain ⟨a, ns, rfl, _⟩ := h
    rfl
  · obtain ⟨a, ns, rfl, hq, hl, hT, k⟩ := h
    have hr1 : Room 1 _ := hr.mono (by decide)
    have hr2 : Room 2 _ := hr.mono (by decide)
    have bT : L2.Binds K dT ["found", "due"] [] := FT.bindsN fun _ _ _ _ _ _ us hl => match us, hl with | [_, _], _ => rfl
    have lT : ∀ vs H Q E, spThese K vs H Q E → vs.length = (["found", "due"] : List Str).length := fun vs H Q E h => by
      obtain ⟨l, du, xs, ds, rfl, _⟩ := h
      rfl
    have OT : ∀ A' : Around, Room 1 A' → A'.guards = some [] → Gd.OkAt P w K mg base CX0 A' fT dT ["found", "due"] (spThese K) := fun A' h1 h2 => ok_these FT hcT h1 h2 hB gRp gN
    have hL1 : ∀ pa bd sc tb, Lm.Lam1 P w K mg base 1 "e" pa bd sc tb → Lm.Lam1 P w K mg base 1 "e" pa bd sc tb := fun _ _ _ _ h => h
    refine' ⟨_, PSs.nox (pss_cons (ps_set (i := 1) scLaw.nd rfl (.inl rfl) (pe_call GS hr1 (by rfl) gS kS bS .nil pass0 (pa_cons (pv 0) pa_nil)))
      (pss_cons (ps_set (i := 2) scLaw.nd rfl (.inl rfl) (pe_lst (pa_cons pe_non (pa_cons pe_int (pa_cons (pe_un un_neg pe_int) (pa_cons pe_bl (pa_cons pe_str (pa_cons pe_str (pa_cons (pe_lst (pa_cons pe_int (pa_cons pe_str pa_nil))) (pa_cons (pe_tup (pa_cons pe_int (pa_cons pe_non pa_nil))) (pa_cons (Gd.pe_dicA hB)
        (pa_cons (pe_lst (pa_cons (pe_lst (pa_cons pe_str pa_nil)) pa_nil)) (pa_cons (pe_op op_pow pe_int pe_int) (pa_cons (pe_tup (pa_cons pe_str (pa_cons pe_int pa_nil))) (pa_cons pe_bl (pa_cons pe_int (pa_cons pe_int pa_nil)))))))))))))))))
      (pss_cons (ps_for PassesOwn.never rfl (pi_range1 (by rfl) gR (pa_cons pe_int pa_nil)) (pg_name (i := 3) scLaw.nd rfl (.inl rfl))
        (pss_cons (ps_asg (pe_slice sl_list (pe_call GM hr2 (by rfl) gM kM bM .nil pass0 (pa_cons (pv 1) (pa_cons (pv 2) pa_nil))) po_none (po_some pe_int)) (pg_unl (by rfl) (pgs_cons (pg_name (i := 4) scLaw.nd rfl (.inl rfl)) (pgs_cons (pg_name (i := 5) scLaw.nd rfl (.inl rfl)) (pgs_cons (pg_name (i := 6) scLaw.nd rfl (.inl rfl)) pgs_nil)))))
        (pss_cons (ps_set (i := 7) scLaw.nd rfl (.inl rfl) (pe_op op_cat (pe_op op_cat (pe_call RA.ok hr (by rfl) RA.g RA.kp RA.b .nil pass0 (pa_cons (pv 4) (pa_cons (pv 5) (pa_cons (pv 6) pa_nil)))) (pe_call RB.ok hr (by rfl) RB.g RB.kp RB.b .nil pass0 (pa_cons (pv 4) (pa_cons (pv 5) (pa_cons (pv 6) pa_nil))))) (pe_call RC.ok hr (by rfl) RC.g RC.kp RC.b .nil pass0 (pa_cons (pv 4) (pa_cons (pv 5) (pa_cons (pv 6) pa_nil))))))
        (pss_cons (ps_expr (pe_bm PySem.F.plainAttrs_list PySem.F.slot_list_extend PySem.F.type_list_extend mt_extend (pv 7) (pa_cons (pe_call RD.ok hr (by rfl) RD.g RD.kp RD.b .nil pass0 (pa_cons (pv 4) (pa_cons (pv 5) (pa_cons (pv 6) pa_nil)))) pa_nil)))
        (pss_one (ps_for PassesOwn.never rfl (Sq.pi_enumA (by rfl) gE (pa_cons (pv 7) pa_nil)) (pg_tup (by rfl) (pgs_cons (pg_name (i := 8) scLaw.nd rfl (.inl rfl)) (pgs_cons (pg_tup (by rfl) (pgs_cons (pg_name (i := 9) scLaw.nd rfl (.inl rfl)) (pgs_cons (pg_name (i := 10) scLaw.nd rfl (.inl rfl)) (pgs_cons (pg_name (i := 11) scLaw.nd rfl (.inl rfl)) (pgs_cons (pg_name (i := 12) scLaw.nd rfl (.inl rfl)) pgs_nil))))) pgs_nil)))
          (pss_cons (ps_if (PW.pt (pw_or (pt_not (pt_val (pe_call GO hr (by rfl) gO kO bO .nil pass0 (pa_cons (pv 9) (pa_cons (pv 8) pa_nil))))) (pw_or1 (pt_not (pt_val (pe_call GO hr (by rfl) gO kO bO .nil pass0 (pa_cons (pv 10) (pa_cons (pv 8) pa_nil)))))))) (pss_one (ps_ret pe_bl)) pss_nil)
          (pss_one (ps_if (PW.pt (pw_or (pt_not (pt_val (Gd.pe_callO (OT _ hr1 hg) lT (by rfl) gT FT.kp bT pass0 (pa_cons (Lm.pe_callV (i := 11) hL1 (pv 9) hr2 rfl (.inl rfl)) (pa_cons (pv 12) pa_nil)))))
            (pw_or1 (pt_not (pt_val (Gd.pe_callO (OT _ hr1 hg) lT (by rfl) gT FT.kp bT pass0 (pa_cons (Lm.pe_callV (i := 11) hL1 (pv 10) hr2 rfl (.inl rfl)) (pa_cons (pv 12) pa_nil)))))))) (pss_one (ps_ret pe_bl)) pss_nil)))))))))
      (pss_cons (ps_set (i := 13) scLaw.nd rfl (.inl rfl) (pe_lst (pa_cons pe_str pa_nil)))
      (pss_cons (ps_set (i := 7) scLaw.nd rfl (.inl rfl) (pe_op op_cat (pe_op op_cat (pe_call RA.ok hr (by rfl) RA.g RA.kp RA.b .nil pass0 (pa_cons (pv 13) (pa_cons (pv 13) (pa_cons (pv 13) pa_nil)))) (pe_call RB.ok hr (by rfl) RB.g RB.kp RB.b .nil pass0 (pa_cons (pv 13) (pa_cons (pv 13) (pa_cons (pv 13) pa_nil))))) (pe_call RC.ok hr (by rfl) RC.g RC.kp RC.b .nil pass0 (pa_cons (pv 13) (pa_cons (pv 13) (pa_cons (pv 13) pa_nil))))))
      (pss_cons (ps_expr (pe_bm PySem.F.plainAttrs_list PySem.F.slot_list_extend PySem.F.type_list_extend mt_extend (pv 7) (pa_cons (pe_call RD.ok hr (by rfl) RD.g RD.kp RD.b .nil pass0 (pa_cons (pv 13) (pa_cons (pv 13) (pa_cons (pv 13) pa_nil)))) pa_nil)))
      (pss_cons (ps_expr (pe_bm PySem.F.plainAttrs_list PySem.F.slot_list_append PySem.F.type_list_append mt_append (pv 13) (pa_cons pe_str pa_nil)))
      (pss_cons (ps_for PassesOwn.never rfl (pi_list (pv 7)) (pg_tup (by rfl) (pgs_cons (pg_name (i := 9) scLaw.nd rfl (.inl rfl)) (pgs_cons (pg_name (i := 10) scLaw.nd rfl (.inl rfl)) (pgs_cons (pg_name (i := 11) scLaw.nd rfl (.inl rfl)) (pgs_cons (pg_name (i := 12) scLaw.nd rfl (.inl rfl)) pgs_nil)))))
        (pss_one (ps_if (PW.pt (pw_or (pt_not (pt_val (Gd.pe_callO (OT _ hr1 hg) lT (by rfl) gT FT.kp bT pass0 (pa_cons (Lm.pe_callV (i := 11) hL1 (pv 9) hr2 rfl (.inl rfl)) (pa_cons (pv 12) pa_nil)))))
            (pw_or1 (pt_not (pt_val (Gd.pe_callO (OT _ hr1 hg) lT (by rfl) gT FT.kp bT pass0 (pa_cons (Lm.pe_callV (i := 11) hL1 (pv 10) hr2 rfl (.inl rfl)) (pa_cons (pv 12) pa_nil)))))))) (pss_one (ps_ret pe_bl)) pss_nil)))
      (pss_cons (ps_set (i := 14) scLaw.nd rfl (.inl rfl) (Ek.pe_mk0 PySem.F.excBase_ValueError qP (by rfl) gP kP))
      (pss_one (ps_ret (pe_and (pe_callB Ek.call_isx (by rfl) gI (by decide +kernel) (pa_cons (pv 14) (pa_cons (pe_bltn (v := .ty "ValueError") rfl gV (by decide +kernel) rfl) pa_nil))) (pe_one (pe_cmpR op_notIn_seq pe_bl (pe_call GK hr2 (by rfl) gK kK bK .nil pass0 (pa_cons (pv 14) pa_nil)) (by rfl))))))))))))))), ?rd⟩
    case rd =>
      refine ⟨_, rfl, a, ns, rfl, hq, hl, fun p c H1 hp0 hc0 e1 hS1 => ?_⟩
      have L1 : LS mg p c [tA, tB, tC, tD] 0 H1 := ⟨hS1, fun t ht => Lm.tabD_nil (e1 _ _ (hT t ht))⟩
      have mA : tA ∈ [tA, tB, tC, tD] := by simp
      have mB : tB ∈ [tA, tB, tC, tD] := by simp
      have mC : tC ∈ [tA, tB, tC, tD] := by simp
      have mD : tD ∈ [tA, tB, tC, tD] := by simp
      refine ⟨_, rfl, ?_⟩
      refine ⟨by show 2 ≤ sizeLine; decide, fun a7 n7 => ?_⟩
      refine ⟨by show 2 ≤ sizeLine; decide, fun a8 n8 => ?_⟩
      intro a9 n9
      refine ⟨by show 1 ≤ sizeLine; decide, fun a10 n10 => ?_⟩
      refine ⟨by show 1 ≤ sizeLine; decide, fun a11 n11 => ?_⟩
      refine ⟨_, _, rfl, rfl, ⟨by decide, by decide, by decide⟩, ?_⟩
      refine ⟨by show 2 ≤ sizeLine; decide, fun a12 n12 => ?_⟩
      refine ⟨by show 15 ≤ sizeLine; decide, fun sm nsm => ?_⟩
      have x7 := Evl.Ex.new (o := .lst [.int 1, .str "b"]) n7
      have x8 := Evl.Ex.new (o := .tup [.int 2, .non]) n8
      have x9 := Evl.Ex.new (o := Gd.DicO a9) n9
      have x10 := Evl.Ex.new (o := .lst [.str "x"]) n10
      have x11 := Evl.Ex.new (o := .lst [.ref a10]) n11
      have x12 := Evl.Ex.new (o := .tup [.str "s", .int 3]) n12
      have x13 := Evl.Ex.new (o := .lst [.non, .int 5, .int (-1), .bl true, .str "a", .str "", .ref a7, .ref a8, .ref a9, .ref a11, .int (10 ^ (30 : Int).toNat), .ref a12, .bl false, .int 0, .int 1]) nsm
      have s7 := L1.sl n7
      have s10 := (((L1.ex x7).ex x8).ex x9).sl n10
      have s11 := ((((L1.ex x7).ex x8).ex x9).ex x10).sl n11
      have ssm := ((((((L1.ex x7).ex x8).ex x9).ex x10).ex x11).ex x12).sl nsm
      have Ls := (((((((L1.ex x7).ex x8).ex x9).ex x10).ex x11).ex x12).ex x13)
      have v7 : V15 (SL p c [tA, tB, tC, tD]) _ (.ref a7) _ := .l1 (x13 _ _ (x12 _ _ (x11 _ _ (x10 _ _ (x9 _ _ (x8 _ _ upd_same)))))) s7
      have v8 : V15 (SL p c [tA, tB, tC, tD]) _ (.ref a8) _ := .t1 (x13 _ _ (x12 _ _ (x11 _ _ (x10 _ _ (x9 _ _ upd_same)))))
      have v9 : V15 (SL p c [tA, tB, tC, tD]) _ (.ref a9) _ := .dic (x13 _ _ (x12 _ _ (x11 _ _ (x10 _ _ upd_same))))
      have v11 : V15 (SL p c [tA, tB, tC, tD]) _ (.ref a11) _ := .l2 (x13 _ _ (x12 _ _ upd_same)) (x13 _ _ (x12 _ _ (x11 _ _ upd_same))) s11 s10
      have v12 : V15 (SL p c [tA, tB, tC, tD]) _ (.ref a12) _ := .t2 (x13 _ _ upd_same)
      have es : upd (upd (upd (upd (upd (upd (upd H1 a7 (.lst [.int 1, .str "b"])) a8 (.tup [.int 2, .non])) a9 (Gd.DicO a9)) a10 (.lst [.str "x"])) a11 (.lst [.ref a10])) a12 (.tup [.str "s", .int 3])) sm (.lst [.non, .int 5, .int (-1), .bl true, .str "a", .str "", .ref a7, .ref a8, .ref a9, .ref a11, .int (10 ^ (30 : Int).toNat), .ref a12, .bl false, .int 0, .int 1]) sm = some (.lst [.non, .int 5, .int (-1), .bl true, .str "a", .str "", .ref a7, .ref a8, .ref a9, .ref a11, .int (10 ^ (30 : Int).toNat), .ref a12, .bl false, .int 0, .int 1]) := upd_same
      obtain ⟨xs, hxs⟩ : ∃ xs : List V, xs = [.non, .int 5, .int (-1), .bl true, .str "a", .str "", .ref a7, .ref a8, .ref a9, .ref a11, .int (10 ^ (30 : Int).toNat), .ref a12, .bl false, .int 0, .int 1] := ⟨_, rfl⟩
      have hx15 : xs.length = 15 := by rw [hxs]; rfl
      have vals : ∀ y ∈ xs, ∃ d, V15 (SL p c [tA, tB, tC, tD]) (upd (upd (upd (upd (upd (upd (upd H1 a7 (.lst [.int 1, .str "b"])) a8 (.tup [.int 2, .non])) a9 (Gd.DicO a9)) a10 (.lst [.str "x"])) a11 (.lst [.ref a10])) a12 (.tup [.str "s", .int 3])) sm (.lst [.non, .int 5, .int (-1), .bl true, .str "a", .str "", .ref a7, .ref a8, .ref a9, .ref a11, .int (10 ^ (30 : Int).toNat), .ref a12, .bl false, .int 0, .int 1])) y d := by
        intro y hy
        rw [hxs] at hy
        simp only [List.mem_cons, List.not_mem_nil, or_false] at hy
        rcases hy with rfl | rfl | rfl | rfl | rfl | rfl | rfl | rfl | rfl | rfl | rfl | rfl | rfl | rfl | rfl
        · exact ⟨_, .non⟩
        · exact ⟨_, .int 5 (by decide)⟩
        · exact ⟨_, .int (-1) (by decide)⟩
        · exact ⟨_, .bl true⟩
        · exact ⟨_, .str "a" (by decide)⟩
        · exact ⟨_, .str "" (by decide)⟩
        · exact ⟨_, v7⟩
        · exact ⟨_, v8⟩
        · exact ⟨_, v9⟩
        · exact ⟨_, v11⟩
        · exact ⟨_, .int (10 ^ (30 : Int).toNat) (by decide)⟩
        · exact ⟨_, v12⟩
        · exact ⟨_, .bl false⟩
        · exact ⟨_, .int 0 (by decide)⟩
        · exact ⟨_, .int 1 (by decide)⟩
      clear v7 v8 v9 v11 v12
      revert es vals Ls
      generalize upd (upd (upd (upd (upd (upd (upd H1 a7 (.lst [.int 1, .str "b"])) a8 (.tup [.int 2, .non])) a9 (Gd.DicO a9)) a10 (.lst [.str "x"])) a11 (.lst [.ref a10])) a12 (.tup [.str "s", .int 3])) sm (.lst [.non, .int 5, .int (-1), .bl true, .str "a", .str "", .ref a7, .ref a8, .ref a9, .ref a11, .int (10 ^ (30 : Int).toNat), .ref a12, .bl false, .int 0, .int 1]) = Hs
      intro Ls es vals
      rw [← hxs] at es
      clear hxs
      refine ⟨_, rfl, by decide, by decide, ?_⟩
      refine for_range (lo := 0) (n := 2) (fun i σ H2 => ∃ v3 v4 v5 v6 v7 v8 v9 v10 v11 v12 v13 v14, σ = [some (.ref a), some (.ref p), some (.ref sm), v3, v4, v5, v6, v7, v8, v9, v10, v11, v12, v13, v14] ∧ LS mg p c [tA, tB, tC, tD] (i * 15) H2 ∧ H2 sm = some (.lst xs) ∧ ∀ y ∈ xs, ∃ d, V15 (SL p c [tA, tB, tC, tD]) H2 y d) ⟨none, none, none, none, none, none, none, none, none, none, none, none, rfl, Ls, es, vals⟩ ?_ ?_
      · rintro i σ H2 hi ⟨v3, v4, v5, v6, v7, v8, v9, v10, v11, v12, v13, v14, rfl, L2', es2, vals2⟩
        refine ⟨_, rfl, _, rfl, p, c, sm, i * 15, xs, rfl, L2'.str, by omega, .inl (SqL.of es2), by omega, fun q ys H3 nq eq perm kp S3 => ?_⟩
        obtain ⟨L3, kz3⟩ := L2'.kp kp S3
        have hys : ys.length = 15 := perm.length_eq.trans hx15
        match ys, hys with
        | y0 :: y1 :: y2 :: yr, _ =>
          have cut : cutV (y0 :: y1 :: y2 :: yr) none (some 3) = [y0, y1, y2] := by
            unfold cutV
            simp [HT.sIx]
          have vy : ∀ y ∈ [y0, y1, y2], ∃ d, V15 (SL p c [tA, tB, tC, tD]) H3 y d := fun y hy => by
            obtain ⟨d, hd⟩ := vals2 y (perm.mem_iff.mp (by
              simp only [List.mem_cons, List.not_mem_nil, or_false] at hy
              rcases hy with rfl | rfl | rfl <;> simp))
            exact ⟨d, hd.keep kz3⟩
          have es3 := kz3 _ _ es2 (.inr (.inr ssm))
          refine ⟨_, rfl, ?_⟩
          refine ⟨q, _, rfl, SqL.of eq, fun l0 nl0 => ?_⟩
          rw [cut]
          have x4 := Evl.Ex.new (o := .lst [y0, y1, y2]) nl0
          refine ⟨l0, _, rfl, SqL.of upd_same, rfl, _, _, rfl, _, _, rfl, _, _, rfl, rfl, ?_⟩
          refine rd_all (P := P) (w := w) (K := K) (base := base) (x := y0) (y := y1) (z := y2) (i := 4) (j := 5) (k := 6) nd mA mB mC mD RA.n RB.n RC.n RD.n (L3.ex x4) rfl rfl rfl (by decide) (by decide) (by decide) (by show 7 < 15; decide) fun l H5 zs L5 kz5 dm5 nl el en => ?_
          rw [cs_all] at en
          have kz35 := (Kz.of (S := SL p c [tA, tB, tC, tD]) x4).trans kz5
          have vz : ∀ y ∈ [y0, y1, y2], ∃ d, V15 (SL p c [tA, tB, tC, tD]) H5 y d := fun y hy => by
            obtain ⟨d, hd⟩ := vy y hy
            exact ⟨d, hd.keep kz35⟩
          have zl : zs.length = 72 := by
            rw [en.length, List.length_map]
            rfl
          refine ⟨_, rfl, false, l, zs, rfl, SqL.of el, ?_⟩
          refine for_it (Sq.walk_enumA (xs := zs)) (fun i' σ H6 => ∃ v8 v9 v10 v11 v12, σ = [some (.ref a), some (.ref p), some (.ref sm), some (.int (0 + (i : Int))), some y0, some y1, some y2, some (.ref l), v8, v9, v10, v11, v12, v13, v14] ∧ Evl.Ex H5 H6) ⟨v8, v9, v10, v11, v12, rfl, fun _ _ e => e⟩ (fun i' σ H6 _ hp => ?_) (fun i' y σ H6 H7 hi' hp hy => ?_) (fun σ H6 hp => ?_)
          · obtain ⟨_, _, _, _, _, _, e6⟩ := hp
            exact SqL.of (e6 _ _ el)
          · obtain ⟨v8, v9, v10, v11, v12, rfl, e6⟩ := hp
            obtain ⟨T, u, tt, rfl, hT, rfl, hu, ht⟩ := hy
            injection hu with hu
            subst hu
            have x7 := e6.trans (Evl.Ex.new (o := .tup [.int (i' : Nat), tt]) hT)
            obtain ⟨c0, hc0, ent⟩ := en.get ht
            rw [List.getElem?_map] at hc0
            obtain ⟨q0, hq0, rfl⟩ := Option.map_eq_some_iff.mp hc0
            obtain ⟨o1, o2, o3, o4, o5, o6⟩ := OF i' q0 hq0
            rw [scC] at ent
            obtain ⟨at_, m, m2, fL, c2, P2, du, ql, pa, bd, sc, tb, rfl, sdu, ea, em, em2, efL, ec2, edu, lam, tells⟩ := ent.keep (Kz.of x7)
            refine ⟨T, _, rfl, SqT.of upd_same, rfl, _, _, rfl, _, _, rfl, ⟨at_, _, rfl, SqT.of ea, rfl, _, _, rfl, _, _, rfl, _, _, rfl, _, _, rfl, rfl, ?_⟩⟩
            refine ⟨rfl, ?_⟩
            refine ⟨_, rfl, _, rfl, m, _, i', _, rfl, em.eat, o1, o2, o3, o4, o5, o6, fun H8 x8 => ⟨_, rfl, iteF ?_⟩⟩
            refine ⟨_, rfl, _, rfl, m2, _, i', _, rfl, em2.eat.ex x8, o1, o2, o3, o4, o5, o6, fun H9 x9 => ⟨_, rfl, iteF ?_⟩⟩
            have x79 := x8.trans x9
            have k79 : Kz (SL p c [tA, tB, tC, tD]) _ H9 := Kz.of x79
            obtain ⟨ds, hds, hsh⟩ := (fit_of (K := K) (z := y2) (vz y0 (by simp)) (vz y1 (by simp)) q0).keep ((Kz.of (S := SL p c [tA, tB, tC, tD]) x7).trans k79)
            obtain ⟨s1, s2, s3⟩ := shB_ok hsh
            refine ⟨fL, ql, pa, bd, sc, c2, P2, tb, rfl, lam, x79 _ _ efL, _, rfl, x79 _ _ efL, x79 _ _ ec2, tells m H9 _ (em.keep k79) fun l2 nl2 => ?_⟩
            have xa := Evl.Ex.new (o := .lst ((scOf K q0).dv y0 y1 y2)) nl2
            refine ⟨_, rfl, rfl, l2, du, _, ds, rfl, upd_same, xa _ _ (x79 _ _ edu), dz_paired (Fit_ds hds (Kz.of xa)), s1, s2, s3, ⟨_, rfl, iteF ?_⟩⟩
            refine ⟨fL, ql, pa, bd, sc, c2, P2, tb, rfl, lam, xa _ _ (x79 _ _ efL), _, rfl, xa _ _ (x79 _ _ efL), xa _ _ (x79 _ _ ec2), tells m2 _ _ ((em2.keep k79).keep (Kz.of (S := SL p c [tA, tB, tC, tD]) xa)) fun l3 nl3 => ?_⟩
            have xb := Evl.Ex.new (o := .lst ((scOf K q0).dv y0 y1 y2)) nl3
            refine ⟨_, rfl, rfl, l3, du, _, ds, rfl, upd_same, xb _ _ (xa _ _ (x79 _ _ edu)), dz_paired (Fit_ds (Fit_ds hds (Kz.of xa)) (Kz.of xb)), s1, s2, s3, ⟨_, rfl, iteF ?_⟩⟩
            exact ⟨_, _, _, _, _, rfl, (x7.trans x79).trans (xa.trans xb)⟩
          · obtain ⟨v8, v9, v10, v11, v12, rfl, e6⟩ := hp
            refine ⟨_, _, _, _, _, _, _, _, _, _, _, _, rfl, ?_, e6 _ _ (kz35 _ _ es3 (.inr (.inr ssm))), fun y hy => ?_⟩
            · have e : (i + 1) * 15 = i * 15 + xs.length := by omega
              rw [e]
              exact L5.ex e6
            · obtain ⟨d, hd⟩ := vals2 y hy
              exact ⟨d, ((hd.keep kz3).keep kz35).keep (Kz.of e6)⟩
      · rintro σ H2 ⟨v3, v4, v5, v6, v7, v8, v9, v10, v11, v12, v13, v14, rfl, L2', es2, vals2⟩
        refine ⟨by show 1 ≤ sizeLine; decide, fun h0 nh => ?_⟩
        have x3 := Evl.Ex.new (o := .lst [.str "v"]) nh
        have L3 := L2'.ex x3
        have sh := L2'.sl nh
        refine rd_all (P := P) (w := w) (K := K) (base := base) (x := .ref h0) (y := .ref h0) (z := .ref h0) (i := 13) (j := 13) (k := 13) nd mA mB mC mD RA.n RB.n RC.n RD.n L3 rfl rfl rfl (by decide) (by decide) (by decide) (by show 7 < 15; decide) fun l H5 zs L5 kz5 dm5 nl el en => ?_
        rw [cs_all] at en
        have eh : H5 h0 = some (.lst [.str "v"]) := kz5 _ _ upd_same (.inr (.inr sh))
        refine ⟨_, rfl, .inl ⟨rfl, _, SqL.of eh⟩, h0, [.str "v"], .str "w", rfl, rfl, eh, by decide, ?_⟩
        have hne : l ≠ h0 := fun z => by
          rw [z, upd_same] at nl
          cases nl
        have k6 : Kz (fun b => (upd H2 h0 (.lst [.str "v"]) b = none ∧ SL p c [tA, tB, tC, tD] b) ∧ b ≠ l) H5 (upd H5 h0 (.lst ([.str "v"] ++ [.str "w"]))) := Kz.lst eh fun z => by
          have := z.1.1
          rw [upd_same] at this
          cases this
        have en6 := en.keep k6
        have el6 : upd H5 h0 (.lst ([.str "v"] ++ [.str "w"])) l = some (.lst zs) := by
          rw [upd_ne hne]
          exact el
        have vh : V15 (fun _ => True) (upd H5 h0 (.lst ([.str "v"] ++ [.str "w"]))) (.ref h0) (.list [.str "v", .str "w"]) := .held upd_same trivial
        show tSeq _ _ _ _ (upd H5 h0 (.lst ([.str "v"] ++ [.str "w"])))
        generalize upd H5 h0 (.lst ([.str "v"] ++ [.str "w"])) = H6 at en6 el6 vh
        refine ⟨_, rfl, l, rfl, ⟨zs, SqL.of el6⟩, ?_⟩
        refine for_it (walk_list (xs := zs)) (fun i' σ H7 => ∃ v9 v10 v11 v12, σ = [some (.ref a), some (.ref p), some (.ref sm), v3, v4, v5, v6, some (.ref l), v8, v9, v10, v11, v12, some (.ref h0), v14] ∧ Evl.Ex H6 H7) ⟨v9, v10, v11, v12, rfl, fun _ _ e => e⟩ (fun i' σ H7 _ hp => ?_) (fun i' y σ H7 H8 hi' hp hy => ?_) (fun σ H7 hp => ?_)
        · obtain ⟨_, _, _, _, _, e6⟩ := hp
          exact SqL.of (e6 _ _ el6)
        · obtain ⟨v9, v10, v11, v12, rfl, x7⟩ := hp
          obtain ⟨rfl, ht⟩ := hy
          obtain ⟨c0, hc0, ent⟩ := en6.get ht
          rw [List.getElem?_map] at hc0
          obtain ⟨q0, hq0, rfl⟩ := Option.map_eq_some_iff.mp hc0
          rw [scC] at ent
          obtain ⟨at_, m, m2, fL, c2, P2, du, ql, pa, bd, sc, tb, rfl, sdu, ea, em, em2, efL, ec2, edu, lam, tells⟩ := ent.keep (Kz.of x7)
          refine ⟨at_, _, rfl, SqT.of ea, rfl, _, _, rfl, _, _, rfl, _, _, rfl, _, _, rfl, rfl, ?_⟩
          obtain ⟨ds, hds, hsh⟩ := (fit_of (K := K) (z := .ref h0) ⟨_, vh⟩ ⟨_, vh⟩ q0).keep (Kz.of (S := fun _ => True) x7)
          obtain ⟨s1, s2, s3⟩ := shB_ok hsh
          refine ⟨fL, ql, pa, bd, sc, c2, P2, tb, rfl, lam, efL, _, rfl, efL, ec2, tells m _ _ em fun l2 nl2 => ?_⟩
          have xa := Evl.Ex.new (o := .lst ((scOf K q0).dv (.ref h0) (.ref h0) (.ref h0))) nl2
          refine ⟨_, rfl, rfl, l2, du, _, ds, rfl, upd_same, xa _ _ edu, dz_paired (Fit_ds hds (Kz.of xa)), s1, s2, s3, ⟨_, rfl, iteF ?_⟩⟩
          refine ⟨fL, ql, pa, bd, sc, c2, P2, tb, rfl, lam, xa _ _ efL, _, rfl, xa _ _ efL, xa _ _ ec2, tells m2 _ _ (em2.keep (Kz.of (S := SL p c [tA, tB, tC, tD]) xa)) fun l3 nl3 => ?_⟩
          have xb := Evl.Ex.new (o := .lst ((scOf K q0).dv (.ref h0) (.ref h0) (.ref h0))) nl3
          refine ⟨_, rfl, rfl, l3, du, _, ds, rfl, upd_same, xb _ _ (xa _ _ edu), dz_paired (Fit_ds (Fit_ds hds (Kz.of xa)) (Kz.of xb)), s1, s2, s3, ⟨_, rfl, iteF ?_⟩⟩
          exact ⟨_, _, _, _, rfl, x7.trans (xa.trans xb)⟩
        · obtain ⟨v9, v10, v11, v12, rfl, x7⟩ := hp
          intro b nb
          refine ⟨_, rfl, b, PE, none, _, .type "ValueError", true, rfl, upd_same, (fun _ z => nomatch z), cP, (fun u z => z), vP, ⟨_, rfl, iteT ?_⟩⟩
          refine ⟨_, rfl, b, PE, fun _ => false, rfl, ⟨none, upd_same, fun _ z => nomatch z⟩, cP, oP, fun l9 H9 nl9 x9 e9 => ⟨l9, _, rfl, .inl (SqL.of e9), rfl, ?_, ?_⟩⟩
          · rw [List.all_map]
            exact List.all_eq_true.mpr fun _ _ => rfl
          · have e : inV (.bl true) ((clsAd K).map fun _ => V.bl false) = false := by
              unfold inV
              rw [List.any_map]
              exact List.any_eq_false.mpr fun _ _ => by simp [eqV]
            rw [if_pos rfl, e]
            exact k _
end
end K00
namespace K00
open PySem PySem.Spec PyProof.Rows L2
/-! ### the head -/
/-- an error class told alike -/
theorem clsEB_ok {K : PySem.W.Frag} {D : Addr} (h : clsEB K D = true) : Ek.ClsE K D := by
  obtain ⟨h1, h⟩ := He.ba h
  obtain ⟨h2, h⟩ := He.ba h
  obtain ⟨h3, h⟩ := He.ba h
  obtain ⟨h4, h⟩ := He.ba h
  obtain ⟨h5, h⟩ := He.ba h
  obtain ⟨h6, h⟩ := He.ba h
  obtain ⟨h7, h8⟩ := He.ba h
  exact ⟨He.eqO_ok h1, He.eqO_ok h2, of_decide_eq_true h3, h4, He.eqO_ok h5, He.eqO_ok h6, of_decide_eq_true h7, of_decide_eq_true h8⟩
/-- its order of classes -/
theorem mroB_ok {K : PySem.W.Frag} {up : List Value} {C : Addr} (h : mroB K up C = true) : (∃ cd, PySem.W.clsIn K C = some cd ∧ cd.mro = .ref C :: (up ++ bmVE)) ∧ PySem.W.typeIn K (.ref C) = some (.type "type") := by
  obtain ⟨h1, h2⟩ := He.ba h
  refine ⟨?_, of_decide_eq_true h2⟩
  split at h1
  · rename_i cd e
    exact ⟨cd, e, of_decide_eq_true h1⟩
  · cases h1
theorem kit_ref {K : PySem.W.Frag} {up ud : List Value} {C D : Addr} (hC : mroB K up C = true) (hD : mroB K ud D = true) : PySem.W.kitOne K (.ref C) (.ref D) = some (decide (D = C) || decide (Value.ref D ∈ up)) := by
  obtain ⟨⟨cd, h1, h2⟩, _⟩ := mroB_ok hC
  obtain ⟨⟨cd2, h3, _⟩, h4⟩ := mroB_ok hD
  unfold PySem.W.kitOne
  by_cases e : C = D
  · subst e
    simp
  · have e2 : (Value.ref C == Value.ref D) = false := by simpa using e
    rw [e2]
    unfold PySem.W.kitCls
    simp only [h3, h4, Option.isSome_some, Bool.true_and, beq_self_eq_true, if_true, PySem.W.subIn, PySem.W.mroIn, h1]
    have e3 : ¬ D = C := fun z => e z.symm
    simp only [Option.bind_some, h2]
    simp [e3, List.contains_eq_mem]
theorem kit_ty {K : PySem.W.Frag} {up : List Value} {C : Addr} (hC : mroB K up C = true) (T : String) (hT : PySem.W.kitMeta T = true) : PySem.W.kitOne K (.ref C) (.type T) = some (decide (Value.type T ∈ up ++ bmVE)) := by
  obtain ⟨⟨cd, h1, h2⟩, _⟩ := mroB_ok hC
  unfold PySem.W.kitOne
  have e2 : (Value.ref C == Value.type T) = false := by simp
  rw [e2]
  unfold PySem.W.kitCls
  simp only [hT, if_true, PySem.W.subIn, PySem.W.mroIn, h1]
  simp only [Option.bind_some, h2]
  simp [List.contains_eq_mem]
theorem ascB_ok : ∀ {l : List Nat}, ascB l = true → l.Pairwise (· < ·)
  | [], _ => .nil
  | [a], _ => .cons (fun _ h => nomatch h) .nil
  | a :: b :: r, h => by
    obtain ⟨h1, h2⟩ := He.ba h
    have p := ascB_ok h2
    refine .cons (fun c hc => ?_) p
    rcases List.mem_cons.mp hc with rfl | hc
    · exact of_decide_eq_true h1
    · exact Nat.lt_trans (of_decide_eq_true h1) ((List.pairwise_cons.mp p).1 c hc)
theorem sysOk_ok {h : Heap} (e : sysOk (h.get? sysModules) = true) : Gd.SysB h := by
  unfold sysOk at e
  split at e
  · rename_i a b es n d hh
    exact ⟨_, es, n, hh, rfl⟩
  · cases e
/-! ### a hook over a written list of addresses -/
section
variable (as : List Addr) (fa : List He.Fa) (fn : List He.DefD) (tf : List He.Defn) (ex : PySem.W.Frag → Bool)
/-- what is looked at: the part of the heap at the addresses told -/
def obL (g : Addr → Option Obj) : He.AlX :=
  (He.obsT fa fn [] (He.frT g as), ex (He.frT g as) && He.tabsB g tf (He.frT g as))
theorem obL_says {as : List Addr} {fa : List He.Fa} {fn : List He.DefD} {tf : List He.Defn} {ex : PySem.W.Frag → Bool} {w : World} {h : Heap}
    (e : obL as fa fn tf ex h.get? = He.valX fn [] w) : He.SaysX fa fn [] tf ex w h (He.frT h.get? as) := by
  obtain ⟨e1, e2⟩ := Prod.mk.inj (show ((_, _) : He.AlT × Bool) = (_, true) from e)
  obtain ⟨h1, h2⟩ := He.ba e2
  have tab : ∀ p ∈ tf, PySem.W.codeHdIn (He.frT h.get? as) (He.cT (He.frT h.get? as) p).1 (He.cT (He.frT h.get? as) p).2 = true
      ∧ h.get? (He.cT (He.frT h.get? as) p).2 = some { cls := .none, data := .fields #[] }
      ∧ List.lookup (He.cT (He.frT h.get? as) p).2 (He.frT h.get? as) = none := fun p hp => by
    obtain ⟨h3, h4⟩ := He.ba (List.all_eq_true.mp h2 p hp)
    cases q : h.get? (He.cT (He.frT h.get? as) p).2 with
    | none =>
      rw [q] at h4
      exact absurd h4 (by decide)
    | some o =>
      rw [q] at h4
      exact ⟨h3, congrArg some (He.emptyTab_eq h4), He.frT_none q h4⟩
  exact { t := e1, more := h1, hd := fun p hp => (tab p hp).1, out := fun p hp => (tab p hp).2.2, empty := fun p hp => (tab p hp).2.1 }
def hookL : PySem.W.Hook where
  α := He.AlX
  obs := fun s => obL as fa fn tf ex s.heap.get?
  val := fun w => He.valX fn [] w
  says := (He.hookX 4 fa fn [] tf ex).says
  of := fun _ _ e => ⟨_, He.frT_in, obL_says e⟩
  keeps := (He.hookX 4 fa fn [] tf ex).keeps
end
abbrev hk0 : PySem.W.Hook := hookL adrs fa fn tf ex
def hk : PySem.W.Hook where
  α := He.AlX × Bool
  obs := fun s => (hk0.obs s, sysOk (s.heap.get? sysModules))
  val := fun w => (hk0.val w, true)
  says := fun w h => hk0.says w h ∧ Gd.SysB h
  of := fun w s e => ⟨hk0.of w s (congrArg Prod.fst e), sysOk_ok (congrArg Prod.snd e)⟩
  keeps := fun w h h' a k => ⟨hk0.keeps w h h' a.1 k, by
    obtain ⟨o, es, n, e, d⟩ := a.2
    exact ⟨o, es, n, k _ _ e, d⟩⟩
def ob (s : PySem.W.SharedT) : He.AlX × Bool := (obL adrs fa fn tf ex (HandSHeadRun.getT s), sysOk (HandSHeadRun.getT s sysModules))
theorem ob_eq (s : PySem.W.SharedT) : ob s = hk.obs s.abs := by
  have e : obL adrs fa fn tf ex (HandSHeadRun.getT s) = hk0.obs s.abs := by
    rw [show HandSHeadRun.getT s = s.abs.heap.get? from funext (HandSHeadRun.getT_eq s)] <;> rfl
  show (_, _) = (_, _)
  rw [e, HandSHeadRun.getT_eq]
/-- where the head ends -/
theorem run (w : World) : HandSHeadRun.RunEq R (PySem.W.view R.prog [89]) hk ob 40000 loose w := by
  unfold HandSHeadRun.RunEq
  intro os
  have h1 := run1a w os
  have h1b := run1b w os
  have h2 := run2 w os
  have h3 := run3a w os
  have h3b := run3b w os
  have h3c := run3c w os
  have h4 := run4a w os
  have h4b := run4b w os
  have h4c := run4c w os
  have h5 := run5a w os
  have h5b := run5b w os
  have h5c := run5c w os
  have hv : hk.val w = (((((true, fn.map He.DefD.val), []) : He.AlT), true), true) := rfl
  have ho : ∀ s, ob s = (((((fa.all fun f => f.ok (KK s)) && fn.all fun d => d.ok (KK s), fn.map fun d => He.fnW (KK s) d.at_), []), ex (KK s) && He.tabsB (HandSHeadRun.getT s) tf (KK s)), sysOk (HandSHeadRun.getT s sysModules)) := fun _ => rfl
  rw [hv]
  unfold fin at h1 h1b h2 h3 h3b h3c h4 h4b h4c h5 h5b h5c
  unfold see1 at h1 h1b
  revert h1 h1b h2 h3 h3b h3c h4 h4b h4c h5 h5b h5c
  generalize HandSHeadRun.endF (HandSHeadRun.stepQ (HandSHeadRun.denQ HandSHeadRun.tabQ) (PySem.W.RowW.prog (PySem.W.OpenRow.toRowW R)) w) 40000 (PySem.W.RowW.prog (PySem.W.OpenRow.toRowW R)) w os = F
  intro h1 h1b h2 h3 h3b h3c h4 h4b h4c h5 h5b h5c
  cases F with
  | none => cases h1
  | some s =>
    rw [Option.map_some] at h1 h1b h2 h3 h3b h3c h4 h4b h4c h5 h5b h5c ⊢
    have b1 := Option.some.inj h1
    have b2 := Option.some.inj h1b
    have h2 := Option.some.inj h2
    have h3a := Option.some.inj h3
    have h3b := Option.some.inj h3b
    have h3c := Option.some.inj h3c
    have h4a := Option.some.inj h4
    have h4b := Option.some.inj h4b
    have h4c := Option.some.inj h4c
    have h5a := Option.some.inj h5
    have h5b := Option.some.inj h5b
    have h5c := Option.some.inj h5c
    have a1 := congrArg Prod.fst h2
    have a2 := congrArg (fun q => q.2.1) h2
    have a3 := congrArg (fun q => q.2.2) h2
    dsimp only at a1 a2 a3 b1 b2 h3a h3b h3c h4a h4b h4c h5a h5b h5c
    have h4 : (fn.all fun d => d.ok (KK s)) = true := by
      show ((fnA ++ (fnB ++ fnC)).all fun d => d.ok (KK s)) = true
      rw [List.all_append, List.all_append, h4a, h4b, h4c]; rfl
    have h5 : (fn.map fun d => He.fnW (KK s) d.at_) = fn.map He.DefD.val := by
      show ((fnA ++ (fnB ++ fnC)).map fun d => He.fnW (KK s) d.at_) = (fnA ++ (fnB ++ fnC)).map He.DefD.val
      rw [List.map_append, List.map_append, List.map_append, List.map_append, h5a, h5b, h5c]
    have h3 : ex (KK s) = true := by
      obtain ⟨e1, e2⟩ := He.ba h3a
      show (_ && (cl.all _ && _)) = true
      have e5 : cl = (cl_a ++ cl_b) ++ (cl_c ++ cl_d) := by simp [cl, List.append_assoc]
      rw [e5, List.all_append, e1, e2, h3b, h3c]; rfl
    rw [ho, a1, a2, a3, h3, h4, h5, b1, b2]
    exact congrArg some rfl
end K00
namespace K00
open PySem PySem.Spec PyProof.Rows L2
/-! ### what the head tells -/
section
variable {K : PySem.W.Frag} {x qual f g : Str} {params : Arguments} {body : List Stmt} {scope : Scope} {a : Addr} {fd : FuncData}
theorem binds_to (F : FunD K x qual params body scope [] [] a fd) {ar : Args} {b : List (Str × Value)} (h : ∀ (kV doc pm : Value) (an : Option Addr) (cdv ct : Value), bindArgs (PySem.W.fnOf x qual params body scope .none kV doc pm an cdv ct) ar = pure b) (st : Shared) : BindsTo st fd ar b := by
  obtain ⟨oc, od, dV, kV, doc, pm, an, cdv, ct, osl, rfl, lk, hcd, hd, _⟩ := F.ex
  obtain rfl : dV = .none := by
    rcases hd with ⟨_, e⟩ | ⟨e, _⟩
    · exact e
    · exact absurd rfl e
  intro M A E Q q
  rw [h kV doc pm an cdv ct]
  exact wpAny_pure q
theorem takes0 (F : FunD K x qual params body scope [] [] a fd) (h : ∀ (kV doc pm : Value) (an : Option Addr) (cdv ct me u : Value), bindArgs (PySem.W.fnOf x qual params body scope .none kV doc pm an cdv ct) ⟨[me, u], []⟩ = pure [(("self" : Str), me), (f, u)]) : Ek.TakesKw K fd [f] [] := by
  refine ⟨fun st me us ws _ h1 h2 => ?_⟩
  obtain rfl := List.length_eq_zero_iff.mp (show ws.length = 0 from h2)
  match us, h1 with
  | [u], _ => exact binds_to F (fun _ _ _ _ _ _ => h _ _ _ _ _ _ me u) st
theorem takes1 (F : FunD K x qual params body scope [] [] a fd) (h : ∀ (kV doc pm : Value) (an : Option Addr) (cdv ct me u : Value), bindArgs (PySem.W.fnOf x qual params body scope .none kV doc pm an cdv ct) ⟨[me], [(f, u)]⟩ = pure [(("self" : Str), me), (f, u)]) : Ek.TakesKw K fd [f] [f] := by
  refine ⟨fun st me us ws _ h1 h2 => ?_⟩
  match ws, h2 with
  | [u], _ =>
    obtain rfl := List.length_eq_zero_iff.mp (show us.length = 0 by simpa using h1)
    exact binds_to F (fun _ _ _ _ _ _ => h _ _ _ _ _ _ me u) st
theorem takes02 (F : FunD K x qual params body scope [] [] a fd) (h : ∀ (kV doc pm : Value) (an : Option Addr) (cdv ct me u v : Value), bindArgs (PySem.W.fnOf x qual params body scope .none kV doc pm an cdv ct) ⟨[me, u, v], []⟩ = pure [(("self" : Str), me), (f, u), (g, v)]) : Ek.TakesKw K fd [f, g] [] := by
  refine ⟨fun st me us ws _ h1 h2 => ?_⟩
  obtain rfl := List.length_eq_zero_iff.mp (show ws.length = 0 from h2)
  match us, h1 with
  | [u, v], _ => exact binds_to F (fun _ _ _ _ _ _ => h _ _ _ _ _ _ me u v) st
end
/-- self.f = f, self.g = g -/
abbrev initB2 (f g : Str) (p1 p2 p3 p4 p5 p6 p7 p8 : Pos) : List Stmt := [.Assign [.Attribute (.Name "self" p1) f p2] (.Name f p3) p4, .Assign [.Attribute (.Name "self" p5) g p6] (.Name g p7) p8]
section
variable {P : Program} {w : World} {K : PySem.W.Frag} {mg : Str → Option Value} {base : Heap}
theorem ok_init2 {x f g : Str} {C fI : Addr} {fd : FuncData} {pa : Arguments} {bd : List Stmt} {sc : Scope} {p1 p2 p3 p4 p5 p6 p7 p8 : Pos} (oc : OexC K C) (no : PySem.W.findIn K (.ref C) f = some none) (no2 : PySem.W.findIn K (.ref C) g = some none) (F : FunD K "__init__" x pa bd sc [] [] fI fd) (hb : bd = initB2 f g p1 p2 p3 p4 p5 p6 p7 p8)
    (S : FnScope ["self", f, g] ["self", f, g] sc) (v0 : sc.names.lookup ("self" : Str) = some NameKind.local) (v1 : sc.names.lookup f = some NameKind.local) (v2 : sc.names.lookup g = some NameKind.local) (hd : (f == ("__debug__" : Str)) = false) (hc : (f == ("__classdict__" : Str)) = false) (hd2 : (g == ("__debug__" : Str)) = false) (hc2 : (g == ("__classdict__" : Str)) = false) :
    FnOk P w K mg base CX0 1 fI fd ["self", f, g] (spInit2 C f g) := by
  subst hb
  refine F.ok S (fun vs H Q E h => ?_) (fun cdv A outer s H vs Q E hr h => ?_)
  · obtain ⟨a, v, u, rfl, _⟩ := h
    rfl
  · obtain ⟨a, v, u, rfl, ha, k⟩ := h
    refine ⟨_, PSs.nox (pss_cons (ps_ost (pe_var (i := 0) rfl (.inl v0)) (pe_var (i := 1) rfl (.inl v1) hd hc)) (pss_one (ps_ost (pe_var (i := 0) rfl (.inl v0)) (pe_var (i := 2) rfl (.inl v2) hd2 hc2)))), ?_⟩
    refine ⟨_, rfl, _, rfl, a, C, rfl, oc, no, .inl ⟨ha, fun dx n ne => ?_⟩⟩
    refine ⟨_, rfl, _, rfl, a, C, rfl, oc, no2, .inr ⟨dx, [(f, v)], upd_same, by rw [upd_ne ne, upd_same], by show 1 ≤ 900; decide, ?_⟩⟩
    exact k dx n ne
/-- classes told by the hook -/
theorem cls_mro {up : List Value} {q : Str × List Str} (h : clsOk K up q = true) : mroB K up (He.ga K q.1) = true ∧ clsEB K (He.ga K q.1) = true := by
  match q, h with
  | (_, [_]), h => exact ⟨(He.ba h).1, (He.ba (He.ba h).2).1⟩
  | (_, [_, _]), h => exact ⟨(He.ba h).1, (He.ba (He.ba h).2).1⟩
  | (_, []), h => exact ⟨(He.ba h).1, (He.ba (He.ba h).2).1⟩
  | (_, _ :: _ :: _ :: _), h => exact ⟨(He.ba h).1, (He.ba (He.ba h).2).1⟩
theorem e1_of {x f : Str} {up : List Value} {pa : Arguments} {bd : List Stmt} {sc : Scope} {p1 p2 p3 p4 : Pos} {fd : FuncData} {qual : Str} (h : clsOk K up (x, [f]) = true) (g : mg x = some (.ref (He.ga K x))) (F : FunD K "__init__" qual pa bd sc [] [] (He.fAd K (x, some "__init__")) fd) (hb : bd = Exs.initB f p1 p2 p3 p4)
    (S : FnScope ["self", f] ["self", f] sc) (v0 : sc.names.lookup ("self" : Str) = some NameKind.local) (v1 : sc.names.lookup f = some NameKind.local) (hd : (f == ("__debug__" : Str)) = false) (hc : (f == ("__classdict__" : Str)) = false)
    (t0 : ∀ (kV doc pm : Value) (an : Option Addr) (cdv ct me u : Value), bindArgs (PySem.W.fnOf "__init__" qual pa bd sc .none kV doc pm an cdv ct) ⟨[me, u], []⟩ = pure [(("self" : Str), me), (f, u)]) (t1 : ∀ (kV doc pm : Value) (an : Option Addr) (cdv ct me u : Value), bindArgs (PySem.W.fnOf "__init__" qual pa bd sc .none kV doc pm an cdv ct) ⟨[me], [(f, u)]⟩ = pure [(("self" : Str), me), (f, u)]) :
    CAt P w K mg base (x, [f]) := by
  have e := Exs.errB_ok (He.ba (He.ba h).2).2
  exact ⟨_, fd, e.oc, e.xf, e.no, e.iC, e.tI, g, Exs.ok_init e F hb S v0 v1 hd hc, takes0 F t0, takes1 F t1⟩
theorem e0_of {x : Str} {up : List Value} (h : clsOk K up (x, []) = true) (g : mg x = some (.ref (He.ga K x))) : CAt P w K mg base (x, []) := ⟨(He.ba (He.ba (He.ba h).2).2).1, (He.ba (He.ba (He.ba h).2).2).2, g⟩
theorem e2_of {x f g : Str} {up : List Value} {pa : Arguments} {bd : List Stmt} {sc : Scope} {p1 p2 p3 p4 p5 p6 p7 p8 : Pos} {fd : FuncData} {qual : Str} (h : clsOk K up (x, [f, g]) = true) (gl : mg x = some (.ref (He.ga K x))) (F : FunD K "__init__" qual pa bd sc [] [] (He.fAd K (x, some "__init__")) fd) (hb : bd = initB2 f g p1 p2 p3 p4 p5 p6 p7 p8)
    (S : FnScope ["self", f, g] ["self", f, g] sc) (v0 : sc.names.lookup ("self" : Str) = some NameKind.local) (v1 : sc.names.lookup f = some NameKind.local) (v2 : sc.names.lookup g = some NameKind.local) (hd : (f == ("__debug__" : Str)) = false) (hc : (f == ("__classdict__" : Str)) = false) (hd2 : (g == ("__debug__" : Str)) = false) (hc2 : (g == ("__classdict__" : Str)) = false)
    (t0 : ∀ (kV doc pm : Value) (an : Option Addr) (cdv ct me u v : Value), bindArgs (PySem.W.fnOf "__init__" qual pa bd sc .none kV doc pm an cdv ct) ⟨[me, u, v], []⟩ = pure [(("self" : Str), me), (f, u), (g, v)]) (t1 : ∀ (kV doc pm : Value) (an : Option Addr) (cdv ct me u v : Value), bindArgs (PySem.W.fnOf "__init__" qual pa bd sc .none kV doc pm an cdv ct) ⟨[me], [(g, v), (f, u)]⟩ = pure [(("self" : Str), me), (f, u), (g, v)]) :
    CAt P w K mg base (x, [f, g]) := by
  have h2 := (He.ba (He.ba h).2).2
  have e := Exs.errB_ok (He.ba h2).1
  have no2 := He.eqO_ok (He.ba (He.ba h2).2).1
  exact ⟨_, fd, e.oc, e.xf, e.no, no2, by simpa using (He.ba (He.ba h2).2).2, e.iC, e.tI, gl, ok_init2 e.oc e.no no2 F hb S v0 v1 v2 hd hc hd2 hc2, takes02 F t0, fun st me u v _ => binds_to F (fun _ _ _ _ _ _ => t1 _ _ _ _ _ _ me u v) st⟩
theorem cll {l : List (Str × List Str)} {up : List Value} : ∀ {l : List (Str × List Str)}, l.all (clsOk K up) = true → ∀ {i : Nat} {q : Str × List Str}, l[i]? = some q → clsOk K up q = true := fun h _ _ e => List.all_eq_true.mp h _ (List.mem_of_getElem? e)
/-- at one place alone -/
theorem one_at {l : List Addr} (nd : l.Pairwise (· < ·)) {i : Nat} {C : Addr} (h : l[i]? = some C) : l.map (fun D => decide (D = C)) = (List.range l.length).map (fun k => decide (k = i)) := by
  refine List.ext_getElem (by simp) fun j h1 h2 => ?_
  rw [List.length_map] at h1
  simp only [List.getElem_map, List.getElem_range]
  obtain ⟨hi, hC⟩ := List.getElem?_eq_some_iff.mp h
  refine decide_eq_decide.mpr ⟨fun e => ?_, fun e => ?_⟩
  · have e2 : l[j] = l[i] := e.trans hC.symm
    rcases Nat.lt_trichotomy j i with z | z | z
    · exact absurd e2 (Nat.ne_of_lt (List.pairwise_iff_getElem.mp nd j i h1 hi z))
    · exact z
    · exact absurd e2 (Nat.ne_of_gt (List.pairwise_iff_getElem.mp nd i j hi h1 z))
  · subst e
    exact hC
theorem own_of (h : ex K = true) : OwnF K (He.ga K "PostError") := by
  obtain ⟨h1, h⟩ := He.ba h
  obtain ⟨h2, h⟩ := He.ba h
  obtain ⟨h3, _⟩ := He.ba h
  have nd := ascB_ok h3
  rw [List.pairwise_cons] at nd
  have mP := (cls_mro h1).1
  intro i q hq
  obtain ⟨mq, cq⟩ := cls_mro (cll (l := []) h2 hq)
  have hin : (clsAd K)[i]? = some (He.ga K q.1) := by
    unfold clsAd
    rw [List.getElem?_map, hq]
    rfl
  refine ⟨clsEB_ok cq, fun D hD => ?_, ?_, ?_, ?_, ?_⟩
  · obtain ⟨q2, hq2, rfl⟩ := List.mem_map.mp hD
    obtain ⟨j, hj⟩ := List.mem_iff_getElem?.mp hq2
    rw [kit_ref mq (cls_mro (cll (l := []) h2 hj)).1]
    have n1 : ¬ (He.ga K q2.1 = He.ga K "PostError") := fun e => absurd e (Nat.ne_of_gt (nd.1 _ hD))
    simp [n1]
  · rw [kit_ref mq mP]
    simp
  · rw [kit_ty mq "ValueError" (by decide +kernel)]
    simp
  · rw [kit_ty mq "LookupError" (by decide +kernel)]
    simp
  · have e := one_at nd.2 hin
    have l72 : (clsAd K).length = 72 := by
      unfold clsAd
      rw [List.length_map]
      rfl
    rw [l72] at e
    exact e
theorem post_of (h : ex K = true) : PySem.W.excIn K (He.ga K "PostError") bmVE "ValueError.__new__" = true ∧ PySem.W.keepIn K (.ref (He.ga K "PostError")) = true ∧ Ek.ClsE K (He.ga K "PostError") ∧ PySem.W.kitOne K (.ref (He.ga K "PostError")) (.type "ValueError") = some true ∧ ∀ D ∈ clsAd K, PySem.W.kitOne K (.ref (He.ga K "PostError")) (.ref D) = some false := by
  obtain ⟨h1, h⟩ := He.ba h
  obtain ⟨h2, h⟩ := He.ba h
  obtain ⟨h3, _⟩ := He.ba h
  have nd := ascB_ok h3
  rw [List.pairwise_cons] at nd
  have mP := (cls_mro h1).1
  have x1 := He.ba (He.ba (He.ba h1).2).2
  refine ⟨x1.1, x1.2, clsEB_ok (cls_mro h1).2, ?_, fun D hD => ?_⟩
  · rw [kit_ty mP "ValueError" (by decide +kernel)]
    simp
  · obtain ⟨q2, hq2, rfl⟩ := List.mem_map.mp hD
    obtain ⟨j, hj⟩ := List.mem_iff_getElem?.mp hq2
    rw [kit_ref mP (cls_mro (cll (l := []) h2 hj)).1]
    have n1 : ¬ (He.ga K q2.1 = He.ga K "PostError") := fun e => absurd e (Nat.ne_of_gt (nd.1 _ hD))
    simp [n1]
theorem all_a {h : Heap} (X : K.In h) (G : h.Ns mainGlobals mg) (c : He.SaysX fa fn [] tf ex w h K) : CAll P w K mg base cl_a ∧ GAll K mg cl_a := by
  have d := c.t.d
  have h2 := (He.ba (He.ba c.more).2).1
  have ck : ∀ (i : Nat) (q : Str × List Str), cl[i]? = some q → clsOk K [.ref (He.ga K "PostError")] q = true := fun i q e => cll (l := []) h2 e
  have g0 : mg "BadBegun" = some (.ref (He.ga K "BadBegun")) := He.glo_ok X G (d.fact 16 (f := .glo "BadBegun") rfl)
  obtain ⟨d0, F0⟩ := d.def_ 15 (d := di "BadBegun" 2) rfl
  have g1 : mg "BadBox" = some (.ref (He.ga K "BadBox")) := He.glo_ok X G (d.fact 17 (f := .glo "BadBox") rfl)
  obtain ⟨d1, F1⟩ := d.def_ 16 (d := di "BadBox" 3) rfl
  have g2 : mg "BadBoxes" = some (.ref (He.ga K "BadBoxes")) := He.glo_ok X G (d.fact 18 (f := .glo "BadBoxes") rfl)
  obtain ⟨d2, F2⟩ := d.def_ 17 (d := di "BadBoxes" 4) rfl
  have g3 : mg "BadCaps" = some (.ref (He.ga K "BadCaps")) := He.glo_ok X G (d.fact 19 (f := .glo "BadCaps") rfl)
  obtain ⟨d3, F3⟩ := d.def_ 18 (d := di "BadCaps" 5) rfl
  have g4 : mg "BadCounts" = some (.ref (He.ga K "BadCounts")) := He.glo_ok X G (d.fact 20 (f := .glo "BadCounts") rfl)
  obtain ⟨d4, F4⟩ := d.def_ 19 (d := di "BadCounts" 6) rfl
  have g5 : mg "BadCrossings" = some (.ref (He.ga K "BadCrossings")) := He.glo_ok X G (d.fact 21 (f := .glo "BadCrossings") rfl)
  obtain ⟨d5, F5⟩ := d.def_ 20 (d := di "BadCrossings" 7) rfl
  have g6 : mg "BadDeed" = some (.ref (He.ga K "BadDeed")) := He.glo_ok X G (d.fact 22 (f := .glo "BadDeed") rfl)
  obtain ⟨d6, F6⟩ := d.def_ 21 (d := di "BadDeed" 8) rfl
  have g7 : mg "BadEnds" = some (.ref (He.ga K "BadEnds")) := He.glo_ok X G (d.fact 23 (f := .glo "BadEnds") rfl)
  obtain ⟨d7, F7⟩ := d.def_ 22 (d := di "BadEnds" 9) rfl
  have g8 : mg "BadFlows" = some (.ref (He.ga K "BadFlows")) := He.glo_ok X G (d.fact 24 (f := .glo "BadFlows") rfl)
  obtain ⟨d8, F8⟩ := d.def_ 23 (d := di "BadFlows" 10) rfl
  have g9 : mg "BadGiven" = some (.ref (He.ga K "BadGiven")) := He.glo_ok X G (d.fact 25 (f := .glo "BadGiven") rfl)
  obtain ⟨d9, F9⟩ := d.def_ 24 (d := di "BadGiven" 11) rfl
  have g10 : mg "BadHouses" = some (.ref (He.ga K "BadHouses")) := He.glo_ok X G (d.fact 26 (f := .glo "BadHouses") rfl)
  obtain ⟨d10, F10⟩ := d.def_ 25 (d := di "BadHouses" 12) rfl
  have g11 : mg "BadIndex" = some (.ref (He.ga K "BadIndex")) := He.glo_ok X G (d.fact 27 (f := .glo "BadIndex") rfl)
  obtain ⟨d11, F11⟩ := d.def_ 26 (d := di "BadIndex" 13) rfl
  have g12 : mg "BadLedger" = some (.ref (He.ga K "BadLedger")) := He.glo_ok X G (d.fact 28 (f := .glo "BadLedger") rfl)
  obtain ⟨d12, F12⟩ := d.def_ 27 (d := di "BadLedger" 14) rfl
  have g13 : mg "BadLengths" = some (.ref (He.ga K "BadLengths")) := He.glo_ok X G (d.fact 29 (f := .glo "BadLengths") rfl)
  obtain ⟨d13, F13⟩ := d.def_ 28 (d := di "BadLengths" 15) rfl
  have g14 : mg "BadLetters" = some (.ref (He.ga K "BadLetters")) := He.glo_ok X G (d.fact 30 (f := .glo "BadLetters") rfl)
  obtain ⟨d14, F14⟩ := d.def_ 29 (d := di "BadLetters" 16) rfl
  have g15 : mg "BadLot" = some (.ref (He.ga K "BadLot")) := He.glo_ok X G (d.fact 31 (f := .glo "BadLot") rfl)
  obtain ⟨d15, F15⟩ := d.def_ 30 (d := di "BadLot" 17) rfl
  have g16 : mg "BadMembers" = some (.ref (He.ga K "BadMembers")) := He.glo_ok X G (d.fact 32 (f := .glo "BadMembers") rfl)
  obtain ⟨d16, F16⟩ := d.def_ 31 (d := di "BadMembers" 18) rfl
  have g17 : mg "BadName" = some (.ref (He.ga K "BadName")) := He.glo_ok X G (d.fact 33 (f := .glo "BadName") rfl)
  obtain ⟨d17, F17⟩ := d.def_ 32 (d := di "BadName" 19) rfl
  exact ⟨⟨e1_of (ck 0 _ rfl) g0 F0 rfl ⟨rfl, rfl, rfl, by decide +kernel, rfl, by decide +kernel, by decide +kernel⟩ rfl rfl (by decide) (by decide) (fun _ _ _ _ _ _ _ _ => rfl) (fun _ _ _ _ _ _ _ _ => rfl),
    e1_of (ck 1 _ rfl) g1 F1 rfl ⟨rfl, rfl, rfl, by decide +kernel, rfl, by decide +kernel, by decide +kernel⟩ rfl rfl (by decide) (by decide) (fun _ _ _ _ _ _ _ _ => rfl) (fun _ _ _ _ _ _ _ _ => rfl),
    e1_of (ck 2 _ rfl) g2 F2 rfl ⟨rfl, rfl, rfl, by decide +kernel, rfl, by decide +kernel, by decide +kernel⟩ rfl rfl (by decide) (by decide) (fun _ _ _ _ _ _ _ _ => rfl) (fun _ _ _ _ _ _ _ _ => rfl),
    e1_of (ck 3 _ rfl) g3 F3 rfl ⟨rfl, rfl, rfl, by decide +kernel, rfl, by decide +kernel, by decide +kernel⟩ rfl rfl (by decide) (by decide) (fun _ _ _ _ _ _ _ _ => rfl) (fun _ _ _ _ _ _ _ _ => rfl),
    e1_of (ck 4 _ rfl) g4 F4 rfl ⟨rfl, rfl, rfl, by decide +kernel, rfl, by decide +kernel, by decide +kernel⟩ rfl rfl (by decide) (by decide) (fun _ _ _ _ _ _ _ _ => rfl) (fun _ _ _ _ _ _ _ _ => rfl),
    e1_of (ck 5 _ rfl) g5 F5 rfl ⟨rfl, rfl, rfl, by decide +kernel, rfl, by decide +kernel, by decide +kernel⟩ rfl rfl (by decide) (by decide) (fun _ _ _ _ _ _ _ _ => rfl) (fun _ _ _ _ _ _ _ _ => rfl),
    e1_of (ck 6 _ rfl) g6 F6 rfl ⟨rfl, rfl, rfl, by decide +kernel, rfl, by decide +kernel, by decide +kernel⟩ rfl rfl (by decide) (by decide) (fun _ _ _ _ _ _ _ _ => rfl) (fun _ _ _ _ _ _ _ _ => rfl),
    e1_of (ck 7 _ rfl) g7 F7 rfl ⟨rfl, rfl, rfl, by decide +kernel, rfl, by decide +kernel, by decide +kernel⟩ rfl rfl (by decide) (by decide) (fun _ _ _ _ _ _ _ _ => rfl) (fun _ _ _ _ _ _ _ _ => rfl),
    e1_of (ck 8 _ rfl) g8 F8 rfl ⟨rfl, rfl, rfl, by decide +kernel, rfl, by decide +kernel, by decide +kernel⟩ rfl rfl (by decide) (by decide) (fun _ _ _ _ _ _ _ _ => rfl) (fun _ _ _ _ _ _ _ _ => rfl),
    e1_of (ck 9 _ rfl) g9 F9 rfl ⟨rfl, rfl, rfl, by decide +kernel, rfl, by decide +kernel, by decide +kernel⟩ rfl rfl (by decide) (by decide) (fun _ _ _ _ _ _ _ _ => rfl) (fun _ _ _ _ _ _ _ _ => rfl),
    e1_of (ck 10 _ rfl) g10 F10 rfl ⟨rfl, rfl, rfl, by decide +kernel, rfl, by decide +kernel, by decide +kernel⟩ rfl rfl (by decide) (by decide) (fun _ _ _ _ _ _ _ _ => rfl) (fun _ _ _ _ _ _ _ _ => rfl),
    e1_of (ck 11 _ rfl) g11 F11 rfl ⟨rfl, rfl, rfl, by decide +kernel, rfl, by decide +kernel, by decide +kernel⟩ rfl rfl (by decide) (by decide) (fun _ _ _ _ _ _ _ _ => rfl) (fun _ _ _ _ _ _ _ _ => rfl),
    e1_of (ck 12 _ rfl) g12 F12 rfl ⟨rfl, rfl, rfl, by decide +kernel, rfl, by decide +kernel, by decide +kernel⟩ rfl rfl (by decide) (by decide) (fun _ _ _ _ _ _ _ _ => rfl) (fun _ _ _ _ _ _ _ _ => rfl),
    e1_of (ck 13 _ rfl) g13 F13 rfl ⟨rfl, rfl, rfl, by decide +kernel, rfl, by decide +kernel, by decide +kernel⟩ rfl rfl (by decide) (by decide) (fun _ _ _ _ _ _ _ _ => rfl) (fun _ _ _ _ _ _ _ _ => rfl),
    e1_of (ck 14 _ rfl) g14 F14 rfl ⟨rfl, rfl, rfl, by decide +kernel, rfl, by decide +kernel, by decide +kernel⟩ rfl rfl (by decide) (by decide) (fun _ _ _ _ _ _ _ _ => rfl) (fun _ _ _ _ _ _ _ _ => rfl),
    e1_of (ck 15 _ rfl) g15 F15 rfl ⟨rfl, rfl, rfl, by decide +kernel, rfl, by decide +kernel, by decide +kernel⟩ rfl rfl (by decide) (by decide) (fun _ _ _ _ _ _ _ _ => rfl) (fun _ _ _ _ _ _ _ _ => rfl),
    e1_of (ck 16 _ rfl) g16 F16 rfl ⟨rfl, rfl, rfl, by decide +kernel, rfl, by decide +kernel, by decide +kernel⟩ rfl rfl (by decide) (by decide) (fun _ _ _ _ _ _ _ _ => rfl) (fun _ _ _ _ _ _ _ _ => rfl),
    e1_of (ck 17 _ rfl) g17 F17 rfl ⟨rfl, rfl, rfl, by decide +kernel, rfl, by decide +kernel, by decide +kernel⟩ rfl rfl (by decide) (by decide) (fun _ _ _ _ _ _ _ _ => rfl) (fun _ _ _ _ _ _ _ _ => rfl), trivial⟩, ⟨g0, g1, g2, g3, g4, g5, g6, g7, g8, g9, g10, g11, g12, g13, g14, g15, g16, g17, trivial⟩⟩
theorem all_b {h : Heap} (X : K.In h) (G : h.Ns mainGlobals mg) (c : He.SaysX fa fn [] tf ex w h K) : CAll P w K mg base cl_b ∧ GAll K mg cl_b := by
  have d := c.t.d
  have h2 := (He.ba (He.ba c.more).2).1
  have ck : ∀ (i : Nat) (q : Str × List Str), cl[i]? = some q → clsOk K [.ref (He.ga K "PostError")] q = true := fun i q e => cll (l := []) h2 e
  have g0 : mg "BadNames" = some (.ref (He.ga K "BadNames")) := He.glo_ok X G (d.fact 34 (f := .glo "BadNames") rfl)
  obtain ⟨d0, F0⟩ := d.def_ 33 (d := di "BadNames" 20) rfl
  have g1 : mg "BadNumber" = some (.ref (He.ga K "BadNumber")) := He.glo_ok X G (d.fact 35 (f := .glo "BadNumber") rfl)
  obtain ⟨d1, F1⟩ := d.def_ 34 (d := di "BadNumber" 21) rfl
  have g2 : mg "BadNumbers" = some (.ref (He.ga K "BadNumbers")) := He.glo_ok X G (d.fact 36 (f := .glo "BadNumbers") rfl)
  obtain ⟨d2, F2⟩ := d.def_ 35 (d := di "BadNumbers" 22) rfl
  have g3 : mg "BadPair" = some (.ref (He.ga K "BadPair")) := He.glo_ok X G (d.fact 37 (f := .glo "BadPair") rfl)
  obtain ⟨d3, F3⟩ := d.def_ 36 (d := di "BadPair" 23) rfl
  have g4 : mg "BadPairing" = some (.ref (He.ga K "BadPairing")) := He.glo_ok X G (d.fact 38 (f := .glo "BadPairing") rfl)
  obtain ⟨d4, F4⟩ := d.def_ 37 (d := di "BadPairing" 24) rfl
  have g5 : mg "BadPairs" = some (.ref (He.ga K "BadPairs")) := He.glo_ok X G (d.fact 39 (f := .glo "BadPairs") rfl)
  obtain ⟨d5, F5⟩ := d.def_ 38 (d := di "BadPairs" 25) rfl
  have g6 : mg "BadPasses" = some (.ref (He.ga K "BadPasses")) := He.glo_ok X G (d.fact 40 (f := .glo "BadPasses") rfl)
  obtain ⟨d6, F6⟩ := d.def_ 39 (d := di "BadPasses" 26) rfl
  have g7 : mg "BadPath" = some (.ref (He.ga K "BadPath")) := He.glo_ok X G (d.fact 41 (f := .glo "BadPath") rfl)
  obtain ⟨d7, F7⟩ := d.def_ 40 (d := di "BadPath" 27) rfl
  have g8 : mg "BadPathCounts" = some (.ref (He.ga K "BadPathCounts")) := He.glo_ok X G (d.fact 42 (f := .glo "BadPathCounts") rfl)
  obtain ⟨d8, F8⟩ := d.def_ 41 (d := di "BadPathCounts" 28) rfl
  have g9 : mg "BadPaths" = some (.ref (He.ga K "BadPaths")) := He.glo_ok X G (d.fact 43 (f := .glo "BadPaths") rfl)
  obtain ⟨d9, F9⟩ := d.def_ 42 (d := di "BadPaths" 29) rfl
  have g10 : mg "BadPicker" = some (.ref (He.ga K "BadPicker")) := He.glo_ok X G (d.fact 44 (f := .glo "BadPicker") rfl)
  obtain ⟨d10, F10⟩ := d.def_ 43 (d := di "BadPicker" 30) rfl
  have g11 : mg "BadQuestion" = some (.ref (He.ga K "BadQuestion")) := He.glo_ok X G (d.fact 45 (f := .glo "BadQuestion") rfl)
  obtain ⟨d11, F11⟩ := d.def_ 44 (d := di "BadQuestion" 31) rfl
  have g12 : mg "BadReturns" = some (.ref (He.ga K "BadReturns")) := He.glo_ok X G (d.fact 46 (f := .glo "BadReturns") rfl)
  obtain ⟨d12, F12⟩ := d.def_ 45 (d := di "BadReturns" 32) rfl
  have g13 : mg "BadRings" = some (.ref (He.ga K "BadRings")) := He.glo_ok X G (d.fact 47 (f := .glo "BadRings") rfl)
  obtain ⟨d13, F13⟩ := d.def_ 46 (d := di "BadRings" 33) rfl
  have g14 : mg "BadRound" = some (.ref (He.ga K "BadRound")) := He.glo_ok X G (d.fact 48 (f := .glo "BadRound") rfl)
  obtain ⟨d14, F14⟩ := d.def_ 47 (d := di "BadRound" 34) rfl
  have g15 : mg "BadRow" = some (.ref (He.ga K "BadRow")) := He.glo_ok X G (d.fact 49 (f := .glo "BadRow") rfl)
  obtain ⟨d15, F15⟩ := d.def_ 48 (d := di "BadRow" 35) rfl
  have g16 : mg "BadRuns" = some (.ref (He.ga K "BadRuns")) := He.glo_ok X G (d.fact 50 (f := .glo "BadRuns") rfl)
  obtain ⟨d16, F16⟩ := d.def_ 49 (d := di "BadRuns" 36) rfl
  have g17 : mg "BadSome" = some (.ref (He.ga K "BadSome")) := He.glo_ok X G (d.fact 51 (f := .glo "BadSome") rfl)
  obtain ⟨d17, F17⟩ := d.def_ 50 (d := di "BadSome" 37) rfl
  exact ⟨⟨e1_of (ck 18 _ rfl) g0 F0 rfl ⟨rfl, rfl, rfl, by decide +kernel, rfl, by decide +kernel, by decide +kernel⟩ rfl rfl (by decide) (by decide) (fun _ _ _ _ _ _ _ _ => rfl) (fun _ _ _ _ _ _ _ _ => rfl),
    e1_of (ck 19 _ rfl) g1 F1 rfl ⟨rfl, rfl, rfl, by decide +kernel, rfl, by decide +kernel, by decide +kernel⟩ rfl rfl (by decide) (by decide) (fun _ _ _ _ _ _ _ _ => rfl) (fun _ _ _ _ _ _ _ _ => rfl),
    e1_of (ck 20 _ rfl) g2 F2 rfl ⟨rfl, rfl, rfl, by decide +kernel, rfl, by decide +kernel, by decide +kernel⟩ rfl rfl (by decide) (by decide) (fun _ _ _ _ _ _ _ _ => rfl) (fun _ _ _ _ _ _ _ _ => rfl),
    e1_of (ck 21 _ rfl) g3 F3 rfl ⟨rfl, rfl, rfl, by decide +kernel, rfl, by decide +kernel, by decide +kernel⟩ rfl rfl (by decide) (by decide) (fun _ _ _ _ _ _ _ _ => rfl) (fun _ _ _ _ _ _ _ _ => rfl),
    e1_of (ck 22 _ rfl) g4 F4 rfl ⟨rfl, rfl, rfl, by decide +kernel, rfl, by decide +kernel, by decide +kernel⟩ rfl rfl (by decide) (by decide) (fun _ _ _ _ _ _ _ _ => rfl) (fun _ _ _ _ _ _ _ _ => rfl),
    e1_of (ck 23 _ rfl) g5 F5 rfl ⟨rfl, rfl, rfl, by decide +kernel, rfl, by decide +kernel, by decide +kernel⟩ rfl rfl (by decide) (by decide) (fun _ _ _ _ _ _ _ _ => rfl) (fun _ _ _ _ _ _ _ _ => rfl),
    e1_of (ck 24 _ rfl) g6 F6 rfl ⟨rfl, rfl, rfl, by decide +kernel, rfl, by decide +kernel, by decide +kernel⟩ rfl rfl (by decide) (by decide) (fun _ _ _ _ _ _ _ _ => rfl) (fun _ _ _ _ _ _ _ _ => rfl),
    e1_of (ck 25 _ rfl) g7 F7 rfl ⟨rfl, rfl, rfl, by decide +kernel, rfl, by decide +kernel, by decide +kernel⟩ rfl rfl (by decide) (by decide) (fun _ _ _ _ _ _ _ _ => rfl) (fun _ _ _ _ _ _ _ _ => rfl),
    e1_of (ck 26 _ rfl) g8 F8 rfl ⟨rfl, rfl, rfl, by decide +kernel, rfl, by decide +kernel, by decide +kernel⟩ rfl rfl (by decide) (by decide) (fun _ _ _ _ _ _ _ _ => rfl) (fun _ _ _ _ _ _ _ _ => rfl),
    e1_of (ck 27 _ rfl) g9 F9 rfl ⟨rfl, rfl, rfl, by decide +kernel, rfl, by decide +kernel, by decide +kernel⟩ rfl rfl (by decide) (by decide) (fun _ _ _ _ _ _ _ _ => rfl) (fun _ _ _ _ _ _ _ _ => rfl),
    e1_of (ck 28 _ rfl) g10 F10 rfl ⟨rfl, rfl, rfl, by decide +kernel, rfl, by decide +kernel, by decide +kernel⟩ rfl rfl (by decide) (by decide) (fun _ _ _ _ _ _ _ _ => rfl) (fun _ _ _ _ _ _ _ _ => rfl),
    e1_of (ck 29 _ rfl) g11 F11 rfl ⟨rfl, rfl, rfl, by decide +kernel, rfl, by decide +kernel, by decide +kernel⟩ rfl rfl (by decide) (by decide) (fun _ _ _ _ _ _ _ _ => rfl) (fun _ _ _ _ _ _ _ _ => rfl),
    e1_of (ck 30 _ rfl) g12 F12 rfl ⟨rfl, rfl, rfl, by decide +kernel, rfl, by decide +kernel, by decide +kernel⟩ rfl rfl (by decide) (by decide) (fun _ _ _ _ _ _ _ _ => rfl) (fun _ _ _ _ _ _ _ _ => rfl),
    e1_of (ck 31 _ rfl) g13 F13 rfl ⟨rfl, rfl, rfl, by decide +kernel, rfl, by decide +kernel, by decide +kernel⟩ rfl rfl (by decide) (by decide) (fun _ _ _ _ _ _ _ _ => rfl) (fun _ _ _ _ _ _ _ _ => rfl),
    e1_of (ck 32 _ rfl) g14 F14 rfl ⟨rfl, rfl, rfl, by decide +kernel, rfl, by decide +kernel, by decide +kernel⟩ rfl rfl (by decide) (by decide) (fun _ _ _ _ _ _ _ _ => rfl) (fun _ _ _ _ _ _ _ _ => rfl),
    e1_of (ck 33 _ rfl) g15 F15 rfl ⟨rfl, rfl, rfl, by decide +kernel, rfl, by decide +kernel, by decide +kernel⟩ rfl rfl (by decide) (by decide) (fun _ _ _ _ _ _ _ _ => rfl) (fun _ _ _ _ _ _ _ _ => rfl),
    e1_of (ck 34 _ rfl) g16 F16 rfl ⟨rfl, rfl, rfl, by decide +kernel, rfl, by decide +kernel, by decide +kernel⟩ rfl rfl (by decide) (by decide) (fun _ _ _ _ _ _ _ _ => rfl) (fun _ _ _ _ _ _ _ _ => rfl),
    e1_of (ck 35 _ rfl) g17 F17 rfl ⟨rfl, rfl, rfl, by decide +kernel, rfl, by decide +kernel, by decide +kernel⟩ rfl rfl (by decide) (by decide) (fun _ _ _ _ _ _ _ _ => rfl) (fun _ _ _ _ _ _ _ _ => rfl), trivial⟩, ⟨g0, g1, g2, g3, g4, g5, g6, g7, g8, g9, g10, g11, g12, g13, g14, g15, g16, g17, trivial⟩⟩
theorem all_c {h : Heap} (X : K.In h) (G : h.Ns mainGlobals mg) (c : He.SaysX fa fn [] tf ex w h K) : CAll P w K mg base cl_c ∧ GAll K mg cl_c := by
  have d := c.t.d
  have h2 := (He.ba (He.ba c.more).2).1
  have ck : ∀ (i : Nat) (q : Str × List Str), cl[i]? = some q → clsOk K [.ref (He.ga K "PostError")] q = true := fun i q e => cll (l := []) h2 e
  have g0 : mg "BadSpans" = some (.ref (He.ga K "BadSpans")) := He.glo_ok X G (d.fact 52 (f := .glo "BadSpans") rfl)
  obtain ⟨d0, F0⟩ := d.def_ 51 (d := di "BadSpans" 38) rfl
  have g1 : mg "BadSpread" = some (.ref (He.ga K "BadSpread")) := He.glo_ok X G (d.fact 53 (f := .glo "BadSpread") rfl)
  obtain ⟨d1, F1⟩ := d.def_ 52 (d := di "BadSpread" 39) rfl
  have g2 : mg "BadSteps" = some (.ref (He.ga K "BadSteps")) := He.glo_ok X G (d.fact 54 (f := .glo "BadSteps") rfl)
  obtain ⟨d2, F2⟩ := d.def_ 53 (d := di "BadSteps" 40) rfl
  have g3 : mg "BadTellers" = some (.ref (He.ga K "BadTellers")) := He.glo_ok X G (d.fact 55 (f := .glo "BadTellers") rfl)
  obtain ⟨d3, F3⟩ := d.def_ 54 (d := di "BadTellers" 41) rfl
  have g4 : mg "BadText" = some (.ref (He.ga K "BadText")) := He.glo_ok X G (d.fact 56 (f := .glo "BadText") rfl)
  obtain ⟨d4, F4⟩ := d.def_ 55 (d := di "BadText" 42) rfl
  have g5 : mg "BadTold" = some (.ref (He.ga K "BadTold")) := He.glo_ok X G (d.fact 57 (f := .glo "BadTold") rfl)
  obtain ⟨d5, F5⟩ := d.def_ 56 (d := di "BadTold" 43) rfl
  have g6 : mg "BadTolls" = some (.ref (He.ga K "BadTolls")) := He.glo_ok X G (d.fact 58 (f := .glo "BadTolls") rfl)
  obtain ⟨d6, F6⟩ := d.def_ 57 (d := di "BadTolls" 44) rfl
  have g7 : mg "BadWeave" = some (.ref (He.ga K "BadWeave")) := He.glo_ok X G (d.fact 59 (f := .glo "BadWeave") rfl)
  obtain ⟨d7, F7⟩ := d.def_ 58 (d := di "BadWeave" 45) rfl
  have g8 : mg "CommonHouse" = some (.ref (He.ga K "CommonHouse")) := He.glo_ok X G (d.fact 60 (f := .glo "CommonHouse") rfl)
  obtain ⟨d8, F8⟩ := d.def_ 59 (d := di "CommonHouse" 46) rfl
  have g9 : mg "HasLetters" = some (.ref (He.ga K "HasLetters")) := He.glo_ok X G (d.fact 61 (f := .glo "HasLetters") rfl)
  obtain ⟨d9, F9⟩ := d.def_ 60 (d := di "HasLetters" 47) rfl
  have g10 : mg "InUse" = some (.ref (He.ga K "InUse")) := He.glo_ok X G (d.fact 62 (f := .glo "InUse") rfl)
  obtain ⟨d10, F10⟩ := d.def_ 61 (d := di "InUse" 48) rfl
  have g11 : mg "IsOut" = some (.ref (He.ga K "IsOut")) := He.glo_ok X G (d.fact 63 (f := .glo "IsOut") rfl)
  obtain ⟨d11, F11⟩ := d.def_ 62 (d := di "IsOut" 49) rfl
  have g12 : mg "IsWatched" = some (.ref (He.ga K "IsWatched")) := He.glo_ok X G (d.fact 64 (f := .glo "IsWatched") rfl)
  obtain ⟨d12, F12⟩ := d.def_ 63 (d := di "IsWatched" 50) rfl
  have g13 : mg "LostNow" = some (.ref (He.ga K "LostNow")) := He.glo_ok X G (d.fact 65 (f := .glo "LostNow") rfl)
  have g14 : mg "NoCount" = some (.ref (He.ga K "NoCount")) := He.glo_ok X G (d.fact 66 (f := .glo "NoCount") rfl)
  obtain ⟨d14, F14⟩ := d.def_ 64 (d := di "NoCount" 52) rfl
  have g15 : mg "NoEnd" = some (.ref (He.ga K "NoEnd")) := He.glo_ok X G (d.fact 67 (f := .glo "NoEnd") rfl)
  obtain ⟨d15, F15⟩ := d.def_ 65 (d := di "NoEnd" 53) rfl
  have g16 : mg "NoEnds" = some (.ref (He.ga K "NoEnds")) := He.glo_ok X G (d.fact 68 (f := .glo "NoEnds") rfl)
  obtain ⟨d16, F16⟩ := d.def_ 66 (d := di "NoEnds" 54) rfl
  have g17 : mg "NoErrands" = some (.ref (He.ga K "NoErrands")) := He.glo_ok X G (d.fact 69 (f := .glo "NoErrands") rfl)
  obtain ⟨d17, F17⟩ := d.def_ 67 (d := di "NoErrands" 55) rfl
  exact ⟨⟨e1_of (ck 36 _ rfl) g0 F0 rfl ⟨rfl, rfl, rfl, by decide +kernel, rfl, by decide +kernel, by decide +kernel⟩ rfl rfl (by decide) (by decide) (fun _ _ _ _ _ _ _ _ => rfl) (fun _ _ _ _ _ _ _ _ => rfl),
    e1_of (ck 37 _ rfl) g1 F1 rfl ⟨rfl, rfl, rfl, by decide +kernel, rfl, by decide +kernel, by decide +kernel⟩ rfl rfl (by decide) (by decide) (fun _ _ _ _ _ _ _ _ => rfl) (fun _ _ _ _ _ _ _ _ => rfl),
    e1_of (ck 38 _ rfl) g2 F2 rfl ⟨rfl, rfl, rfl, by decide +kernel, rfl, by decide +kernel, by decide +kernel⟩ rfl rfl (by decide) (by decide) (fun _ _ _ _ _ _ _ _ => rfl) (fun _ _ _ _ _ _ _ _ => rfl),
    e1_of (ck 39 _ rfl) g3 F3 rfl ⟨rfl, rfl, rfl, by decide +kernel, rfl, by decide +kernel, by decide +kernel⟩ rfl rfl (by decide) (by decide) (fun _ _ _ _ _ _ _ _ => rfl) (fun _ _ _ _ _ _ _ _ => rfl),
    e1_of (ck 40 _ rfl) g4 F4 rfl ⟨rfl, rfl, rfl, by decide +kernel, rfl, by decide +kernel, by decide +kernel⟩ rfl rfl (by decide) (by decide) (fun _ _ _ _ _ _ _ _ => rfl) (fun _ _ _ _ _ _ _ _ => rfl),
    e1_of (ck 41 _ rfl) g5 F5 rfl ⟨rfl, rfl, rfl, by decide +kernel, rfl, by decide +kernel, by decide +kernel⟩ rfl rfl (by decide) (by decide) (fun _ _ _ _ _ _ _ _ => rfl) (fun _ _ _ _ _ _ _ _ => rfl),
    e1_of (ck 42 _ rfl) g6 F6 rfl ⟨rfl, rfl, rfl, by decide +kernel, rfl, by decide +kernel, by decide +kernel⟩ rfl rfl (by decide) (by decide) (fun _ _ _ _ _ _ _ _ => rfl) (fun _ _ _ _ _ _ _ _ => rfl),
    e1_of (ck 43 _ rfl) g7 F7 rfl ⟨rfl, rfl, rfl, by decide +kernel, rfl, by decide +kernel, by decide +kernel⟩ rfl rfl (by decide) (by decide) (fun _ _ _ _ _ _ _ _ => rfl) (fun _ _ _ _ _ _ _ _ => rfl),
    e1_of (ck 44 _ rfl) g8 F8 rfl ⟨rfl, rfl, rfl, by decide +kernel, rfl, by decide +kernel, by decide +kernel⟩ rfl rfl (by decide) (by decide) (fun _ _ _ _ _ _ _ _ => rfl) (fun _ _ _ _ _ _ _ _ => rfl),
    e1_of (ck 45 _ rfl) g9 F9 rfl ⟨rfl, rfl, rfl, by decide +kernel, rfl, by decide +kernel, by decide +kernel⟩ rfl rfl (by decide) (by decide) (fun _ _ _ _ _ _ _ _ => rfl) (fun _ _ _ _ _ _ _ _ => rfl),
    e1_of (ck 46 _ rfl) g10 F10 rfl ⟨rfl, rfl, rfl, by decide +kernel, rfl, by decide +kernel, by decide +kernel⟩ rfl rfl (by decide) (by decide) (fun _ _ _ _ _ _ _ _ => rfl) (fun _ _ _ _ _ _ _ _ => rfl),
    e1_of (ck 47 _ rfl) g11 F11 rfl ⟨rfl, rfl, rfl, by decide +kernel, rfl, by decide +kernel, by decide +kernel⟩ rfl rfl (by decide) (by decide) (fun _ _ _ _ _ _ _ _ => rfl) (fun _ _ _ _ _ _ _ _ => rfl),
    e1_of (ck 48 _ rfl) g12 F12 rfl ⟨rfl, rfl, rfl, by decide +kernel, rfl, by decide +kernel, by decide +kernel⟩ rfl rfl (by decide) (by decide) (fun _ _ _ _ _ _ _ _ => rfl) (fun _ _ _ _ _ _ _ _ => rfl),
    e0_of (ck 49 _ rfl) g13,
    e1_of (ck 50 _ rfl) g14 F14 rfl ⟨rfl, rfl, rfl, by decide +kernel, rfl, by decide +kernel, by decide +kernel⟩ rfl rfl (by decide) (by decide) (fun _ _ _ _ _ _ _ _ => rfl) (fun _ _ _ _ _ _ _ _ => rfl),
    e1_of (ck 51 _ rfl) g15 F15 rfl ⟨rfl, rfl, rfl, by decide +kernel, rfl, by decide +kernel, by decide +kernel⟩ rfl rfl (by decide) (by decide) (fun _ _ _ _ _ _ _ _ => rfl) (fun _ _ _ _ _ _ _ _ => rfl),
    e1_of (ck 52 _ rfl) g16 F16 rfl ⟨rfl, rfl, rfl, by decide +kernel, rfl, by decide +kernel, by decide +kernel⟩ rfl rfl (by decide) (by decide) (fun _ _ _ _ _ _ _ _ => rfl) (fun _ _ _ _ _ _ _ _ => rfl),
    e1_of (ck 53 _ rfl) g17 F17 rfl ⟨rfl, rfl, rfl, by decide +kernel, rfl, by decide +kernel, by decide +kernel⟩ rfl rfl (by decide) (by decide) (fun _ _ _ _ _ _ _ _ => rfl) (fun _ _ _ _ _ _ _ _ => rfl), trivial⟩, ⟨g0, g1, g2, g3, g4, g5, g6, g7, g8, g9, g10, g11, g12, g13, g14, g15, g16, g17, trivial⟩⟩
theorem all_d {h : Heap} (X : K.In h) (G : h.Ns mainGlobals mg) (c : He.SaysX fa fn [] tf ex w h K) : CAll P w K mg base cl_d ∧ GAll K mg cl_d := by
  have d := c.t.d
  have h2 := (He.ba (He.ba c.more).2).1
  have ck : ∀ (i : Nat) (q : Str × List Str), cl[i]? = some q → clsOk K [.ref (He.ga K "PostError")] q = true := fun i q e => cll (l := []) h2 e
  have g0 : mg "NoHouse" = some (.ref (He.ga K "NoHouse")) := He.glo_ok X G (d.fact 70 (f := .glo "NoHouse") rfl)
  obtain ⟨d0, F0⟩ := d.def_ 68 (d := di "NoHouse" 56) rfl
  have g1 : mg "NoLetter" = some (.ref (He.ga K "NoLetter")) := He.glo_ok X G (d.fact 71 (f := .glo "NoLetter") rfl)
  obtain ⟨d1, F1⟩ := d.def_ 69 (d := di "NoLetter" 57) rfl
  have g2 : mg "NoPath" = some (.ref (He.ga K "NoPath")) := He.glo_ok X G (d.fact 72 (f := .glo "NoPath") rfl)
  obtain ⟨d2, F2⟩ := d.def_ 70 (d := di "NoPath" 58) rfl
  have g3 : mg "NoRound" = some (.ref (He.ga K "NoRound")) := He.glo_ok X G (d.fact 73 (f := .glo "NoRound") rfl)
  obtain ⟨d3, F3⟩ := d.def_ 71 (d := di "NoRound" 59) rfl
  have g4 : mg "NoSign" = some (.ref (He.ga K "NoSign")) := He.glo_ok X G (d.fact 74 (f := .glo "NoSign") rfl)
  obtain ⟨d4, F4⟩ := d.def_ 72 (d := di "NoSign" 60) rfl
  have g5 : mg "NoWeave" = some (.ref (He.ga K "NoWeave")) := He.glo_ok X G (d.fact 75 (f := .glo "NoWeave") rfl)
  have g6 : mg "NotCarried" = some (.ref (He.ga K "NotCarried")) := He.glo_ok X G (d.fact 76 (f := .glo "NotCarried") rfl)
  obtain ⟨d6, F6⟩ := d.def_ 73 (d := di "NotCarried" 62) rfl
  have g7 : mg "NotJoined" = some (.ref (He.ga K "NotJoined")) := He.glo_ok X G (d.fact 77 (f := .glo "NotJoined") rfl)
  obtain ⟨d7, F7⟩ := d.def_ 74 (d := di "NotJoined" 63) rfl
  have g8 : mg "NotLeaf" = some (.ref (He.ga K "NotLeaf")) := He.glo_ok X G (d.fact 78 (f := .glo "NotLeaf") rfl)
  obtain ⟨d8, F8⟩ := d.def_ 75 (d := di "NotLeaf" 64) rfl
  have g9 : mg "NotOut" = some (.ref (He.ga K "NotOut")) := He.glo_ok X G (d.fact 79 (f := .glo "NotOut") rfl)
  have g10 : mg "NotPossible" = some (.ref (He.ga K "NotPossible")) := He.glo_ok X G (d.fact 80 (f := .glo "NotPossible") rfl)
  have g11 : mg "NotWatched" = some (.ref (He.ga K "NotWatched")) := He.glo_ok X G (d.fact 81 (f := .glo "NotWatched") rfl)
  obtain ⟨d11, F11⟩ := d.def_ 76 (d := di "NotWatched" 67) rfl
  have g12 : mg "SameHouse" = some (.ref (He.ga K "SameHouse")) := He.glo_ok X G (d.fact 82 (f := .glo "SameHouse") rfl)
  obtain ⟨d12, F12⟩ := d.def_ 77 (d := di "SameHouse" 68) rfl
  have g13 : mg "SameSign" = some (.ref (He.ga K "SameSign")) := He.glo_ok X G (d.fact 83 (f := .glo "SameSign") rfl)
  obtain ⟨d13, F13⟩ := d.def_ 78 (d := di "SameSign" 69) rfl
  have g14 : mg "TakenHouse" = some (.ref (He.ga K "TakenHouse")) := He.glo_ok X G (d.fact 84 (f := .glo "TakenHouse") rfl)
  obtain ⟨d14, F14⟩ := d.def_ 79 (d := di "TakenHouse" 70) rfl
  have g15 : mg "TooMany" = some (.ref (He.ga K "TooMany")) := He.glo_ok X G (d.fact 85 (f := .glo "TooMany") rfl)
  obtain ⟨d15, F15⟩ := d.def_ 80 (d := di "TooMany" 71) rfl
  have g16 : mg "WasGone" = some (.ref (He.ga K "WasGone")) := He.glo_ok X G (d.fact 86 (f := .glo "WasGone") rfl)
  obtain ⟨d16, F16⟩ := d.def_ 81 (d := di "WasGone" 72) rfl
  have g17 : mg "WouldChange" = some (.ref (He.ga K "WouldChange")) := He.glo_ok X G (d.fact 87 (f := .glo "WouldChange") rfl)
  obtain ⟨d17, F17⟩ := d.def_ 82 (d := di "WouldChange" 73) rfl
  exact ⟨⟨e1_of (ck 54 _ rfl) g0 F0 rfl ⟨rfl, rfl, rfl, by decide +kernel, rfl, by decide +kernel, by decide +kernel⟩ rfl rfl (by decide) (by decide) (fun _ _ _ _ _ _ _ _ => rfl) (fun _ _ _ _ _ _ _ _ => rfl),
    e1_of (ck 55 _ rfl) g1 F1 rfl ⟨rfl, rfl, rfl, by decide +kernel, rfl, by decide +kernel, by decide +kernel⟩ rfl rfl (by decide) (by decide) (fun _ _ _ _ _ _ _ _ => rfl) (fun _ _ _ _ _ _ _ _ => rfl),
    e2_of (ck 56 _ rfl) g2 F2 rfl ⟨rfl, rfl, rfl, by decide +kernel, rfl, by decide +kernel, by decide +kernel⟩ rfl rfl rfl (by decide) (by decide) (by decide) (by decide) (fun _ _ _ _ _ _ _ _ _ => rfl) (fun _ _ _ _ _ _ _ _ _ => rfl),
    e1_of (ck 57 _ rfl) g3 F3 rfl ⟨rfl, rfl, rfl, by decide +kernel, rfl, by decide +kernel, by decide +kernel⟩ rfl rfl (by decide) (by decide) (fun _ _ _ _ _ _ _ _ => rfl) (fun _ _ _ _ _ _ _ _ => rfl),
    e1_of (ck 58 _ rfl) g4 F4 rfl ⟨rfl, rfl, rfl, by decide +kernel, rfl, by decide +kernel, by decide +kernel⟩ rfl rfl (by decide) (by decide) (fun _ _ _ _ _ _ _ _ => rfl) (fun _ _ _ _ _ _ _ _ => rfl),
    e0_of (ck 59 _ rfl) g5,
    e1_of (ck 60 _ rfl) g6 F6 rfl ⟨rfl, rfl, rfl, by decide +kernel, rfl, by decide +kernel, by decide +kernel⟩ rfl rfl (by decide) (by decide) (fun _ _ _ _ _ _ _ _ => rfl) (fun _ _ _ _ _ _ _ _ => rfl),
    e1_of (ck 61 _ rfl) g7 F7 rfl ⟨rfl, rfl, rfl, by decide +kernel, rfl, by decide +kernel, by decide +kernel⟩ rfl rfl (by decide) (by decide) (fun _ _ _ _ _ _ _ _ => rfl) (fun _ _ _ _ _ _ _ _ => rfl),
    e1_of (ck 62 _ rfl) g8 F8 rfl ⟨rfl, rfl, rfl, by decide +kernel, rfl, by decide +kernel, by decide +kernel⟩ rfl rfl (by decide) (by decide) (fun _ _ _ _ _ _ _ _ => rfl) (fun _ _ _ _ _ _ _ _ => rfl),
    e0_of (ck 63 _ rfl) g9,
    e0_of (ck 64 _ rfl) g10,
    e1_of (ck 65 _ rfl) g11 F11 rfl ⟨rfl, rfl, rfl, by decide +kernel, rfl, by decide +kernel, by decide +kernel⟩ rfl rfl (by decide) (by decide) (fun _ _ _ _ _ _ _ _ => rfl) (fun _ _ _ _ _ _ _ _ => rfl),
    e1_of (ck 66 _ rfl) g12 F12 rfl ⟨rfl, rfl, rfl, by decide +kernel, rfl, by decide +kernel, by decide +kernel⟩ rfl rfl (by decide) (by decide) (fun _ _ _ _ _ _ _ _ => rfl) (fun _ _ _ _ _ _ _ _ => rfl),
    e1_of (ck 67 _ rfl) g13 F13 rfl ⟨rfl, rfl, rfl, by decide +kernel, rfl, by decide +kernel, by decide +kernel⟩ rfl rfl (by decide) (by decide) (fun _ _ _ _ _ _ _ _ => rfl) (fun _ _ _ _ _ _ _ _ => rfl),
    e1_of (ck 68 _ rfl) g14 F14 rfl ⟨rfl, rfl, rfl, by decide +kernel, rfl, by decide +kernel, by decide +kernel⟩ rfl rfl (by decide) (by decide) (fun _ _ _ _ _ _ _ _ => rfl) (fun _ _ _ _ _ _ _ _ => rfl),
    e1_of (ck 69 _ rfl) g15 F15 rfl ⟨rfl, rfl, rfl, by decide +kernel, rfl, by decide +kernel, by decide +kernel⟩ rfl rfl (by decide) (by decide) (fun _ _ _ _ _ _ _ _ => rfl) (fun _ _ _ _ _ _ _ _ => rfl),
    e1_of (ck 70 _ rfl) g16 F16 rfl ⟨rfl, rfl, rfl, by decide +kernel, rfl, by decide +kernel, by decide +kernel⟩ rfl rfl (by decide) (by decide) (fun _ _ _ _ _ _ _ _ => rfl) (fun _ _ _ _ _ _ _ _ => rfl),
    e1_of (ck 71 _ rfl) g17 F17 rfl ⟨rfl, rfl, rfl, by decide +kernel, rfl, by decide +kernel, by decide +kernel⟩ rfl rfl (by decide) (by decide) (fun _ _ _ _ _ _ _ _ => rfl) (fun _ _ _ _ _ _ _ _ => rfl), trivial⟩, ⟨g0, g1, g2, g3, g4, g5, g6, g7, g8, g9, g10, g11, g12, g13, g14, g15, g16, g17, trivial⟩⟩
end
end K00
namespace K00
open PySem PySem.Spec PyProof.Rows L2
/-! ### the law by what the head tells -/
section
theorem code_of {K : PySem.W.Frag} {p : Str × Option Str} {x qual : Str} {pa : Arguments} {bd : List Stmt} {sc : Scope} {fd : FuncData} (F : FunD K x qual pa bd sc [] [] (He.fAd K p) fd) : fd.code = .ref (He.cT K p).1 := by
  obtain ⟨oc, od, dV, kV, doc, pm, an, cdv, ct, osl, rfl, lk, hcd, _, _⟩ := F.ex
  obtain ⟨c, rfl⟩ := He.codeIn_ref hcd
  exact congrArg Value.ref (He.codeOf_eq lk rfl).symm
def qOf (x : Str) : Str := x ++ ".<locals>." ++ "<lambda>"
def tb (K : PySem.W.Frag) (x : Str) : Addr × Str := ((He.cT K (x, none)).2, qOf x)
def tbs (K : PySem.W.Frag) : List (Addr × Str) := [tb K "_law_made_a", tb K "_law_made_b", tb K "_law_made_c", tb K "_law_made_d"]
variable {P : Program} {w : World} {K : PySem.W.Frag} {mg : Str → Option Value}
theorem facts {h : Heap} (X : K.In h) (G : h.Ns mainGlobals mg) (c : He.SaysX fa fn [] tf ex w h K) :
    ∃ fd : FuncData, (∀ (s : Shared) (v : Value), BindsTo s fd ⟨[v], []⟩ [("script", v)]) ∧ mg ("law" : Str) = some (.ref (He.fAd K ("law", none))) ∧ ∀ base : Heap, Gd.SysB base → (∀ q ∈ tf, LamX.TabB base mg (He.cT K q).1 (He.cT K q).2) → Gd.OkAt P w K mg base CX0 callerA (He.fAd K ("law", none)) fd ["script"] (spLaw K (tbs K)) := by
  have d := c.t.d
  have own := own_of c.more
  obtain ⟨qP, kP, cP, vP, oP⟩ := post_of c.more
  have asc := ascB_ok (He.ba (He.ba (He.ba c.more).2).2).2
  have g__law_start : mg "_law_start" = some (.ref (He.ga K "_law_start")) := He.glo_ok X G (d.fact 0 (f := .glo "_law_start") rfl)
  have g__law_draw : mg "_law_draw" = some (.ref (He.ga K "_law_draw")) := He.glo_ok X G (d.fact 1 (f := .glo "_law_draw") rfl)
  have g__law_mixed : mg "_law_mixed" = some (.ref (He.ga K "_law_mixed")) := He.glo_ok X G (d.fact 2 (f := .glo "_law_mixed") rfl)
  have g__law_made_a : mg "_law_made_a" = some (.ref (He.ga K "_law_made_a")) := He.glo_ok X G (d.fact 3 (f := .glo "_law_made_a") rfl)
  have g__law_made_b : mg "_law_made_b" = some (.ref (He.ga K "_law_made_b")) := He.glo_ok X G (d.fact 4 (f := .glo "_law_made_b") rfl)
  have g__law_made_c : mg "_law_made_c" = some (.ref (He.ga K "_law_made_c")) := He.glo_ok X G (d.fact 5 (f := .glo "_law_made_c") rfl)
  have g__law_made_d : mg "_law_made_d" = some (.ref (He.ga K "_law_made_d")) := He.glo_ok X G (d.fact 6 (f := .glo "_law_made_d") rfl)
  have g__law_kinds_a : mg "_law_kinds_a" = some (.ref (He.ga K "_law_kinds_a")) := He.glo_ok X G (d.fact 7 (f := .glo "_law_kinds_a") rfl)
  have g__law_kinds_b : mg "_law_kinds_b" = some (.ref (He.ga K "_law_kinds_b")) := He.glo_ok X G (d.fact 8 (f := .glo "_law_kinds_b") rfl)
  have g__law_kinds_c : mg "_law_kinds_c" = some (.ref (He.ga K "_law_kinds_c")) := He.glo_ok X G (d.fact 9 (f := .glo "_law_kinds_c") rfl)
  have g__law_kinds_d : mg "_law_kinds_d" = some (.ref (He.ga K "_law_kinds_d")) := He.glo_ok X G (d.fact 10 (f := .glo "_law_kinds_d") rfl)
  have g__law_kinds : mg "_law_kinds" = some (.ref (He.ga K "_law_kinds")) := He.glo_ok X G (d.fact 11 (f := .glo "_law_kinds") rfl)
  have g__law_is_own : mg "_law_is_own" = some (.ref (He.ga K "_law_is_own")) := He.glo_ok X G (d.fact 12 (f := .glo "_law_is_own") rfl)
  have g__law_are_these : mg "_law_are_these" = some (.ref (He.ga K "_law_are_these")) := He.glo_ok X G (d.fact 13 (f := .glo "_law_are_these") rfl)
  have g_law : mg "law" = some (.ref (He.ga K "law")) := He.glo_ok X G (d.fact 14 (f := .glo "law") rfl)
  have g_PostError : mg "PostError" = some (.ref (He.ga K "PostError")) := He.glo_ok X G (d.fact 15 (f := .glo "PostError") rfl)
  have n_int : mg "int" = none := He.free_ok X G (d.fact 88 (f := .free "int") rfl)
  have n_len : mg "len" = none := He.free_ok X G (d.fact 89 (f := .free "len") rfl)
  have n_list : mg "list" = none := He.free_ok X G (d.fact 90 (f := .free "list") rfl)
  have n_range : mg "range" = none := He.free_ok X G (d.fact 91 (f := .free "range") rfl)
  have n_isinstance : mg "isinstance" = none := He.free_ok X G (d.fact 92 (f := .free "isinstance") rfl)
  have n_enumerate : mg "enumerate" = none := He.free_ok X G (d.fact 93 (f := .free "enumerate") rfl)
  have n_repr : mg "repr" = none := He.free_ok X G (d.fact 94 (f := .free "repr") rfl)
  have n_ValueError : mg "ValueError" = none := He.free_ok X G (d.fact 95 (f := .free "ValueError") rfl)
  have n_LookupError : mg "LookupError" = none := He.free_ok X G (d.fact 96 (f := .free "LookupError") rfl)
  obtain ⟨d__law_start, F__law_start⟩ := d.def_ 0 (d := dd "_law_start" 75) rfl
  obtain ⟨d__law_draw, F__law_draw⟩ := d.def_ 1 (d := dd "_law_draw" 76) rfl
  obtain ⟨d__law_mixed, F__law_mixed⟩ := d.def_ 2 (d := dd "_law_mixed" 77) rfl
  obtain ⟨d__law_made_a, F__law_made_a⟩ := d.def_ 3 (d := dd "_law_made_a" 78) rfl
  obtain ⟨d__law_made_b, F__law_made_b⟩ := d.def_ 4 (d := dd "_law_made_b" 79) rfl
  obtain ⟨d__law_made_c, F__law_made_c⟩ := d.def_ 5 (d := dd "_law_made_c" 80) rfl
  obtain ⟨d__law_made_d, F__law_made_d⟩ := d.def_ 6 (d := dd "_law_made_d" 81) rfl
  obtain ⟨d__law_kinds_a, F__law_kinds_a⟩ := d.def_ 7 (d := dd "_law_kinds_a" 82) rfl
  obtain ⟨d__law_kinds_b, F__law_kinds_b⟩ := d.def_ 8 (d := dd "_law_kinds_b" 83) rfl
  obtain ⟨d__law_kinds_c, F__law_kinds_c⟩ := d.def_ 9 (d := dd "_law_kinds_c" 84) rfl
  obtain ⟨d__law_kinds_d, F__law_kinds_d⟩ := d.def_ 10 (d := dd "_law_kinds_d" 85) rfl
  obtain ⟨d__law_kinds, F__law_kinds⟩ := d.def_ 11 (d := dd "_law_kinds" 86) rfl
  obtain ⟨d__law_is_own, F__law_is_own⟩ := d.def_ 12 (d := dd "_law_is_own" 87) rfl
  obtain ⟨d__law_are_these, F__law_are_these⟩ := d.def_ 13 (d := dd "_law_are_these" 88) rfl
  obtain ⟨d_law, F_law⟩ := d.def_ 14 (d := dd "law" 89) rfl
  have b__law_start : L2.Binds K d__law_start ["script"] [] := F__law_start.bindsN fun _ _ _ _ _ _ us hl => match us, hl with | [_], _ => rfl
  have b__law_draw : L2.Binds K d__law_draw ["stream", "many"] [] := F__law_draw.bindsN fun _ _ _ _ _ _ us hl => match us, hl with | [_, _], _ => rfl
  have b__law_mixed : L2.Binds K d__law_mixed ["stream", "some"] [] := F__law_mixed.bindsN fun _ _ _ _ _ _ us hl => match us, hl with | [_, _], _ => rfl
  have b__law_kinds : L2.Binds K d__law_kinds ["e"] [] := F__law_kinds.bindsN fun _ _ _ _ _ _ us hl => match us, hl with | [_], _ => rfl
  have b__law_is_own : L2.Binds K d__law_is_own ["e", "at"] [] := F__law_is_own.bindsN fun _ _ _ _ _ _ us hl => match us, hl with | [_, _], _ => rfl
  have b__law_made_a : L2.Binds K d__law_made_a ["x", "y", "z"] [] := F__law_made_a.bindsN fun _ _ _ _ _ _ us hl => match us, hl with | [_, _, _], _ => rfl
  have b__law_kinds_a : L2.Binds K d__law_kinds_a ["e"] [] := F__law_kinds_a.bindsN fun _ _ _ _ _ _ us hl => match us, hl with | [_], _ => rfl
  have b__law_made_b : L2.Binds K d__law_made_b ["x", "y", "z"] [] := F__law_made_b.bindsN fun _ _ _ _ _ _ us hl => match us, hl with | [_, _, _], _ => rfl
  have b__law_kinds_b : L2.Binds K d__law_kinds_b ["e"] [] := F__law_kinds_b.bindsN fun _ _ _ _ _ _ us hl => match us, hl with | [_], _ => rfl
  have b__law_made_c : L2.Binds K d__law_made_c ["x", "y", "z"] [] := F__law_made_c.bindsN fun _ _ _ _ _ _ us hl => match us, hl with | [_, _, _], _ => rfl
  have b__law_kinds_c : L2.Binds K d__law_kinds_c ["e"] [] := F__law_kinds_c.bindsN fun _ _ _ _ _ _ us hl => match us, hl with | [_], _ => rfl
  have b__law_made_d : L2.Binds K d__law_made_d ["x", "y", "z"] [] := F__law_made_d.bindsN fun _ _ _ _ _ _ us hl => match us, hl with | [_, _, _], _ => rfl
  have b__law_kinds_d : L2.Binds K d__law_kinds_d ["e"] [] := F__law_kinds_d.bindsN fun _ _ _ _ _ _ us hl => match us, hl with | [_], _ => rfl
  have bL := FunD.bindsA (ps := ["script"]) F_law fun _ _ _ _ _ _ us hl => match us, hl with | [_], _ => rfl
  refine ⟨d_law, fun s v => bL s [v] rfl, g_law, fun base hB TB => ?_⟩
  obtain ⟨cA_a, gA_a⟩ := all_a (P := P) (base := base) X G c
  have R_a : Four P w K mg base "_law_made_a" (He.fAd K ("_law_made_a", none)) d__law_made_a (tb K "_law_made_a") (csL K cl_a) := ⟨ok_made_a F__law_made_a (code_of F__law_made_a) (TB ("_law_made_a", none) (by simp [tf])) cA_a, g__law_made_a, F__law_made_a.kp, b__law_made_a, by rw [List.length_map]; decide⟩
  have k_a : FnOk P w K mg base CX0 1 _ d__law_kinds_a ["e"] (spKinds K (gaL K cl_a)) := ok_kinds_a F__law_kinds_a n_isinstance gA_a
  obtain ⟨cA_b, gA_b⟩ := all_b (P := P) (base := base) X G c
  have R_b : Four P w K mg base "_law_made_b" (He.fAd K ("_law_made_b", none)) d__law_made_b (tb K "_law_made_b") (csL K cl_b) := ⟨ok_made_b F__law_made_b (code_of F__law_made_b) (TB ("_law_made_b", none) (by simp [tf])) cA_b, g__law_made_b, F__law_made_b.kp, b__law_made_b, by rw [List.length_map]; decide⟩
  have k_b : FnOk P w K mg base CX0 1 _ d__law_kinds_b ["e"] (spKinds K (gaL K cl_b)) := ok_kinds_b F__law_kinds_b n_isinstance gA_b
  obtain ⟨cA_c, gA_c⟩ := all_c (P := P) (base := base) X G c
  have R_c : Four P w K mg base "_law_made_c" (He.fAd K ("_law_made_c", none)) d__law_made_c (tb K "_law_made_c") (csL K cl_c) := ⟨ok_made_c F__law_made_c (code_of F__law_made_c) (TB ("_law_made_c", none) (by simp [tf])) cA_c, g__law_made_c, F__law_made_c.kp, b__law_made_c, by rw [List.length_map]; decide⟩
  have k_c : FnOk P w K mg base CX0 1 _ d__law_kinds_c ["e"] (spKinds K (gaL K cl_c)) := ok_kinds_c F__law_kinds_c n_isinstance gA_c
  obtain ⟨cA_d, gA_d⟩ := all_d (P := P) (base := base) X G c
  have R_d : Four P w K mg base "_law_made_d" (He.fAd K ("_law_made_d", none)) d__law_made_d (tb K "_law_made_d") (csL K cl_d) := ⟨ok_made_d F__law_made_d (code_of F__law_made_d) (TB ("_law_made_d", none) (by simp [tf])) cA_d, g__law_made_d, F__law_made_d.kp, b__law_made_d, by rw [List.length_map]; decide⟩
  have k_d : FnOk P w K mg base CX0 1 _ d__law_kinds_d ["e"] (spKinds K (gaL K cl_d)) := ok_kinds_d F__law_kinds_d n_isinstance gA_d
  have o_k := ok_kinds F__law_kinds k_a g__law_kinds_a F__law_kinds_a.kp b__law_kinds_a k_b g__law_kinds_b F__law_kinds_b.kp b__law_kinds_b k_c g__law_kinds_c F__law_kinds_c.kp b__law_kinds_c k_d g__law_kinds_d F__law_kinds_d.kp b__law_kinds_d
  have o_o := ok_own F__law_is_own o_k g__law_kinds F__law_kinds.kp b__law_kinds n_isinstance g_PostError n_ValueError n_LookupError n_range
  have o_s : FnOk P w K mg base CX0 1 _ d__law_start ["script"] (spStart K) := ok_start F__law_start n_list
  have o_m := ok_mixed (P := P) (w := w) (base := base) F__law_mixed F__law_draw n_int g__law_draw n_len n_list n_range
  have nd : ([tb K "_law_made_a", tb K "_law_made_b", tb K "_law_made_c", tb K "_law_made_d"].map (·.1)).Nodup := asc.imp fun h => Nat.ne_of_lt h
  exact ok_law F_law (code_of F_law) ⟨rfl, by decide, by decide⟩ rfl hB o_s g__law_start F__law_start.kp b__law_start o_m g__law_mixed F__law_mixed.kp b__law_mixed o_k g__law_kinds F__law_kinds.kp b__law_kinds o_o g__law_is_own F__law_is_own.kp b__law_is_own
    F__law_are_these (code_of F__law_are_these) g__law_are_these n_repr n_len R_a R_b R_c R_d nd n_range n_enumerate n_isinstance n_ValueError g_PostError qP kP cP vP oP own
end
end K00
open PySem PySem.W PySem.Calls PyProof.Rows
theorem PySem.Challenge.cw_letterround_k00_errors_made_holds : PySem.Challenge.rw_letterround_k00_errors_made.Holds := by
  w_on; o_law
  refine HandSHeadRun.head_any (r := OpenLaw.row PySem.Challenge.rw_letterround_k00_errors_made) (q := view (OpenLaw.row PySem.Challenge.rw_letterround_k00_errors_made).prog [89]) (H := K00.hk) (ob := K00.ob) (M := 40000) (loose := K00.loose) (d := HandSHeadRun.topDef (OpenLaw.row PySem.Challenge.rw_letterround_k00_errors_made).prog 89) (kwd := []) K00.ob_eq
    ?op ?fe K00.run (by kernel_rfl) (by kernel_rfl) (by kernel_rfl) (by rfl) (by first | assumption | decide +kernel) (by decide +kernel) ⟨rfl, rfl, rfl, rfl, rfl, by decide +kernel⟩ ?hw ?hc
  case op => kernel_rfl
  case fe =>
    intro s
    rfl
  case hw => w_witness2
  case hc =>
    refine Gd.walk_at (l := PySem.Challenge.rw_letterround_k00_errors_made) (n := 63) (x := "script") (CX := fun _ => L2.CX0) rfl (by decide) (by kernel_rfl) ?F (fun _ _ _ _ _ z => z)
    intro w mg fa h Y G hmg0
    obtain ⟨⟨K, KX, c⟩, hS⟩ := Y
    have hmg : mg ("law" : PySem.Str) = some (.ref fa) := by
      have e : (HandSHeadRun.topDef (OpenLaw.row PySem.Challenge.rw_letterround_k00_errors_made).prog 89).name = ("law" : PySem.Str) := by kernel_rfl
      rw [← e]
      exact hmg0
    obtain ⟨fd, hb, hl, hF⟩ := K00.facts (P := (PySem.Challenge.rw_letterround_k00_errors_made).prog) (w := w) KX G c
    have e := hmg.symm.trans hl
    cases e
    have tm : ∀ p ∈ K00.tf.map (He.cT K), ∃ q ∈ K00.tf, p = He.cT K q := fun p hp => by
      obtain ⟨q, hq, rfl⟩ := List.mem_map.mp hp
      exact ⟨q, hq, rfl⟩
    refine ⟨K, fd, K00.tf.map (He.cT K), K00.spLaw K (K00.tbs K), KX, hS, fun p hp => ?_, fun p hp => ?_, fun p hp => ?_, hb, fun H a ns hl hH hS => ⟨a, ns, rfl, hS, hl, fun t ht => ?_, fun _ => rfl⟩, fun base _ _ hB hT => hF base hB fun q hq => hT _ (List.mem_map.mpr ⟨q, hq, rfl⟩)⟩
    · obtain ⟨q, hq, rfl⟩ := tm p hp
      exact c.empty _ hq
    · obtain ⟨q, hq, rfl⟩ := tm p hp
      exact c.out _ hq
    · obtain ⟨q, hq, rfl⟩ := tm p hp
      exact codeHd_of_K KX (c.hd _ hq)
    · have ht : t ∈ [K00.tb K "_law_made_a", K00.tb K "_law_made_b", K00.tb K "_law_made_c", K00.tb K "_law_made_d"] := ht
      simp only [List.mem_cons, List.not_mem_nil, or_false] at ht
      rcases ht with rfl | rfl | rfl | rfl
      · exact hH _ (List.mem_map.mpr ⟨("_law_made_a", none), by simp [K00.tf], rfl⟩)
      · exact hH _ (List.mem_map.mpr ⟨("_law_made_b", none), by simp [K00.tf], rfl⟩)
      · exact hH _ (List.mem_map.mpr ⟨("_law_made_c", none), by simp [K00.tf], rfl⟩)
      · exact hH _ (List.mem_map.mpr ⟨("_law_made_d", none), by simp [K00.tf], rfl⟩)
