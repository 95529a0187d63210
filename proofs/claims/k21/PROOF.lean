import PyProof.Rows.All
import KE.KStateDown
import Lean
import HandS.More
import HandS.Words
import HandS.Head0
import HandS.Head1
import HandS.Head2
import HandS.HeadEnd
import HandS.HeadHook1
import HandS.HeadHook2
import Open.FastLooks
import PySem.Challenge.RW_loadhall_k21_halls_and_their_stores
import HandS.Base
import HandS.Call
import HandS.List
import HandS.Exc
import HandS.ExcOwn
import HandS.ExcValue
import HandS.ExcIs
import HandS.Comp
import HandS.Ends
import HandS.Dict
import HandS.Iter
import HandS.Text
import HandS.Flow
import HandS.IsInst
import HandS.StrMore
import HandS.Wide
import HandS.Zip
import HandS.ReplaceLit
import HandS.ReplaceDef
import PyProof.StrOps2
import PyProof.MeetsStr3
import HandS.Defaults
import HandS.WordsExc
import HandS.RevTup
import KE.KExcIs
import HandS.ExcField
import HandS.RaiseMore
import HandS.FStr
import HandS.Deep
import PyProof.ExcBaseAll.ValueError
import HandS.TryOnly
import HandS.MakeKw
import HandS.Finally
import HandS.WordsDict
import PyProof.Rows.StrMeet
import PyProof.Rows.SortStr
import HandS.TupLen
import HandS.DictTup
import PyProof.DictMoreH
import KE.SortData
import KE.SortLaws
import KE.KDictSum
import HandS.ExcInit
import KE.KExcInit
import PyProof.ExcBaseAll.LookupError
import PyProof.ExcBaseAll.ArithmeticError
import PyProof.FString2
import KE.KTryMore
import HandS.Strs
import HandS.NamedTupGet
import PyProof.P3In
import HandS.Style
import HandS.DictComp
import HandS.TupAny
import KE.KRevSl
import HandS.Set
import HandS.SetFor
import PyProof.Rows.SortStrRead
import PyProof.Rows.StrCut
import PyProof.StrLawsChain
set_option Elab.async false
set_option linter.all false
set_option maxRecDepth 100000
set_option maxHeartbeats 4000000
/-! the Boolean facts of heads, the runs of heads: ahead of all else -/
namespace DL
open PySem PySem.Spec PyProof.Rows L2
abbrev bmVE : List Value := [.type "ValueError", .type "Exception", .type "BaseException", .type "object"]
abbrev bmLE : List Value := [.type "LookupError", .type "Exception", .type "BaseException", .type "object"]
abbrev bmAE : List Value := [.type "ArithmeticError", .type "Exception", .type "BaseException", .type "object"]
def exB (K : PySem.W.Frag) (D : Addr) : Bool :=
  (decide (PySem.W.findIn K (.ref D) "__getattribute__" = some (some (.builtin "BaseException.__getattribute__"))) && decide (PySem.W.findIn K (.ref D) "__getattr__" = some none)) &&
  ((decide (PySem.W.subIn K (.ref D) (.type "BaseException") = some true) && PySem.W.hasDictIn K D) &&
  ((decide (PySem.W.findIn K (.ref D) "__class__" = some (some (.builtin "object.__class__"))) && decide (PySem.W.specialIn K (.builtin "object.__class__") "__get__" = some (some (.builtin "getset_descriptor.__get__")))) &&
  (decide (PySem.W.takesIn K (.builtin "object.__class__") = some true) && decide (PySem.W.mroIn K D (.type "object") = some true))))
abbrev AlX : Type := Bool × He.AlD
def obsX (ex : PySem.W.Frag → Bool) (fa : List He.Fa) (fn : List He.DefD) (K : PySem.W.Frag) : AlX := (ex K, He.obsD fa fn K)
def SaysX (ex : PySem.W.Frag → Bool) (fa : List He.Fa) (fn : List He.DefD) (K : PySem.W.Frag) : Prop := ex K = true ∧ He.SaysD fa fn K
def obsXG (n : Nat) (ex : PySem.W.Frag → Bool) (fa : List He.Fa) (fn : List He.DefD) (g : Addr → Option Obj) : AlX := obsX ex fa fn (He.frG g (He.asD g n))
def errVB (K : PySem.W.Frag) (x : Str) : Bool := PySem.W.keepIn K (.ref (He.ga K x)) && (PySem.W.excIn K (He.ga K x) [.type "ValueError", .type "Exception", .type "BaseException", .type "object"] "ValueError.__new__" &&
  (decide (PySem.W.subIn K (.ref (He.ga K x)) (.type "BaseException") = some true) && (decide (PySem.W.typeIn K (.ref (He.ga K x)) = some (.type "type")) && exB K (He.ga K x))))
def clsB (K : PySem.W.Frag) (C : Addr) (nm : Str) : Bool := PySem.W.plainGet K C Str.empty && (PySem.W.hasDictIn K C && (PySem.W.plainOver K C && (decide (PySem.W.findIn K (.ref C) "__setattr__" = some (some (.builtin "object.__setattr__"))) && decide (PySem.W.findIn K (.ref C) nm = some none))))
def strsB : List Value → List Str → Bool
  | [], [] => true
  | .str y _ :: vs, x :: xs => decide (y = x) && strsB vs xs
  | _, _ => false
def tupB (K : PySem.W.Frag) (a : Addr) (xs : List Str) : Bool := match K.lookup a with
  | some o => decide (o.cls = .type "tuple") && (match o.data with
    | .seq its n => decide (its.size ≤ sizeLine) && strsB its.toList xs
    | _ => false)
  | none => false
def oexB (K : PySem.W.Frag) (C : Addr) (newId : String) (bm : List Value) : Bool := (match K.lookup C with
  | some ⟨.type "type", _, .cls cd, sl⟩ => (match sl.toList with
    | [_, _, _, _, some (.builtin n), _] => n == newId && (cd.mro == .ref C :: bm && (cd.hasDict && !cd.hasDel))
    | _ => false)
  | _ => false) && (decide (PySem.W.findIn K (.ref C) "__setattr__" = some (some (.builtin "object.__setattr__"))) && (decide (PySem.W.subIn K (.ref C) (.type "BaseException") = some true) && (decide (PySem.W.typeIn K (.ref C) = some (.type "type")) && PySem.W.keepIn K (.ref C))))
def trB (K : PySem.W.Frag) (T : Addr) : Bool := match K.lookup T with
  | some o => decide (o.cls = .type "tuple") && (match o.data with | .seq its _ => its.isEmpty | _ => false)
  | none => false
def iniA (K : PySem.W.Frag) (x : Str) : Addr := He.ma K (He.ga K x) "__init__"
def iniB (K : PySem.W.Frag) (x f : Str) (newId : String) (bm : List Value) (T : Addr) : Bool := oexB K (He.ga K x) newId bm && (decide (PySem.W.findIn K (.ref (He.ga K x)) f = some none) && (decide (PySem.W.findIn K (.ref (He.ga K x)) "trail" = some none) &&
  (decide (PySem.W.findIn K (.ref (He.ga K x)) "__init__" = some (some (.ref (iniA K x)))) && (decide (PySem.W.typeIn K (.ref (iniA K x)) = some (.type "function")) && trB K T))))
def trA (K : PySem.W.Frag) (x : Str) : Addr := match K.lookup (iniA K x) with
  | some ⟨_, _, .func fd, _⟩ => (match fd.kwdefaults with
    | .ref D => (match PySem.W.nsIn K D "trail" with
      | some (some (.ref T)) => T
      | _ => 0)
    | _ => 0)
  | _ => 0
def baseB (K : PySem.W.Frag) (B initId : String) : Bool := match PySem.W.findCls K (.type B) (.type "type") "__init__" with
  | some (.val v) => v == .builtin initId
  | _ => false
def dfA (K : PySem.W.Frag) (x q : Str) : Addr := match K.lookup (iniA K x) with
  | some ⟨_, _, .func fd, _⟩ => (match fd.kwdefaults with
    | .ref D => (match PySem.W.nsIn K D q with
      | some (some (.ref T)) => T
      | _ => 0)
    | _ => 0)
  | _ => 0
def kitB2 (K : PySem.W.Frag) (x y : Str) (b : Bool) : Bool := decide (PySem.W.kitOne K (.ref (He.ga K x)) (.ref (He.ga K y)) = some b)
def kitBT (K : PySem.W.Frag) (x : Str) (y : String) (b : Bool) : Bool := decide (PySem.W.kitOne K (.ref (He.ga K x)) (.type y) = some b)
def errNames : List Str := ["NoName", "NoBody", "NoStore", "NoFinder", "NoHand", "NoLine", "NotFound", "NotPack", "Lacking", "Failed", "Lost", "Stuck", "TooDeep"]
def baseNames : List String := ["ValueError", "LookupError", "ArithmeticError", "KeyError", "IndexError", "ZeroDivisionError"]
def onlyB (K : PySem.W.Frag) (x : Str) (y : String) : Bool := exB K (He.ga K x) && ((errNames.all fun z => kitB2 K x z (decide (x = z))) && (baseNames.all fun z => kitBT K x z (decide (y = z))))
end DL
/-! HY: a world is looked at by what it says of one row -/
namespace DL
open PySem
/-- the same world, told of one row -/
def told1 (w : World) (row : String) (b : Bool) : World := { w with params := { w.params with followText := fun r => bif decide (r = row) then b else w.params.followText r } }
theorem told1_self (w : World) (row : String) : told1 w row (w.params.followText row) = w := by
  have e : (fun r => bif decide (r = row) then w.params.followText row else w.params.followText r) = w.params.followText := by
    funext r
    by_cases h : r = row
    · subst h
      simp
    · simp [h]
  unfold told1
  rw [e]
theorem by_row {P : World → Prop} (row : String) (h : ∀ w, P (told1 w row true)) (g : ∀ w, P (told1 w row false)) (w : World) : P w := by
  rw [← told1_self w row]
  cases w.params.followText row with
  | true => exact h w
  | false => exact g w
end DL
namespace DL
open PySem PySem.W PySem.Calls PyProof.Rows
/-- what some names of the module reach -/
def initN : List PySem.Str := ["NoBody", "NotFound", "NotPack", "Lacking", "Failed", "Lost", "TooDeep", "Stuck"]
def asN (g : Addr → Option Obj) (xs : List PySem.Str) : List Addr := mainGlobals :: He.growD g (He.growD g (He.growD g (xs.map (He.ga (He.frG g [mainGlobals])) ++ He.growD g ((xs.filter fun x => initN.contains x).map (He.ga (He.frG g [mainGlobals]))))))
def KN (g : Addr → Option Obj) (xs : List PySem.Str) : PySem.W.Frag := He.frG g (asN g xs)
def hookN (xs : List PySem.Str) (ex : PySem.W.Frag → Bool) (fa : List He.Fa) (fn : List He.DefD) : PySem.W.Hook where
  α := AlX
  obs := fun s => obsX ex fa fn (KN s.heap.get? xs)
  val := fun _ => (true, He.valD fn)
  says := fun _ h => ∃ K : PySem.W.Frag, K.In h ∧ SaysX ex fa fn K
  of := fun _ _ e => ⟨_, He.frG_in, congrArg Prod.fst e, congrArg Prod.snd e⟩
  keeps := fun _ _ _ ⟨K, hK, c⟩ k => ⟨K, PySem.W.Frag.In.keeps hK k, c⟩
theorem obsN_eq {xs : List PySem.Str} {ex : PySem.W.Frag → Bool} {fa : List He.Fa} {fn : List He.DefD} {g : Addr → Option Obj} {s : Shared} (h : ∀ a, g a = s.heap.get? a) : obsX ex fa fn (KN g xs) = (hookN xs ex fa fn).obs s := by
  have e : g = s.heap.get? := funext h
  rw [e] <;> rfl
/-- the looks at the end of the top, one by one -/
theorem run_of {r : OpenRow} {H : Hook} {q : Program} {M : Nat} {loose : List PySem.Str} {w : World} {ob : SharedT → H.α}
    (h1 : ∀ os : OsState, (HandSHeadRun.endF (HandSHeadRun.stepQ (HandSHeadRun.denQ HandSHeadRun.tabQ) r.prog w) M r.prog w os).map (fun s => (HandSHeadRun.looksF r.prog (boot_heap w.params) s.abs, HandSHeadRun.seenQ q loose (importedModules r.prog.main.body) (fun s => xlAt q [] s && recOk r.toRowW.records s) s.abs)) = some (true, openGood q loose))
    (h2 : ∀ os : OsState, (HandSHeadRun.endF (HandSHeadRun.stepQ (HandSHeadRun.denQ HandSHeadRun.tabQ) r.prog w) M r.prog w os).map ob = some (H.val w)) :
    HandSHeadRun.RunEq r q H ob M loose w := by
  intro os
  have a1 := h1 os
  have a2 := h2 os
  cases e : HandSHeadRun.endF (HandSHeadRun.stepQ (HandSHeadRun.denQ HandSHeadRun.tabQ) r.prog w) M r.prog w os with
  | none => rw [e] at a1; cases a1
  | some s =>
    rw [e] at a1 a2
    have b1 := Option.some.inj a1
    have b2 := Option.some.inj a2
    exact congrArg some (Prod.ext (Prod.mk.inj b1).1 (Prod.ext (Prod.mk.inj b1).2 b2))
/-- the same, three looks apart -/
theorem run_of3 {r : OpenRow} {H : Hook} {q : Program} {M : Nat} {loose : List PySem.Str} {w : World} {ob : SharedT → H.α}
    (h1 : ∀ os : OsState, (HandSHeadRun.endF (HandSHeadRun.stepQ (HandSHeadRun.denQ HandSHeadRun.tabQ) r.prog w) M r.prog w os).map (fun s => HandSHeadRun.looksF r.prog (boot_heap w.params) s.abs) = some true)
    (h3 : ∀ os : OsState, (HandSHeadRun.endF (HandSHeadRun.stepQ (HandSHeadRun.denQ HandSHeadRun.tabQ) r.prog w) M r.prog w os).map (fun s => HandSHeadRun.seenQ q loose (importedModules r.prog.main.body) (fun s => xlAt q [] s && recOk r.toRowW.records s) s.abs) = some (openGood q loose))
    (h2 : ∀ os : OsState, (HandSHeadRun.endF (HandSHeadRun.stepQ (HandSHeadRun.denQ HandSHeadRun.tabQ) r.prog w) M r.prog w os).map ob = some (H.val w)) :
    HandSHeadRun.RunEq r q H ob M loose w := by
  refine run_of (fun os => ?_) h2
  have a1 := h1 os
  have a3 := h3 os
  cases e : HandSHeadRun.endF (HandSHeadRun.stepQ (HandSHeadRun.denQ HandSHeadRun.tabQ) r.prog w) M r.prog w os with
  | none => rw [e] at a1; cases a1
  | some s =>
    rw [e] at a1 a3
    have b1 := Option.some.inj a1
    have b3 := Option.some.inj a3
    exact congrArg some (Prod.ext b1 b3)
end DL

/-! Boolean facts of heads, more -/
namespace DL
open PySem PySem.Spec PyProof.Rows L2
/-- isinstance may be asked of objects of this class -/
def isoB (K : PySem.W.Frag) (C : Addr) : Bool := PySem.W.plainGet K C Str.empty && (PySem.W.hasDictIn K C && (PySem.W.plainOver K C && (decide (PySem.W.findIn K (.ref C) "__setattr__" = some (some (.builtin "object.__setattr__"))) && (decide (PySem.W.findIn K (.ref C) "__class__" = some (some (.builtin "object.__class__"))) && (decide (PySem.W.specialIn K (.builtin "object.__class__") "__get__" = some (some (.builtin "getset_descriptor.__get__"))) && (decide (PySem.W.takesIn K (.builtin "object.__class__") = some true) && decide (PySem.W.mroIn K C (.type "object") = some true)))))))
end DL

/-! the facts' part of memory, with the default of Hall's path -/
namespace DL
open PySem PySem.Spec PyProof.Rows L2 PySem.W
def KH (g : Addr → Option Obj) (xs : List PySem.Str) : PySem.W.Frag := He.frG g (dfA (He.frG g (asN g xs)) "Hall" "path" :: asN g xs)
def hookH (xs : List PySem.Str) (ex : PySem.W.Frag → Bool) (fa : List He.Fa) (fn : List He.DefD) : PySem.W.Hook where
  α := AlX
  obs := fun s => obsX ex fa fn (KH s.heap.get? xs)
  val := fun _ => (true, He.valD fn)
  says := fun _ h => ∃ K : PySem.W.Frag, K.In h ∧ SaysX ex fa fn K
  of := fun _ _ e => ⟨_, He.frG_in, congrArg Prod.fst e, congrArg Prod.snd e⟩
  keeps := fun _ _ _ ⟨K, hK, c⟩ k => ⟨K, PySem.W.Frag.In.keeps hK k, c⟩
theorem obsH_eq {xs : List PySem.Str} {ex : PySem.W.Frag → Bool} {fa : List He.Fa} {fn : List He.DefD} {g : Addr → Option Obj} {s : Shared} (h : ∀ a, g a = s.heap.get? a) : obsX ex fa fn (KH g xs) = (hookH xs ex fa fn).obs s := by
  have e : g = s.heap.get? := funext h
  rw [e] <;> rfl
end DL

/-! the head's runs, ahead of all else: here the machine has its memory for itself -/
namespace Q21
open PySem PySem.Spec PyProof.Rows L2 DL
def topS (i : Nat) : Stmt := PySem.Challenge.pw_loadhall_k21_halls_and_their_stores.main.body.getD i (.Pass ⟨0, 0, 0, 0⟩)
def clsS (i j : Nat) : Stmt := match topS i with
  | .ClassDef _ _ _ body _ _ _ _ _ _ _ => body.getD j (.Pass ⟨0, 0, 0, 0⟩)
  | s => s
abbrev s_is_part : Stmt := topS 18
abbrev s_check_path : Stmt := topS 132
abbrev s_Lists_init : Stmt := clsS 57 0
abbrev s_Forms_init : Stmt := clsS 47 0
abbrev s_Along_init : Stmt := clsS 42 0
abbrev s_Store_init : Stmt := clsS 56 0
abbrev s_Hall_init : Stmt := clsS 133 0
abbrev s_l_mixed : Stmt := topS 135
abbrev s_l_cell : Stmt := topS 136
abbrev s_l_take : Stmt := topS 137
abbrev s_Hall_store_or_new : Stmt := clsS 133 2
abbrev s_Hall_store : Stmt := clsS 133 3
abbrev s_Store_names : Stmt := clsS 56 5
abbrev s_Hall_told : Stmt := clsS 133 13
abbrev s_Hall_hands : Stmt := clsS 133 18
abbrev s_is_name : Stmt := topS 19
abbrev s_check_name : Stmt := topS 55
abbrev s_Store_entry : Stmt := clsS 56 4
abbrev s_l_stands : Stmt := topS 141
abbrev s_l_text_drawn : Stmt := topS 140
abbrev s_NoBody_init : Stmt := clsS 6 0
abbrev s_Store_put : Stmt := clsS 56 2
abbrev s_Hall_put : Stmt := clsS 133 4
abbrev s_l_part_drawn : Stmt := topS 138
abbrev s_l_name_drawn : Stmt := topS 139
abbrev s_is_number_from : Stmt := topS 40
abbrev s_Hall_tick : Stmt := clsS 133 1
abbrev s_Hall_set_path : Stmt := clsS 133 8
abbrev s_NotFound_init : Stmt := clsS 7 0
abbrev s_Store_take : Stmt := clsS 56 3
abbrev s_Hall_take : Stmt := clsS 133 5
abbrev s_l_deed : Stmt := topS 142
abbrev s_law : Stmt := topS 143
def d_is_part : He.DefD := ⟨("is_part", none), "is_part", "is_part", defArgs s_is_part, defBody s_is_part, defScope s_is_part, [], []⟩
def d_check_path : He.DefD := ⟨("check_path", none), "check_path", "check_path", defArgs s_check_path, defBody s_check_path, defScope s_check_path, [], []⟩
def d_Lists_init : He.DefD := ⟨("Lists", some "__init__"), "__init__", "Lists.__init__", defArgs s_Lists_init, defBody s_Lists_init, defScope s_Lists_init, [], []⟩
def d_Forms_init : He.DefD := ⟨("Forms", some "__init__"), "__init__", "Forms.__init__", defArgs s_Forms_init, defBody s_Forms_init, defScope s_Forms_init, [], [("check", .str "stamp")]⟩
def d_Along_init : He.DefD := ⟨("Along", some "__init__"), "__init__", "Along.__init__", defArgs s_Along_init, defBody s_Along_init, defScope s_Along_init, [], []⟩
def d_Store_init : He.DefD := ⟨("Store", some "__init__"), "__init__", "Store.__init__", defArgs s_Store_init, defBody s_Store_init, defScope s_Store_init, [], []⟩
def d_Hall_init : He.DefD := ⟨("Hall", some "__init__"), "__init__", "Hall.__init__", defArgs s_Hall_init, defBody s_Hall_init, defScope s_Hall_init, [], [("path", .adr fun K => dfA K "Hall" "path"), ("check", .str "stamp")]⟩
def d_l_mixed : He.DefD := ⟨("_law_mixed", none), "_law_mixed", "_law_mixed", defArgs s_l_mixed, defBody s_l_mixed, defScope s_l_mixed, [], []⟩
def d_l_cell : He.DefD := ⟨("_law_cell", none), "_law_cell", "_law_cell", defArgs s_l_cell, defBody s_l_cell, defScope s_l_cell, [], []⟩
def d_l_take : He.DefD := ⟨("_law_take", none), "_law_take", "_law_take", defArgs s_l_take, defBody s_l_take, defScope s_l_take, [], []⟩
def d_Hall_store_or_new : He.DefD := ⟨("Hall", some "store_or_new"), "store_or_new", "Hall.store_or_new", defArgs s_Hall_store_or_new, defBody s_Hall_store_or_new, defScope s_Hall_store_or_new, [], []⟩
def d_Hall_store : He.DefD := ⟨("Hall", some "store"), "store", "Hall.store", defArgs s_Hall_store, defBody s_Hall_store, defScope s_Hall_store, [], []⟩
def d_Store_names : He.DefD := ⟨("Store", some "names"), "names", "Store.names", defArgs s_Store_names, defBody s_Store_names, defScope s_Store_names, [], []⟩
def d_Hall_told : He.DefD := ⟨("Hall", some "told"), "told", "Hall.told", defArgs s_Hall_told, defBody s_Hall_told, defScope s_Hall_told, [], []⟩
def d_Hall_hands : He.DefD := ⟨("Hall", some "hands"), "hands", "Hall.hands", defArgs s_Hall_hands, defBody s_Hall_hands, defScope s_Hall_hands, [], []⟩
def d_is_name : He.DefD := ⟨("is_name", none), "is_name", "is_name", defArgs s_is_name, defBody s_is_name, defScope s_is_name, [], []⟩
def d_check_name : He.DefD := ⟨("check_name", none), "check_name", "check_name", defArgs s_check_name, defBody s_check_name, defScope s_check_name, [], []⟩
def d_Store_entry : He.DefD := ⟨("Store", some "entry"), "entry", "Store.entry", defArgs s_Store_entry, defBody s_Store_entry, defScope s_Store_entry, [], []⟩
def d_l_stands : He.DefD := ⟨("_law_stands", none), "_law_stands", "_law_stands", defArgs s_l_stands, defBody s_l_stands, defScope s_l_stands, [], []⟩
def d_l_text_drawn : He.DefD := ⟨("_law_text_drawn", none), "_law_text_drawn", "_law_text_drawn", defArgs s_l_text_drawn, defBody s_l_text_drawn, defScope s_l_text_drawn, [], []⟩
def d_NoBody_init : He.DefD := ⟨("NoBody", some "__init__"), "__init__", "NoBody.__init__", defArgs s_NoBody_init, defBody s_NoBody_init, defScope s_NoBody_init, [], [("trail", .adr fun K => trA K "NoBody")]⟩
def d_Store_put : He.DefD := ⟨("Store", some "put"), "put", "Store.put", defArgs s_Store_put, defBody s_Store_put, defScope s_Store_put, [], [("pack", .bl false), ("at", .int 0)]⟩
def d_Hall_put : He.DefD := ⟨("Hall", some "put"), "put", "Hall.put", defArgs s_Hall_put, defBody s_Hall_put, defScope s_Hall_put, [], [("pack", .bl false)]⟩
def d_l_part_drawn : He.DefD := ⟨("_law_part_drawn", none), "_law_part_drawn", "_law_part_drawn", defArgs s_l_part_drawn, defBody s_l_part_drawn, defScope s_l_part_drawn, [], []⟩
def d_l_name_drawn : He.DefD := ⟨("_law_name_drawn", none), "_law_name_drawn", "_law_name_drawn", defArgs s_l_name_drawn, defBody s_l_name_drawn, defScope s_l_name_drawn, [], []⟩
def d_is_number_from : He.DefD := ⟨("is_number_from", none), "is_number_from", "is_number_from", defArgs s_is_number_from, defBody s_is_number_from, defScope s_is_number_from, [], []⟩
def d_Hall_tick : He.DefD := ⟨("Hall", some "tick"), "tick", "Hall.tick", defArgs s_Hall_tick, defBody s_Hall_tick, defScope s_Hall_tick, [(.int 1)], []⟩
def d_Hall_set_path : He.DefD := ⟨("Hall", some "set_path"), "set_path", "Hall.set_path", defArgs s_Hall_set_path, defBody s_Hall_set_path, defScope s_Hall_set_path, [], []⟩
def d_NotFound_init : He.DefD := ⟨("NotFound", some "__init__"), "__init__", "NotFound.__init__", defArgs s_NotFound_init, defBody s_NotFound_init, defScope s_NotFound_init, [], [("trail", .adr fun K => trA K "NotFound")]⟩
def d_Store_take : He.DefD := ⟨("Store", some "take"), "take", "Store.take", defArgs s_Store_take, defBody s_Store_take, defScope s_Store_take, [], [("at", .int 0)]⟩
def d_Hall_take : He.DefD := ⟨("Hall", some "take"), "take", "Hall.take", defArgs s_Hall_take, defBody s_Hall_take, defScope s_Hall_take, [], []⟩
def d_l_deed : He.DefD := ⟨("_law_deed", none), "_law_deed", "_law_deed", defArgs s_l_deed, defBody s_l_deed, defScope s_l_deed, [], []⟩
def d_law : He.DefD := ⟨("law", none), "law", "law", defArgs s_law, defBody s_law, defScope s_law, [], []⟩
def fn : List He.DefD := [d_is_part, d_check_path, d_Lists_init, d_Forms_init, d_Along_init, d_Store_init, d_Hall_init, d_l_mixed, d_l_cell, d_l_take, d_Hall_store_or_new, d_Hall_store, d_Store_names, d_Hall_told, d_Hall_hands, d_is_name, d_check_name, d_Store_entry, d_l_stands, d_l_text_drawn, d_NoBody_init, d_Store_put, d_Hall_put, d_l_part_drawn, d_l_name_drawn, d_is_number_from, d_Hall_tick, d_Hall_set_path, d_NotFound_init, d_Store_take, d_Hall_take, d_l_deed, d_law]
def fa : List He.Fa := [.glo "is_part", .glo "check_path", .glo "Lists", .glo "Forms", .glo "Along", .glo "Store", .glo "Hall", .glo "_law_mixed", .glo "_law_cell", .glo "_law_take", .glo "Hall", .glo "Hall", .glo "Store", .glo "Hall", .glo "Hall", .glo "is_name", .glo "check_name", .glo "Store", .glo "_law_stands", .glo "_law_text_drawn", .glo "NoBody", .glo "Store", .glo "Hall", .glo "_law_part_drawn", .glo "_law_name_drawn", .glo "is_number_from", .glo "Hall", .glo "Hall", .glo "NotFound", .glo "Store", .glo "Hall", .glo "_law_deed", .glo "law", .free "LookupError", .free "ValueError", .free "all", .free "bool", .free "int", .free "isinstance", .free "len", .free "range", .free "set", .free "sorted", .free "str", .free "tuple", .int "MOST_LETTERS" 8, .int "MOST_PARTS" 4, .glo "NoLine", .glo "NoName", .glo "NoStore", .glo "Store", .mkr "Lists", .mkr "Forms", .mkr "Along", .mkr "Store", .mkr "Hall", .cls "Hall", .cls "Store", .meth "Hall" "store_or_new", .meth "Hall" "store", .meth "Store" "names", .meth "Hall" "told", .meth "Hall" "hands", .meth "Store" "entry", .meth "Store" "put", .meth "Hall" "put", .meth "Hall" "tick", .meth "Hall" "set_path", .meth "Store" "take", .meth "Hall" "take", .glo "CHECKS"]
def ex (K : PySem.W.Frag) : Bool := (((["NoLine", "NoName", "NoStore"] : List Str).all fun x => errVB K x) && (iniB K "NoBody" "row" "ValueError.__new__" bmVE (trA K "NoBody") && (iniB K "NotFound" "name" "LookupError.__new__" bmLE (trA K "NotFound") && (baseB K "LookupError" "LookupError.__init__" && (baseB K "ValueError" "ValueError.__init__" && (tupB K (dfA K "Hall" "path") [] && tupB K (He.ga K "CHECKS") ["stamp", "sum"])))))) && (clsB K (He.ga K "Hall") "clock" && (clsB K (He.ga K "Hall") "lists" && (clsB K (He.ga K "Hall") "forms" && (clsB K (He.ga K "Hall") "finders" && (clsB K (He.ga K "Hall") "path" && (clsB K (He.ga K "Hall") "log" && (clsB K (He.ga K "Hall") "stores" && (clsB K (He.ga K "Hall") "table" && (clsB K (He.ga K "Hall") "by_hand" && (clsB K (He.ga K "Hall") "marks" && (clsB K (He.ga K "Hall") "texts" && (clsB K (He.ga K "Lists") "by_store" && (clsB K (He.ga K "Forms") "check" && (clsB K (He.ga K "Forms") "made" && (clsB K (He.ga K "Forms") "kept" && (clsB K (He.ga K "Forms") "by_place" && (clsB K (He.ga K "Along") "word" && (clsB K (He.ga K "Store") "name" && (clsB K (He.ga K "Store") "changed" && (clsB K (He.ga K "Store") "entries" && (isoB K (He.ga K "Store") && decide (PySem.W.kitOne K (.ref (He.ga K "Store")) (.ref (He.ga K "Store")) = some true))))))))))))))))))))))
abbrev R : PySem.W.OpenRow := PySem.W.OpenLaw.row PySem.Challenge.rw_loadhall_k21_halls_and_their_stores
def xs : List Str := ["is_part", "check_path", "Lists", "Forms", "Along", "Store", "Hall", "_law_mixed", "_law_cell", "_law_take", "is_name", "check_name", "_law_stands", "_law_text_drawn", "NoBody", "_law_part_drawn", "_law_name_drawn", "is_number_from", "NotFound", "_law_deed", "law", "NoLine", "NoName", "NoStore", "CHECKS", "MOST_LETTERS", "MOST_PARTS"]
abbrev hk : PySem.W.Hook := hookH xs ex fa fn
def ob (s : PySem.W.SharedT) : AlX := obsX ex fa fn (KH (HandSHeadRun.getT s) xs)
theorem ob_eq (s : PySem.W.SharedT) : ob s = hk.obs s.abs := obsH_eq (HandSHeadRun.getT_eq s)
def loose : List Str := (["is_part", "check_path", "_law_mixed", "_law_cell", "_law_take", "is_name", "check_name", "_law_stands", "_law_text_drawn", "_law_part_drawn", "_law_name_drawn", "is_number_from"] : List Str) ++ (["_law_deed", "MOST_LETTERS", "MOST_PARTS", "CHECKS", "NoName", "NoStore", "NoHand", "NoLine", "NoBody", "NotFound", "NotPack", "Lacking"] : List Str) ++ (["Failed", "Lost", "TooDeep", "Stuck", "Along", "Forms", "Module", "Store", "Lists", "Doing", "Row", "Want"] : List Str) ++ (["Hand", "Asleep", "Hall", "_wall", "elder_of", "last_of", "elders", "dots_ahead", "is_near", "near_name", "is_number", "is_sum"] : List Str) ++ (["fits", "is_kind", "is_show", "is_row", "read_rows", "read_body", "entry_of", "worth_text", "ask_finders", "find_known", "read_found", "begin_body"] : List Str) ++ (["begin_anew", "wake", "give_up", "end_body", "look", "reckon_term", "reckon", "set_part", "del_part", "note_sum", "fail_row", "show_parts"] : List Str) ++ (["keep_sum", "first_module", "walk_on", "walk", "load_name", "load_late", "near_in", "parts_asked", "name_beneath", "end_taking", "take_part", "take_from"] : List Str) ++ (["load_again", "drop_name", "look_at", "do_row", "is_taken_beneath", "why_lacking", "doer_at", "awaited", "wants_other_for", "go_to_table", "go_to_elder", "go_behind_elder"] : List Str) ++ (["find_body", "put_off_module", "load_body", "go_behind_other", "go_behind_body", "do_want", "go_on", "why_not", "raise_refusal", "takes_refusal", "refuse", "begin_row"] : List Str) ++ (["is_due", "take_step", "take_all_steps", "MOST_DOTS", "MOST_ROWS", "MOST_TERMS", "MOST_FIGURES", "KINDS", "CHECK", "HALF", "WHOLE", "WAITING"] : List Str) ++ (["MOST_BODIES", "MOST_LOOKS", "LEAST_TOO_LONG", "ACTIONS", "STAGES", "MOST_HANDS", "MOST_HAND_ROWS"] : List Str)

theorem pL_true (w : World) (os : OsState) : (HandSHeadRun.endF (HandSHeadRun.stepQ (HandSHeadRun.denQ HandSHeadRun.tabQ) R.prog (told1 w "special-get-raises" true)) 20000 R.prog (told1 w "special-get-raises" true) os).map (fun s => HandSHeadRun.looksF R.prog (PySem.W.boot_heap (told1 w "special-get-raises" true).params) s.abs) = some true := by
  kernel_rfl
theorem pS_true (w : World) (os : OsState) : (HandSHeadRun.endF (HandSHeadRun.stepQ (HandSHeadRun.denQ HandSHeadRun.tabQ) R.prog (told1 w "special-get-raises" true)) 20000 R.prog (told1 w "special-get-raises" true) os).map (fun s => HandSHeadRun.seenQ (PySem.W.view R.prog [143]) loose (PySem.importedModules R.prog.main.body) (fun s => PySem.W.xlAt (PySem.W.view R.prog [143]) [] s && PySem.W.recOk R.toRowW.records s) s.abs) = some (PySem.W.openGood (PySem.W.view R.prog [143]) loose) := by
  kernel_rfl
theorem pK_true (w : World) (os : OsState) : (HandSHeadRun.endF (HandSHeadRun.stepQ (HandSHeadRun.denQ HandSHeadRun.tabQ) R.prog (told1 w "special-get-raises" true)) 20000 R.prog (told1 w "special-get-raises" true) os).map (fun s => ob s) = some (hk.val (told1 w "special-get-raises" true)) := by
  kernel_rfl
theorem run_true (w : World) : HandSHeadRun.RunEq R (PySem.W.view R.prog [143]) hk ob 20000 loose (told1 w "special-get-raises" true) := run_of3 (pL_true w) (pS_true w) (pK_true w)
theorem pL_false (w : World) (os : OsState) : (HandSHeadRun.endF (HandSHeadRun.stepQ (HandSHeadRun.denQ HandSHeadRun.tabQ) R.prog (told1 w "special-get-raises" false)) 20000 R.prog (told1 w "special-get-raises" false) os).map (fun s => HandSHeadRun.looksF R.prog (PySem.W.boot_heap (told1 w "special-get-raises" false).params) s.abs) = some true := by
  kernel_rfl
theorem pS_false (w : World) (os : OsState) : (HandSHeadRun.endF (HandSHeadRun.stepQ (HandSHeadRun.denQ HandSHeadRun.tabQ) R.prog (told1 w "special-get-raises" false)) 20000 R.prog (told1 w "special-get-raises" false) os).map (fun s => HandSHeadRun.seenQ (PySem.W.view R.prog [143]) loose (PySem.importedModules R.prog.main.body) (fun s => PySem.W.xlAt (PySem.W.view R.prog [143]) [] s && PySem.W.recOk R.toRowW.records s) s.abs) = some (PySem.W.openGood (PySem.W.view R.prog [143]) loose) := by
  kernel_rfl
theorem pK_false (w : World) (os : OsState) : (HandSHeadRun.endF (HandSHeadRun.stepQ (HandSHeadRun.denQ HandSHeadRun.tabQ) R.prog (told1 w "special-get-raises" false)) 20000 R.prog (told1 w "special-get-raises" false) os).map (fun s => ob s) = some (hk.val (told1 w "special-get-raises" false)) := by
  kernel_rfl
theorem run_false (w : World) : HandSHeadRun.RunEq R (PySem.W.view R.prog [143]) hk ob 20000 loose (told1 w "special-get-raises" false) := run_of3 (pL_false w) (pS_false w) (pK_false w)
theorem said : R.wellSaid = true := by
  rw [PySem.W.Fast.te17960256430627541270]
  kernel_rfl
theorem bare : R.prog.bare := ⟨rfl, rfl, rfl, rfl, rfl, by decide +kernel⟩
theorem run (w : World) : HandSHeadRun.RunEq R (PySem.W.view R.prog [143]) hk ob 20000 loose w := by_row "special-get-raises" run_true run_false w
end Q21

/-! an error that was caught and is kept -/
namespace DL
open PySem PySem.Spec PyProof.Rows L2
/-- an error of the class cls, its fields in d, at a: told in the abstract heap -/
def ExK (cls : Value) (d : Option Addr) (a : Addr) : HO := .ext fun h => ∃ (oe : Obj) (vs : Array Value), h.get? a = some oe ∧ Zc cls d oe ∧ oe.data = .fields vs
section
variable {X : Cx} {pins : List (Addr × Obj)} {σ : L2.St} {H : Hp} {s : Shared} {a : Addr} {oe : Obj} {vs : Array Value} {cls : Value} {d : Option Addr}
theorem exK_ok {P : Program} {w : World} {h : Heap} (e : h.get? a = some oe) (z : Zc cls d oe) (hd : oe.data = .fields vs) : ObjOk P w H h a (ExK cls d a) :=
  ⟨⟨oe, vs, e, z, hd⟩, ⟨oe, e⟩, fun _ _ q k => by
    obtain ⟨o, v, q1, q2⟩ := q
    exact ⟨o, v, k o q1, q2⟩⟩
/-- an object that is new since the def began, and that nobody tells of, is told of -/
theorem keepE (I : Inv X pins σ H s) (ha : s.heap.get? a = some oe) (z : Zc cls d oe) (hd : oe.data = .fields vs) (na : H a = none) (nL : a ≠ X.env.locals) (n0 : X.s_0.heap.get? a = none) (np : ∀ p ∈ X.pn ++ pins, p.1 ≠ a) :
    Inv X pins σ (upd H a (ExK cls d a)) s := by
  have ne : ∀ {b : Addr} {u : HO}, H b = some u → b ≠ a := fun {b u} e q => by subst q; rw [na] at e; cases e
  have hb := I.base
  refine { I with base := { hb with free := ?_, tups := ?_, frzs := ?_, tbls := ?_ }, free := ?_, freeC := ?_, pin := ?_, hok := I.hok.laidN (fun _ _ q => q) na (exK_ok ha z hd) }
  · intro b o e n hx
    have : b ≠ a := fun q => by subst q; rw [n0] at e; cases e
    rw [upd_ne this]
    exact hb.free b o e n hx
  · intro b xs e
    have q := hb.tups b xs e
    rw [upd_ne (ne q)]; exact q
  · intro b o u e
    have q := hb.frzs b o u e
    rw [upd_ne (ne q)]; exact q
  · intro b ps e
    obtain ⟨more, q⟩ := hb.tbls b ps e
    exact ⟨more, by rw [upd_ne (ne q)]; exact q⟩
  · rw [upd_ne (Ne.symm nL)]; exact I.free
  · intro y c e
    have : c ≠ a := fun q => by
      subst q
      obtain ⟨v, o, ho, hc⟩ := I.cell y c e
      rw [ha] at ho
      cases ho
      rw [hd] at hc
      cases hc
    rw [upd_ne this]; exact I.freeC y c e
  · intro p hp
    obtain ⟨e, n, r⟩ := I.pin p hp
    exact ⟨e, by rw [upd_ne (np p hp)]; exact n, r⟩
end
end DL

/-! DL: a data layer over readings: every expression denotes a function of plain data -/
namespace DL
open PySem PySem.Spec L2

/-- data: deep and never changed, but for cells (changing objects, by number) -/
inductive D where
  | non | bl (b : Bool) | int (i : Int) | str (x : Str) | lst (xs : List D) | tup (xs : List D) | cell (k : Nat) | scr | ob (v : V) | tk (ks : List Key)
/-- a changing object -/
inductive O where
  | lst (xs : List D) | dK (kvs : List (Key × D)) | dT (kvs : List (List Key × D)) | frK (kvs : List (Key × D)) | frT (kvs : List (List Key × D)) | ins (C : Addr) (fs : List (Str × D)) | exc (cls : Value) (fs : Option (List (Str × D)))
abbrev M := List O
/-- an exception: its class, the fields of its own dict -/
structure X where
  C : Value
  fs : Option (List (Str × D))
structure Amb where
  K : PySem.W.Frag
  sa : Addr
  ns : List Int
/-- the cells by number; addresses that are hidden -/
structure Z where
  as : List Addr
  hs : List Addr
def Z.im (z : Z) (a : Addr) : Prop := a ∉ z.as ∧ a ∉ z.hs
def WrL (K : PySem.W.Frag) (a : Addr) (xs : List V) : Prop :=
  ∃ (o : Obj) (its : Array Value) (n : Nat), K.lookup a = some o ∧ o.cls = .type "list" ∧ o.dict = none ∧ o.data = .seq its n ∧ its.size ≤ sizeLine ∧ Vals xs its.toList
def WrT (K : PySem.W.Frag) (a : Addr) (xs : List V) : Prop :=
  ∃ (o : Obj) (its : Array Value) (n : Nat), K.lookup a = some o ∧ o.cls = .type "tuple" ∧ o.data = .seq its n ∧ its.size ≤ sizeLine ∧ Vals xs its.toList
def ImT (K : PySem.W.Frag) (z : Z) (H : Hp) (a : Addr) (xs : List V) : Prop := (H a = some (.tup xs) ∧ z.im a) ∨ WrT K a xs
def ScL (A : Amb) (z : Z) (H : Hp) : Prop := (Rd H A.sa (.lst (A.ns.map V.int)) ∧ z.im A.sa) ∨ WrL A.K A.sa (A.ns.map V.int)
theorem ImT.sq {K : PySem.W.Frag} {z : Z} {H : Hp} {a : Addr} {xs : List V} (h : ImT K z H a xs) : SqT K H a xs := by
  rcases h with ⟨h, _⟩ | h
  · exact .inl (.inl h)
  · exact .inr h
theorem ScL.sq {A : Amb} {z : Z} {H : Hp} (h : ScL A z H) : SqL A.K H A.sa (A.ns.map V.int) := by
  rcases h with ⟨h, _⟩ | h
  · exact .inl h
  · exact .inr h
mutual
inductive Rep (A : Amb) (z : Z) (H : Hp) : V → D → Prop
  | non : Rep A z H .non .non
  | bl (b : Bool) : Rep A z H (.bl b) (.bl b)
  | int (i : Int) : Rep A z H (.int i) (.int i)
  | str (x : Str) : Rep A z H (.str x) (.str x)
  | lst {a : Addr} {vs : List V} {ds : List D} : H a = some (.lst vs) → z.im a → RepL A z H vs ds → Rep A z H (.ref a) (.lst ds)
  | tup {a : Addr} {vs : List V} {ds : List D} : ImT A.K z H a vs → RepL A z H vs ds → Rep A z H (.ref a) (.tup ds)
  | cell {a : Addr} {k : Nat} : z.as[k]? = some a → Rep A z H (.ref a) (.cell k)
  | scr : ScL A z H → Rep A z H (.ref A.sa) .scr
  | ob (v : V) : Rep A z H v (.ob v)
  | tk {a : Addr} {ks : List Key} : H a = some (.tup (ks.map kV)) → z.im a → Rep A z H (.ref a) (.tk ks)
inductive RepL (A : Amb) (z : Z) (H : Hp) : List V → List D → Prop
  | nil : RepL A z H [] []
  | cons {v : V} {vs : List V} {d : D} {ds : List D} : Rep A z H v d → RepL A z H vs ds → RepL A z H (v :: vs) (d :: ds)
end
/-- named values: the names alike, in order -/
inductive RepF (A : Amb) (z : Z) (H : Hp) {κ : Type} : List (κ × V) → List (κ × D) → Prop
  | nil : RepF A z H [] []
  | cons {k : κ} {v : V} {vs : List (κ × V)} {d : D} {ds : List (κ × D)} : Rep A z H v d → RepF A z H vs ds → RepF A z H ((k, v) :: vs) ((k, d) :: ds)
def RepX (A : Amb) (z : Z) (H : Hp) (d : Option Addr) : Option (List (Str × D)) → Prop
  | none => d = none
  | some fs => ∃ a vs, d = some a ∧ H a = some (.xd vs) ∧ z.im a ∧ RepF A z H vs fs
def RepO (A : Amb) (z : Z) (H : Hp) (a : Addr) : O → Prop
  | .lst ds => ∃ vs, H a = some (.lst vs) ∧ RepL A z H vs ds
  | .dK kvs => ∃ vs, H a = some (.dK vs) ∧ RepF A z H vs kvs
  | .dT kvs => ∃ vs, H a = some (.dT vs) ∧ RepF A z H vs kvs
  | .frK kvs => ∃ od vs, H a = some (.frz od (.dK vs)) ∧ RepF A z H vs kvs
  | .frT kvs => ∃ od vs, H a = some (.frz od (.dT vs)) ∧ RepF A z H vs kvs
  | .ins C fs => ∃ dx vs, H a = some (.ins C dx vs) ∧ RepF A z H vs fs
  | .exc cls fs => ∃ d, H a = some (ExK cls d a) ∧ RepX A z H d fs
/-- what is hidden is there, and no tuple -/
def HidOk (o : Option HO) : Prop := o ≠ none ∧ ∀ ys, o ≠ some (.tup ys)
theorem HidOk.upd {H : Hp} {b p : Addr} {o : HO} (h : HidOk (H b)) (ne : b ≠ p) : HidOk (upd H p o b) := by rw [upd_ne ne]; exact h
structure MOk (A : Amb) (z : Z) (H : Hp) (m : M) : Prop where
  len : z.as.length = m.length
  nd : z.as.Nodup
  hid : ∀ b ∈ z.hs, HidOk (H b)
  apart : ∀ b ∈ z.as, b ∉ z.hs
  at_ : ∀ (k : Nat) a o, z.as[k]? = some a → m[k]? = some o → RepO A z H a o
theorem RepO.ne {A : Amb} {z : Z} {H : Hp} {a : Addr} {o : O} (h : RepO A z H a o) : H a ≠ none := by
  cases o with
  | lst ds => obtain ⟨vs, e, _⟩ := h; rw [e]; simp
  | dK ds => obtain ⟨vs, e, _⟩ := h; rw [e]; simp
  | dT ds => obtain ⟨vs, e, _⟩ := h; rw [e]; simp
  | frK ds => obtain ⟨od, vs, e, _⟩ := h; rw [e]; simp
  | frT ds => obtain ⟨od, vs, e, _⟩ := h; rw [e]; simp
  | ins C ds => obtain ⟨dx, vs, e, _⟩ := h; rw [e]; simp
  | exc cls fs => obtain ⟨d, e, _⟩ := h; rw [e]; simp
theorem MOk.there {A : Amb} {z : Z} {H : Hp} {m : M} (h : MOk A z H m) {b : Addr} (hb : b ∈ z.as) : H b ≠ none := by
  obtain ⟨k, hk, e⟩ := List.mem_iff_getElem.mp hb
  have hk' : k < m.length := by rw [← h.len]; exact hk
  have e1 : z.as[k]? = some b := by rw [List.getElem?_eq_getElem hk, e]
  exact (h.at_ k b m[k] e1 (List.getElem?_eq_getElem hk')).ne
theorem MOk.fresh {A : Amb} {z : Z} {H : Hp} {m : M} (h : MOk A z H m) {p : Addr} (hp : H p = none) : z.im p :=
  ⟨fun hb => h.there hb hp, fun hb => (h.hid p hb).1 hp⟩
theorem nofr {H : Hp} {a : Addr} {o : HO} (h : H a = some o) (hf : ∀ od u, o ≠ .frz od u := by intro _ _ e; cases e) : ∀ od u, H a ≠ some (.frz od u) := fun od u e => hf od u (Option.some.inj (h.symm.trans e))
/-- what evaluation may do: cells may come and change, all else stays -/
structure Step (z : Z) (H : Hp) (z' : Z) (H' : Hp) : Prop where
  hs : z'.hs = z.hs
  new : ∃ n, z'.as = z.as ++ n ∧ ∀ b ∈ n, H b = none
  kp : ∀ b o, H b = some o → b ∉ z.as → H' b = some o
  al : ∀ b, H b ≠ none → H' b ≠ none
  fz : ∀ b od u, H b = some (.frz od u) → H' b = some (.frz od u)
section
variable {A : Amb} {z z' z1 z2 : Z} {H H' H1 H2 : Hp}
theorem Step.refl : Step z H z H := ⟨rfl, ⟨[], by simp, by simp⟩, fun _ _ h _ => h, fun _ h => h, fun _ _ _ h => h⟩
theorem Step.trans (a : Step z H z1 H1) (b : Step z1 H1 z2 H2) : Step z H z2 H2 := by
  obtain ⟨n, e, hn⟩ := a.new
  obtain ⟨n', e', hn'⟩ := b.new
  refine ⟨b.hs.trans a.hs, ⟨n ++ n', by rw [e', e, List.append_assoc], fun c hc => ?_⟩, fun c o h hc => ?_, fun c h => b.al c (a.al c h), fun c od u h => b.fz c od u (a.fz c od u h)⟩
  · rcases List.mem_append.mp hc with hc | hc
    · exact hn c hc
    · cases q : H c with
      | none => rfl
      | some o => exact absurd (hn' c hc) (a.al c (by rw [q]; simp))
  · refine b.kp c o (a.kp c o h hc) ?_
    rw [e]
    intro hm
    rcases List.mem_append.mp hm with hm | hm
    · exact hc hm
    · rw [hn c hm] at h; cases h
theorem Step.im (a : Step z H z' H') {b : Addr} {o : HO} (h : H b = some o) (hb : z.im b) : z'.im b := by
  obtain ⟨n, e, hn⟩ := a.new
  refine ⟨fun hm => ?_, by rw [a.hs]; exact hb.2⟩
  rw [e] at hm
  rcases List.mem_append.mp hm with hm | hm
  · exact hb.1 hm
  · rw [hn b hm] at h; cases h
theorem Step.keep (a : Step z H z' H') {b : Addr} {o : HO} (h : H b = some o) (hb : z.im b) : H' b = some o := a.kp b o h hb.1
theorem Step.cell (a : Step z H z' H') {k : Nat} {b : Addr} (h : z.as[k]? = some b) : z'.as[k]? = some b := by
  obtain ⟨n, e, _⟩ := a.new
  have hk := (List.getElem?_eq_some_iff.mp h).1
  rw [e, List.getElem?_append_left hk]
  exact h
theorem Step.imT {xs : List V} {b : Addr} (a : Step z H z' H') (h : ImT A.K z H b xs) : ImT A.K z' H' b xs := by
  rcases h with ⟨h, i⟩ | h
  · exact .inl ⟨a.keep h i, a.im h i⟩
  · exact .inr h
theorem Step.scL (a : Step z H z' H') (h : ScL A z H) : ScL A z' H' := by
  rcases h with ⟨h | ⟨o, h⟩, i⟩ | h
  · exact .inl ⟨.inl (a.keep h i), a.im h i⟩
  · exact .inl ⟨.inr ⟨o, a.keep h i⟩, a.im h i⟩
  · exact .inr h
mutual
theorem Rep.step (s : Step z H z' H') : ∀ {v : V} {d : D}, Rep A z H v d → Rep A z' H' v d
  | _, _, .non => .non
  | _, _, .bl b => .bl b
  | _, _, .int i => .int i
  | _, _, .str x => .str x
  | _, _, .lst h i r => .lst (s.keep h i) (s.im h i) (RepL.step s r)
  | _, _, .tup h r => .tup (s.imT h) (RepL.step s r)
  | _, _, .cell h => .cell (s.cell h)
  | _, _, .scr h => .scr (s.scL h)
  | _, _, .ob v => .ob v
  | _, _, .tk h i => .tk (s.keep h i) (s.im h i)
theorem RepL.step (s : Step z H z' H') : ∀ {vs : List V} {ds : List D}, RepL A z H vs ds → RepL A z' H' vs ds
  | _, _, .nil => .nil
  | _, _, .cons h r => .cons (Rep.step s h) (RepL.step s r)
end
theorem RepF.step {κ : Type} (s : Step z H z' H') : ∀ {vs : List (κ × V)} {ds : List (κ × D)}, RepF A z H vs ds → RepF A z' H' vs ds
  | _, _, .nil => .nil
  | _, _, .cons h r => .cons (Rep.step s h) (RepF.step s r)
theorem RepX.step {d : Option Addr} {o : Option (List (Str × D))} (s : Step z H z' H') (h : RepX A z H d o) : RepX A z' H' d o := by
  cases o with
  | none => exact h
  | some fs =>
    obtain ⟨a, vs, e, h1, i, r⟩ := h
    exact ⟨a, vs, e, s.keep h1 i, s.im h1 i, r.step s⟩
/-- a new object is laid -/
theorem Step.lay {m : M} {p : Addr} {o : HO} (h : MOk A z H m) (hp : H p = none) : Step z H z (upd H p o) := by
  refine ⟨rfl, ⟨[], by simp, by simp⟩, fun b u e _ => ?_, fun b e => ?_, fun b od u e => by rw [upd_ne (ne_of_none e hp)]; exact e⟩
  · rw [upd_ne (ne_of_none e hp)]; exact e
  · by_cases q : b = p
    · subst q; exact absurd hp e
    · rw [upd_ne q]; exact e
theorem RepO.step_ne {a : Addr} {o : O} (s : Step z H z' H') (e : ∀ u, H a = some u → H' a = some u) (h : RepO A z H a o) : RepO A z' H' a o := by
  cases o with
  | lst ds => obtain ⟨vs, e1, r⟩ := h; exact ⟨vs, e _ e1, r.step s⟩
  | dK ds => obtain ⟨vs, e1, r⟩ := h; exact ⟨vs, e _ e1, r.step s⟩
  | dT ds => obtain ⟨vs, e1, r⟩ := h; exact ⟨vs, e _ e1, r.step s⟩
  | frK ds => obtain ⟨od, vs, e1, r⟩ := h; exact ⟨od, vs, e _ e1, r.step s⟩
  | frT ds => obtain ⟨od, vs, e1, r⟩ := h; exact ⟨od, vs, e _ e1, r.step s⟩
  | ins C ds => obtain ⟨dx, vs, e1, r⟩ := h; exact ⟨dx, vs, e _ e1, r.step s⟩
  | exc cls fs => obtain ⟨d, e1, r⟩ := h; exact ⟨d, e _ e1, r.step s⟩
theorem MOk.lay {m : M} {p : Addr} {o : HO} (h : MOk A z H m) (hp : H p = none) : MOk A z (upd H p o) m := by
  have s : Step z H z (upd H p o) := Step.lay h hp
  refine ⟨h.len, h.nd, fun b hb => (h.hid b hb).upd fun e => (h.hid b hb).1 (by rw [e]; exact hp), h.apart, fun k a u e1 e2 => (h.at_ k a u e1 e2).step_ne s fun w hw => ?_⟩
  rw [upd_ne (ne_of_none hw hp)]
  exact hw
/-- a new cell -/
theorem Step.newCell {m : M} {p : Addr} {o : HO} (h : MOk A z H m) (hp : H p = none) : Step z H ⟨z.as ++ [p], z.hs⟩ (upd H p o) := by
  have s : Step z H z (upd H p o) := Step.lay h hp
  exact ⟨rfl, ⟨[p], rfl, fun b hb => by rw [List.mem_singleton.mp hb]; exact hp⟩, s.kp, s.al, s.fz⟩
theorem MOk.newCell {m : M} {p : Addr} {o : HO} {u : O} (h : MOk A z H m) (hp : H p = none) (hu : RepO A ⟨z.as ++ [p], z.hs⟩ (upd H p o) p u) : MOk A ⟨z.as ++ [p], z.hs⟩ (upd H p o) (m ++ [u]) := by
  have s : Step z H ⟨z.as ++ [p], z.hs⟩ (upd H p o) := Step.newCell h hp
  have i := h.fresh hp
  refine ⟨by simp [h.len], ?_, fun b hb => (h.hid b hb).upd fun e => (h.hid b hb).1 (by rw [e]; exact hp), fun b hb => ?_, fun k a w e1 e2 => ?_⟩
  · rw [List.nodup_append]
    refine ⟨h.nd, by simp, fun a ha b hb => ?_⟩
    rw [List.mem_singleton.mp hb]
    rintro rfl
    exact i.1 ha
  · rcases List.mem_append.mp hb with hb | hb
    · exact h.apart b hb
    · rw [List.mem_singleton.mp hb]; exact i.2
  · by_cases hk : k < z.as.length
    · have e1' : z.as[k]? = some a := by
        have e1 : (z.as ++ [p])[k]? = some a := e1
        rw [List.getElem?_append_left hk] at e1; exact e1
      have e2' : m[k]? = some w := by rw [List.getElem?_append_left (by rw [← h.len]; exact hk)] at e2; exact e2
      refine (h.at_ k a w e1' e2').step_ne s fun x hx => ?_
      rw [upd_ne (ne_of_none hx hp)]
      exact hx
    · have hk1 : k = z.as.length := by
        have e1 : (z.as ++ [p])[k]? = some a := e1
        have := (List.getElem?_eq_some_iff.mp e1).1
        simp at this
        omega
      subst hk1
      have ea : a = p := by
        have e1 : (z.as ++ [p])[z.as.length]? = some a := e1
        simp at e1; exact e1.symm
      have ew : w = u := by
        rw [h.len] at e2
        simp at e2; exact e2.symm
      subst ea ew
      exact hu
/-- a cell's object changes -/
theorem Step.put {m : M} {k : Nat} {p : Addr} {o : HO} (h : MOk A z H m) (hk : z.as[k]? = some p) (hn : ∀ od u, H p ≠ some (.frz od u)) : Step z H z (upd H p o) := by
  have hm : p ∈ z.as := List.mem_of_getElem? hk
  refine ⟨rfl, ⟨[], by simp, by simp⟩, fun b u e hb => ?_, fun b e => ?_, fun b od u e => by rw [upd_ne (fun q => hn od u (by rw [← q]; exact e))]; exact e⟩
  · rw [upd_ne (by rintro rfl; exact hb hm)]; exact e
  · by_cases q : b = p
    · subst q; rw [upd_same]; simp
    · rw [upd_ne q]; exact e
theorem MOk.put {m : M} {k : Nat} {p : Addr} {o : HO} {u : O} (h : MOk A z H m) (hk : z.as[k]? = some p) (hu : RepO A z (upd H p o) p u) (hn : ∀ od u, H p ≠ some (.frz od u)) : MOk A z (upd H p o) (m.set k u) := by
  have s : Step z H z (upd H p o) := Step.put h hk hn
  refine ⟨by rw [List.length_set]; exact h.len, h.nd, fun b hb => (h.hid b hb).upd fun e => h.apart p (List.mem_of_getElem? hk) (by rw [← e]; exact hb), h.apart, fun j a w e1 e2 => ?_⟩
  by_cases e : j = k
  · subst e
    rw [hk] at e1; cases e1
    have hj : j < m.length := by rw [← h.len]; exact (List.getElem?_eq_some_iff.mp hk).1
    rw [List.getElem?_set_self hj] at e2
    cases e2
    exact hu
  · rw [List.getElem?_set_ne (fun q => e q.symm)] at e2
    refine (h.at_ j a w e1 e2).step_ne s fun x hx => ?_
    have ne : a ≠ p := by
      rintro rfl
      have i1 := (List.getElem?_eq_some_iff.mp e1)
      have i2 := (List.getElem?_eq_some_iff.mp hk)
      obtain ⟨h1, q1⟩ := i1
      obtain ⟨h2, q2⟩ := i2
      rcases Nat.lt_or_gt_of_ne e with lt | lt
      · exact List.pairwise_iff_getElem.mp h.nd j k h1 h2 lt (q1.trans q2.symm)
      · exact List.pairwise_iff_getElem.mp h.nd k j h2 h1 lt (q2.trans q1.symm)
    rw [upd_ne ne]
    exact hx
end

/-! ### what evaluation comes to -/
inductive R (α : Type) where
  | ok (a : α) (m : M) | ex (x : X) (m : M) | no
def R.bind {α β : Type} (r : R α) (k : α → M → R β) : R β := match r with
  | .ok a m => k a m
  | .ex x m => .ex x m
  | .no => .no
@[simp] theorem R.bind_ok {α β : Type} (a : α) (m : M) (k : α → M → R β) : (R.ok a m).bind k = k a m := rfl
@[simp] theorem R.bind_ex {α β : Type} (x : X) (m : M) (k : α → M → R β) : (R.ex x m).bind k = .ex x m := rfl
@[simp] theorem R.bind_no {α β : Type} (k : α → M → R β) : (R.no : R α).bind k = .no := rfl
abbrev Env := List (Option D)
def Sl (A : Amb) (z : Z) (H : Hp) (σ : St) (env : Env) : Prop := env.length = σ.length ∧ ∀ (i : Nat) d, env[i]? = some (some d) → ∃ v, σ[i]? = some (some v) ∧ Rep A z H v d
def PostG {α β : Type} (A : Amb) (rp : Z → Hp → β → α → Prop) (W : XK) (z : Z) (H : Hp) (r : R α) (Q : β → Hp → Prop) : Prop := match r with
  | .ok d m => ∀ z' v H', Step z H z' H' → MOk A z' H' m → rp z' H' v d → Q v H'
  | .ex x m => ∀ z' d H', Step z H z' H' → MOk A z' H' m → RepX A z' H' d x.fs → W x.C d H'
  | .no => False
abbrev PostE (A : Amb) := PostG A (Rep A)
abbrev PostT (A : Amb) := PostG A (fun _ _ (v : Bool) (d : Bool) => v = d)
abbrev PostA (A : Amb) := PostG A (RepL A)
def Den (A : Amb) (W : St → XK) (t : TE) (f : Env → M → R D) : Prop := ∀ z H σ env m Q, MOk A z H m → Sl A z H σ env → PostE A (W σ) z H (f env m) Q → t σ H Q
def DenT (A : Amb) (W : St → XK) (t : TT) (f : Env → M → R Bool) : Prop := ∀ z H σ env m Q, MOk A z H m → Sl A z H σ env → PostT A (W σ) z H (f env m) Q → t σ H Q
def DenA (A : Amb) (W : St → XK) (t : TA) (f : Env → M → R (List D)) : Prop := ∀ z H σ env m Q, MOk A z H m → Sl A z H σ env → PostA A (W σ) z H (f env m) Q → t σ H Q
section
variable {A : Amb} {z z' z1 z2 : Z} {H H' H1 H2 : Hp} {α β : Type} {rp : Z → Hp → β → α → Prop} {W : XK} {r : R α} {Q : β → Hp → Prop}
theorem PostG.step (s : Step z H z1 H1) (h : PostG A rp W z H r Q) : PostG A rp W z1 H1 r Q := by
  cases r with
  | ok d m => exact fun z' v H' s' => h z' v H' (s.trans s')
  | ex x m => exact fun z' v H' s' => h z' v H' (s.trans s')
  | no => exact h
theorem Sl.step {σ : St} {env : Env} (s : Step z H z' H') (h : Sl A z H σ env) : Sl A z' H' σ env := ⟨h.1, fun i d e => by
  obtain ⟨v, h1, h2⟩ := h.2 i d e
  exact ⟨v, h1, h2.step s⟩⟩
theorem PostG.ok_at {d : α} {m : M} (h : PostG A rp W z H (.ok d m) Q) (hm : MOk A z H m) {v : β} (hv : rp z H v d) : Q v H := h z v H Step.refl hm hv
/-- two stages -/
theorem post_bind {γ δ : Type} {rq : Z → Hp → δ → γ → Prop} {f : R γ} {g : γ → M → R α} {P : δ → Hp → Prop} (h : PostG A rp W z H (f.bind g) Q)
    (k : ∀ z1 H1 d m v, Step z H z1 H1 → MOk A z1 H1 m → rq z1 H1 v d → PostG A rp W z1 H1 (g d m) Q → P v H1) : PostG A rq W z H f P := by
  cases f with
  | ok d m => exact fun z' v H' s hm hv => k z' H' d m v s hm hv (PostG.step s h)
  | ex x m => exact h
  | no => exact h
end
section
variable {A : Amb} {W : St → XK} {ta tb te : TE} {tc tr : TA} {tt tu : TT} {fa fb : Env → M → R D} {ft fu : Env → M → R Bool} {fr : Env → M → R (List D)}
/-! ### names, constants, operations -/
def eVar (i : Nat) : Env → M → R D := fun env m => match env[i]? with
  | some (some d) => .ok d m
  | _ => .no
def eC (d : D) : Env → M → R D := fun _ m => .ok d m
theorem den_var {i : Nat} : Den A W (tVar i) (eVar i) := by
  intro z H σ env m Q hm hs h
  unfold eVar at h
  split at h
  · rename_i d e
    obtain ⟨v, h1, h2⟩ := hs.2 i d e
    exact ⟨v, h1, h.ok_at hm h2⟩
  · exact h.elim
theorem den_non : Den A W (tC .non) (eC .non) := fun z H σ env m Q hm hs h => h.ok_at hm .non
theorem den_bl {b : Bool} : Den A W (tC (.bl b)) (eC (.bl b)) := fun z H σ env m Q hm hs h => h.ok_at hm (.bl b)
theorem den_int {i : Int} : Den A W (tC (.int i)) (eC (.int i)) := fun z H σ env m Q hm hs h => h.ok_at hm (.int i)
theorem den_str {x : Str} : Den A W (tC (.str x)) (eC (.str x)) := fun z H σ env m Q hm hs h => h.ok_at hm (.str x)
theorem den_ob {v : V} : Den A W (tC v) (eC (.ob v)) := fun z H σ env m Q hm hs h => h.ok_at hm (.ob v)
/-- an operation on values, by data -/
def OpD (A : Amb) (r : R2) (g : D → D → M → R D) : Prop := ∀ z H m x y dx dy W Q, MOk A z H m → Rep A z H x dx → Rep A z H y dy → PostE A W z H (g dx dy m) Q → r x y H Q
def UnD (A : Amb) (r : V → Hp → VK → Prop) (g : D → M → R D) : Prop := ∀ z H m x dx W Q, MOk A z H m → Rep A z H x dx → PostE A W z H (g dx m) Q → r x H Q
def CallD (A : Amb) (r : List V → Hp → VK → Prop) (g : List D → M → R D) : Prop := ∀ z H m xs ds W Q, MOk A z H m → RepL A z H xs ds → PostE A W z H (g ds m) Q → r xs H Q
def MtD (A : Amb) (r : V → List V → Hp → VK → Prop) (g : D → List D → M → R D) : Prop := ∀ z H m x xs d ds W Q, MOk A z H m → Rep A z H x d → RepL A z H xs ds → PostE A W z H (g d ds m) Q → r x xs H Q
def eOp (g : D → D → M → R D) (fa fb : Env → M → R D) : Env → M → R D := fun env m => (fa env m).bind fun x m => (fb env m).bind fun y m => g x y m
def eUn (g : D → M → R D) (fa : Env → M → R D) : Env → M → R D := fun env m => (fa env m).bind fun x m => g x m
theorem den_op {r : R2} {g : D → D → M → R D} (hr : OpD A r g) (ha : Den A W ta fa) (hb : Den A W tb fb) : Den A W (tOp r ta tb) (eOp g fa fb) := by
  intro z H σ env m Q hm hs h
  refine ha z H σ env m _ hm hs (post_bind h fun z1 H1 d m1 v s1 hm1 hv h1 => ?_)
  refine hb z1 H1 σ env m1 _ hm1 (hs.step s1) (post_bind h1 fun z2 H2 e m2 w s2 hm2 hw h2 => ?_)
  exact hr z2 H2 m2 v w d e _ Q hm2 (hv.step s2) hw h2
theorem den_un {r : V → Hp → VK → Prop} {g : D → M → R D} (hr : UnD A r g) (ha : Den A W ta fa) : Den A W (tUn r ta) (eUn g fa) := by
  intro z H σ env m Q hm hs h
  refine ha z H σ env m _ hm hs (post_bind h fun z1 H1 d m1 v s1 hm1 hv h1 => ?_)
  exact hr z1 H1 m1 v d _ Q hm1 hv h1
def aNil : Env → M → R (List D) := fun _ m => .ok [] m
def aCons (fa : Env → M → R D) (fr : Env → M → R (List D)) : Env → M → R (List D) := fun env m => (fa env m).bind fun x m => (fr env m).bind fun xs m => .ok (x :: xs) m
theorem dena_nil : DenA A W tNil aNil := fun z H σ env m Q hm hs h => h.ok_at hm .nil
theorem dena_cons (ha : Den A W ta fa) (hr : DenA A W tr fr) : DenA A W (tCons ta tr) (aCons fa fr) := by
  intro z H σ env m Q hm hs h
  refine ha z H σ env m _ hm hs (post_bind h fun z1 H1 d m1 v s1 hm1 hv h1 => ?_)
  refine hr z1 H1 σ env m1 _ hm1 (hs.step s1) (post_bind h1 fun z2 H2 e m2 w s2 hm2 hw h2 => ?_)
  exact h2.ok_at hm2 (.cons (hv.step s2) hw)
def eCall (g : List D → M → R D) (fr : Env → M → R (List D)) : Env → M → R D := fun env m => (fr env m).bind fun ds m => g ds m
theorem den_cb {r : List V → Hp → VK → Prop} {g : List D → M → R D} (hr : CallD A r g) (ha : DenA A W tr fr) : Den A W (tCB r tr) (eCall g fr) := by
  intro z H σ env m Q hm hs h
  refine ha z H σ env m _ hm hs (post_bind h fun z1 H1 d m1 v s1 hm1 hv h1 => ?_)
  exact hr z1 H1 m1 v d _ Q hm1 hv h1
/-- a method of a built-in type T; the receiver's kind is known by isT -/
def eMt (isT : D → M → Bool) (g : D → List D → M → R D) (fa : Env → M → R D) (fr : Env → M → R (List D)) : Env → M → R D := fun env m => (fa env m).bind fun x m => if isT x m = true then (fr env m).bind fun ds m => g x ds m else .no
def TyD (A : Amb) (T : String) (isT : D → M → Bool) : Prop := ∀ z H m x d, MOk A z H m → Rep A z H x d → isT d m = true → tyV A.K T x H
theorem den_bm {T : String} {isT : D → M → Bool} {r : V → List V → Hp → VK → Prop} {g : D → List D → M → R D} (ht : TyD A T isT) (hr : MtD A r g) (ha : Den A W ta fa) (hb : DenA A W tr fr) : Den A W (tBM A.K T r ta tr) (eMt isT g fa fr) := by
  intro z H σ env m Q hm hs h
  refine ha z H σ env m _ hm hs (post_bind h fun z1 H1 d m1 v s1 hm1 hv h1 => ?_)
  split at h1
  · rename_i hT
    refine ⟨ht z1 H1 m1 v d hm1 hv hT, ?_⟩
    refine hb z1 H1 σ env m1 _ hm1 (hs.step s1) (post_bind h1 fun z2 H2 e m2 w s2 hm2 hw h2 => ?_)
    exact hr z2 H2 m2 v w d e _ Q hm2 (hv.step s2) hw h2
  · exact h1.elim
theorem den_bm0 {T : String} {isT : D → M → Bool} {r : V → List V → Hp → VK → Prop} {g : D → List D → M → R D} (ht : TyD A T isT) (hr : MtD A r g) (ha : Den A W ta fa) : Den A W (tBM0 A.K T r ta) (eMt isT g fa aNil) := by
  intro z H σ env m Q hm hs h
  refine ha z H σ env m _ hm hs (post_bind h fun z1 H1 d m1 v s1 hm1 hv h1 => ?_)
  split at h1
  · rename_i hT
    exact ⟨ht z1 H1 m1 v d hm1 hv hT, hr z1 H1 m1 v [] d [] _ Q hm1 hv .nil h1⟩
  · exact h1.elim
/-- a display -/
theorem RepL.length {z : Z} {H : Hp} : ∀ {vs : List V} {ds : List D}, RepL A z H vs ds → vs.length = ds.length
  | _, _, .nil => rfl
  | _, _, .cons _ r => by rw [List.length_cons, List.length_cons, RepL.length r]
def mkL (ds : List D) (m : M) : R D := if ds.length ≤ sizeLine then .ok (.lst ds) m else .no
def mkC (ds : List D) (m : M) : R D := if ds.length ≤ sizeLine then .ok (.cell m.length) (m ++ [.lst ds]) else .no
def mkT (ds : List D) (m : M) : R D := if ds.length ≤ sizeLine then .ok (.tup ds) m else .no
/-- a new list at p -/
theorem lay_lst {z : Z} {H : Hp} {m : M} {xs : List V} {ds : List D} {W : XK} {Q : VK} (hm : MOk A z H m) (hv : RepL A z H xs ds) (h : PostE A W z H (.ok (.lst ds) m) Q) : ∀ p, H p = none → Q (.ref p) (upd H p (.lst xs)) := fun p hp =>
  have s : Step z H z (upd H p (.lst xs)) := Step.lay hm hp
  h z _ _ s (hm.lay hp) (.lst upd_same (hm.fresh hp) (hv.step s))
theorem lay_cell {z : Z} {H : Hp} {m : M} {xs : List V} {ds : List D} {W : XK} {Q : VK} (hm : MOk A z H m) (hv : RepL A z H xs ds) (h : PostE A W z H (.ok (.cell m.length) (m ++ [.lst ds])) Q) : ∀ p, H p = none → Q (.ref p) (upd H p (.lst xs)) := fun p hp =>
  have s : Step z H ⟨z.as ++ [p], z.hs⟩ (upd H p (.lst xs)) := Step.newCell hm hp
  h _ _ _ s (hm.newCell hp ⟨xs, upd_same, hv.step s⟩) (.cell (by
    show (z.as ++ [p])[m.length]? = some p
    rw [← hm.len]
    simp))
theorem lay_tup {z : Z} {H : Hp} {m : M} {xs : List V} {ds : List D} {W : XK} {Q : VK} (hm : MOk A z H m) (hv : RepL A z H xs ds) (h : PostE A W z H (.ok (.tup ds) m) Q) : ∀ p, H p = none → Q (.ref p) (upd H p (.tup xs)) := fun p hp =>
  have s : Step z H z (upd H p (.tup xs)) := Step.lay hm hp
  h z _ _ s (hm.lay hp) (.tup (.inl ⟨upd_same, hm.fresh hp⟩) (hv.step s))
theorem post_if {z : Z} {H : Hp} {W : XK} {Q : VK} {c : Prop} [Decidable c] {r : R D} (h : PostE A W z H (if c then r else .no) Q) : c ∧ PostE A W z H r Q := by
  by_cases hc : c
  · rw [if_pos hc] at h; exact ⟨hc, h⟩
  · rw [if_neg hc] at h; exact h.elim
theorem den_lst (hr : DenA A W tr fr) : Den A W (tLst tr) (eCall mkL fr) := by
  intro z H σ env m Q hm hs h
  refine hr z H σ env m _ hm hs (post_bind h fun z1 H1 d m1 v s1 hm1 hv h1 => ?_)
  obtain ⟨hl, h1⟩ := post_if h1
  exact ⟨by rw [hv.length]; exact hl, lay_lst hm1 hv h1⟩
theorem den_cel (hr : DenA A W tr fr) : Den A W (tLst tr) (eCall mkC fr) := by
  intro z H σ env m Q hm hs h
  refine hr z H σ env m _ hm hs (post_bind h fun z1 H1 d m1 v s1 hm1 hv h1 => ?_)
  obtain ⟨hl, h1⟩ := post_if h1
  exact ⟨by rw [hv.length]; exact hl, lay_cell hm1 hv h1⟩
theorem den_tup (hr : DenA A W tr fr) : Den A W (tTup tr) (eCall mkT fr) := by
  intro z H σ env m Q hm hs h
  refine hr z H σ env m _ hm hs (post_bind h fun z1 H1 d m1 v s1 hm1 hv h1 => ?_)
  obtain ⟨hl, h1⟩ := post_if h1
  exact ⟨by rw [hv.length]; exact hl, lay_tup hm1 hv h1⟩
end
end DL

namespace DL
open PySem PySem.Spec L2
section
variable {A : Amb} {W : St → XK} {ta tb te : TE} {tc tr : TA} {tt tu : TT} {fa fb fe : Env → M → R D} {ft fu : Env → M → R Bool} {fr : Env → M → R (List D)}
/-! ### tests -/
def truD : D → M → Option Bool
  | .non, _ => some false
  | .bl b, _ => some b
  | .int i, _ => some (i != 0)
  | .str x, _ => if x.length ≤ sizeLine then some ((x.length : Int) != 0) else none
  | .lst ds, _ => some (!ds.isEmpty)
  | .tup ds, _ => some (!ds.isEmpty)
  | .cell k, m => match m[k]? with
    | some (.lst ds) => some (!ds.isEmpty)
    | some (.dK kvs) => some (!kvs.isEmpty)
    | _ => none
  | _, _ => none
theorem RepL.isEmpty {z : Z} {H : Hp} {vs : List V} {ds : List D} (h : RepL A z H vs ds) : vs.isEmpty = ds.isEmpty := by cases h <;> rfl
theorem RepF.isEmpty {κ : Type} {z : Z} {H : Hp} {vs : List (κ × V)} {ds : List (κ × D)} (h : RepF A z H vs ds) : vs.isEmpty = ds.isEmpty := by cases h <;> rfl
theorem tru_ok' {z : Z} {H : Hp} {m : M} {v : V} {d : D} {k : Bool} (hm : MOk A z H m) (h : Rep A z H v d) (e : truD d m = some k) : TruV A.K v H k := by
  cases h with
  | non => injection e with e; exact e.symm
  | bl b => injection e with e; exact e.symm
  | int i => injection e with e; exact e.symm
  | str x =>
    have e : (if x.length ≤ sizeLine then some ((x.length : Int) != 0) else none) = some k := e
    by_cases hl : x.length ≤ sizeLine
    · rw [if_pos hl] at e
      injection e with e
      exact ⟨hl, e.symm⟩
    · rw [if_neg hl] at e; cases e
  | lst h1 i r =>
    injection e with e
    exact .inl ⟨_, SqL.of h1, by rw [r.isEmpty, e]⟩
  | tup h1 r =>
    injection e with e
    exact .inr (.inl ⟨_, h1.sq, by rw [r.isEmpty, e]⟩)
  | @cell a j h1 =>
    have e : (match m[j]? with
      | some (.lst ds) => some (!ds.isEmpty)
      | some (.dK kvs) => some (!kvs.isEmpty)
      | _ => none) = some k := e
    cases q : m[j]? with
    | none => rw [q] at e; cases e
    | some o =>
      rw [q] at e
      have ho := hm.at_ j a o h1 q
      cases o with
      | lst ds =>
        injection e with e
        obtain ⟨vs, e1, r⟩ := ho
        exact .inl ⟨_, SqL.of e1, by rw [r.isEmpty, e]⟩
      | dK kvs =>
        injection e with e
        obtain ⟨vs, e1, r⟩ := ho
        exact .inr (.inr ⟨_, e1, by rw [r.isEmpty, e]⟩)
      | dT _ => cases e
      | frK _ => cases e
      | frT _ => cases e
      | ins C fs => cases e
      | exc _ _ => cases e
  | scr h1 => cases e
  | ob v => cases e
  | tk _ _ => cases e
def asBl : D → M → R Bool
  | .bl b, m => .ok b m
  | _, _ => .no
def asTru (d : D) (m : M) : R Bool := match truD d m with
  | some b => .ok b m
  | none => .no
def eTest (f : D → M → R Bool) (fa : Env → M → R D) : Env → M → R Bool := fun env m => (fa env m).bind f
theorem asBl_ok {z : Z} {H : Hp} {d : D} {m : M} {v : V} {W : XK} {Q : Bool → Hp → Prop} (hm : MOk A z H m) (hv : Rep A z H v d) (h : PostT A W z H (asBl d m) Q) : ∃ k, v = .bl k ∧ Q k H := by
  cases d with
  | bl b => cases hv; exact ⟨b, rfl, h.ok_at hm rfl⟩
  | _ => exact h.elim
theorem dent_test (ha : Den A W ta fa) : DenT A W (tTest ta) (eTest asBl fa) := by
  intro z H σ env m Q hm hs h
  exact ha z H σ env m _ hm hs (post_bind h fun z1 H1 d m1 v s1 hm1 hv h1 => asBl_ok hm1 hv h1)
theorem dent_B (ha : Den A W ta fa) : DenT A W (tB ta) (eTest asBl fa) := by
  intro z H σ env m Q hm hs h
  exact ha z H σ env m _ hm hs (post_bind h fun z1 H1 d m1 v s1 hm1 hv h1 => asBl_ok hm1 hv h1)
theorem asTru_ok {z : Z} {H : Hp} {d : D} {m : M} {v : V} {W : XK} {Q : Bool → Hp → Prop} (hm : MOk A z H m) (hv : Rep A z H v d) (h : PostT A W z H (asTru d m) Q) : ∃ k, TruV A.K v H k ∧ Q k H := by
  unfold asTru at h
  cases e : truD d m with
  | none => rw [e] at h; exact h.elim
  | some b => rw [e] at h; exact ⟨b, tru_ok' hm hv e, h.ok_at hm rfl⟩
theorem dent_tru (ha : Den A W ta fa) : DenT A W (fun σ H Q => ta σ H fun x H' => ∃ k, TruV A.K x H' k ∧ Q k H') (eTest asTru fa) := by
  intro z H σ env m Q hm hs h
  exact ha z H σ env m _ hm hs (post_bind h fun z1 H1 d m1 v s1 hm1 hv h1 => asTru_ok hm1 hv h1)
def bNot (f : Env → M → R Bool) : Env → M → R Bool := fun env m => (f env m).bind fun b m => .ok (!b) m
def bAnd (f g : Env → M → R Bool) : Env → M → R Bool := fun env m => (f env m).bind fun b m => if b = true then g env m else .ok false m
def bOr (f g : Env → M → R Bool) : Env → M → R Bool := fun env m => (f env m).bind fun b m => if b = true then .ok true m else g env m
theorem dent_not (ha : DenT A W tt ft) : DenT A W (tNot tt) (bNot ft) := by
  intro z H σ env m Q hm hs h
  refine ha z H σ env m _ hm hs (post_bind h fun z1 H1 d m1 v s1 hm1 hv h1 => ?_)
  subst hv
  exact h1.ok_at hm1 rfl
theorem dent_and (ha : DenT A W tt ft) (hb : DenT A W tu fu) : DenT A W (tAnd tt tu) (bAnd ft fu) := by
  intro z H σ env m Q hm hs h
  refine ha z H σ env m _ hm hs (post_bind h fun z1 H1 d m1 v s1 hm1 hv h1 => ?_)
  subst hv
  cases v with
  | true => exact hb z1 H1 σ env m1 Q hm1 (hs.step s1) h1
  | false => exact h1.ok_at hm1 rfl
theorem dent_or (ha : DenT A W tt ft) (hb : DenT A W tu fu) : DenT A W (tOr tt tu) (bOr ft fu) := by
  intro z H σ env m Q hm hs h
  refine ha z H σ env m _ hm hs (post_bind h fun z1 H1 d m1 v s1 hm1 hv h1 => ?_)
  subst hv
  cases v with
  | true => exact h1.ok_at hm1 rfl
  | false => exact hb z1 H1 σ env m1 Q hm1 (hs.step s1) h1
def bYes : Env → M → R Bool := fun _ m => .ok true m
theorem dent_yes : DenT A W tYes bYes := fun z H σ env m Q hm hs h => h.ok_at hm rfl
/-! ### and, or, not of values, if .. else -/
def eAnd (f g : Env → M → R D) : Env → M → R D := fun env m => (f env m).bind fun d m => (asTru d m).bind fun b m => if b = true then g env m else .ok d m
def eOr (f g : Env → M → R D) : Env → M → R D := fun env m => (f env m).bind fun d m => (asTru d m).bind fun b m => if b = true then .ok d m else g env m
def eNot (f : Env → M → R D) : Env → M → R D := fun env m => (f env m).bind fun d m => (asTru d m).bind fun b m => .ok (.bl (!b)) m
def eIf (c : Env → M → R Bool) (f g : Env → M → R D) : Env → M → R D := fun env m => (c env m).bind fun b m => if b = true then f env m else g env m
theorem post_tru {z : Z} {H : Hp} {d : D} {m : M} {v : V} {W : XK} {Q : VK} {k : Bool → M → R D} (hm : MOk A z H m) (hv : Rep A z H v d) (h : PostE A W z H ((asTru d m).bind k) Q) : ∃ b, TruV A.K v H b ∧ PostE A W z H (k b m) Q := by
  unfold asTru at h
  cases e : truD d m with
  | none => rw [e] at h; exact h.elim
  | some b => rw [e] at h; exact ⟨b, tru_ok' hm hv e, h⟩
theorem den_and (ha : Den A W ta fa) (hb : Den A W tb fb) : Den A W (tAndT A.K ta tb) (eAnd fa fb) := by
  intro z H σ env m Q hm hs h
  refine ha z H σ env m _ hm hs (post_bind h fun z1 H1 d m1 v s1 hm1 hv h1 => ?_)
  obtain ⟨b, t, h2⟩ := post_tru hm1 hv h1
  refine ⟨b, t, ?_⟩
  cases b with
  | true => exact hb z1 H1 σ env m1 Q hm1 (hs.step s1) h2
  | false => exact h2.ok_at hm1 hv
theorem den_or (ha : Den A W ta fa) (hb : Den A W tb fb) : Den A W (tOrT A.K ta tb) (eOr fa fb) := by
  intro z H σ env m Q hm hs h
  refine ha z H σ env m _ hm hs (post_bind h fun z1 H1 d m1 v s1 hm1 hv h1 => ?_)
  obtain ⟨b, t, h2⟩ := post_tru hm1 hv h1
  refine ⟨b, t, ?_⟩
  cases b with
  | true => exact h2.ok_at hm1 hv
  | false => exact hb z1 H1 σ env m1 Q hm1 (hs.step s1) h2
theorem den_not (ha : Den A W ta fa) : Den A W (tNotT A.K ta) (eNot fa) := by
  intro z H σ env m Q hm hs h
  refine ha z H σ env m _ hm hs (post_bind h fun z1 H1 d m1 v s1 hm1 hv h1 => ?_)
  obtain ⟨b, t, h2⟩ := post_tru hm1 hv h1
  exact ⟨b, t, h2.ok_at hm1 (.bl _)⟩
theorem den_ifE (hc : DenT A W tt ft) (ha : Den A W ta fa) (hb : Den A W tb fb) : Den A W (tIf tt ta tb) (eIf ft fa fb) := by
  intro z H σ env m Q hm hs h
  refine hc z H σ env m _ hm hs (post_bind h fun z1 H1 d m1 v s1 hm1 hv h1 => ?_)
  subst hv
  cases v with
  | true => exact ha z1 H1 σ env m1 Q hm1 (hs.step s1) h1
  | false => exact hb z1 H1 σ env m1 Q hm1 (hs.step s1) h1
/-! ### calls of own defs -/
def spD (A : Amb) (n : Nat) (g : List D → M → R D) : Sp := fun vs H Q E => vs.length = n ∧ ∃ z m ds, MOk A z H m ∧ RepL A z H vs ds ∧ PostE A E z H (g ds m) Q
theorem den_call {n : Nat} {g : List D → M → R D} (ha : DenA A W tr fr) : Den A W (tCallS (spD A n g) W tr) (eCall (fun ds m => if ds.length = n then g ds m else .no) fr) := by
  intro z H σ env m Q hm hs h
  refine ha z H σ env m _ hm hs (post_bind h fun z1 H1 d m1 v s1 hm1 hv h1 => ?_)
  obtain ⟨e, h1⟩ := post_if h1
  exact ⟨by rw [hv.length]; exact e, z1, m1, d, hm1, hv, h1⟩
/-- with keywords: how the values are put in order is known by places -/
def tCallKS (n k : Nat) (sp : Sp) (gV : List V → List V → List V) (E : St → XK) (t tk : TA) : TE := fun σ H Q => t σ H fun vs H1 => tk σ H1 fun zs H2 => vs.length = n ∧ zs.length = k ∧ sp (gV vs zs) H2 Q (E σ)
end
/-! ### statements -/
inductive S where
  | nx (env : Env) (m : M) | rt (d : D) (m : M) | bk (env : Env) (m : M) | ct (env : Env) (m : M) | ex (x : X) (env : Env) (m : M) | no
def S.bind (s : S) (k : Env → M → S) : S := match s with
  | .nx env m => k env m
  | s => s
@[simp] theorem S.bind_nx (env : Env) (m : M) (k : Env → M → S) : (S.nx env m).bind k = k env m := rfl
@[simp] theorem S.bind_rt (d : D) (m : M) (k : Env → M → S) : (S.rt d m).bind k = .rt d m := rfl
@[simp] theorem S.bind_bk (env : Env) (m : M) (k : Env → M → S) : (S.bk env m).bind k = .bk env m := rfl
@[simp] theorem S.bind_ct (env : Env) (m : M) (k : Env → M → S) : (S.ct env m).bind k = .ct env m := rfl
@[simp] theorem S.bind_ex (x : X) (env : Env) (m : M) (k : Env → M → S) : (S.ex x env m).bind k = .ex x env m := rfl
@[simp] theorem S.bind_no (k : Env → M → S) : S.no.bind k = .no := rfl
def R.to {α : Type} (r : R α) (env : Env) (k : α → M → S) : S := match r with
  | .ok a m => k a m
  | .ex x m => .ex x env m
  | .no => .no
@[simp] theorem R.to_ok {α : Type} (a : α) (m : M) (env : Env) (k : α → M → S) : (R.ok a m).to env k = k a m := rfl
@[simp] theorem R.to_ex {α : Type} (x : X) (m : M) (env : Env) (k : α → M → S) : (R.ex x m).to env k = .ex x env m := rfl
@[simp] theorem R.to_no {α : Type} (env : Env) (k : α → M → S) : (R.no : R α).to env k = .no := rfl
def PostS (A : Amb) (W : St → XK) (z : Z) (H : Hp) (r : S) (E : Ends) : Prop := match r with
  | .nx env m => ∀ z' σ' H', Step z H z' H' → MOk A z' H' m → Sl A z' H' σ' env → E.nx σ' H'
  | .bk env m => ∀ z' σ' H', Step z H z' H' → MOk A z' H' m → Sl A z' H' σ' env → E.bk σ' H'
  | .ct env m => ∀ z' σ' H', Step z H z' H' → MOk A z' H' m → Sl A z' H' σ' env → E.ct σ' H'
  | .rt d m => ∀ z' v H', Step z H z' H' → MOk A z' H' m → Rep A z' H' v d → E.rt v H'
  | .ex x env m => ∀ z' σ' d H', Step z H z' H' → MOk A z' H' m → Sl A z' H' σ' env → RepX A z' H' d x.fs → W σ' x.C d H'
  | .no => False
def DenS (A : Amb) (W : St → XK) (t : TS) (f : Env → M → S) : Prop := ∀ z H σ env m E, MOk A z H m → Sl A z H σ env → PostS A W z H (f env m) E → t E σ H
section
variable {A : Amb} {W : St → XK} {ta tb te : TE} {tc tr : TA} {tt tu : TT} {fa fb fe : Env → M → R D} {ft fu : Env → M → R Bool} {fr : Env → M → R (List D)} {ts us : TS} {F G : Env → M → S}
theorem PostS.step {z z1 : Z} {H H1 : Hp} {r : S} {E : Ends} (s : Step z H z1 H1) (h : PostS A W z H r E) : PostS A W z1 H1 r E := by
  cases r with
  | nx env m => exact fun z' σ' H' s' => h z' σ' H' (s.trans s')
  | bk env m => exact fun z' σ' H' s' => h z' σ' H' (s.trans s')
  | ct env m => exact fun z' σ' H' s' => h z' σ' H' (s.trans s')
  | rt d m => exact fun z' v H' s' => h z' v H' (s.trans s')
  | ex x env m => exact fun z' σ' d H' s' => h z' σ' d H' (s.trans s')
  | no => exact h
/-- an expression's value, then k -/
theorem post_to {α β : Type} {rp : Z → Hp → β → α → Prop} {z : Z} {H : Hp} {σ : St} {env : Env} {r : R α} {k : α → M → S} {E : Ends} {P : β → Hp → Prop} (hs : Sl A z H σ env) (h : PostS A W z H (r.to env k) E)
    (g : ∀ z1 H1 d m v, Step z H z1 H1 → MOk A z1 H1 m → Sl A z1 H1 σ env → rp z1 H1 v d → PostS A W z1 H1 (k d m) E → P v H1) : PostG A rp (W σ) z H r P := by
  cases r with
  | ok d m => exact fun z' v H' s hm hv => g z' H' d m v s hm (hs.step s) hv (h.step s)
  | ex x m => exact fun z' d H' s hm hx => h z' σ d H' s hm (hs.step s) hx
  | no => exact h
def sSeq (F G : Env → M → S) : Env → M → S := fun env m => (F env m).bind G
theorem dens_seq (h1 : DenS A W ts F) (h2 : DenS A W us G) : DenS A W (tSeq ts us) (sSeq F G) := by
  intro z H σ env m E hm hs h
  refine h1 z H σ env m _ hm hs ?_
  unfold sSeq at h
  cases e : F env m with
  | nx env' m' =>
    rw [e] at h
    exact fun z' σ' H' s hm' hs' => h2 z' H' σ' env' m' E hm' hs' (PostS.step s h)
  | bk env' m' => rw [e] at h; exact h
  | ct env' m' => rw [e] at h; exact h
  | rt d m' => rw [e] at h; exact h
  | ex x env' m' => rw [e] at h; exact h
  | no => rw [e] at h; exact h.elim
def sNext : Env → M → S := fun env m => .nx env m
theorem dens_next : DenS A W tNext sNext := fun z H σ env m E hm hs h => h z σ H Step.refl hm hs
theorem dens_break : DenS A W tBreak (fun env m => .bk env m) := fun z H σ env m E hm hs h => h z σ H Step.refl hm hs
theorem dens_cont : DenS A W tCont (fun env m => .ct env m) := fun z H σ env m E hm hs h => h z σ H Step.refl hm hs
theorem Sl.set {z : Z} {H : Hp} {σ : St} {env : Env} {i : Nat} {v : V} {d : D} (hs : Sl A z H σ env) (hv : Rep A z H v d) : Sl A z H (σ.set i (some v)) (env.set i (some d)) := by
  refine ⟨by rw [List.length_set, List.length_set]; exact hs.1, fun j e h => ?_⟩
  by_cases c : j = i
  · subst c
    have hj : j < env.length := by
      have := (List.getElem?_eq_some_iff.mp h).1
      rwa [List.length_set] at this
    rw [List.getElem?_set_self hj] at h
    cases h
    exact ⟨v, List.getElem?_set_self (by rw [← hs.1]; exact hj), hv⟩
  · rw [List.getElem?_set_ne (fun q => c q.symm)] at h
    obtain ⟨w, h1, h2⟩ := hs.2 j e h
    exact ⟨w, by rw [List.getElem?_set_ne (fun q => c q.symm)]; exact h1, h2⟩
def sSet (i : Nat) (f : Env → M → R D) : Env → M → S := fun env m => (f env m).to env fun d m => .nx (env.set i (some d)) m
theorem dens_set {i : Nat} (ha : Den A W te fe) : DenS A W (tAsg te (gName i)) (sSet i fe) := by
  intro z H σ env m E hm hs h
  exact ha z H σ env m _ hm hs (post_to hs h fun z1 H1 d m1 v s1 hm1 hs1 hv h1 => h1 z1 _ H1 Step.refl hm1 (hs1.set hv))
def sRet (f : Env → M → R D) : Env → M → S := fun env m => (f env m).to env fun d m => .rt d m
theorem dens_ret (ha : Den A W te fe) : DenS A W (tRet te) (sRet fe) := by
  intro z H σ env m E hm hs h
  exact ha z H σ env m _ hm hs (post_to hs h fun z1 H1 d m1 v s1 hm1 hs1 hv h1 => h1 z1 v H1 Step.refl hm1 hv)
theorem dens_retN : DenS A W tRetN (fun _ m => .rt .non m) := fun z H σ env m E hm hs h => h z .non H Step.refl hm .non
def sDrop (f : Env → M → R D) : Env → M → S := fun env m => (f env m).to env fun _ m => .nx env m
theorem dens_drop (ha : Den A W te fe) : DenS A W (tDrop te) (sDrop fe) := by
  intro z H σ env m E hm hs h
  exact ha z H σ env m _ hm hs (post_to hs h fun z1 H1 d m1 v s1 hm1 hs1 hv h1 => h1 z1 σ H1 Step.refl hm1 hs1)
def sIf (c : Env → M → R Bool) (F G : Env → M → S) : Env → M → S := fun env m => (c env m).to env fun b m => if b = true then F env m else G env m
theorem dens_if (hc : DenT A W tt ft) (h1 : DenS A W ts F) (h2 : DenS A W us G) : DenS A W (tIfS tt ts us) (sIf ft F G) := by
  intro z H σ env m E hm hs h
  refine hc z H σ env m _ hm hs (post_to hs h fun z1 H1 d m1 v s1 hm1 hs1 hv h3 => ?_)
  subst hv
  cases v with
  | true => exact h1 z1 H1 σ env m1 E hm1 hs1 h3
  | false => exact h2 z1 H1 σ env m1 E hm1 hs1 h3
/-! ### what is walked -/
/-- as Step, and more may be hidden -/
structure StepH (z : Z) (H : Hp) (z' : Z) (H' : Hp) : Prop where
  hs : ∃ k, z'.hs = k ++ z.hs ∧ ∀ b ∈ k, H b = none
  new : ∃ n, z'.as = z.as ++ n ∧ ∀ b ∈ n, H b = none
  kp : ∀ b o, H b = some o → b ∉ z.as → H' b = some o
  al : ∀ b, H b ≠ none → H' b ≠ none
  fz : ∀ b od u, H b = some (.frz od u) → H' b = some (.frz od u)
theorem Step.h {z z' : Z} {H H' : Hp} (s : Step z H z' H') : StepH z H z' H' := ⟨⟨[], by simp [s.hs], by simp⟩, s.new, s.kp, s.al, s.fz⟩
theorem Step.transH {z z1 z2 : Z} {H H1 H2 : Hp} (a : Step z H z1 H1) (b : StepH z1 H1 z2 H2) : StepH z H z2 H2 := by
  obtain ⟨n, e, hn⟩ := a.new
  obtain ⟨n', e', hn'⟩ := b.new
  obtain ⟨k, ek, hk⟩ := b.hs
  have back : ∀ c, H1 c = none → H c = none := fun c h1 => by
    cases q : H c with
    | none => rfl
    | some o => exact absurd h1 (a.al c (by rw [q]; simp))
  refine ⟨⟨k, by rw [ek, a.hs], fun c hc => back c (hk c hc)⟩, ⟨n ++ n', by rw [e', e, List.append_assoc], fun c hc => ?_⟩, fun c o h hc => ?_, fun c h => b.al c (a.al c h), fun c od u h => b.fz c od u (a.fz c od u h)⟩
  · rcases List.mem_append.mp hc with hc | hc
    · exact hn c hc
    · exact back c (hn' c hc)
  · refine b.kp c o (a.kp c o h hc) ?_
    rw [e]
    intro hm
    rcases List.mem_append.mp hm with hm | hm
    · exact hc hm
    · rw [hn c hm] at h; cases h
theorem StepH.k {z z' : Z} {H H' : Hp} (s : StepH z H z' H') : ∀ a u, H a = some u → z.im a → H' a = some u ∧ z'.im a := fun a u h i => by
  obtain ⟨n, e, hn⟩ := s.new
  obtain ⟨k, ek, hk⟩ := s.hs
  refine ⟨s.kp a u h i.1, fun q => ?_, fun q => ?_⟩
  · rw [e] at q
    rcases List.mem_append.mp q with q | q
    · exact i.1 q
    · rw [hn a q] at h; cases h
  · rw [ek] at q
    rcases List.mem_append.mp q with q | q
    · rw [hk a q] at h; cases h
    · exact i.2 q
theorem StepH.c {z z' : Z} {H H' : Hp} (s : StepH z H z' H') : ∀ (k : Nat) a, z.as[k]? = some a → z'.as[k]? = some a := fun k a h => by
  obtain ⟨n, e, _⟩ := s.new
  rw [e, List.getElem?_append_left (List.getElem?_eq_some_iff.mp h).1]
  exact h
/-- J yields the data ds, whatever evaluation does meanwhile -/
def ItOk (A : Amb) (z : Z) (H : Hp) (J : It) (ds : List D) : Prop := ∀ z' H' m, StepH z H z' H' → MOk A z' H' m → (∀ (i : Nat), ds.length ≤ i → J.stop i H') ∧ (∀ (i : Nat), i < ds.length → J.go i H') ∧
  ∀ (i : Nat) x H2, i < ds.length → J.yld i H' x H2 → Step z' H' z' H2 ∧ MOk A z' H2 m ∧ ∃ d, ds[i]? = some d ∧ Rep A z' H2 x d
def DenI (A : Amb) (W : St → XK) (t : TI) (f : Env → M → R (List D)) : Prop := ∀ z H σ env m Q, MOk A z H m → Sl A z H σ env → PostG A (fun z H J ds => ItOk A z H J ds) (W σ) z H (f env m) Q → t σ H Q
/-- a target; js: the slots that it sets -/
def DenG (A : Amb) (js : List Nat) (g : TG) (put : D → Env → M → Option Env) : Prop := ∀ z H σ env m v d env' Q, MOk A z H m → Sl A z H σ env → Rep A z H v d → put d env m = some env' →
  (∀ σ', Sl A z H σ' env' → σ'.length = σ.length → (∀ i, i ∉ js → σ'[i]? = σ[i]?) → Q σ' H) → g v σ H Q
def gSet (i : Nat) : D → Env → M → Option Env := fun d env _ => some (env.set i (some d))
theorem deng_name {i : Nat} : DenG A [i] (gName i) (gSet i) := fun z H σ env m v d env' Q hm hs hv e q => by
  cases e
  exact q _ (hs.set hv) (List.length_set ..) fun j hj => List.getElem?_set_ne fun e => hj (by rw [← e]; exact List.mem_singleton.mpr rfl)
def gPut2 (i j : Nat) : D → Env → M → Option Env := fun d env _ => match d with
  | .tup [x, y] => some ((env.set i (some x)).set j (some y))
  | .lst [x, y] => some ((env.set i (some x)).set j (some y))
  | _ => none
theorem deng_tup2 {i j : Nat} : DenG A [i, j] (gTup A.K 2 (gCons (gName i) (gCons (gName j) gNil))) (fun d env m => match d with | .tup _ => gPut2 i j d env m | _ => none) := fun z H σ env m v d env' Q hm hs hv e q => by
  cases d with
  | tup ds =>
    have e : gPut2 i j (.tup ds) env m = some env' := e
    match ds, e with
    | [x, y], e =>
      cases e
      cases hv with
      | tup h1 r =>
        cases r with
        | cons r1 r =>
          cases r with
          | cons r2 r =>
            cases r
            refine ⟨_, _, rfl, h1.sq, rfl, _, _, rfl, _, _, rfl, rfl, q _ ((hs.set r1).set r2) (by rw [List.length_set, List.length_set]) fun k hk => ?_⟩
            rw [List.getElem?_set_ne (fun e => hk (by rw [← e]; exact List.mem_cons_of_mem _ (List.mem_singleton.mpr rfl))), List.getElem?_set_ne (fun e => hk (by rw [← e]; exact List.mem_cons_self))]
  | _ => cases e
/-- a turn is over -/
def S.turn (s : S) (k : Env → M → S) : S := match s with
  | .nx env m => k env m
  | .ct env m => k env m
  | .bk env m => .nx env m
  | s => s
@[simp] theorem S.turn_nx (env : Env) (m : M) (k : Env → M → S) : (S.nx env m).turn k = k env m := rfl
@[simp] theorem S.turn_ct (env : Env) (m : M) (k : Env → M → S) : (S.ct env m).turn k = k env m := rfl
@[simp] theorem S.turn_bk (env : Env) (m : M) (k : Env → M → S) : (S.bk env m).turn k = .nx env m := rfl
@[simp] theorem S.turn_rt (d : D) (m : M) (k : Env → M → S) : (S.rt d m).turn k = .rt d m := rfl
@[simp] theorem S.turn_ex (x : X) (env : Env) (m : M) (k : Env → M → S) : (S.ex x env m).turn k = .ex x env m := rfl
@[simp] theorem S.turn_no (k : Env → M → S) : S.no.turn k = .no := rfl
def putS (o : Option Env) (k : Env → S) : S := match o with
  | some env => k env
  | none => .no
@[simp] theorem putS_some (env : Env) (k : Env → S) : putS (some env) k = k env := rfl
def loopD (put : D → Env → M → Option Env) (body : Env → M → S) : List D → Env → M → S
  | [], env, m => .nx env m
  | d :: ds, env, m => putS (put d env m) fun env1 => (body env1 m).turn (loopD put body ds)
theorem post_turn {z : Z} {H : Hp} {s : S} {k : Env → M → S} {E : Ends} {N : St → Hp → Prop} (h : PostS A W z H (s.turn k) E) (g : ∀ z1 σ1 H1 env m, Step z H z1 H1 → MOk A z1 H1 m → Sl A z1 H1 σ1 env → PostS A W z1 H1 (k env m) E → N σ1 H1) :
    PostS A W z H s { E with nx := N, ct := N, bk := E.nx } := by
  cases s with
  | nx env m => exact fun z' σ' H' s' hm hs => g z' σ' H' env m s' hm hs (PostS.step s' h)
  | ct env m => exact fun z' σ' H' s' hm hs => g z' σ' H' env m s' hm hs (PostS.step s' h)
  | bk env m => exact h
  | rt d m => exact h
  | ex x env m => exact h
  | no => exact h
def sFor (it : Env → M → R (List D)) (put : D → Env → M → Option Env) (body : Env → M → S) : Env → M → S := fun env m => (it env m).to env fun ds m => loopD put body ds env m
theorem dens_for {js : List Nat} {wi : TI} {g : TG} {put : D → Env → M → Option Env} {fi : Env → M → R (List D)} (hi : DenI A W wi fi) (hg : DenG A js g put) (hb : DenS A W ts F) : DenS A W (tFor wi g ts) (sFor fi put F) := by
  intro z H σ env m E hm hs h
  refine hi z H σ env m _ hm hs (post_to hs h fun z1 H1 ds m1 J s1 hm1 hs1 hJ h1 => ?_)
  refine ⟨fun i n σ' H' => n = ds.length - i ∧ i ≤ ds.length ∧ ∃ z' env' m', Step z1 H1 z' H' ∧ MOk A z' H' m' ∧ Sl A z' H' σ' env' ∧ PostS A W z' H' (loopD put F (ds.drop i) env' m') E,
    ⟨ds.length, by simp, Nat.zero_le _, z1, env, m1, Step.refl, hm1, hs1, h1⟩, ?_⟩
  rintro i n σ' H' ⟨rfl, hi', z', env', m', s', hm', hs', h'⟩
  obtain ⟨hstop, hgo, hy⟩ := hJ z' H' m' s'.h hm'
  by_cases hlt : i < ds.length
  · refine .inr ⟨hgo i hlt, fun σ2 H2 => ∃ z2 env2 m2, Step z1 H1 z2 H2 ∧ MOk A z2 H2 m2 ∧ Sl A z2 H2 σ2 env2 ∧ PostS A W z2 H2 (loopD put F (ds.drop (i + 1)) env2 m2) E, fun σ2 H2 q => ⟨ds.length - (i + 1), by omega, rfl, hlt, q⟩, fun x H2 y => ?_⟩
    obtain ⟨s2, hm2, d, e, rd⟩ := hy i x H2 hlt y
    have ed : ds.drop i = d :: ds.drop (i + 1) := by
      rw [List.drop_eq_getElem_cons hlt]
      rw [List.getElem?_eq_getElem hlt] at e
      rw [Option.some.inj e]
    rw [ed] at h'
    have h2 := PostS.step s2 h'
    have h2 : PostS A W z' H2 (putS (put d env' m') fun env1 => (F env1 m').turn (loopD put F (ds.drop (i + 1)))) E := h2
    cases ep : put d env' m' with
    | none => rw [ep] at h2; exact h2.elim
    | some env1 =>
      rw [ep] at h2
      refine hg z' H2 σ' env' m' x d env1 _ hm2 (hs'.step s2) rd ep fun σ3 hs3 _ _ => ?_
      refine hb z' H2 σ3 env1 m' _ hm2 hs3 ?_
      have s12 := s'.trans s2
      exact post_turn h2 fun z3 σ4 H4 env2 m2 s4 hm4 hs4 q => ⟨z3, env2, m2, s12.trans s4, hm4, hs4, q⟩
  · have e : i = ds.length := by omega
    subst e
    rw [List.drop_length] at h'
    exact .inl ⟨hstop _ (Nat.le_refl _), h' z' σ' H' Step.refl hm' hs'⟩
/-! ### while -/
/-- at most n turns -/
def whileD (c : Env → M → R Bool) (body : Env → M → S) : Nat → Env → M → S
  | 0, _, _ => .no
  | n + 1, env, m => (c env m).to env fun b m => if b = true then (body env m).turn (whileD c body n) else .nx env m
theorem dens_while {n : Nat} (hc : DenT A W tt ft) (hb : DenS A W ts F) : DenS A W (tWhile tt ts) (whileD ft F n) := by
  intro z H σ env m E hm hs h
  refine ⟨fun k σ' H' => ∃ z' env' m', Step z H z' H' ∧ MOk A z' H' m' ∧ Sl A z' H' σ' env' ∧ PostS A W z' H' (whileD ft F k env' m') E, ⟨n, z, env, m, Step.refl, hm, hs, h⟩, ?_⟩
  rintro k σ' H' ⟨z', env', m', s', hm', hs', h'⟩
  cases k with
  | zero => exact h'.elim
  | succ k =>
    refine hc z' H' σ' env' m' _ hm' hs' (post_to hs' h' fun z1 H1 d m1 v s1 hm1 hs1 hv h3 => ?_)
    subst hv
    have s01 := s'.trans s1
    cases v with
    | true =>
      refine ⟨fun σ2 H2 => ∃ z2 env2 m2, Step z H z2 H2 ∧ MOk A z2 H2 m2 ∧ Sl A z2 H2 σ2 env2 ∧ PostS A W z2 H2 (whileD ft F k env2 m2) E, fun σ2 H2 q => ⟨k, Nat.lt_succ_self k, q⟩, ?_⟩
      refine hb z1 H1 σ' env' m1 _ hm1 hs1 ?_
      rw [if_pos rfl] at h3
      exact post_turn h3 fun z3 σ4 H4 env2 m2 s4 hm4 hs4 q => ⟨z3, env2, m2, s01.trans s4, hm4, hs4, q⟩
    | false => exact h3 z1 σ' H1 Step.refl hm1 hs1
/-! ### list comprehensions -/
def wipeD (env : Env) : List Nat → Env
  | [] => env
  | v :: vs => (wipeD env vs).set v none
theorem wipeD_length (env : Env) : ∀ vs, (wipeD env vs).length = env.length
  | [] => rfl
  | v :: vs => by unfold wipeD; rw [List.length_set, wipeD_length env vs]
theorem Sl.wipe {z : Z} {H : Hp} {σ : St} {env : Env} (hs : Sl A z H σ env) : ∀ vs : List Nat, Sl A z H (L2.wipe σ vs) (wipeD env vs)
  | [] => hs
  | v :: vs => by
    have h := Sl.wipe hs vs
    unfold L2.wipe wipeD
    refine ⟨by rw [List.length_set, List.length_set]; exact h.1, fun j e q => ?_⟩
    by_cases c : j = v
    · subst c
      by_cases hj : j < (wipeD env vs).length
      · rw [List.getElem?_set_self hj] at q; cases q
      · rw [List.getElem?_eq_none (by rw [List.length_set]; omega)] at q; cases q
    · rw [List.getElem?_set_ne (fun q => c q.symm)] at q
      obtain ⟨w, h1, h2⟩ := h.2 j e q
      exact ⟨w, by rw [List.getElem?_set_ne (fun q => c q.symm)]; exact h1, h2⟩
def R.bindS {α β : Type} (r : R α) (k : α → M → R β) : R β := match r with
  | .ok a m => k a m
  | _ => .no
@[simp] theorem R.bindS_ok {α β : Type} (a : α) (m : M) (k : α → M → R β) : (R.ok a m).bindS k = k a m := rfl
@[simp] theorem R.bindS_ex {α β : Type} (x : X) (m : M) (k : α → M → R β) : (R.ex x m).bindS k = .no := rfl
@[simp] theorem R.bindS_no {α β : Type} (k : α → M → R β) : (R.no : R α).bindS k = .no := rfl
def putR {α : Type} (o : Option Env) (k : Env → R α) : R α := match o with
  | some env => k env
  | none => .no
@[simp] theorem putR_some {α : Type} (env : Env) (k : Env → R α) : putR (some env) k = k env := rfl
/-- the items that are made -/
def compD (put : D → Env → M → Option Env) (c : Env → M → R Bool) (el : Env → M → R D) (env : Env) : List D → List D → M → R (List D)
  | [], acc, m => .ok acc m
  | d :: ds, acc, m => putR (put d env m) fun env1 => (c env1 m).bindS fun b m => if b = true then ((el env1 m).bindS fun e m => if acc.length < sizeLine then compD put c el env ds (acc ++ [e]) m else .no) else compD put c el env ds acc m
def eComp (mk : List D → M → R D) (vs : List Nat) (it : Env → M → R (List D)) (put : D → Env → M → Option Env) (c : Env → M → R Bool) (el : Env → M → R D) : Env → M → R D :=
  fun env m => (it env m).bind fun ds m => (compD put c el (wipeD env vs) ds [] m).bindS mk
def okL (es : List D) (m : M) : R D := .ok (.lst es) m
def okC (es : List D) (m : M) : R D := .ok (.cell m.length) (m ++ [.lst es])
def Z.hide (z : Z) (p : Addr) : Z := ⟨z.as, p :: z.hs⟩
mutual
theorem Rep.map {z z' : Z} {H H' : Hp} (hk : ∀ a u, H a = some u → z.im a → H' a = some u ∧ z'.im a) (hc : ∀ (k : Nat) a, z.as[k]? = some a → z'.as[k]? = some a) : ∀ {v : V} {d : D}, Rep A z H v d → Rep A z' H' v d
  | _, _, .non => .non
  | _, _, .bl b => .bl b
  | _, _, .int i => .int i
  | _, _, .str x => .str x
  | _, _, .lst h i r => .lst (hk _ _ h i).1 (hk _ _ h i).2 (RepL.map hk hc r)
  | _, _, .tup h r => .tup (h.elim (fun q => .inl (hk _ _ q.1 q.2)) .inr) (RepL.map hk hc r)
  | _, _, .cell h => .cell (hc _ _ h)
  | _, _, .scr h => .scr (h.elim (fun q => .inl ⟨q.1.elim (fun w => .inl (hk _ _ w q.2).1) (fun w => w.elim fun o w => .inr ⟨o, (hk _ _ w q.2).1⟩), q.1.elim (fun w => (hk _ _ w q.2).2) (fun w => w.elim fun o w => (hk _ _ w q.2).2)⟩) .inr)
  | _, _, .ob v => .ob v
  | _, _, .tk h i => .tk (hk _ _ h i).1 (hk _ _ h i).2
theorem RepL.map {z z' : Z} {H H' : Hp} (hk : ∀ a u, H a = some u → z.im a → H' a = some u ∧ z'.im a) (hc : ∀ (k : Nat) a, z.as[k]? = some a → z'.as[k]? = some a) : ∀ {vs : List V} {ds : List D}, RepL A z H vs ds → RepL A z' H' vs ds
  | _, _, .nil => .nil
  | _, _, .cons h r => .cons (Rep.map hk hc h) (RepL.map hk hc r)
end
theorem RepF.map {κ : Type} {z z' : Z} {H H' : Hp} (hk : ∀ a u, H a = some u → z.im a → H' a = some u ∧ z'.im a) (hc : ∀ (k : Nat) a, z.as[k]? = some a → z'.as[k]? = some a) : ∀ {vs : List (κ × V)} {ds : List (κ × D)}, RepF A z H vs ds → RepF A z' H' vs ds
  | _, _, .nil => .nil
  | _, _, .cons h r => .cons (Rep.map hk hc h) (RepF.map hk hc r)
theorem RepO.map {z z' : Z} {H H' : Hp} {a : Addr} {o : O} (hk : ∀ a u, H a = some u → z.im a → H' a = some u ∧ z'.im a) (hc : ∀ (k : Nat) a, z.as[k]? = some a → z'.as[k]? = some a) (ha : ∀ u, H a = some u → H' a = some u) (h : RepO A z H a o) : RepO A z' H' a o := by
  cases o with
  | lst ds => obtain ⟨vs, e, r⟩ := h; exact ⟨vs, ha _ e, r.map hk hc⟩
  | dK ds => obtain ⟨vs, e, r⟩ := h; exact ⟨vs, ha _ e, r.map hk hc⟩
  | dT ds => obtain ⟨vs, e, r⟩ := h; exact ⟨vs, ha _ e, r.map hk hc⟩
  | frK ds => obtain ⟨od, vs, e, r⟩ := h; exact ⟨od, vs, ha _ e, r.map hk hc⟩
  | frT ds => obtain ⟨od, vs, e, r⟩ := h; exact ⟨od, vs, ha _ e, r.map hk hc⟩
  | ins C ds => obtain ⟨dx, vs, e, r⟩ := h; exact ⟨dx, vs, ha _ e, r.map hk hc⟩
  | exc cls fs =>
    obtain ⟨d, e, r⟩ := h
    refine ⟨d, ha _ e, ?_⟩
    cases fs with
    | none => exact r
    | some fs =>
      obtain ⟨b, vs, e1, h1, i, r⟩ := r
      exact ⟨b, vs, e1, (hk b _ h1 i).1, (hk b _ h1 i).2, r.map hk hc⟩
theorem Z.im_hide {z : Z} {H : Hp} {p : Addr} (hp : H p = none) {a : Addr} {u : HO} (h : H a = some u) (i : z.im a) : (z.hide p).im a := ⟨i.1, fun q => (List.mem_cons.mp q).elim (fun e => ne_of_none h hp e) i.2⟩
theorem Z.im_unhide {z : Z} {p a : Addr} (i : (z.hide p).im a) : z.im a := ⟨i.1, fun q => i.2 (List.mem_cons_of_mem _ q)⟩
theorem k_hide {z : Z} {H : Hp} {p : Addr} (hp : H p = none) : ∀ a u, H a = some u → z.im a → H a = some u ∧ (z.hide p).im a := fun _ _ h i => ⟨h, Z.im_hide hp h i⟩
theorem k_unhide {z : Z} {H : Hp} {p : Addr} : ∀ a u, H a = some u → (z.hide p).im a → H a = some u ∧ z.im a := fun _ _ h i => ⟨h, Z.im_unhide i⟩
theorem k_grow {z : Z} {H : Hp} {p : Addr} {o : HO} : ∀ a u, H a = some u → (z.hide p).im a → (upd H p o) a = some u ∧ (z.hide p).im a := fun a u h i => ⟨by
  rw [upd_ne (show a ≠ p from fun e => i.2 (by rw [e]; exact List.mem_cons_self))]; exact h, i⟩
theorem RepO.unhide {z : Z} {H : Hp} {p a : Addr} {o : O} (h : RepO A (z.hide p) H a o) : RepO A z H a o := h.map k_unhide (fun _ _ h => h) fun _ h => h
theorem RepX.unhide {z : Z} {H : Hp} {p : Addr} {d : Option Addr} {o : Option (List (Str × D))} (h : RepX A (z.hide p) H d o) : RepX A z H d o := by
  cases o with
  | none => exact h
  | some fs =>
    obtain ⟨a, vs, e, h1, i, r⟩ := h
    exact ⟨a, vs, e, h1, Z.im_unhide i, r.map k_unhide fun _ _ h => h⟩
theorem MOk.unhide {z : Z} {H : Hp} {m : M} {p : Addr} (h : MOk A (z.hide p) H m) : MOk A z H m :=
  ⟨h.len, h.nd, fun b hb => h.hid b (List.mem_cons_of_mem _ hb), fun b hb q => h.apart b hb (List.mem_cons_of_mem _ q), fun k a o e1 e2 => (h.at_ k a o e1 e2).unhide⟩
theorem Sl.hide {z : Z} {H : Hp} {σ : St} {env : Env} {p : Addr} (hp : H p = none) (hs : Sl A z H σ env) : Sl A (z.hide p) H σ env := ⟨hs.1, fun i d e => by
  obtain ⟨v, h1, h2⟩ := hs.2 i d e
  exact ⟨v, h1, h2.map (k_hide hp) fun _ _ h => h⟩⟩
/-- laid at p, and hidden -/
theorem step_hide {z : Z} {H : Hp} {m : M} {p : Addr} {o : HO} (hm : MOk A z H m) (hp : H p = none) : Step (z.hide p) H (z.hide p) (upd H p o) :=
  ⟨rfl, ⟨[], by simp, by simp⟩, (Step.lay hm hp).kp, (Step.lay hm hp).al, (Step.lay hm hp).fz⟩
theorem mok_hide {z : Z} {H : Hp} {m : M} {p : Addr} {o : HO} (hm : MOk A z H m) (hp : H p = none) (ho : ∀ ys, o ≠ .tup ys := by intro _ e; cases e) : MOk A (z.hide p) (upd H p o) m := by
  have s : Step (z.hide p) H (z.hide p) (upd H p o) := step_hide hm hp
  refine ⟨hm.len, hm.nd, fun b hb => ?_, fun b hb q => ?_, fun k a u e1 e2 => ((hm.at_ k a u e1 e2).map (k_hide hp) (fun _ _ h => h) fun _ h => h).step_ne s fun w hw => by rw [upd_ne (ne_of_none hw hp)]; exact hw⟩
  · rcases List.mem_cons.mp hb with e | hb
    · rw [e, upd_same]; exact ⟨by simp, fun ys q => ho ys (Option.some.inj q)⟩
    · exact (hm.hid b hb).upd fun e => (hm.hid b hb).1 (by rw [e]; exact hp)
  · rcases List.mem_cons.mp q with e | q
    · rw [e] at hb; exact (hm.fresh hp).1 hb
    · exact hm.apart b hb q
/-- the hidden list grows -/
theorem mok_grow {z : Z} {H : Hp} {m : M} {p : Addr} {o : HO} (hm : MOk A (z.hide p) H m) (ho : ∀ ys, o ≠ .tup ys := by intro _ e; cases e) : MOk A (z.hide p) (upd H p o) m := by
  refine ⟨hm.len, hm.nd, fun b hb => ?_, hm.apart, fun k a u e1 e2 => ?_⟩
  · by_cases e : b = p
    · subst e; rw [upd_same]; exact ⟨by simp, fun ys q => ho ys (Option.some.inj q)⟩
    · exact (hm.hid b hb).upd e
  · have ne : a ≠ p := fun e => hm.apart a (List.mem_of_getElem? e1) (by rw [e]; exact List.mem_cons_self)
    exact (hm.at_ k a u e1 e2).map k_grow (fun _ _ h => h) fun w h => by rw [upd_ne ne]; exact h
theorem sl_grow {z : Z} {H : Hp} {σ : St} {env : Env} {p : Addr} {o : HO} (hs : Sl A (z.hide p) H σ env) : Sl A (z.hide p) (upd H p o) σ env := ⟨hs.1, fun i d e => by
  obtain ⟨v, h1, h2⟩ := hs.2 i d e
  exact ⟨v, h1, h2.map k_grow fun _ _ h => h⟩⟩
theorem RepL.snoc {z : Z} {H : Hp} {v : V} {d : D} : ∀ {vs : List V} {ds : List D}, RepL A z H vs ds → Rep A z H v d → RepL A z H (vs ++ [v]) (ds ++ [d])
  | _, _, .nil, h => .cons h .nil
  | _, _, .cons a r, h => .cons a (RepL.snoc r h)
/-- from the ground up: all that was at z0 H0 is kept while a list at p is made -/
theorem step_from {z0 z : Z} {H0 H : Hp} {p : Addr} {o : HO} (hp : H0 p = none) (s : Step z0 H0 z H) : Step z0 H0 z (upd H p o) := by
  refine ⟨s.hs, s.new, fun b u e hb => ?_, fun b e => ?_, fun b od u e => by rw [upd_ne (ne_of_none e hp)]; exact s.fz b od u e⟩
  · rw [upd_ne (ne_of_none e hp)]; exact s.kp b u e hb
  · by_cases q : b = p
    · subst q; rw [upd_same]; simp
    · rw [upd_ne q]; exact s.al b e
theorem Step.unhide {z0 z : Z} {H0 H : Hp} {p : Addr} (s : Step (z0.hide p) H0 z H) : ∃ z1, z = z1.hide p ∧ Step z0 H0 z1 H := by
  obtain ⟨as, hs⟩ := z
  have e : hs = p :: z0.hs := s.hs
  subst e
  exact ⟨⟨as, z0.hs⟩, rfl, rfl, s.new, s.kp, s.al, s.fz⟩
theorem wipe_get (σ : St) : ∀ (vs : List Nat) (i : Nat), (L2.wipe σ vs)[i]? = if i ∈ vs then (if i < σ.length then some none else none) else σ[i]?
  | [], i => by simp [L2.wipe]
  | v :: vs, i => by
    unfold L2.wipe
    by_cases e : i = v
    · subst e
      rw [if_pos List.mem_cons_self]
      by_cases h : i < σ.length
      · rw [if_pos h, List.getElem?_set_self (by rw [L2.wipe_length]; exact h)]
      · rw [if_neg h, List.getElem?_eq_none (by rw [List.length_set, L2.wipe_length]; omega)]
    · rw [List.getElem?_set_ne (fun q => e q.symm), wipe_get σ vs i]
      by_cases h : i ∈ vs
      · rw [if_pos h, if_pos (List.mem_cons_of_mem _ h)]
      · rw [if_neg h, if_neg (fun q => (List.mem_cons.mp q).elim e h)]
theorem wipe_same {σ σ' : St} {vs js : List Nat} (hj : ∀ i ∈ js, i ∈ vs) (hl : σ'.length = (L2.wipe σ vs).length) (h : ∀ i, i ∉ js → σ'[i]? = (L2.wipe σ vs)[i]?) : L2.wipe σ' vs = L2.wipe σ vs := by
  apply List.ext_getElem?
  intro i
  rw [L2.wipe_length] at hl
  rw [wipe_get, wipe_get]
  by_cases hi : i ∈ vs
  · rw [if_pos hi, if_pos hi, hl]
  · rw [if_neg hi, if_neg hi, h i (fun q => hi (hj i q)), wipe_get, if_neg hi]
theorem post_bindS {α β γ δ : Type} {rp : Z → Hp → β → α → Prop} {rq : Z → Hp → δ → γ → Prop} {z : Z} {H : Hp} {f : R γ} {g : γ → M → R α} {W' W2 : XK} {Q : β → Hp → Prop} {P : δ → Hp → Prop} (hf : ∀ d m, f = .ok d m → ∀ z1 H1 v, Step z H z1 H1 → MOk A z1 H1 m → rq z1 H1 v d → P v H1) (hn : f.bindS g ≠ .no) : PostG A rq W2 z H f P := by
  cases f with
  | ok d m => exact fun z' v H' s hm hv => hf d m rfl z' H' v s hm hv
  | ex x m => exact absurd rfl hn
  | no => exact absurd rfl hn
theorem stepH_hide {z z' : Z} {H H' : Hp} {p : Addr} (hp : H p = none) (s : Step z H z' H') : StepH z H (z'.hide p) H' :=
  ⟨⟨[p], by show p :: z'.hs = _; rw [s.hs]; rfl, fun b hb => by rw [List.mem_singleton.mp hb]; exact hp⟩, s.new, s.kp, s.al, s.fz⟩
/-- the list that is made: by what is said of compD -/
theorem den_compG {W' : St → XK} {js vs : List Nat} {mk : List D → M → R D} {wi : TI} {g : TG} {put : D → Env → M → Option Env} {fi : Env → M → R (List D)} (hj : ∀ i ∈ js, i ∈ vs)
    (hmk : ∀ z H m p ds xs z0 H0 W Q, H0 p = none → Step z0 H0 z H → MOk A (z.hide p) H m → H p = some (.lst xs) → RepL A (z.hide p) H xs ds → z0.im p → PostE A W z0 H0 (mk ds m) Q → Q (.ref p) H)
    (hi : DenI A W wi fi) (hg : DenG A js g put) (hc : DenT A W' tt ft) (he : Den A W' te fe) : Den A W (tLc wi g tt te vs) (eComp mk vs fi put ft fe) := by
  intro z H σ env m Q hm hs h
  refine hi z H σ env m _ hm hs (post_bind h fun z1 H1 ds m1 J s1 hm1 hJ h1 => ?_)
  intro p hp
  have hs1 := hs.step s1
  have hw : Sl A (z1.hide p) (upd H1 p (.lst [])) (L2.wipe σ vs) (wipeD env vs) := ((hs1.wipe vs).hide hp).step (step_hide (o := .lst []) hm1 hp)
  refine ⟨fun i n H' => n = ds.length - i ∧ i ≤ ds.length ∧ ∃ z' xs acc m', Step z1 H1 z' H' ∧ MOk A (z'.hide p) H' m' ∧ Sl A (z'.hide p) H' (L2.wipe σ vs) (wipeD env vs) ∧ H' p = some (.lst xs) ∧ RepL A (z'.hide p) H' xs acc ∧
    PostE A (W σ) z1 H1 ((compD put ft fe (wipeD env vs) (ds.drop i) acc m').bindS mk) Q,
    ⟨ds.length, by simp, Nat.zero_le _, z1, [], [], m1, step_from hp Step.refl, mok_hide hm1 hp, hw, upd_same, .nil, h1⟩, ?_⟩
  rintro i n H' ⟨rfl, hi', z', xs, acc, m', s', hm', hs', hp', hr', h'⟩
  obtain ⟨hstop, hgo, hy⟩ := hJ (z'.hide p) H' m' (stepH_hide hp s') hm'
  by_cases hlt : i < ds.length
  · refine .inr ⟨hgo i hlt, fun H2 => ∃ z' xs acc m', Step z1 H1 z' H2 ∧ MOk A (z'.hide p) H2 m' ∧ Sl A (z'.hide p) H2 (L2.wipe σ vs) (wipeD env vs) ∧ H2 p = some (.lst xs) ∧ RepL A (z'.hide p) H2 xs acc ∧
      PostE A (W σ) z1 H1 ((compD put ft fe (wipeD env vs) (ds.drop (i + 1)) acc m').bindS mk) Q, fun H2 q => ⟨ds.length - (i + 1), by omega, rfl, hlt, q⟩, fun x H2 y => ?_⟩
    obtain ⟨s2, hm2, d, e, rd⟩ := hy i x H2 hlt y
    have ed : ds.drop i = d :: ds.drop (i + 1) := by
      rw [List.drop_eq_getElem_cons hlt]
      rw [List.getElem?_eq_getElem hlt] at e
      rw [Option.some.inj e]
    rw [ed] at h'
    have h2 : PostE A (W σ) z1 H1 ((putR (put d (wipeD env vs) m') fun env1 => (ft env1 m').bindS fun b m => if b = true then ((fe env1 m).bindS fun e m => if acc.length < sizeLine then compD put ft fe (wipeD env vs) (ds.drop (i + 1)) (acc ++ [e]) m else .no) else compD put ft fe (wipeD env vs) (ds.drop (i + 1)) acc m).bindS mk) Q := h'
    cases ep : put d (wipeD env vs) m' with
    | none => rw [ep] at h2; exact h2.elim
    | some env1 =>
      rw [ep] at h2
      rw [putR_some] at h2
      have hs2 := hs'.step s2
      have p2 := s2.kp p _ hp' fun q => hm'.apart p q List.mem_cons_self
      have r2 := hr'.step s2
      refine hg (z'.hide p) H2 (L2.wipe σ vs) (wipeD env vs) m' x d env1 _ hm2 hs2 rd ep fun σ3 hs3 hl3 hk3 => ⟨wipe_same hj hl3 hk3, ?_⟩
      refine hc (z'.hide p) H2 σ3 env1 m' _ hm2 hs3 ?_
      cases ec : ft env1 m' with
      | no => rw [ec] at h2; exact h2.elim
      | ex x m => rw [ec] at h2; exact h2.elim
      | ok b m3 =>
        rw [ec, R.bindS_ok] at h2
        intro z3 b' H3 s3 hm3 eb
        subst eb
        have p3 := s3.kp p _ p2 fun q => hm2.apart p q List.mem_cons_self
        have r3 := r2.step s3
        obtain ⟨z4, rfl, s34⟩ := (s2.trans s3).unhide
        cases b' with
        | false =>
          exact ⟨z4, xs, acc, m3, s'.trans s34, hm3, hs2.step s3, p3, r3, h2⟩
        | true =>
          show te σ3 H3 fun y H4 => _
          refine he (z4.hide p) H3 σ3 env1 m3 _ hm3 (hs3.step s3) ?_
          rw [if_pos rfl] at h2
          cases ee : fe env1 m3 with
          | no => rw [ee] at h2; exact h2.elim
          | ex x m => rw [ee] at h2; exact h2.elim
          | ok e4 m4 =>
            rw [ee, R.bindS_ok] at h2
            intro z5 y H4 s5 hm5 ry
            have p5 := s5.kp p _ p3 fun q => hm3.apart p q List.mem_cons_self
            have r5 := r3.step s5
            obtain ⟨z6, rfl, s56⟩ := s5.unhide
            by_cases hl : acc.length < sizeLine
            · rw [if_pos hl] at h2
              refine ⟨xs, p5, by rw [r5.length]; exact hl, z6, xs ++ [y], acc ++ [e4], m4, ?_, mok_grow hm5, sl_grow ((hs2.step s3).step s5), upd_same, (r5.snoc ry).map k_grow fun _ _ h => h, h2⟩
              exact step_from hp ((s'.trans s34).trans s56)
            · rw [if_neg hl] at h2; exact h2.elim
  · have e : i = ds.length := by omega
    subst e
    rw [List.drop_length] at h'
    refine .inl ⟨hstop _ (Nat.le_refl _), ?_⟩
    exact hmk z' H' m' p acc xs z1 H1 (W σ) Q hp s' hm' hp' hr' (hm1.fresh hp) h'
theorem den_comp {js vs : List Nat} {wi : TI} {g : TG} {put : D → Env → M → Option Env} {fi : Env → M → R (List D)} (hj : ∀ i ∈ js, i ∈ vs) (hi : DenI A W wi fi) (hg : DenG A js g put) (hc : DenT A W tt ft) (he : Den A W te fe) :
    Den A W (tLc wi g tt te vs) (eComp okL vs fi put ft fe) := den_compG hj (fun z H m p ds xs z0 H0 W Q hp s hm e r hn h => by
  refine h z _ H s hm.unhide (.lst e ⟨?_, ?_⟩ (r.map k_unhide fun _ _ h => h))
  · exact fun q => hm.apart p q List.mem_cons_self
  · rw [s.hs]; exact hn.2) hi hg hc he
theorem den_compC {js vs : List Nat} {wi : TI} {g : TG} {put : D → Env → M → Option Env} {fi : Env → M → R (List D)} (hj : ∀ i ∈ js, i ∈ vs) (hi : DenI A W wi fi) (hg : DenG A js g put) (hc : DenT A W tt ft) (he : Den A W te fe) :
    Den A W (tLc wi g tt te vs) (eComp okC vs fi put ft fe) := den_compG hj (fun z H m p ds xs z0 H0 W Q hp s hm e r hn h => by
  have hz : p ∉ z.as := fun q => hm.apart p q List.mem_cons_self
  have um := hm.unhide
  have hh : p ∉ z.hs := by rw [s.hs]; exact hn.2
  have k1 : ∀ a u, H a = some u → (z.hide p).im a → H a = some u ∧ (Z.mk (z.as ++ [p]) z.hs).im a := fun a u h i => ⟨h, fun q => by
    rcases List.mem_append.mp q with q | q
    · exact i.1 q
    · rw [List.mem_singleton.mp q] at i; exact i.2 List.mem_cons_self, (Z.im_unhide i).2⟩
  have c1 : ∀ (k : Nat) a, (z.hide p).as[k]? = some a → (Z.mk (z.as ++ [p]) z.hs).as[k]? = some a := fun k a h => by
    have h : z.as[k]? = some a := h
    show (z.as ++ [p])[k]? = some a
    rw [List.getElem?_append_left (List.getElem?_eq_some_iff.mp h).1]; exact h
  refine h ⟨z.as ++ [p], z.hs⟩ _ H ?_ ⟨?_, ?_, um.hid, ?_, ?_⟩ (.cell ?_)
  · obtain ⟨n, en, hn'⟩ := s.new
    refine ⟨s.hs, ⟨n ++ [p], by rw [en, List.append_assoc], fun b hb => ?_⟩, s.kp, s.al, s.fz⟩
    rcases List.mem_append.mp hb with hb | hb
    · exact hn' b hb
    · rw [List.mem_singleton.mp hb]; exact hp
  · simp [um.len]
  · rw [List.nodup_append]
    refine ⟨um.nd, by simp, fun a ha b hb => ?_⟩
    rw [List.mem_singleton.mp hb]
    rintro rfl
    exact hz ha
  · intro b hb
    rcases List.mem_append.mp hb with hb | hb
    · exact um.apart b hb
    · rw [List.mem_singleton.mp hb]; exact hh
  · intro k a o e1 e2
    by_cases hk : k < z.as.length
    · have e1 : (z.as ++ [p])[k]? = some a := e1
      rw [List.getElem?_append_left hk] at e1
      rw [List.getElem?_append_left (by rw [← um.len]; exact hk)] at e2
      exact (hm.at_ k a o e1 e2).map k1 c1 fun _ h => h
    · have e1 : (z.as ++ [p])[k]? = some a := e1
      have hk1 : k = z.as.length := by
        have := (List.getElem?_eq_some_iff.mp e1).1
        simp at this
        omega
      subst hk1
      have ea : a = p := by simp at e1; exact e1.symm
      have eo : o = .lst ds := by
        rw [um.len] at e2
        simp at e2; exact e2.symm
      subst ea eo
      exact ⟨xs, e, r.map k1 c1⟩
  · show (z.as ++ [p])[m.length]? = some p
    rw [← um.len]
    simp) hi hg hc he

end
end DL

namespace DL
open PySem PySem.Spec L2
section
variable {A : Amb}
/-! ### walks -/
theorem RepL.get {z : Z} {H : Hp} : ∀ {vs : List V} {ds : List D} {i : Nat} {x : V}, RepL A z H vs ds → vs[i]? = some x → ∃ d, ds[i]? = some d ∧ Rep A z H x d
  | _, _, _, _, .nil, e => by simp at e
  | _, _, 0, _, .cons r _, e => by simp at e; subst e; exact ⟨_, rfl, r⟩
  | _, _, i + 1, x, .cons _ t, e => by
    obtain ⟨d, h1, h2⟩ := RepL.get (i := i) (x := x) t (by simpa using e)
    exact ⟨d, by simpa using h1, h2⟩
theorem RepL.getD {z : Z} {H : Hp} : ∀ {vs : List V} {ds : List D} {i : Nat} {d : D}, RepL A z H vs ds → ds[i]? = some d → ∃ x, vs[i]? = some x ∧ Rep A z H x d
  | _, _, _, _, .nil, e => by simp at e
  | _, _, 0, _, .cons r _, e => by simp at e; subst e; exact ⟨_, rfl, r⟩
  | _, _, i + 1, x, .cons _ t, e => by
    obtain ⟨d, h1, h2⟩ := RepL.getD (i := i) (d := x) t (by simpa using e)
    exact ⟨d, by simpa using h1, h2⟩
theorem itok_list {z : Z} {H : Hp} {a : Addr} {vs : List V} {ds : List D} (h : H a = some (.lst vs)) (i : z.im a) (r : RepL A z H vs ds) : ItOk A z H (Itl A.K a) ds := fun z' H' m s hm => by
  have e := (s.k a _ h i).1
  have rr : RepL A z' H' vs ds := r.map s.k s.c
  have hl := r.length
  refine ⟨fun j hj => ⟨vs, SqL.of e, by omega⟩, fun j hj => ⟨vs, vs[j]'(by omega), SqL.of e, List.getElem?_eq_getElem _⟩, fun j x H2 hj y => ?_⟩
  obtain ⟨rfl, y⟩ := y
  exact ⟨Step.refl, hm, rr.get (y vs (SqL.of e))⟩
theorem itok_tup {z : Z} {H : Hp} {a : Addr} {vs : List V} {ds : List D} (h : ImT A.K z H a vs) (r : RepL A z H vs ds) : ItOk A z H (Itt A.K a) ds := fun z' H' m s hm => by
  have e : SqT A.K H' a vs := by
    rcases h with ⟨h, i⟩ | h
    · exact .inl (.inl (s.k a _ h i).1)
    · exact .inr h
  have rr : RepL A z' H' vs ds := r.map s.k s.c
  have hl := r.length
  refine ⟨fun j hj => ⟨vs, e, by omega⟩, fun j hj => ⟨vs, vs[j]'(by omega), e, List.getElem?_eq_getElem _⟩, fun j x H2 hj y => ?_⟩
  obtain ⟨rfl, y⟩ := y
  exact ⟨Step.refl, hm, rr.get (y vs e)⟩
def intsD (lo : Int) (n : Nat) : List D := (List.range n).map fun (i : Nat) => D.int (lo + (i : Int))
theorem itok_range {z : Z} {H : Hp} {lo : Int} {n : Nat} : ItOk A z H (Itr lo n) (intsD lo n) := fun z' H' m s hm => by
  have hl : (intsD lo n).length = n := by simp [intsD]
  rw [hl]
  refine ⟨fun j hj => hj, fun j hj => hj, fun j x H2 hj y => ?_⟩
  obtain ⟨rfl, rfl⟩ := y
  exact ⟨Step.refl, hm, .int (lo + j), by simp [intsD, hj], .int _⟩
def signsD (x : Str) : List D := x.cps.toList.map fun c => D.str ⟨#[c]⟩
theorem itok_str {z : Z} {H : Hp} {x : Str} : ItOk A z H (Its x) (signsD x) := fun z' H' m s hm => by
  have hl : (signsD x).length = x.cps.size := by simp [signsD]
  rw [hl]
  refine ⟨fun j hj => hj, fun j hj => hj, fun j v H2 hj y => ?_⟩
  obtain ⟨rfl, c, e, rfl⟩ := y
  refine ⟨Step.refl, hm, .str ⟨#[c]⟩, ?_, .str _⟩
  simp only [signsD, List.getElem?_map, Array.getElem?_toList, e, Option.map_some]
variable {W : St → XK} {te : TE} {fe : Env → M → R D} {ta : TA} {fa : Env → M → R (List D)}
/-- what stands as a list: one that never changes -/
def asLst : D → M → R (List D)
  | .lst ds, m => .ok ds m
  | _, _ => .no
def asTup : D → M → R (List D)
  | .tup ds, m => .ok ds m
  | _, _ => .no
def asStr : D → M → R (List D)
  | .str x, m => .ok (signsD x) m
  | _, _ => .no
def iIt (f : D → M → R (List D)) (fe : Env → M → R D) : Env → M → R (List D) := fun env m => (fe env m).bind f
theorem deni_list (he : Den A W te fe) : DenI A W (iList A.K te) (iIt asLst fe) := by
  intro z H σ env m Q hm hs h
  refine he z H σ env m _ hm hs (post_bind h fun z1 H1 d m1 v s1 hm1 hv h1 => ?_)
  cases hv with
  | lst e i r => exact ⟨_, rfl, ⟨_, SqL.of e⟩, h1.ok_at hm1 (itok_list e i r)⟩
  | _ => exact h1.elim
theorem deni_tup (he : Den A W te fe) : DenI A W (iTup A.K te) (iIt asTup fe) := by
  intro z H σ env m Q hm hs h
  refine he z H σ env m _ hm hs (post_bind h fun z1 H1 d m1 v s1 hm1 hv h1 => ?_)
  cases hv with
  | tup e r => exact ⟨_, rfl, ⟨_, e.sq⟩, h1.ok_at hm1 (itok_tup e r)⟩
  | _ => exact h1.elim
theorem deni_str (he : Den A W te fe) : DenI A W (iStr te) (iIt asStr fe) := by
  intro z H σ env m Q hm hs h
  refine he z H σ env m _ hm hs (post_bind h fun z1 H1 d m1 v s1 hm1 hv h1 => ?_)
  cases hv with
  | str x => exact ⟨_, rfl, h1.ok_at hm1 itok_str⟩
  | _ => exact h1.elim
def rng1 : List D → M → R (List D)
  | [.int j], m => if -(2 ^ 62) ≤ j ∧ j < 2 ^ 62 then .ok (intsD 0 j.toNat) m else .no
  | _, _ => .no
def rng2 : List D → M → R (List D)
  | [.int i, .int j], m => if -(2 ^ 62) ≤ i ∧ i < 2 ^ 62 ∧ -(2 ^ 62) ≤ j ∧ j < 2 ^ 62 then .ok (intsD i (j - i).toNat) m else .no
  | _, _ => .no
def iArgs (f : List D → M → R (List D)) (fa : Env → M → R (List D)) : Env → M → R (List D) := fun env m => (fa env m).bind f
theorem post_ifG {α β : Type} {rp : Z → Hp → β → α → Prop} {z : Z} {H : Hp} {W : XK} {Q : β → Hp → Prop} {c : Prop} [Decidable c] {r : R α} (h : PostG A rp W z H (if c then r else .no) Q) : c ∧ PostG A rp W z H r Q := by
  by_cases hc : c
  · rw [if_pos hc] at h; exact ⟨hc, h⟩
  · rw [if_neg hc] at h; exact h.elim
theorem deni_rng1 (he : DenA A W ta fa) : DenI A W (iRng1 ta) (iArgs rng1 fa) := by
  intro z H σ env m Q hm hs h
  refine he z H σ env m _ hm hs (post_bind h fun z1 H1 ds m1 vs s1 hm1 hv h1 => ?_)
  match ds, hv, h1 with
  | [.int j], .cons (.int _) .nil, h1 =>
    obtain ⟨c, h1⟩ := post_ifG (c := -(2 ^ 62) ≤ j ∧ j < 2 ^ 62) h1
    exact ⟨j, rfl, c.1, c.2, h1.ok_at hm1 itok_range⟩
theorem deni_rng2 (he : DenA A W ta fa) : DenI A W (iRng2 ta) (iArgs rng2 fa) := by
  intro z H σ env m Q hm hs h
  refine he z H σ env m _ hm hs (post_bind h fun z1 H1 ds m1 vs s1 hm1 hv h1 => ?_)
  match ds, hv, h1 with
  | [.int i, .int j], .cons (.int _) (.cons (.int _) .nil), h1 =>
    obtain ⟨c, h1⟩ := post_ifG (c := -(2 ^ 62) ≤ i ∧ i < 2 ^ 62 ∧ -(2 ^ 62) ≤ j ∧ j < 2 ^ 62) h1
    exact ⟨i, j, rfl, c, h1.ok_at hm1 itok_range⟩
/-! ### sequences -/
/-- a list's items, changing or not -/
def seqOf : D → M → Option (List D)
  | .lst ds, _ => some ds
  | .cell k, m => match m[k]? with
    | some (.lst ds) => some ds
    | _ => none
  | _, _ => none
theorem seqOf_ok {z : Z} {H : Hp} {m : M} {v : V} {d : D} {ds : List D} (hm : MOk A z H m) (hv : Rep A z H v d) (e : seqOf d m = some ds) : ∃ a vs, v = .ref a ∧ H a = some (.lst vs) ∧ RepL A z H vs ds := by
  cases hv with
  | lst h i r =>
    injection e with e
    subst e
    exact ⟨_, _, rfl, h, r⟩
  | @cell a k h =>
    have e : (match m[k]? with | some (.lst ds) => some ds | _ => none) = some ds := e
    cases q : m[k]? with
    | none => rw [q] at e; cases e
    | some o =>
      rw [q] at e
      cases o with
      | lst ds' =>
        injection e with e
        subst e
        obtain ⟨vs, e1, r⟩ := hm.at_ k a _ h q
        exact ⟨a, vs, rfl, e1, r⟩
      | dK _ => cases e
      | dT _ => cases e
      | frK _ => cases e
      | frT _ => cases e
      | ins _ _ => cases e
      | exc _ _ => cases e
  | _ => cases e
theorem RepL.append {z : Z} {H : Hp} : ∀ {vs ws : List V} {ds es : List D}, RepL A z H vs ds → RepL A z H ws es → RepL A z H (vs ++ ws) (ds ++ es)
  | _, _, _, _, .nil, h => h
  | _, _, _, _, .cons a r, h => .cons a (RepL.append r h)
theorem RepL.take {z : Z} {H : Hp} : ∀ {vs : List V} {ds : List D} (n : Nat), RepL A z H vs ds → RepL A z H (vs.take n) (ds.take n)
  | _, _, 0, _ => by simp; exact .nil
  | _, _, _ + 1, .nil => by simp; exact .nil
  | _, _, n + 1, .cons a r => .cons a (RepL.take n r)
theorem RepL.drop {z : Z} {H : Hp} : ∀ {vs : List V} {ds : List D} (n : Nat), RepL A z H vs ds → RepL A z H (vs.drop n) (ds.drop n)
  | _, _, 0, h => h
  | _, _, _ + 1, .nil => .nil
  | _, _, n + 1, .cons a r => RepL.drop n r
theorem RepL.rep {z : Z} {H : Hp} {vs : List V} {ds : List D} (h : RepL A z H vs ds) : ∀ n : Nat, RepL A z H (List.replicate n vs).flatten (List.replicate n ds).flatten
  | 0 => .nil
  | n + 1 => by rw [List.replicate_succ, List.replicate_succ, List.flatten_cons, List.flatten_cons]; exact h.append (h.rep n)
def fitL (ds : List D) (m : M) : R D := if ds.length ≤ sizeLine then .ok (.lst ds) m else .no
/-! ### + - * // % ** -/
def addD (x y : D) (m : M) : R D := match x, y with
  | .int i, .int j => .ok (.int (i + j)) m
  | .str a, .str b => if a.length + b.length ≤ sizeLine then .ok (.str (a ++ b)) m else .no
  | x, y => match seqOf x m, seqOf y m with
    | some xs, some ys => if xs.length + ys.length ≤ sizeLine then .ok (.lst (xs ++ ys)) m else .no
    | _, _ => .no
def rAddU : R2 := fun x y H Q => rI0 (fun i j => .int (i + j)) x y H Q ∨ ((∃ i j, x = .str i ∧ y = .str j ∧ i.length + j.length ≤ sizeLine ∧ Q (.str (i ++ j)) H) ∨ rCat x y H Q)
theorem op_addU {X : Cx} : OpR X (binaryOp .Add) rAddU := op_add.or (op_add_str.or op_cat)
theorem opd_add : OpD A rAddU addD := by
  intro z H m x y dx dy W Q hm hx hy h
  have seq : ∀ xs ys, seqOf dx m = some xs → seqOf dy m = some ys → PostE A W z H (if xs.length + ys.length ≤ sizeLine then R.ok (.lst (xs ++ ys)) m else .no) Q → rAddU x y H Q := fun xs ys e1 e2 h => by
    obtain ⟨c, h⟩ := post_if h
    obtain ⟨a, vs, rfl, h1, r1⟩ := seqOf_ok hm hx e1
    obtain ⟨b, ws, rfl, h2, r2⟩ := seqOf_ok hm hy e2
    exact .inr (.inr ⟨a, b, vs, ws, rfl, rfl, h1, h2, by rw [r1.length, r2.length]; exact c, lay_lst hm (r1.append r2) h⟩)
  unfold addD at h
  split at h
  · cases hx; cases hy
    exact .inl ⟨_, _, rfl, rfl, h.ok_at hm (.int _)⟩
  · cases hx; cases hy
    obtain ⟨c, h⟩ := post_if h
    exact .inr (.inl ⟨_, _, rfl, rfl, c, h.ok_at hm (.str _)⟩)
  · split at h
    · rename_i xs ys e1 e2
      exact seq xs ys e1 e2 h
    · exact h.elim
def subD (x y : D) (m : M) : R D := match x, y with
  | .int i, .int j => .ok (.int (i - j)) m
  | _, _ => .no
theorem opd_sub : OpD A (rI0 fun i j => .int (i - j)) subD := by
  intro z H m x y dx dy W Q hm hx hy h
  unfold subD at h
  split at h
  · cases hx; cases hy
    exact ⟨_, _, rfl, rfl, h.ok_at hm (.int _)⟩
  · exact h.elim
/-- a text n times -/
def repS (x : Str) (n : Nat) : Str := ⟨((List.replicate n x.cps.toList).flatten).toArray⟩
theorem fold_rep (a : Array Nat) : ∀ (n : Nat) (acc : Array Nat), ((List.replicate n a).foldl (· ++ ·) acc) = acc ++ ((List.replicate n a.toList).flatten).toArray
  | 0, acc => by simp
  | n + 1, acc => by
    rw [List.replicate_succ, List.foldl_cons, fold_rep a n, List.replicate_succ, List.flatten_cons]
    apply Array.toList_inj.mp
    simp
def rRepS : R2 := fun x y H Q => ∃ (z : Str) (n : Int), x = .str z ∧ y = .int n ∧ -(2 ^ 63) ≤ n ∧ n < 2 ^ 63 ∧ z.length * n.toNat ≤ sizeLine ∧ Q (.str (repS z n.toNat)) H
theorem op_repS {X : Cx} : OpR X (binaryOp .Mult) rRepS := by
  intro pins s σ H x y v u Q I rx ry h
  obtain ⟨z, n, rfl, rfl, h1, h2, hz, q⟩ := h
  obtain ⟨t, rfl⟩ := rx
  obtain ⟨t', rfl⟩ := ry
  have hs : (sizeLine : Nat) = 16777216 := sizeLine_eq
  refine PySem.P.mul_str ?_ (fun hn _ => ?_) (fun hn _ => ?_) ?_
  · rw [decide_eq_false (by omega), decide_eq_false (by omega)] <;> rfl
  · have hn1 : (1 : Int) ≤ n := by omega
    intro hgt
    have hq : (2 ^ 63 - 1 : Int) / n < z.length := hgt
    have hlt : (2 ^ 63 - 1 : Int) < z.length * n := Int.lt_mul_of_ediv_lt (by omega) hq
    have hnat : ((z.length * n.toNat : Nat) : Int) = (z.length : Int) * n := by
      rw [Int.natCast_mul, Int.toNat_of_nonneg (by omega)]
    rw [hs] at hz
    omega
  · unfold Builtin.Str.tooLong
    simp
    rw [hs] at hz
    first | omega | exact hz | (simp [sizeLine_eq]; omega)
  · split
    · rename_i hn
      have e : repS z n.toNat = Str.empty := by
        rw [show n.toNat = 0 by omega]; rfl
      rw [e] at q
      exact ⟨by decide, ⟨.str Str.empty, H, I.tok _, ⟨_, rfl⟩, q⟩⟩
    · rename_i hn
      split
      · rename_i hc
        have e : repS z n.toNat = z := by
          rcases Bool.or_eq_true_iff.mp hc with hc | hc
          · have : n = 1 := by simpa using hc
            subst this
            exact PySem.Str.ext' (by simp [repS])
          · have hl : z.length = 0 := by simpa using hc
            have hc0 : z.cps.toList = [] := by
              have : z.cps.size = 0 := hl
              simpa using this
            refine PySem.Str.ext' ?_
            apply Array.toList_inj.mp
            simp [repS, hc0]
        rw [e] at q
        exact ⟨.str z, H, I, ⟨_, rfl⟩, q⟩
      · have e : (⟨(List.replicate n.toNat z.cps).foldl (· ++ ·) #[]⟩ : Str) = repS z n.toNat := by
          unfold repS
          rw [fold_rep]
          simp
        rw [e]
        refine ⟨?_, ⟨.str (repS z n.toNat), H, I.tok _, ⟨_, rfl⟩, q⟩⟩
        show (repS z n.toNat).length ≤ sizeLine
        have : (repS z n.toNat).length = z.length * n.toNat := by
          show (repS z n.toNat).cps.size = _
          simp [repS, Str.length, Nat.mul_comm]
        omega
end
end DL

namespace DL
open PySem PySem.Spec L2
section
variable {A : Amb}
def mulD (x y : D) (m : M) : R D := match x, y with
  | .int i, .int j => if i.natAbs.log2 + j.natAbs.log2 < 1000000 then .ok (.int (i * j)) m else .no
  | .str a, .int n => if -(2 ^ 63) ≤ n ∧ n < 2 ^ 63 ∧ a.length * n.toNat ≤ sizeLine then .ok (.str (repS a n.toNat)) m else .no
  | x, .int n => match seqOf x m with
    | some xs => if -(2 ^ 63) ≤ n ∧ n < 2 ^ 63 ∧ xs.length * n.toNat ≤ sizeLine then .ok (.lst (List.replicate n.toNat xs).flatten) m else .no
    | none => .no
  | _, _ => .no
def rMulU : R2 := fun x y H Q => rI CMulW (fun i j => .int (i * j)) x y H Q ∨ (rRepS x y H Q ∨ rRep x y H Q)
theorem op_mulU {X : Cx} : OpR X (binaryOp .Mult) rMulU := op_mulW.or (op_repS.or op_rep)
theorem opd_mul : OpD A rMulU mulD := by
  intro z H m x y dx dy W Q hm hx hy h
  unfold mulD at h
  split at h
  · cases hx; cases hy
    obtain ⟨c, h⟩ := post_if h
    exact .inl ⟨_, _, rfl, rfl, c, h.ok_at hm (.int _)⟩
  · cases hx; cases hy
    obtain ⟨c, h⟩ := post_if h
    exact .inr (.inl ⟨_, _, rfl, rfl, c.1, c.2.1, c.2.2, h.ok_at hm (.str _)⟩)
  · cases hy
    split at h
    · rename_i xs e
      obtain ⟨c, h⟩ := post_if h
      obtain ⟨a, vs, rfl, h1, r1⟩ := seqOf_ok hm hx e
      exact .inr (.inr ⟨a, _, vs, rfl, rfl, h1, c.1, c.2.1, by rw [r1.length]; exact c.2.2, lay_lst hm (r1.rep _) h⟩)
    · exact h.elim
  · exact h.elim
def divD (x y : D) (m : M) : R D := match x, y with
  | .int i, .int j => if 0 < j ∧ j.natAbs.log2 < 9000 then .ok (.int (i / j)) m else .no
  | _, _ => .no
theorem opd_div : OpD A (rI CDivW fun i j => .int (i / j)) divD := by
  intro z H m x y dx dy W Q hm hx hy h
  unfold divD at h
  split at h
  · cases hx; cases hy
    obtain ⟨c, h⟩ := post_if h
    exact ⟨_, _, rfl, rfl, c, h.ok_at hm (.int _)⟩
  · exact h.elim
def modD (x y : D) (m : M) : R D := match x, y with
  | .int i, .int j => if 0 < j then .ok (.int (i % j)) m else .no
  | _, _ => .no
theorem opd_mod : OpD A (rI (fun _ j => 0 < j) fun i j => .int (i % j)) modD := by
  intro z H m x y dx dy W Q hm hx hy h
  unfold modD at h
  split at h
  · cases hx; cases hy
    obtain ⟨c, h⟩ := post_if h
    exact ⟨_, _, rfl, rfl, c, h.ok_at hm (.int _)⟩
  · exact h.elim
def powD (x y : D) (m : M) : R D := match x, y with
  | .int i, .int j => if 0 ≤ j ∧ j ≤ 1000000 ∧ i.natAbs < 2 ^ 64 then .ok (.int (i ^ j.toNat)) m else .no
  | _, _ => .no
theorem opd_pow : OpD A (rI CPow fun i j => .int (i ^ j.toNat)) powD := by
  intro z H m x y dx dy W Q hm hx hy h
  unfold powD at h
  split at h
  · cases hx; cases hy
    obtain ⟨c, h⟩ := post_if h
    exact ⟨_, _, rfl, rfl, c, h.ok_at hm (.int _)⟩
  · exact h.elim
def negD (x : D) (m : M) : R D := match x with
  | .int i => .ok (.int (-i)) m
  | _ => .no
theorem und_neg : UnD A (rU fun i => .int (-i)) negD := by
  intro z H m x dx W Q hm hx h
  unfold negD at h
  split at h
  · cases hx
    exact ⟨_, rfl, h.ok_at hm (.int _)⟩
  · exact h.elim
/-- an order of ints -/
def cmpD (p : Int → Int → Bool) (x y : D) (m : M) : R D := match x, y with
  | .int i, .int j => .ok (.bl (p i j)) m
  | _, _ => .no
theorem opd_cmp {p : Int → Int → Bool} : OpD A (rI0 fun i j => .bl (p i j)) (cmpD p) := by
  intro z H m x y dx dy W Q hm hx hy h
  unfold cmpD at h
  split at h
  · cases hx; cases hy
    exact ⟨_, _, rfl, rfl, h.ok_at hm (.bl _)⟩
  · exact h.elim
/-! ### == and != -/
mutual
def toP : D → Option PyData
  | .non => some .none
  | .bl b => some (.bool b)
  | .int i => some (.int i)
  | .str x => some (.str x)
  | .lst ds => (toPs ds).map .list
  | .tup ds => (toPs ds).map .tuple
  | .cell _ => none
  | .scr => none
  | .ob _ => none
  | .tk _ => none
def toPs : List D → Option (List PyData)
  | [] => some []
  | d :: ds => match toP d, toPs ds with
    | some p, some ps => some (p :: ps)
    | _, _ => none
end
def toPm (d : D) (m : M) : Option PyData := match seqOf d m with
  | some ds => (toPs ds).map .list
  | none => toP d
mutual
theorem toP_ok {z : Z} {H : Hp} : ∀ {v : V} {d : D} {p : PyData}, Rep A z H v d → toP d = some p → Dp A.K H v p
  | _, _, _, .non, e => by injection e with e; subst e; exact .non
  | _, _, _, .bl b, e => by injection e with e; subst e; exact .bl b
  | _, _, _, .int i, e => by injection e with e; subst e; exact .int i
  | _, _, _, .str x, e => by injection e with e; subst e; exact .str x
  | _, _, _, .lst (ds := ds) h i r, e => by
    obtain ⟨ps, e1, e2⟩ := Option.map_eq_some_iff.mp (show (toPs ds).map PyData.list = some _ from e)
    subst e2
    exact .lst (SqL.of h) (toPs_ok r e1)
  | _, _, _, .tup (ds := ds) h r, e => by
    obtain ⟨ps, e1, e2⟩ := Option.map_eq_some_iff.mp (show (toPs ds).map PyData.tuple = some _ from e)
    subst e2
    exact .tup h.sq (toPs_ok r e1)
  | _, _, _, .cell _, e => nomatch e
  | _, _, _, .scr _, e => nomatch e
  | _, _, _, .ob _, e => nomatch e
  | _, _, _, .tk _ _, e => nomatch e
theorem toPs_ok {z : Z} {H : Hp} : ∀ {vs : List V} {ds : List D} {ps : List PyData}, RepL A z H vs ds → toPs ds = some ps → DpAll A.K H vs ps
  | _, _, _, .nil, e => by injection e with e; subst e; exact .nil
  | _, _, _, .cons (d := d) (ds := ds) h r, e => by
    have e : (match toP d, toPs ds with | some p, some ps => some (p :: ps) | _, _ => none) = some _ := e
    cases e1 : toP d with
    | none => rw [e1] at e; cases e
    | some p =>
      cases e2 : toPs ds with
      | none => rw [e1, e2] at e; cases e
      | some ps =>
        rw [e1, e2] at e
        injection e with e
        subst e
        exact .cons (toP_ok h e1) (toPs_ok r e2)
end
theorem toPm_ok {z : Z} {H : Hp} {m : M} {v : V} {d : D} {p : PyData} (hm : MOk A z H m) (h : Rep A z H v d) (e : toPm d m = some p) : Dp A.K H v p := by
  unfold toPm at e
  split at e
  · rename_i ds e1
    obtain ⟨a, vs, rfl, h1, r⟩ := seqOf_ok hm h e1
    obtain ⟨ps, e2, e3⟩ := Option.map_eq_some_iff.mp e
    subst e3
    exact .lst (SqL.of h1) (toPs_ok r e2)
  · exact toP_ok h e
/-- a thing without parts -/
def scalV : D → Option V
  | .non => some .non
  | .bl b => some (.bl b)
  | .int i => some (.int i)
  | .str x => some (.str x)
  | _ => none
theorem scalV_ok {z : Z} {H : Hp} {v a : V} {d : D} (h : Rep A z H v d) (e : scalV d = some a) : v = a := by
  cases h <;> first | (injection e) | cases e
def eqDeep (neg : Bool) (x y : D) (m : M) : R D := match toPm x m, toPm y m with
  | some p, some q => if SeqAt.shaped p = true ∧ SeqAt.shaped q = true then .ok (.bl (neg ^^ PyData.eqv p q)) m else .no
  | _, _ => .no
def eqD (neg : Bool) (x y : D) (m : M) : R D := match scalV x, scalV y with
  | some a, some b => if scal a b = true then .ok (.bl (neg ^^ decide (a = b))) m else eqDeep neg x y m
  | _, _ => eqDeep neg x y m
def rEqU (K : PySem.W.Frag) : R2 := fun x y H Q => rEq x y H Q ∨ rEqD K x y H Q
def rNeU (K : PySem.W.Frag) : R2 := fun x y H Q => rNe x y H Q ∨ rNeD K x y H Q
theorem op_eqU {X : Cx} (hu : X.A.units + 64 < cLine) : OpR X (compareOp .Eq) (rEqU X.K) := op_eq.or (op_eqD hu)
theorem op_neU {X : Cx} (hu : X.A.units + 64 < cLine) : OpR X (compareOp .NotEq) (rNeU X.K) := op_ne.or (op_neD hu)
theorem deep_eq {z : Z} {H : Hp} {m : M} {x y : V} {dx dy : D} {W : XK} {Q : VK} (hm : MOk A z H m) (hx : Rep A z H x dx) (hy : Rep A z H y dy) (h : PostE A W z H (eqDeep false dx dy m) Q) : rEqD A.K x y H Q := by
  unfold eqDeep at h
  split at h
  · rename_i p q e1 e2
    obtain ⟨c, h⟩ := post_if h
    refine ⟨p, q, toPm_ok hm hx e1, toPm_ok hm hy e2, c.1, c.2, ?_⟩
    have := h.ok_at hm (v := .bl (PyData.eqv p q)) (by rw [Bool.false_xor]; exact .bl _)
    exact this
  · exact h.elim
theorem deep_ne {z : Z} {H : Hp} {m : M} {x y : V} {dx dy : D} {W : XK} {Q : VK} (hm : MOk A z H m) (hx : Rep A z H x dx) (hy : Rep A z H y dy) (h : PostE A W z H (eqDeep true dx dy m) Q) : rNeD A.K x y H Q := by
  unfold eqDeep at h
  split at h
  · rename_i p q e1 e2
    obtain ⟨c, h⟩ := post_if h
    refine ⟨p, q, toPm_ok hm hx e1, toPm_ok hm hy e2, c.1, c.2, ?_⟩
    have := h.ok_at hm (v := .bl (!PyData.eqv p q)) (by rw [Bool.true_xor]; exact .bl _)
    exact this
  · exact h.elim
theorem opd_eq : OpD A (rEqU A.K) (eqD false) := by
  intro z H m x y dx dy W Q hm hx hy h
  unfold eqD at h
  split at h
  · rename_i a b e1 e2
    split at h
    · rename_i hs
      have := scalV_ok hx e1
      have := scalV_ok hy e2
      subst x y
      exact .inl ⟨hs, h.ok_at hm (by rw [Bool.false_xor]; exact .bl _)⟩
    · exact .inr (deep_eq hm hx hy h)
  · exact .inr (deep_eq hm hx hy h)
theorem opd_ne : OpD A (rNeU A.K) (eqD true) := by
  intro z H m x y dx dy W Q hm hx hy h
  unfold eqD at h
  split at h
  · rename_i a b e1 e2
    split at h
    · rename_i hs
      have := scalV_ok hx e1
      have := scalV_ok hy e2
      subst x y
      exact .inl ⟨hs, h.ok_at hm (by rw [Bool.true_xor]; exact .bl _)⟩
    · exact .inr (deep_ne hm hx hy h)
  · exact .inr (deep_ne hm hx hy h)
/-! ### is None -/
def isN (d : D) : Option Bool := match d with
  | .non => some true
  | .ob (.ref _) => some false
  | .ob _ => none
  | _ => some false
theorem isN_ok {z : Z} {H : Hp} {v : V} {d : D} {b : Bool} (h : Rep A z H v d) (e : isN d = some b) : decide (v = .non) = b := by
  cases h with
  | non => injection e
  | ob v =>
    cases v with
    | ref a => injection e
    | _ => cases e
  | _ => injection e
def isNoneD (neg : Bool) (x y : D) (m : M) : R D := match y, isN x with
  | .non, some b => .ok (.bl (neg ^^ b)) m
  | _, _ => .no
theorem opd_isN : OpD A (fun x y H Q => y = .non ∧ Q (.bl (decide (x = .non))) H) (isNoneD false) := by
  intro z H m x y dx dy W Q hm hx hy h
  unfold isNoneD at h
  split at h
  · rename_i b e
    cases hy
    refine ⟨rfl, h.ok_at hm ?_⟩
    rw [isN_ok hx e, Bool.false_xor]; exact .bl _
  · exact h.elim
theorem opd_notN : OpD A (fun x y H Q => y = .non ∧ Q (.bl (!decide (x = .non))) H) (isNoneD true) := by
  intro z H m x y dx dy W Q hm hx hy h
  unfold isNoneD at h
  split at h
  · rename_i b e
    cases hy
    refine ⟨rfl, h.ok_at hm ?_⟩
    rw [isN_ok hx e, Bool.true_xor]; exact .bl _
  · exact h.elim
/-! ### in -/
def inDS (neg : Bool) (x y : D) (m : M) : R D := match x, y with
  | .str a, .str b => match a.cps.toList with
    | [c] => .ok (.bl (neg ^^ decide (c ∈ b.cps.toList))) m
    | _ => .no
  | _, _ => .no
theorem str_one {a : Str} {c : Nat} (h : a.cps.toList = [c]) : a = ⟨#[c]⟩ := PySem.Str.ext' (Array.toList_inj.mp (by rw [h]))
theorem opd_inS : OpD A (fun x y H Q => ∃ (c : Nat) (z : Str), x = .str ⟨#[c]⟩ ∧ y = .str z ∧ Q (.bl (decide (c ∈ z.cps.toList))) H) (inDS false) := by
  intro z H m x y dx dy W Q hm hx hy h
  unfold inDS at h
  split at h
  · split at h
    · rename_i c e
      cases hx; cases hy
      refine ⟨c, _, by rw [str_one e], rfl, h.ok_at hm ?_⟩
      rw [Bool.false_xor]; exact .bl _
    · exact h.elim
  · exact h.elim
/-! ### subscripts -/
def ixD (x y : D) (m : M) : R D := match x, y with
  | .str a, .int i => if a.length ≤ sizeLine then (match atI a.cps.toList i with | some c => .ok (.str ⟨#[c]⟩) m | none => .no) else .no
  | .tup ds, .int i => (match atI ds i with | some d => .ok d m | none => .no)
  | .scr, .int _ => .no
  | x, .int i => match seqOf x m with
    | some ds => (match atI ds i with | some d => .ok d m | none => .no)
    | none => .no
  | _, _ => .no
theorem atI_rep {z : Z} {H : Hp} {vs : List V} {ds : List D} {i : Int} {d : D} (r : RepL A z H vs ds) (e : atI ds i = some d) : ∃ v, atI vs i = some v ∧ Rep A z H v d := by
  unfold atI at e ⊢
  rw [r.length]
  cases q : ixN ds.length i with
  | none => rw [q] at e; cases e
  | some j =>
    rw [q] at e
    exact r.getD e
theorem opd_ix : OpD A (fun x y H Q => rIxL A.K x y H Q ∨ (rIxT A.K x y H Q ∨ rIxS x y H Q)) ixD := by
  intro z H m x y dx dy W Q hm hx hy h
  unfold ixD at h
  split at h
  · cases hx; cases hy
    obtain ⟨c, h⟩ := post_if h
    split at h
    · rename_i c' e
      exact .inr (.inr ⟨_, _, _, rfl, rfl, c, e, h.ok_at hm (.str _)⟩)
    · exact h.elim
  · cases hy
    cases hx with
    | tup h1 r =>
      split at h
      · rename_i d e
        obtain ⟨v, e1, r1⟩ := atI_rep r e
        exact .inr (.inl ⟨_, _, _, _, rfl, rfl, h1.sq, e1, h.ok_at hm r1⟩)
      · exact h.elim
  · exact h.elim
  · cases hy
    split at h
    · rename_i ds e0
      split at h
      · rename_i d e
        obtain ⟨a, vs, rfl, h1, r⟩ := seqOf_ok hm hx e0
        obtain ⟨v, e1, r1⟩ := atI_rep r e
        exact .inl ⟨_, _, _, _, rfl, rfl, SqL.of h1, e1, h.ok_at hm r1⟩
      · exact h.elim
    · exact h.elim
  · exact h.elim
/-- an item of the script -/
def ixScr (A : Amb) (x y : D) (m : M) : R D := match x, y with
  | .scr, .int i => (match atI A.ns i with | some n => .ok (.int n) m | none => .no)
  | _, _ => .no
theorem atI_map {α β : Type} (f : α → β) (xs : List α) (i : Int) : atI (xs.map f) i = (atI xs i).map f := by
  unfold atI
  rw [List.length_map]
  cases ixN xs.length i with
  | none => rfl
  | some j => simp
theorem opd_ixScr : OpD A (rIxL A.K) (ixScr A) := by
  intro z H m x y dx dy W Q hm hx hy h
  unfold ixScr at h
  split at h
  · cases hy
    cases hx with
    | scr h1 =>
      split at h
      · rename_i n e
        refine ⟨_, _, _, .int n, rfl, rfl, h1.sq, ?_, h.ok_at hm (.int _)⟩
        rw [atI_map, e]; rfl
      · exact h.elim
  · exact h.elim
/-! ### slices -/
def cutL {α : Type} (xs : List α) (lo hi : Option Int) : List α := (xs.drop (HT.sIx xs.length 0 lo)).take (HT.sIx xs.length xs.length hi - HT.sIx xs.length 0 lo)
theorem RepL.cut {z : Z} {H : Hp} {vs : List V} {ds : List D} (r : RepL A z H vs ds) (lo hi : Option Int) : RepL A z H (cutV vs lo hi) (cutL ds lo hi) := by
  unfold cutV cutL
  rw [r.length]
  exact (r.drop _).take _
def SlD (A : Amb) (r : V → Option Int → Option Int → Hp → VK → Prop) (g : D → Option Int → Option Int → M → R D) : Prop := ∀ z H m x lo hi dx W Q, MOk A z H m → Rep A z H x dx → PostE A W z H (g dx lo hi m) Q → r x lo hi H Q
def DenO (A : Amb) (W : St → XK) (t : TO) (f : Env → M → R (Option Int)) : Prop := ∀ z H σ env m Q, MOk A z H m → Sl A z H σ env → PostG A (fun _ _ (v : Option Int) (d : Option Int) => v = d) (W σ) z H (f env m) Q → t σ H Q
variable {W : St → XK} {te ta tb : TE} {fe fa fb : Env → M → R D} {tl th : TO} {fl fh : Env → M → R (Option Int)} {tr : TA} {fr : Env → M → R (List D)}
def oNone : Env → M → R (Option Int) := fun _ m => .ok none m
def asInt : D → M → R (Option Int)
  | .int i, m => .ok (some i) m
  | _, _ => .no
def oSome (fe : Env → M → R D) : Env → M → R (Option Int) := fun env m => (fe env m).bind asInt
theorem deno_none : DenO A W tNoPart oNone := fun z H σ env m Q hm hs h => h.ok_at hm rfl
theorem deno_some (he : Den A W te fe) : DenO A W (tPart te) (oSome fe) := by
  intro z H σ env m Q hm hs h
  refine he z H σ env m _ hm hs (post_bind h fun z1 H1 d m1 v s1 hm1 hv h1 => ?_)
  cases hv with
  | int i => exact ⟨i, rfl, h1.ok_at hm1 rfl⟩
  | _ => exact h1.elim
def eSl (g : D → Option Int → Option Int → M → R D) (fe : Env → M → R D) (fl fh : Env → M → R (Option Int)) : Env → M → R D := fun env m => (fe env m).bind fun d m => (fl env m).bind fun lo m => (fh env m).bind fun hi m => g d lo hi m
theorem den_sl {r : V → Option Int → Option Int → Hp → VK → Prop} {g : D → Option Int → Option Int → M → R D} (hr : SlD A r g) (he : Den A W te fe) (hl : DenO A W tl fl) (hh : DenO A W th fh) : Den A W (tSl r te tl th) (eSl g fe fl fh) := by
  intro z H σ env m Q hm hs h
  refine he z H σ env m _ hm hs (post_bind h fun z1 H1 d m1 v s1 hm1 hv h1 => ?_)
  refine hl z1 H1 σ env m1 _ hm1 (hs.step s1) (post_bind h1 fun z2 H2 lo m2 lo' s2 hm2 hv2 h2 => ?_)
  subst hv2
  refine hh z2 H2 σ env m2 _ hm2 ((hs.step s1).step s2) (post_bind h2 fun z3 H3 hi m3 hi' s3 hm3 hv3 h3 => ?_)
  subst hv3
  exact hr z3 H3 m3 v _ _ d _ Q hm3 ((hv.step s2).step s3) h3
/-- no part is whole -/
def wholeSl (n : Nat) (lo hi : Option Int) : Bool := HT.sIx n 0 lo == 0 && HT.sIx n n hi == n
def slD (x : D) (lo hi : Option Int) (m : M) : R D := match x with
  | .str a => if a.length ≤ sizeLine then .ok (.str (cutS a lo hi)) m else .no
  | .tup ds => if wholeSl ds.length lo hi = false then .ok (.tup (cutL ds lo hi)) m else .no
  | x => match seqOf x m with
    | some ds => .ok (.lst (cutL ds lo hi)) m
    | none => .no
theorem sld_all : SlD A (fun x lo hi H Q => rSlL A.K x lo hi H Q ∨ (rSlT A.K x lo hi H Q ∨ rSlS x lo hi H Q)) slD := by
  intro z H m x lo hi dx W Q hm hx h
  unfold slD at h
  split at h
  · cases hx
    obtain ⟨c, h⟩ := post_if h
    exact .inr (.inr ⟨_, rfl, c, h.ok_at hm (.str _)⟩)
  · obtain ⟨c, h⟩ := post_if h
    cases hx with
    | tup h1 r =>
      refine .inr (.inl ⟨_, _, rfl, h1.sq, ?_, lay_tup hm (r.cut lo hi) h⟩)
      unfold wholeSl at c
      rw [r.length]
      intro q
      rw [q.1, q.2] at c
      simp at c
  · split at h
    · rename_i ds e
      obtain ⟨a, vs, rfl, h1, r⟩ := seqOf_ok hm hx e
      exact .inl ⟨_, _, rfl, SqL.of h1, lay_lst hm (r.cut lo hi) h⟩
    · exact h.elim
/-! ### built-in functions -/
def lenD (A : Amb) : List D → M → R D
  | [.str a], m => if a.length ≤ sizeLine then .ok (.int a.length) m else .no
  | [.tup ds], m => .ok (.int ds.length) m
  | [.scr], m => .ok (.int A.ns.length) m
  | [d], m => match seqOf d m with
    | some ds => .ok (.int ds.length) m
    | none => .no
  | _, _ => .no
theorem calld_len : CallD A (fun xs H Q => ∃ x n, xs = [x] ∧ LenV A.K x H n ∧ Q (.int n) H) (lenD A) := by
  intro z H m xs ds W Q hm hx h
  unfold lenD at h
  split at h
  · cases hx with
    | cons h1 h2 =>
      cases h2
      cases h1
      obtain ⟨c, h⟩ := post_if h
      exact ⟨_, _, rfl, ⟨c, rfl⟩, h.ok_at hm (.int _)⟩
  · cases hx with
    | cons h1 h2 =>
      cases h2
      cases h1 with
      | tup h1 r => exact ⟨_, _, rfl, .inr ⟨_, h1.sq, r.length.symm⟩, h.ok_at hm (.int _)⟩
  · cases hx with
    | cons h1 h2 =>
      cases h2
      cases h1 with
      | scr h1 => exact ⟨_, _, rfl, .inl ⟨_, h1.sq, by rw [List.length_map]⟩, h.ok_at hm (.int _)⟩
  · cases hx with
    | cons h1 h2 =>
      cases h2
      split at h
      · rename_i ds e
        obtain ⟨a, vs, rfl, h3, r⟩ := seqOf_ok hm h1 e
        exact ⟨_, _, rfl, .inl ⟨_, SqL.of h3, r.length.symm⟩, h.ok_at hm (.int _)⟩
      · exact h.elim
  · exact h.elim
def blsOf : List D → Option (List Bool)
  | [] => some []
  | .bl b :: ds => (blsOf ds).map (b :: ·)
  | _ :: _ => none
theorem blsOf_ok {z : Z} {H : Hp} : ∀ {vs : List V} {ds : List D} {bs : List Bool}, RepL A z H vs ds → blsOf ds = some bs → vs = bs.map V.bl
  | _, _, _, .nil, e => by injection e with e; subst e; rfl
  | _, _, _, .cons (.bl b) r, e => by
    obtain ⟨cs, e1, e2⟩ := Option.map_eq_some_iff.mp e
    subst e2
    rw [blsOf_ok r e1]; rfl
  | _, _, _, .cons .non r, e => nomatch e
  | _, _, _, .cons (.int _) r, e => nomatch e
  | _, _, _, .cons (.str _) r, e => nomatch e
  | _, _, _, .cons (.lst _ _ _) r, e => nomatch e
  | _, _, _, .cons (.tup _ _) r, e => nomatch e
  | _, _, _, .cons (.cell _) r, e => nomatch e
  | _, _, _, .cons (.scr _) r, e => nomatch e
  | _, _, _, .cons (.ob _) r, e => nomatch e
  | _, _, _, .cons (.tk _ _) r, e => nomatch e
theorem blsOf_map (bs : List Bool) : blsOf (bs.map D.bl) = some bs := by
  induction bs with
  | nil => rfl
  | cons b bs ih => show (blsOf (bs.map D.bl)).map (b :: ·) = _; rw [ih]; rfl
def quantD (f : List Bool → Bool) : List D → M → R D
  | [d], m => match seqOf d m with
    | some ds => (match blsOf ds with | some bs => .ok (.bl (f bs)) m | none => .no)
    | none => .no
  | _, _ => .no
theorem calld_quant {f : List Bool → Bool} : CallD A (fun vs H Q => ∃ (a : Addr) (bs : List Bool), vs = [V.ref a] ∧ SqL A.K H a (bs.map V.bl) ∧ Q (.bl (f bs)) H) (quantD f) := by
  intro z H m xs ds W Q hm hx h
  unfold quantD at h
  split at h
  · cases hx with
    | cons h1 h2 =>
      cases h2
      split at h
      · rename_i ds e
        split at h
        · rename_i bs e2
          obtain ⟨a, vs, rfl, h3, r⟩ := seqOf_ok hm h1 e
          have := blsOf_ok r e2
          subst this
          exact ⟨a, bs, rfl, SqL.of h3, h.ok_at hm (.bl _)⟩
        · exact h.elim
      · exact h.elim
  · exact h.elim
theorem calld_all : CallD A (rAll A.K) (quantD fun bs => bs.all id) := calld_quant
theorem calld_any : CallD A (rAny A.K) (quantD fun bs => bs.any id) := calld_quant
def intD : List D → M → R D
  | [.int i], m => .ok (.int i) m
  | [.bl b], m => .ok (.int (if b then 1 else 0)) m
  | _, _ => .no
theorem calld_int : CallD A (fun xs H Q => (∃ i, xs = [.int i] ∧ Q (.int i) H) ∨ ∃ k, xs = [.bl k] ∧ Q (.int (if k then 1 else 0)) H) intD := by
  intro z H m xs ds W Q hm hx h
  unfold intD at h
  split at h
  · cases hx with
    | cons h1 h2 => cases h2; cases h1; exact .inl ⟨_, rfl, h.ok_at hm (.int _)⟩
  · cases hx with
    | cons h1 h2 => cases h2; cases h1; exact .inr ⟨_, rfl, h.ok_at hm (.int _)⟩
  · exact h.elim
def tyD : D → M → Option String
  | .non, _ => some "NoneType"
  | .bl _, _ => some "bool"
  | .int _, _ => some "int"
  | .str _, _ => some "str"
  | .lst _, _ => some "list"
  | .tup _, _ => some "tuple"
  | .cell k, m => match m[k]? with
    | some (.lst _) => some "list"
    | some (.dK _) => some "dict"
    | _ => none
  | _, _ => none
theorem tyD_ok {z : Z} {H : Hp} {m : M} {v : V} {d : D} {n : String} (hm : MOk A z H m) (h : Rep A z H v d) (e : tyD d m = some n) : TyX A.K H v (.type n) := by
  cases h with
  | non => injection e with e; subst e; exact .base .non
  | bl b => injection e with e; subst e; exact .base (.bl b)
  | int b => injection e with e; subst e; exact .base (.int b)
  | str b => injection e with e; subst e; exact .base (.str b)
  | lst h1 i r => injection e with e; subst e; exact .base (.lst h1)
  | tup h1 r =>
    injection e with e; subst e
    rcases h1 with ⟨h1, _⟩ | ⟨o, its, n, h1, h2, _⟩
    · exact .base (.tup h1)
    · exact .kTuple h1 h2
  | @cell a k h1 =>
    have e : (match m[k]? with | some (.lst _) => some "list" | some (.dK _) => some "dict" | _ => none) = some n := e
    cases q : m[k]? with
    | none => rw [q] at e; cases e
    | some o =>
      rw [q] at e
      have ho := hm.at_ k a o h1 q
      cases o with
      | lst ds => injection e with e; subst e; obtain ⟨vs, e1, _⟩ := ho; exact .base (.lst e1)
      | dK ds => injection e with e; subst e; obtain ⟨vs, e1, _⟩ := ho; exact .base (.dK e1)
      | dT _ => cases e
      | frK _ => cases e
      | frT _ => cases e
      | ins _ _ => cases e
      | exc _ _ => cases e
  | scr _ => cases e
  | ob v => cases e
  | tk _ _ => cases e
def isiD : List D → M → R D
  | [d, .ob (.ty c)], m => match tyD d m with
    | some n => (match kitB n c with | some b => .ok (.bl b) m | none => .no)
    | none => .no
  | _, _ => .no
theorem calld_isi : CallD A (rIsi A.K) isiD := by
  intro z H m xs ds W Q hm hx h
  unfold isiD at h
  split at h
  · cases hx with
    | cons h1 h2 =>
      cases h2 with
      | cons h2 h3 =>
        cases h3
        cases h2
        split at h
        · rename_i n e
          split at h
          · rename_i b e2
            exact ⟨_, _, _, _, b, rfl, .ty _, tyD_ok hm h1 e, kit_ty e2, h.ok_at hm (.bl _)⟩
          · exact h.elim
        · exact h.elim
  · exact h.elim
/-! ### methods of texts -/
def isStr : D → M → Bool
  | .str _, _ => true
  | _, _ => false
theorem tyd_str : TyD A "str" isStr := by
  intro z H m x d hm hx e
  cases hx with
  | str => exact rfl
  | _ => cases e
def isLst : D → M → Bool := fun d m => (seqOf d m).isSome
theorem tyd_lst : TyD A "list" isLst := by
  intro z H m x d hm hx e
  obtain ⟨ds, e⟩ := Option.isSome_iff_exists.mp e
  obtain ⟨a, vs, rfl, h1, _⟩ := seqOf_ok hm hx e
  exact .inl ⟨rfl, vs, SqL.of h1⟩
def txs (ys : List Str) : List D := ys.map D.str
theorem repL_txs {z : Z} {H : Hp} (ys : List Str) : RepL A z H (ys.map V.str) (txs ys) := by
  induction ys with
  | nil => exact .nil
  | cons y ys ih => exact .cons (.str y) ih
def splitD : D → List D → M → R D
  | .str a, [.str b], m => if b.length ≠ 0 ∧ a.length + 2 ≤ sizeLine then .ok (.lst (txs (Txt.split a b))) m else .no
  | _, _, _ => .no
theorem mtd_split : MtD A (fun x xs H Q => ∃ a b, x = .str a ∧ xs = [.str b] ∧ (b.length == 0) = false ∧ a.length + 2 ≤ sizeLine ∧ rNewStrs (Txt.split a b) H Q) splitD := by
  intro z H m x xs d ds W Q hm hx hxs h
  unfold splitD at h
  split at h
  · cases hx
    cases hxs with
    | cons h1 h2 =>
      cases h2; cases h1
      obtain ⟨c, h⟩ := post_if h
      exact ⟨_, _, rfl, rfl, by simpa using c.1, c.2, lay_lst hm (repL_txs _) h⟩
  · exact h.elim
/-- split into a cell -/
def splitC : D → List D → M → R D
  | .str a, [.str b], m => if b.length ≠ 0 ∧ a.length + 2 ≤ sizeLine then .ok (.cell m.length) (m ++ [.lst (txs (Txt.split a b))]) else .no
  | _, _, _ => .no
theorem mtd_splitC : MtD A (fun x xs H Q => ∃ a b, x = .str a ∧ xs = [.str b] ∧ (b.length == 0) = false ∧ a.length + 2 ≤ sizeLine ∧ rNewStrs (Txt.split a b) H Q) splitC := by
  intro z H m x xs d ds W Q hm hx hxs h
  unfold splitC at h
  split at h
  · cases hx
    cases hxs with
    | cons h1 h2 =>
      cases h2; cases h1
      obtain ⟨c, h⟩ := post_if h
      exact ⟨_, _, rfl, rfl, by simpa using c.1, c.2, lay_cell hm (repL_txs _) h⟩
  · exact h.elim
def txsOf : List D → Option (List Str)
  | [] => some []
  | .str x :: ds => (txsOf ds).map (x :: ·)
  | _ :: _ => none
theorem txsOf_txs (ys : List Str) : txsOf (txs ys) = some ys := by
  induction ys with
  | nil => rfl
  | cons y ys ih => show (txsOf (txs ys)).map (y :: ·) = _; rw [ih]; rfl
theorem txsOf_ok {z : Z} {H : Hp} : ∀ {vs : List V} {ds : List D} {bs : List Str}, RepL A z H vs ds → txsOf ds = some bs → vs = bs.map V.str
  | _, _, _, .nil, e => by injection e with e; subst e; rfl
  | _, _, _, .cons (.str b) r, e => by
    obtain ⟨cs, e1, e2⟩ := Option.map_eq_some_iff.mp e
    subst e2
    rw [txsOf_ok r e1]; rfl
  | _, _, _, .cons .non r, e => nomatch e
  | _, _, _, .cons (.int _) r, e => nomatch e
  | _, _, _, .cons (.bl _) r, e => nomatch e
  | _, _, _, .cons (.lst _ _ _) r, e => nomatch e
  | _, _, _, .cons (.tup _ _) r, e => nomatch e
  | _, _, _, .cons (.cell _) r, e => nomatch e
  | _, _, _, .cons (.scr _) r, e => nomatch e
  | _, _, _, .cons (.ob _) r, e => nomatch e
  | _, _, _, .cons (.tk _ _) r, e => nomatch e
def itemsOf : D → M → Option (List D)
  | .tup ds, _ => some ds
  | d, m => seqOf d m
def joinD : D → List D → M → R D
  | .str a, [d], m => match (itemsOf d m).bind txsOf with
    | some ys => if (ys.map (·.length)).sum + ys.length * a.length ≤ 16777216 then .ok (.str (Txt.join a ys)) m else .no
    | none => .no
  | _, _, _ => .no
theorem itemsOf_ok {z : Z} {H : Hp} {m : M} {v : V} {d : D} {ds : List D} (hm : MOk A z H m) (hv : Rep A z H v d) (e : itemsOf d m = some ds) : ∃ a vs, v = .ref a ∧ (SqL A.K H a vs ∨ SqT A.K H a vs) ∧ RepL A z H vs ds := by
  cases hv with
  | tup h r => injection e with e; subst e; exact ⟨_, _, rfl, .inr h.sq, r⟩
  | lst h i r => injection e with e; subst e; exact ⟨_, _, rfl, .inl (SqL.of h), r⟩
  | cell h =>
    obtain ⟨a, vs, e1, h1, r⟩ := seqOf_ok hm (.cell h) e
    exact ⟨a, vs, e1, .inl (SqL.of h1), r⟩
  | _ => cases e
theorem mtd_join : MtD A (fun x xs H Q => ∃ a p, ∃ ys : List Str, x = .str a ∧ xs = [.ref p] ∧ (SqL A.K H p (ys.map V.str) ∨ SqT A.K H p (ys.map V.str)) ∧ (ys.map (·.length)).sum + ys.length * a.length ≤ 16777216 ∧ Q (.str (Txt.join a ys)) H) joinD := by
  intro z H m x xs d ds W Q hm hx hxs h
  unfold joinD at h
  split at h
  · cases hx
    cases hxs with
    | cons h1 h2 =>
      cases h2
      split at h
      · rename_i ys e
        obtain ⟨c, h⟩ := post_if h
        obtain ⟨es, e1, e2⟩ := Option.bind_eq_some_iff.mp e
        obtain ⟨p, vs, rfl, h3, r⟩ := itemsOf_ok hm h1 e1
        have := txsOf_ok r e2
        subst this
        exact ⟨_, p, ys, rfl, rfl, h3, c, h.ok_at hm (.str _)⟩
      · exact h.elim
  · exact h.elim
/-- a question without arguments -/
def askD (f : Str → Bool) : D → List D → M → R D
  | .str a, [], m => .ok (.bl (f a)) m
  | _, _, _ => .no
theorem mtd_ask {f : Str → Bool} : MtD A (fun x xs H Q => ∃ a, x = .str a ∧ xs = [] ∧ True ∧ Q (.bl (f a)) H) (askD f) := by
  intro z H m x xs d ds W Q hm hx hxs h
  unfold askD at h
  split at h
  · cases hx; cases hxs
    exact ⟨_, rfl, rfl, trivial, h.ok_at hm (.bl _)⟩
  · exact h.elim
def countD : D → List D → M → R D
  | .str a, [.str b], m => .ok (.int (Txt.count a b)) m
  | _, _, _ => .no
theorem mtd_count : MtD A (fun x xs H Q => ∃ a b, x = .str a ∧ xs = [.str b] ∧ Q (.int (Txt.count a b)) H) countD := by
  intro z H m x xs d ds W Q hm hx hxs h
  unfold countD at h
  split at h
  · cases hx
    cases hxs with
    | cons h1 h2 => cases h2; cases h1; exact ⟨_, _, rfl, rfl, h.ok_at hm (.int _)⟩
  · exact h.elim
/-- a text from a text, under a bound of size -/
def str1D (f : Str → Str → Str) : D → List D → M → R D
  | .str a, [.str b], m => if a.length ≤ sizeLine then .ok (.str (f a b)) m else .no
  | _, _, _ => .no
theorem mtd_str1 {f : Str → Str → Str} : MtD A (fun x xs H Q => ∃ a b, x = .str a ∧ xs = [.str b] ∧ a.length ≤ sizeLine ∧ Q (.str (f a b)) H) (str1D f) := by
  intro z H m x xs d ds W Q hm hx hxs h
  unfold str1D at h
  split at h
  · cases hx
    cases hxs with
    | cons h1 h2 => cases h2; cases h1; obtain ⟨c, h⟩ := post_if h; exact ⟨_, _, rfl, rfl, c, h.ok_at hm (.str _)⟩
  · exact h.elim
/-! rpartition -/
def rpar (x y : Str) : Str × Str × Str := match Builtin.Str.lastOccurrence x y 0 x.length with
  | some i => (Builtin.Str.strSub x 0 i, y, Builtin.Str.strSub x (i + y.length) x.length)
  | none => (Str.empty, Str.empty, x)
def rRpar : V → List V → Hp → VK → Prop := fun x xs H Q => ∃ a b, x = .str a ∧ xs = [.str b] ∧ (b.length == 0) = false ∧ a.length ≤ sizeLine ∧ ∀ p, H p = none → Q (.ref p) (upd H p (.tup [.str (rpar a b).1, .str (rpar a b).2.1, .str (rpar a b).2.2]))
theorem mt_rpar {X : Cx} : MtR X "str.rpartition" rRpar := by
  intro pins s σ H x xs v us Q I rx rs h
  obtain ⟨a, b, rfl, rfl, hb, hz, h⟩ := h
  obtain ⟨t, rfl⟩ := rx
  cases rs with
  | cons r1 rs =>
    cases rs
    obtain ⟨u, rfl⟩ := r1
    refine call_meets F.slot_str_rpartition (typeIs_str _ _ _) F.entry_str_rpartition (F.args_str_rpartition_2 _ _) (meets_str_rpartition a b t u hb hz) ?_
    unfold rpar at h
    revert h
    cases Builtin.Str.lastOccurrence a b 0 a.length with
    | none => intro h; exact laid_parts I h
    | some i => intro h; exact laid_parts I h
def rparD : D → List D → M → R D
  | .str a, [.str b], m => if b.length ≠ 0 ∧ a.length ≤ sizeLine then .ok (.tup [.str (rpar a b).1, .str (rpar a b).2.1, .str (rpar a b).2.2]) m else .no
  | _, _, _ => .no
theorem mtd_rpar : MtD A rRpar rparD := by
  intro z H m x xs d ds W Q hm hx hxs h
  unfold rparD at h
  split at h
  · cases hx
    cases hxs with
    | cons h1 h2 =>
      cases h2; cases h1
      obtain ⟨c, h⟩ := post_if h
      exact ⟨_, _, rfl, rfl, by simpa using c.1, c.2, lay_tup hm (.cons (.str _) (.cons (.str _) (.cons (.str _) .nil))) h⟩
  · exact h.elim
/-! ### lists change -/
def appendD : D → List D → M → R D
  | .cell k, [d], m => match m[k]? with
    | some (.lst ds) => if ds.length < sizeLine then .ok .non (m.set k (.lst (ds ++ [d]))) else .no
    | _ => .no
  | _, _, _ => .no
theorem mtd_append : MtD A rAppend appendD := by
  intro z H m x xs d ds W Q hm hx hxs h
  unfold appendD at h
  split at h
  · rename_i k d'
    split at h
    · rename_i ds' e
      obtain ⟨c, h⟩ := post_if h
      cases hxs with
      | cons h1 h2 =>
        cases h2
        cases hx with
        | cell hk =>
          obtain ⟨vs, e1, r⟩ := hm.at_ k _ _ hk e
          refine ⟨_, vs, _, rfl, rfl, e1, by rw [r.length]; exact c, ?_⟩
          rename_i w p
          have s : Step z H z (upd H p (.lst (vs ++ [w]))) := Step.put (A := A) hm hk (nofr e1)
          exact h z _ _ s (hm.put hk ⟨_, upd_same, (r.snoc h1).step s⟩ (nofr e1)) .non
    · exact h.elim
  · exact h.elim
def sSetIx (fe fo fi : Env → M → R D) : Env → M → S := fun env m => (fe env m).to env fun v m => (fo env m).to env fun o m => (fi env m).to env fun i m => match o, i with
  | .cell k, .int i => (match m[k]? with
    | some (.lst ds) => (match ixN ds.length i with
      | some j => .nx env (m.set k (.lst (ds.set j v)))
      | none => .no)
    | _ => .no)
  | _, _ => .no
theorem RepL.set {z : Z} {H : Hp} {v : V} {d : D} (h : Rep A z H v d) : ∀ {vs : List V} {ds : List D} (j : Nat), RepL A z H vs ds → RepL A z H (vs.set j v) (ds.set j d)
  | _, _, _, .nil => .nil
  | _, _, 0, .cons _ r => .cons h r
  | _, _, j + 1, .cons a r => .cons a (RepL.set h j r)
theorem dens_setIx (he : Den A W te fe) (ho : Den A W ta fa) (hi : Den A W tb fb) : DenS A W (tAsg te (gSub ta tb rSetL)) (sSetIx fe fa fb) := by
  intro z H σ env m E hm hs h
  refine he z H σ env m _ hm hs (post_to hs h fun z1 H1 d m1 v s1 hm1 hs1 hv h1 => ?_)
  refine ho z1 H1 σ env m1 _ hm1 hs1 (post_to hs1 h1 fun z2 H2 d2 m2 v2 s2 hm2 hs2 hv2 h2 => ?_)
  refine hi z2 H2 σ env m2 _ hm2 hs2 (post_to hs2 h2 fun z3 H3 d3 m3 v3 s3 hm3 hs3 hv3 h3 => ?_)
  have hv' := (hv.step s2).step s3
  have hv2' := hv2.step s3
  split at h3
  · rename_i k i
    split at h3
    · rename_i ds e
      split at h3
      · rename_i j ej
        cases hv3
        cases hv2' with
        | cell hk =>
          obtain ⟨vs, e1, r⟩ := hm3.at_ k _ _ hk e
          refine ⟨_, vs, i, j, rfl, rfl, e1, by rw [r.length]; exact ej, ?_⟩
          have s : Step z3 H3 z3 (upd H3 _ (.lst (vs.set j v))) := Step.put (A := A) hm3 hk (nofr e1)
          exact h3 z3 σ _ s (hm3.put hk ⟨_, upd_same, RepL.set (hv'.step s) j (r.step s)⟩ (nofr e1)) (hs3.step s)
      · exact h3.elim
    · exact h3.elim
  · exact h3.elim
end
/-! ### a def -/
section
variable {A : Amb} {P : Program} {w : World} {mg : Str → Option Value} {base : Heap}
/-- what a body comes to -/
def retS (s : S) : R D := match s with
  | .nx _ m => .ok .non m
  | .rt d m => .ok d m
  | .ex x _ m => .ex x m
  | _ => .no
def startD (n : Nat) (ds : List D) : Env := ds.map some ++ List.replicate (n - ds.length) none
theorem sl_start {z : Z} {H : Hp} {N : List Str} {vs : List V} {ds : List D} (r : RepL A z H vs ds) (hl : ds.length ≤ N.length) : Sl A z H (L2.start N vs) (startD N.length ds) := by
  have hlen := r.length
  refine ⟨by unfold L2.start startD; simp; omega, fun i d e => ?_⟩
  unfold startD at e
  by_cases hi : i < ds.length
  · rw [List.getElem?_append_left (by simpa using hi), List.getElem?_map] at e
    cases q : ds[i]? with
    | none => rw [q] at e; cases e
    | some d' =>
      rw [q] at e
      cases e
      obtain ⟨v, h1, h2⟩ := r.getD q
      refine ⟨v, ?_, h2⟩
      unfold L2.start
      rw [List.getElem?_append_left (by rw [List.length_map]; omega), List.getElem?_map, h1]
      rfl
  · rw [List.getElem?_append_right (by simpa using hi), List.getElem?_replicate] at e
    split at e <;> cases e
theorem post_ret {W : XK} {z : Z} {H : Hp} {s : S} {Q : VK} (h : PostE A W z H (retS s) Q) : PostS A (fun _ => W) z H s { nx := fun _ H' => Q .non H', rt := Q } := by
  cases s with
  | nx env m => exact fun z' σ' H' s hm _ => h z' .non H' s hm .non
  | rt d m => exact h
  | ex x env m => exact fun z' σ' d H' s hm _ hx => h z' d H' s hm hx
  | bk _ _ => exact h.elim
  | ct _ _ => exact h.elim
  | no => exact h.elim
/-- what a def comes to: by its body -/
def bodyD (n : Nat) (F : Env → M → S) : List D → M → R D := fun ds m => retS (F (startD n ds) m)
/-- a def that lets nothing out keeps its promise -/
theorem fn_denF {x qual : Str} {st : Stmt} {f : Addr} {fd : FuncData} {N ps : List Str} {k : Nat} {F : Env → M → S} (Fu : Fun A.K x qual st f fd) (Sc : FnScope N ps (defScope st)) (hn : ps.length ≤ N.length)
    (hbody : ∀ (cdv : Value) (Ar : Around) (outer : List PySem.Env) (s : Shared) (H : Hp) (E : XK), Room k (Ar.deeper (PyProof.Rows.envOfC qual (defScope st) s.heap.objs.size f cdv)) →
      ∃ t, PSs (cxOf CX0 P w A.K mg base N qual (defScope st) f cdv Ar outer s H E).nox (defBody st) t ∧ DenS A (fun _ => E) t F) : FnOk P w A.K mg base CX0 (k + 1) f fd ps (spD A ps.length (bodyD N.length F)) := by
  refine Fu.ok Sc (fun vs H Q E h => h.1) fun cdv Ar outer s H vs Q E hr h => ?_
  obtain ⟨hl, z, m, ds, hm, hr', hq⟩ := h
  obtain ⟨t, ht, hd⟩ := hbody cdv Ar outer s H E hr
  exact ⟨t, ht, hd z H _ _ m _ hm (sl_start hr' (by rw [← hr'.length, hl]; exact hn)) (post_ret hq)⟩
end
end DL

namespace DL
open PySem PySem.Spec L2
/-! ### own defs -/
abbrev FnP (K : PySem.W.Frag) (x : Str) (st : Stmt) (f : Addr) (fd : FuncData) : Prop := FunD K x x (defArgs st) (defBody st) (defScope st) [] [] f fd
/-- a def that stands, as its callers see it -/
structure Own (P : Program) (w : World) (A : Amb) (mg : Str → Option Value) (base : Heap) (x : Str) (st : Stmt) (ps : List Str) (lv : Nat) (g : List D → M → R D) (f : Addr) (fd : FuncData) : Prop where
  m : mg x = some (.ref f)
  k : PySem.W.keepIn A.K (.ref f) = true
  b : Binds A.K fd ps []
  F : FnOk P w A.K mg base CX0 lv f fd ps (spD A ps.length g)
section
variable {A : Amb} {P : Program} {w : World} {mg : Str → Option Value} {base : Heap}
/-- the relations by name: what a comprehension's item asks may not hang on its block -/
def rSlU (K : PySem.W.Frag) : V → Option Int → Option Int → Hp → VK → Prop := fun x lo hi H Q => rSlL K x lo hi H Q ∨ (rSlT K x lo hi H Q ∨ rSlS x lo hi H Q)
theorem sl_all {X : Cx} : SlR X (rSlU X.K) := sl_list.or (sl_tup.or sl_str)
def rIxU (K : PySem.W.Frag) : R2 := fun x y H Q => rIxL K x y H Q ∨ (rIxT K x y H Q ∨ rIxS x y H Q)
theorem ix_all {X : Cx} : IxR X (rIxU X.K) := ix_list.or (ix_tup.or ix_str)
def rLenU (K : PySem.W.Frag) : List V → Hp → VK → Prop := fun xs H Q => ∃ x n, xs = [x] ∧ LenV K x H n ∧ Q (.int n) H
theorem call_lenU {X : Cx} : CallR X (.builtin "len") (rLenU X.K) := call_len
theorem calld_lenU : CallD A (rLenU A.K) (lenD A) := calld_len
def rJoinU (K : PySem.W.Frag) : V → List V → Hp → VK → Prop := fun x xs H Q => ∃ a p, ∃ ys : List Str, x = .str a ∧ xs = [.ref p] ∧ (SqL K H p (ys.map V.str) ∨ SqT K H p (ys.map V.str)) ∧ (ys.map (·.length)).sum + ys.length * a.length ≤ 16777216 ∧ Q (.str (Txt.join a ys)) H
theorem mt_joinU {X : Cx} : MtR X "str.join" (rJoinU X.K) := mt_join
theorem mtd_joinU : MtD A (rJoinU A.K) joinD := mtd_join
def tTru (K : PySem.W.Frag) (ta : TE) : TT := fun σ H Q => ta σ H fun x H' => ∃ k, TruV K x H' k ∧ Q k H'
theorem pt_tru {X : Cx} {a : Expr} {ta : TE} (ha : PE X a ta) (he : ∀ whole, isTrue a X.env whole = (do let v ← whole; standAt a.pos; holding [v] (truthy v))) : PT X a (tTru X.K ta) := pt_truth ha he
theorem dent_truU {W : L2.St → XK} {ta : TE} {fa : Env → M → R D} (ha : Den A W ta fa) : DenT A W (tTru A.K ta) (eTest asTru fa) := dent_tru ha
theorem sld_U : SlD A (rSlU A.K) slD := sld_all
theorem opd_ixU : OpD A (rIxU A.K) ixD := opd_ix
theorem passAt0 {X : Cx} {σ : L2.St} {E : XK} : PassesAt CX0 X σ E := fun _ _ _ _ _ _ h => h.elim
theorem fn_den {x : Str} {st : Stmt} {f : Addr} {fd : FuncData} {N ps : List Str} {k : Nat} {F : Env → M → S} (Fu : FnP A.K x st f fd) (Sc : FnScope N ps (defScope st)) (hn : ps.length ≤ N.length)
    (hbody : ∀ (cdv : Value) (Ar : Around) (outer : List PySem.Env) (s : Shared) (H : Hp) (E : XK), Room k (Ar.deeper (PyProof.Rows.envOfC x (defScope st) s.heap.objs.size f cdv)) →
      ∃ t, PSs (cxOf CX0 P w A.K mg base N x (defScope st) f cdv Ar outer s H E) (defBody st) t ∧ DenS A (fun _ => E) t F) : FnOk P w A.K mg base CX0 (k + 1) f fd ps (spD A ps.length (bodyD N.length F)) := by
  refine Fu.ok Sc (fun vs H Q E h => h.1) fun cdv Ar outer s H vs Q E hr h => ?_
  obtain ⟨hl, z, m, ds, hm, hr', hq⟩ := h
  obtain ⟨t, ht, hd⟩ := hbody cdv Ar outer s H E hr
  exact ⟨t, ht, hd z H _ _ m _ hm (sl_start hr' (by rw [← hr'.length, hl]; exact hn)) (post_ret hq)⟩
/-- called with keywords alone, all of them in the parameters' order -/
def kwAll (K : PySem.W.Frag) (fd : FuncData) (ps : List Str) : Prop := KBn K fd ps 0 ps (fun _ ws => ws) (fun _ zs => zs)
theorem kw_all {K : PySem.W.Frag} {x : Str} {st : Stmt} {f : Addr} {fd : FuncData} {ps : List Str} (Fu : FnP K x st f fd)
    (h : ∀ (kV doc pm : Value) (an : Option Addr) (cdv ct : Value) (ws : List Value), ws.length = ps.length → bindArgs (PySem.W.fnOf x x (defArgs st) (defBody st) (defScope st) .none kV doc pm an cdv ct) ⟨[], ps.zip ws⟩ = pure (ps.zip ws)) : kwAll K fd ps := by
  obtain ⟨oc, od, dV, kV, doc, pm, an, cdv, ct, osl, rfl, lk, hcd, hD, hK⟩ := Fu.ex
  rcases hD with ⟨_, rfl⟩ | ⟨e, _⟩
  · refine ⟨fun s us ws X l1 l2 => ?_, fun _ r => r⟩
    have e : us = [] := List.eq_nil_of_length_eq_zero l1
    subst e
    exact .of_eq (h kV doc pm an cdv ct ws l2)
  · exact absurd rfl e
def tCallK0 (k : Nat) (sp : Sp) (E : L2.St → XK) (tk : TA) : TE := fun σ H Q => tk σ H fun zs H2 => zs.length = k ∧ sp zs H2 Q (E σ)
theorem pe_callK0 {X : Cx} {CX : CXT} {k : Nat} {f : Addr} {fd : FuncData} {ps : List Str} {sp : Sp} {E : L2.St → XK} {x : Str} {p pos : Pos} {kws : List Keyword} {tk : TA} (F : FnOk X.prog X.w X.K X.mg X.base CX k f fd ps sp) (hr : Room k X.A) (hg : Gl X x) (hm : X.mg x = some (.ref f))
    (hk : PySem.W.keepIn X.K (.ref f) = true) (hb : kwAll X.K fd ps) (hx : ∀ σ, PassesAt CX X σ (E σ)) (hkw : PK X kws tk)
    (hall : (backToKw pos (keywordEach kws X.env)).all (·.1.isSome) = true := by rfl) (hks : (backToKw pos (keywordEach kws X.env)).filterMap (·.1) = ps := by rfl) (hdb : (x == ("__debug__" : Str)) = false := by decide)
    (hpl : ((backTo pos (starEach [] X.env)).any (·.1) || (backToKw pos (keywordEach kws X.env)).any (·.1.isNone)) = false := by rfl) :
    PE X (.Call (.Name x p) [] kws pos) (tCallK0 ps.length sp E tk) := by
  refine ⟨fun pins s σ H Q I h => ?_⟩
  refine wpAny_Call_Name_kw (ld_glob I hg hm ?_ hdb)
  refine PySem.W.callWith_KW0 (h₀ := X.base) I.ok.mod.kin hk hall ?_ hpl
  refine thn (hkw.run pos pins s σ H _ I h) fun ws s2 ⟨zs, H2, I2, rz, l2, q2⟩ => ⟨I2.kIn, ?_⟩
  rw [hks]
  refine wpAny_call (codeAny_mono (F.run X.A X.stack s2 H2 ⟨[], ps.zip ws⟩ ws zs Q (E σ) hr I2.env0 (hb.to s2 [] ws I2.kIn rfl (rz.length.symm.trans l2)) rz q2) fun r s' hq => ?_)
  cases r with
  | error e => exact hx σ pins H2 s2 e s' I2 hq
  | ok fl =>
    cases fl with
    | ret u => exact I2.after hq
    | next => exact False.elim hq
    | brk => exact False.elim hq
    | cont => exact False.elim hq
def eCallK (n : Nat) (g : List D → M → R D) (fr : Env → M → R (List D)) : Env → M → R D := fun env m => (fr env m).bind fun ds m => if ds.length = n then g ds m else .no
theorem den_callK {W : L2.St → XK} {n : Nat} {g : List D → M → R D} {tr : TA} {fr : Env → M → R (List D)} (ha : DenA A W tr fr) : Den A W (tCallK0 n (spD A n g) W tr) (eCallK n g fr) := by
  intro z H σ env m Q hm hs h
  refine ha z H σ env m _ hm hs (post_bind h fun z1 H1 d m1 v s1 hm1 hv h1 => ?_)
  obtain ⟨e, h1⟩ := post_if h1
  exact ⟨by rw [hv.length]; exact e, by rw [hv.length]; exact e, z1, m1, d, hm1, hv, h1⟩
/-! ### the rules with the written part by name: a comprehension's item must not hang on its block -/
section
variable {X : Cx} {K : PySem.W.Frag} {a b e o : Expr} {es rest : List Expr} {pos apos cpos p p2 : Pos} {ta tb te to : TE} {t : TA} {tl th : TO} {lo hi : Option Expr} {name : Str} {T id : String} {r : V → List V → Hp → VK → Prop}
theorem call_lenA (hK : X.K = K) : CallR X (.builtin "len") (rLenU K) := by subst hK; exact call_lenU
theorem call_isiA (hK : X.K = K) : CallR X (.builtin "isinstance") (rIsi K) := by subst hK; exact call_isi
theorem cr_allA (hK : X.K = K) (hc : X.calm = true) : CallR X (.builtin "all") (rAll K) := by subst hK; exact cr_all hc
theorem cr_anyA (hK : X.K = K) (hc : X.calm = true) : CallR X (.builtin "any") (rAny K) := by subst hK; exact cr_any hc
theorem sl_allA (hK : X.K = K) : SlR X (rSlU K) := by subst hK; exact sl_all
theorem ix_allA (hK : X.K = K) : IxR X (rIxU K) := by subst hK; exact ix_all
theorem ix_listA (hK : X.K = K) : IxR X (rIxL K) := by subst hK; exact ix_list
theorem mt_joinA (hK : X.K = K) : MtR X "str.join" (rJoinU K) := by subst hK; exact mt_joinU
theorem mt_indexA (hK : X.K = K) : MtR X "list.index" (rIndex K) := by subst hK; exact mt_index
theorem op_eqA (hK : X.K = K) (hu : X.A.units + 64 < cLine) : OpR X (compareOp .Eq) (rEqU K) := by subst hK; exact op_eqU hu
theorem op_neA (hK : X.K = K) (hu : X.A.units + 64 < cLine) : OpR X (compareOp .NotEq) (rNeU K) := by subst hK; exact op_neU hu
theorem op_inA (hK : X.K = K) : OpR X (compareOp .In) (rIn K false) := by subst hK; exact op_in_seq
theorem op_notInA (hK : X.K = K) : OpR X (compareOp .NotIn) (rIn K true) := by subst hK; exact op_notIn_seq
theorem pt_truA (hK : X.K = K) (ha : PE X a ta) (he : ∀ whole, isTrue a X.env whole = (do let v ← whole; standAt a.pos; holding [v] (truthy v))) : PT X a (tTru K ta) := by subst hK; exact pt_tru ha he
theorem pe_andA (hK : X.K = K) (ha : PE X a ta) (hb : PE X (.BoolOp .And (b :: rest) pos) tb) : PE X (.BoolOp .And (a :: b :: rest) pos) (tAndT K ta tb) := by subst hK; exact pe_andT ha hb
theorem pe_orA (hK : X.K = K) (ha : PE X a ta) (hb : PE X (.BoolOp .Or (b :: rest) pos) tb) : PE X (.BoolOp .Or (a :: b :: rest) pos) (tOrT K ta tb) := by subst hK; exact pe_orT ha hb
theorem pe_notA (hK : X.K = K) (ha : PE X a ta) : PE X (.UnaryOp .Not a pos) (tNotT K ta) := by subst hK; exact pe_notT ha
theorem pi_listA {tg : Expr} (hK : X.K = K) (ha : PE X a ta) : PI X tg a (iList K ta) := by subst hK; exact pi_list ha
theorem pi_tupA {tg : Expr} (hK : X.K = K) (ha : PE X a ta) : PI X tg a (iTup K ta) := by subst hK; exact pi_tup ha
theorem pg_tupA {k n : Nat} {ts : TGs} (hK : X.K = K) (hc : X.calm = true) (h : PGs X es ts) (hn : (assignEach es X.env).length = n := by rfl) (hst : (assignEach es X.env).findIdx? (·.1) = none := by rfl) : PG X (.Tuple es k pos) (gTup K n ts) := by subst hK; exact pg_tup hc h hn hst
theorem pe_bmA (hK : X.K = K) (pa : PlainAttrs T) (slot : Slot T name id) (hty : typeOf (.builtin id) = pure (.type "method_descriptor")) (hm : MtR X id r) (ho : PE X o to) (ha : PA X (e :: es) t)
    (hbase : attributeBase o name X.env (eval o X.env) = eval o X.env := by rfl)
    (hfew : ((backTo cpos (starEach (e :: es) X.env)).all (fun x => !x.1) && (backToKw cpos (keywordEach [] X.env)).all (fun x => x.1.isSome)
      && decide ((e :: es).length + ([] : List Keyword).length + (if ([] : List Keyword).isEmpty then 0 else 1) < 30)) = true := by rfl)
    (hline : (apos.endLine == cpos.line) = true := by rfl) (hs : starEach (e :: es) X.env = (false, eval e X.env) :: starEach es X.env := by rfl) (hplain : (backTo cpos (starEach es X.env)).any (·.1) = false := by rfl) :
    PE X (.Call (.Attribute o name apos) (e :: es) [] cpos) (tBM K T r to t) := by subst hK; exact pe_bm pa slot hty hm ho ha hbase hfew hline hs hplain
theorem pe_bmA0 (hK : X.K = K) (pa : PlainAttrs T) (slot : Slot T name id) (hty : typeOf (.builtin id) = pure (.type "method_descriptor")) (hm : MtR X id r) (ho : PE X o to)
    (hbase : attributeBase o name X.env (eval o X.env) = eval o X.env := by rfl) (hline : (apos.endLine == cpos.line) = true := by rfl) : PE X (.Call (.Attribute o name apos) [] [] cpos) (tBM0 K T r to) := by subst hK; exact pe_bm0 pa slot hty hm ho hbase hline
theorem asK {e : Expr} {t : PySem.W.Frag → TE} (hK : X.K = K) (h : PE X e (t X.K)) : PE X e (t K) := by subst hK; exact h
end
end
/-! ### str.replace with two written texts: a token must be out -/
section
variable {X : Cx} {e : Expr} {es : List Expr} {te : TE} {t : TA} {pos : Pos}
theorem pet_lst (h : PAT X es t) : PET X (.List es pos) (tLst t) := by
  intro pins s σ H Q h0 I hq
  refine wpAny_List_spliced (thn (h pos pins s σ H _ h0 I hq) fun us s1 ⟨xs, H1, I1, r, z, q⟩ => ⟨by rw [← r.length]; exact z, ?_⟩)
  have hf : H1 s1.heap.objs.size = none := I1.hok.fresh (Nat.le_refl _)
  refine ⟨.ref s1.heap.objs.size, upd H1 s1.heap.objs.size (.lst xs), I1.laid (t' := s1.toks) (fun b u e => Heap.get?_push_of_some _ e) (Nat.le_refl _) ?_, rfl, q _ hf⟩
  exact ⟨z, us, 0, r, Heap.get?_push_size _ rfl⟩
end
section
variable {A : Amb} {W : L2.St → XK} {te : TE} {fe : Env → M → R D} {P : Program} {w : World} {mg : Str → Option Value} {base : Heap}
def replD (y z : Str) : D → M → R D
  | .str x, m => if x.length + (x.length + 1) * z.length ≤ 16777216 then .ok (.str (Txt.replace x y z)) m else .no
  | _, _ => .no
theorem den_repl {y z : Str} (he : Den A W te fe) : Den A W (CwR.tReplC te y z) (eUn (replD y z) fe) := by
  intro z' H σ env m Q hm hs h
  refine he z' H σ env m _ hm hs (post_bind h fun z1 H1 d m1 v s1 hm1 hv h1 => ?_)
  cases hv with
  | str x =>
    have h1 : PostE A (W σ) z1 H1 (if x.length + (x.length + 1) * z.length ≤ 16777216 then R.ok (.str (Txt.replace x y z)) m1 else .no) Q := h1
    obtain ⟨c, h1⟩ := post_if h1
    exact ⟨x, rfl, c, h1.ok_at hm1 (.str _)⟩
  | _ => exact h1.elim
/-- as fn_den, the body's own derivation begun with a token out -/
theorem fn_denT {x : Str} {st : Stmt} {f : Addr} {fd : FuncData} {N ps : List Str} {k : Nat} {F : Env → M → S} (Fu : FnP A.K x st f fd) (Sc : FnScope N ps (defScope st)) (hn : ps.length ≤ N.length) (hnc : ∀ y ∈ (defScope st).names, y.2 ≠ .cell) (hps : 1 ≤ ps.length)
    (hbody : ∀ (cdv : Value) (Ar : Around) (outer : List PySem.Env) (s : Shared) (H : Hp) (E : XK), Room k (Ar.deeper (PyProof.Rows.envOfC x (defScope st) s.heap.objs.size f cdv)) →
      ∃ t, PSsT (cxOf CX0 P w A.K mg base N x (defScope st) f cdv Ar outer s H E) (defBody st) t ∧ DenS A (fun _ => E) t F) : FnOk P w A.K mg base CX0 (k + 1) f fd ps (spD A ps.length (bodyD N.length F)) := by
  obtain ⟨oc, od, dV, kV, doc, pm, an, cdv, ct, osl, rfl, lk, hcd, _, _⟩ := Fu.ex
  refine fn_ofT lk hcd Sc hnc hps (fun vs H Q E h => h.1) fun Ar outer s H vs Q E hr h => ?_
  obtain ⟨hl, z, m, ds, hm, hr', hq⟩ := h
  obtain ⟨t, ht, hd⟩ := hbody cdv Ar outer s H E hr
  exact ⟨t, ht, hd z H _ _ m _ hm (sl_start hr' (by rw [← hr'.length, hl]; exact hn)) (post_ret hq)⟩
/-- .nox of a token's body -/
theorem PSsT.nox {X : Cx} {st : List Stmt} {t : TS} (h : PSsT X.nox st t) : PSsT X st t := fun pins s σ H D h0 I hw =>
  wpAny_mono (h pins s σ H D h0 (I.wish _) hw) (fun f s' q => q.unwish) fun _ _ z => z.elim
end
/-! ### written things, many at once -/
def cstV : Expr → Option V
  | .Constant (.int i) _ _ => some (.int i)
  | .Constant (.str x) _ _ => some (.str x)
  | .Constant (.bool b) _ _ => some (.bl b)
  | .Constant .none _ _ => some .non
  | _ => none
def cstsV : List Expr → Option (List V)
  | [] => some []
  | e :: es => match cstV e, cstsV es with
    | some v, some vs => some (v :: vs)
    | _, _ => none
def cstD : V → Option D
  | .int i => some (.int i)
  | .str x => some (.str x)
  | .bl b => some (.bl b)
  | .non => some .non
  | _ => none
def tVals (vs : List V) : TA := fun _ H Q => Q vs H
theorem pe_cst {X : Cx} {e : Expr} {v : V} (h : cstV e = some v) : PE X e (tC v) := by
  unfold cstV at h
  split at h <;> first | (injection h with h; subst h; first | exact pe_int | exact pe_str | exact pe_bl | exact pe_non) | cases h
theorem star_cst {X : Cx} {e : Expr} {es : List Expr} {v : V} (h : cstV e = some v) : starEach (e :: es) X.env = (false, eval e X.env) :: starEach es X.env := by
  unfold cstV at h
  split at h <;> first | rfl | cases h
theorem pa_cst {X : Cx} : ∀ {es : List Expr} {vs : List V}, cstsV es = some vs → PA X es (tVals vs)
  | [], vs, h => by injection h with h; subst h; exact ⟨fun pos pins s σ H Q I q => (pa_nil (X := X)).run pos pins s σ H Q I q⟩
  | e :: es, vs, h => by
    have h : (match cstV e, cstsV es with | some v, some vs => some (v :: vs) | _, _ => none) = some vs := h
    cases h1 : cstV e with
    | none => rw [h1] at h; cases h
    | some v =>
      cases h2 : cstsV es with
      | none => rw [h1, h2] at h; cases h
      | some us =>
        rw [h1, h2] at h
        injection h with h
        subst h
        exact ⟨fun pos pins s σ H Q I q => (pa_cons (pe_cst h1) (pa_cst h2) (star_cst h1)).run pos pins s σ H Q I q⟩
def aVals (ds : List D) : Env → M → R (List D) := fun _ m => .ok ds m
@[simp] theorem aVals_ap (ds : List D) (env : Env) (m : M) : aVals ds env m = .ok ds m := rfl
theorem repL_cst {A : Amb} {z : Z} {H : Hp} : ∀ {vs : List V} {ds : List D}, vs.map cstD = ds.map some → RepL A z H vs ds
  | [], [], _ => .nil
  | [], _ :: _, h => by cases h
  | _ :: _, [], h => by cases h
  | v :: vs, d :: ds, h => by
    injection h with h1 h2
    refine .cons ?_ (repL_cst h2)
    cases v <;> first | (injection h1 with h1; subst h1; first | exact .int _ | exact .str _ | exact .bl _ | exact .non) | cases h1
theorem dena_cst {A : Amb} {W : L2.St → XK} {vs : List V} {ds : List D} (h : vs.map cstD = ds.map some) : DenA A W (tVals vs) (aVals ds) := fun z H σ env m Q hm hs q => q.ok_at hm (repL_cst h)
/-! ### the end -/
section
variable {P : Program} {w : World} {K : PySem.W.Frag} {mg : Str → Option Value} {base : Heap}
theorem fnOk_ex {ι : Type} {CX : CXT} {k : Nat} {f : Addr} {fd : FuncData} {ps : List Str} {sp : ι → Sp} (F : ∀ i, FnOk P w K mg base CX k f fd ps (sp i)) : FnOk P w K mg base CX k f fd ps (fun vs H Q E => ∃ i, sp i vs H Q E) :=
  ⟨fun vs H Q E ⟨i, h⟩ => (F i).len vs H Q E h, fun A outer s H args us vs Q E hr e b r ⟨i, h⟩ => (F i).run A outer s H args us vs Q E hr e b r h⟩
theorem law_sp {g : Amb → List D → M → R D} (ht : ∀ A : Amb, A.ns.length ≤ 63 → ∃ m', g A [.scr] [] = .ok (.bl true) m') {H : Hp} {a : Addr} {ns : List Int} (hl : ns.length ≤ 63) (hS : SqL K H a (ns.map V.int)) :
    ∃ q : Addr × List Int, spD ⟨K, q.1, q.2⟩ 1 (g ⟨K, q.1, q.2⟩) [.ref a] H (fun v _ => v = .bl true) fun _ _ _ => False := by
  obtain ⟨m', e⟩ := ht ⟨K, a, ns⟩ hl
  refine ⟨(a, ns), rfl, ⟨[], []⟩, [], [.scr], ⟨rfl, .nil, by simp, by simp, by simp⟩, .cons (.scr ?_) .nil, ?_⟩
  · rcases hS with h | h
    · exact .inl ⟨h, by simp [Z.im], by simp [Z.im]⟩
    · exact .inr h
  · rw [e]
    intro z' v H' _ _ hv
    cases hv
    rfl
end
end DL

/-! DL: equations by which data functions are reckoned -/
namespace DL
open PySem PySem.Spec L2
section
variable (env : Env) (m : M) (f g h : Env → M → R D) (c c' : Env → M → R Bool) (F G : Env → M → S) (fr gr : Env → M → R (List D)) (fl fh : Env → M → R (Option Int)) (A : Amb)
@[simp] theorem eVar_ap (i : Nat) : eVar i env m = (match env[i]? with | some (some d) => R.ok d m | _ => R.no) := rfl
@[simp] theorem startD_ap (n : Nat) (ds : List D) : startD n ds = ds.map some ++ List.replicate (n - ds.length) none := rfl
@[simp] theorem wipeD_nil : wipeD env [] = env := rfl
@[simp] theorem wipeD_cons (v : Nat) (vs : List Nat) : wipeD env (v :: vs) = (wipeD env vs).set v none := rfl
@[simp] theorem eC_ap (d : D) : eC d env m = .ok d m := rfl
@[simp] theorem eOp_ap (o : D → D → M → R D) : eOp o f g env m = (f env m).bind fun x m => (g env m).bind fun y m => o x y m := rfl
@[simp] theorem eUn_ap (o : D → M → R D) : eUn o f env m = (f env m).bind fun x m => o x m := rfl
@[simp] theorem eCall_ap (k : List D → M → R D) : eCall k fr env m = (fr env m).bind fun ds m => k ds m := rfl
@[simp] theorem eCallK_ap (n : Nat) (k : List D → M → R D) : eCallK n k fr env m = (fr env m).bind fun ds m => if ds.length = n then k ds m else .no := rfl
@[simp] theorem aNil_ap : aNil env m = .ok [] m := rfl
@[simp] theorem aCons_ap : aCons f fr env m = (f env m).bind fun x m => (fr env m).bind fun xs m => .ok (x :: xs) m := rfl
@[simp] theorem eMt_ap (isT : D → M → Bool) (k : D → List D → M → R D) : eMt isT k f fr env m = (f env m).bind fun x m => if isT x m = true then (fr env m).bind fun ds m => k x ds m else .no := rfl
@[simp] theorem eTest_ap (k : D → M → R Bool) : eTest k f env m = (f env m).bind k := rfl
@[simp] theorem bNot_ap : bNot c env m = (c env m).bind fun b m => .ok (!b) m := rfl
@[simp] theorem bAnd_ap : bAnd c c' env m = (c env m).bind fun b m => if b = true then c' env m else .ok false m := rfl
@[simp] theorem bOr_ap : bOr c c' env m = (c env m).bind fun b m => if b = true then .ok true m else c' env m := rfl
@[simp] theorem bYes_ap : bYes env m = .ok true m := rfl
@[simp] theorem eAnd_ap : eAnd f g env m = (f env m).bind fun d m => (asTru d m).bind fun b m => if b = true then g env m else .ok d m := rfl
@[simp] theorem eOr_ap : eOr f g env m = (f env m).bind fun d m => (asTru d m).bind fun b m => if b = true then .ok d m else g env m := rfl
@[simp] theorem eNot_ap : eNot f env m = (f env m).bind fun d m => (asTru d m).bind fun b m => .ok (.bl (!b)) m := rfl
@[simp] theorem eIf_ap : eIf c f g env m = (c env m).bind fun b m => if b = true then f env m else g env m := rfl
@[simp] theorem sSeq_ap : sSeq F G env m = (F env m).bind G := rfl
@[simp] theorem sNext_ap : sNext env m = .nx env m := rfl
@[simp] theorem sSet_ap (i : Nat) : sSet i f env m = (f env m).to env fun d m => .nx (env.set i (some d)) m := rfl
@[simp] theorem sRet_ap : sRet f env m = (f env m).to env fun d m => .rt d m := rfl
@[simp] theorem sDrop_ap : sDrop f env m = (f env m).to env fun _ m => .nx env m := rfl
@[simp] theorem sIf_ap : sIf c F G env m = (c env m).to env fun b m => if b = true then F env m else G env m := rfl
@[simp] theorem sFor_ap (it : Env → M → R (List D)) (put : D → Env → M → Option Env) : sFor it put F env m = (it env m).to env fun ds m => loopD put F ds env m := rfl
@[simp] theorem iIt_ap (k : D → M → R (List D)) : iIt k f env m = (f env m).bind k := rfl
@[simp] theorem iArgs_ap (k : List D → M → R (List D)) : iArgs k fr env m = (fr env m).bind k := rfl
@[simp] theorem oNone_ap : oNone env m = .ok none m := rfl
@[simp] theorem oSome_ap : oSome f env m = (f env m).bind asInt := rfl
@[simp] theorem eSl_ap (k : D → Option Int → Option Int → M → R D) : eSl k f fl fh env m = (f env m).bind fun d m => (fl env m).bind fun lo m => (fh env m).bind fun hi m => k d lo hi m := rfl
@[simp] theorem eComp_ap (mk : List D → M → R D) (vs : List Nat) (it : Env → M → R (List D)) (put : D → Env → M → Option Env) : eComp mk vs it put c f env m = (it env m).bind fun ds m => (compD put c f (wipeD env vs) ds [] m).bindS mk := rfl
@[simp] theorem gSet_ap (i : Nat) (d : D) : gSet i d env m = some (env.set i (some d)) := rfl
theorem bodyD_ap (n : Nat) (ds : List D) : bodyD n F ds m = retS (F (startD n ds) m) := rfl
@[simp] theorem retS_nx : retS (.nx env m) = .ok .non m := rfl
@[simp] theorem retS_rt (d : D) : retS (.rt d m) = .ok d m := rfl
@[simp] theorem asBl_bl (b : Bool) : asBl (.bl b) m = .ok b m := rfl
@[simp] theorem asTru_bl (b : Bool) : asTru (.bl b) m = .ok b m := rfl
@[simp] theorem asTru_non : asTru .non m = .ok false m := rfl
@[simp] theorem asTru_int (i : Int) : asTru (.int i) m = .ok (i != 0) m := rfl
@[simp] theorem asTru_lst (ds : List D) : asTru (.lst ds) m = .ok (!ds.isEmpty) m := rfl
theorem asTru_str {x : Str} (h : x.length ≤ sizeLine) : asTru (.str x) m = .ok ((x.length : Int) != 0) m := by
  unfold asTru
  have : truD (.str x) m = some ((x.length : Int) != 0) := if_pos h
  rw [this]
@[simp] theorem asInt_int (i : Int) : asInt (.int i) m = .ok (some i) m := rfl
@[simp] theorem asLst_lst (ds : List D) : asLst (.lst ds) m = .ok ds m := rfl
@[simp] theorem asTup_tup (ds : List D) : asTup (.tup ds) m = .ok ds m := rfl
@[simp] theorem asStr_str (x : Str) : asStr (.str x) m = .ok (signsD x) m := rfl
@[simp] theorem isStr_str (x : Str) : isStr (.str x) m = true := rfl
@[simp] theorem isLst_lst (ds : List D) : isLst (.lst ds) m = true := rfl
@[simp] theorem seqOf_lst (ds : List D) : seqOf (.lst ds) m = some ds := rfl
@[simp] theorem okL_ap (ds : List D) : okL ds m = .ok (.lst ds) m := rfl
@[simp] theorem cmpD_int (p : Int → Int → Bool) (i j : Int) : cmpD p (.int i) (.int j) m = .ok (.bl (p i j)) m := rfl
@[simp] theorem addD_int (i j : Int) : addD (.int i) (.int j) m = .ok (.int (i + j)) m := rfl
@[simp] theorem subD_int (i j : Int) : subD (.int i) (.int j) m = .ok (.int (i - j)) m := rfl
theorem addD_str {x y : Str} (h : x.length + y.length ≤ sizeLine) : addD (.str x) (.str y) m = .ok (.str (x ++ y)) m := if_pos h
theorem addD_lst {xs ys : List D} (h : xs.length + ys.length ≤ sizeLine) : addD (.lst xs) (.lst ys) m = .ok (.lst (xs ++ ys)) m := if_pos h
theorem mulD_int {i j : Int} (h : i.natAbs.log2 + j.natAbs.log2 < 1000000) : mulD (.int i) (.int j) m = .ok (.int (i * j)) m := if_pos h
theorem divD_int {i j : Int} (h : 0 < j ∧ j.natAbs.log2 < 9000) : divD (.int i) (.int j) m = .ok (.int (i / j)) m := if_pos h
theorem modD_int {i j : Int} (h : 0 < j) : modD (.int i) (.int j) m = .ok (.int (i % j)) m := if_pos h
theorem powD_int {i j : Int} (h : 0 ≤ j ∧ j ≤ 1000000 ∧ i.natAbs < 2 ^ 64) : powD (.int i) (.int j) m = .ok (.int (i ^ j.toNat)) m := if_pos h
theorem lenD_str {x : Str} (h : x.length ≤ sizeLine) : lenD A [.str x] m = .ok (.int x.length) m := if_pos h
@[simp] theorem lenD_lst (ds : List D) : lenD A [.lst ds] m = .ok (.int ds.length) m := rfl
@[simp] theorem lenD_tup (ds : List D) : lenD A [.tup ds] m = .ok (.int ds.length) m := rfl
@[simp] theorem lenD_scr : lenD A [.scr] m = .ok (.int A.ns.length) m := rfl
theorem mkL_ap {ds : List D} (h : ds.length ≤ sizeLine) : mkL ds m = .ok (.lst ds) m := if_pos h
theorem mkT_ap {ds : List D} (h : ds.length ≤ sizeLine) : mkT ds m = .ok (.tup ds) m := if_pos h
theorem mkC_ap {ds : List D} (h : ds.length ≤ sizeLine) : mkC ds m = .ok (.cell m.length) (m ++ [.lst ds]) := if_pos h
@[simp] theorem eqD_str (n : Bool) (x y : Str) : eqD n (.str x) (.str y) m = .ok (.bl (n ^^ decide (x = y))) m := by
  show (if scal (.str x) (.str y) = true then R.ok (D.bl (n ^^ decide (V.str x = V.str y))) m else eqDeep n (.str x) (.str y) m) = _
  rw [if_pos (show scal (.str x) (.str y) = true from rfl)]
  congr 3
  by_cases h : x = y
  · subst h; simp
  · rw [decide_eq_false h, decide_eq_false (fun q => h (V.str.inj q))]
@[simp] theorem eqD_int (n : Bool) (x y : Int) : eqD n (.int x) (.int y) m = .ok (.bl (n ^^ decide (x = y))) m := by
  show (if scal (.int x) (.int y) = true then R.ok (D.bl (n ^^ decide (V.int x = V.int y))) m else eqDeep n (.int x) (.int y) m) = _
  rw [if_pos (show scal (.int x) (.int y) = true from rfl)]
  congr 3
  by_cases h : x = y
  · subst h; simp
  · rw [decide_eq_false h, decide_eq_false (fun q => h (V.int.inj q))]
@[simp] theorem eqD_ns (n : Bool) (y : Str) : eqD n .non (.str y) m = .ok (.bl n) m := by
  show (if scal .non (.str y) = true then R.ok (D.bl (n ^^ decide (V.non = V.str y))) m else eqDeep n .non (.str y) m) = _
  rw [if_pos (show scal .non (.str y) = true from rfl), decide_eq_false (fun q => nomatch q), Bool.xor_false]
@[simp] theorem eqD_sn (n : Bool) (y : Str) : eqD n (.str y) .non m = .ok (.bl n) m := by
  show (if scal (.str y) .non = true then R.ok (D.bl (n ^^ decide (V.str y = V.non))) m else eqDeep n (.str y) .non m) = _
  rw [if_pos (show scal (.str y) .non = true from rfl), decide_eq_false (fun q => nomatch q), Bool.xor_false]
@[simp] theorem eqD_nn (n : Bool) : eqD n .non .non m = .ok (.bl (!n)) m := by
  show (if scal .non .non = true then R.ok (D.bl (n ^^ decide (V.non = V.non))) m else eqDeep n .non .non m) = _
  rw [if_pos (show scal .non .non = true from rfl), decide_eq_true rfl, Bool.xor_true]
@[simp] theorem eqD_ll (n : Bool) (xs ys : List D) : eqD n (.lst xs) (.lst ys) m = eqDeep n (.lst xs) (.lst ys) m := rfl
@[simp] theorem eqD_cl (n : Bool) (k : Nat) (ys : List D) : eqD n (.cell k) (.lst ys) m = eqDeep n (.cell k) (.lst ys) m := rfl
theorem quantD_bls {k : List Bool → Bool} (bs : List Bool) : quantD k [.lst (bs.map D.bl)] m = R.ok (D.bl (k bs)) m := by
  show (match blsOf (bs.map D.bl) with | some bs => R.ok (D.bl (k bs)) m | none => R.no) = _
  rw [blsOf_map]
theorem isiD_is {d : D} {n c : String} {b : Bool} (h1 : tyD d m = some n) (h2 : kitB n c = some b) : isiD [d, .ob (.ty c)] m = .ok (.bl b) m := by
  show (match tyD d m with | some n => (match kitB n c with | some b => R.ok (D.bl b) m | none => R.no) | none => R.no) = _
  rw [h1]
  show (match kitB n c with | some b => R.ok (D.bl b) m | none => R.no) = _
  rw [h2]
theorem kit_str : kitB "str" "str" = some true := by decide +kernel
theorem kit_bool : kitB "bool" "bool" = some true := by decide +kernel
theorem kit_list : kitB "list" "list" = some true := by decide +kernel
theorem kit_non_str : kitB "NoneType" "str" = some false := by decide +kernel
theorem kit_bool_str : kitB "bool" "str" = some false := by decide +kernel
theorem kit_int_str : kitB "int" "str" = some false := by decide +kernel
theorem kit_list_str : kitB "list" "str" = some false := by decide +kernel
theorem kit_tup_str : kitB "tuple" "str" = some false := by decide +kernel
/-- of what kind a plain thing is -/
@[simp] theorem isi_str (x : Str) : isiD [.str x, .ob (.ty "str")] m = .ok (.bl true) m := isiD_is m rfl kit_str
@[simp] theorem isi_non : isiD [.non, .ob (.ty "str")] m = .ok (.bl false) m := isiD_is m rfl kit_non_str
@[simp] theorem isi_bl (b : Bool) : isiD [.bl b, .ob (.ty "str")] m = .ok (.bl false) m := isiD_is m rfl kit_bool_str
@[simp] theorem isi_int (i : Int) : isiD [.int i, .ob (.ty "str")] m = .ok (.bl false) m := isiD_is m rfl kit_int_str
@[simp] theorem isi_lst (ds : List D) : isiD [.lst ds, .ob (.ty "str")] m = .ok (.bl false) m := isiD_is m rfl kit_list_str
@[simp] theorem isi_tup (ds : List D) : isiD [.tup ds, .ob (.ty "str")] m = .ok (.bl false) m := isiD_is m rfl kit_tup_str
@[simp] theorem isi_bb (b : Bool) : isiD [.bl b, .ob (.ty "bool")] m = .ok (.bl true) m := isiD_is m rfl kit_bool
@[simp] theorem isi_ll (ds : List D) : isiD [.lst ds, .ob (.ty "list")] m = .ok (.bl true) m := isiD_is m rfl kit_list
@[simp] theorem askD_ap (k : Str → Bool) (x : Str) : askD k (.str x) [] m = .ok (.bl (k x)) m := rfl
@[simp] theorem countD_ap (x y : Str) : countD (.str x) [.str y] m = .ok (.int (Txt.count x y)) m := rfl
theorem splitD_ap {x y : Str} (h : y.length ≠ 0 ∧ x.length + 2 ≤ sizeLine) : splitD (.str x) [.str y] m = .ok (.lst (txs (Txt.split x y))) m := if_pos h
theorem rparD_ap {x y : Str} (h : y.length ≠ 0 ∧ x.length ≤ sizeLine) : rparD (.str x) [.str y] m = .ok (.tup [.str (rpar x y).1, .str (rpar x y).2.1, .str (rpar x y).2.2]) m := if_pos h
theorem joinD_txs {x : Str} {ys : List Str} (h : (ys.map (·.length)).sum + ys.length * x.length ≤ 16777216) : joinD (.str x) [.lst (txs ys)] m = .ok (.str (Txt.join x ys)) m := by
  show (match (itemsOf (.lst (txs ys)) m).bind txsOf with | some ys => (if (ys.map (fun y : Str => y.length)).sum + ys.length * x.length ≤ 16777216 then R.ok (D.str (Txt.join x ys)) m else R.no) | none => R.no) = _
  have : (itemsOf (.lst (txs ys)) m).bind txsOf = some ys := txsOf_txs ys
  rw [this]
  exact if_pos h
theorem quantD_comp {k : List Bool → Bool} {α : Type} (ps : List α) (f : α → Bool) : quantD k [.lst (ps.map (D.bl ∘ f))] m = R.ok (D.bl (k (ps.map f))) m := by
  have := quantD_bls (m := m) (k := k) (ps.map f)
  rwa [List.map_map] at this
/-- a comprehension whose items are worth g each, and which leaves all as it was -/
theorem compD_map {put : D → Env → M → Option Env} {el : Env → M → R D} {env : Env} {m : M} {k : D → D} : ∀ (ds acc : List D), acc.length + ds.length ≤ sizeLine → (∀ d ∈ ds, ∃ env1, put d env m = some env1 ∧ el env1 m = .ok (k d) m) → compD put bYes el env ds acc m = .ok (acc ++ ds.map k) m
  | [], acc, _, _ => by simp [compD]
  | d :: ds, acc, hl, h => by
    obtain ⟨env1, e1, e2⟩ := h d List.mem_cons_self
    have ih := compD_map (put := put) (el := el) (env := env) (m := m) (k := k) ds (acc ++ [k d]) (by simp at hl ⊢; omega) fun x hx => h x (List.mem_cons_of_mem _ hx)
    unfold compD
    rw [e1]
    simp only [putR_some, bYes_ap, R.bindS_ok, if_true, e2]
    rw [if_pos (by simp at hl; omega), ih]
    simp
theorem comp_set {el : Env → M → R D} {env : Env} {m : M} {i : Nat} {k : D → D} {ds : List D} (hl : ds.length ≤ sizeLine) (h : ∀ d ∈ ds, el (env.set i (some d)) m = .ok (k d) m) : compD (gSet i) bYes el env ds [] m = .ok (ds.map k) m := by
  have := compD_map (put := gSet i) (el := el) (env := env) (m := m) (k := k) ds [] (by simpa using hl) fun d hd => ⟨_, rfl, h d hd⟩
  simpa using this
/-- the same, items that are known by a property, the memory by an invariant -/
theorem compD_st {put : D → Env → M → Option Env} {el : Env → M → R D} {env : Env} {I : M → Prop} {Good : D → Prop} : ∀ (ds acc : List D) (m : M), acc.length + ds.length ≤ sizeLine → I m →
    (∀ d ∈ ds, ∀ m, I m → ∃ env1 e m', put d env m = some env1 ∧ el env1 m = .ok e m' ∧ I m' ∧ Good e) → ∃ es m', compD put bYes el env ds acc m = .ok (acc ++ es) m' ∧ I m' ∧ es.length = ds.length ∧ ∀ e ∈ es, Good e
  | [], acc, m, _, hi, _ => ⟨[], m, by simp [compD], hi, rfl, by simp⟩
  | d :: ds, acc, m, hl, hi, h => by
    obtain ⟨env1, e, m', e1, e2, hi', hg⟩ := h d List.mem_cons_self m hi
    obtain ⟨es, m2, q1, q2, q3, q4⟩ := compD_st (put := put) (el := el) (env := env) (I := I) (Good := Good) ds (acc ++ [e]) m' (by simp at hl ⊢; omega) hi' fun x hx => h x (List.mem_cons_of_mem _ hx)
    refine ⟨e :: es, m2, ?_, q2, by simp [q3], fun x hx => ?_⟩
    · unfold compD
      rw [e1]
      simp only [putR_some, bYes_ap, R.bindS_ok, if_true, e2]
      rw [if_pos (by simp at hl; omega), q1]
      simp
    · rcases List.mem_cons.mp hx with rfl | hx
      · exact hg
      · exact q4 x hx
/-- a loop by an invariant of the turn -/
theorem loop_inv {put : D → Env → M → Option Env} {body : Env → M → S} {I : Nat → Env → M → Prop} : ∀ (ds : List D) (i : Nat) (env : Env) (m : M), I i env m →
    (∀ (j : Nat) d env m, ds[j]? = some d → I (i + j) env m → ∃ env1 env2 m2, put d env m = some env1 ∧ body env1 m = .nx env2 m2 ∧ I (i + j + 1) env2 m2) → ∃ env2 m2, loopD put body ds env m = .nx env2 m2 ∧ I (i + ds.length) env2 m2
  | [], i, env, m, h0, _ => ⟨env, m, rfl, h0⟩
  | d :: ds, i, env, m, h0, h => by
    obtain ⟨env1, env2, m2, e1, e2, h2⟩ := h 0 d env m rfl h0
    obtain ⟨env3, m3, e3, h3⟩ := loop_inv (put := put) (body := body) (I := I) ds (i + 1) env2 m2 h2 fun j x env m hx hI => by
      have e : i + 1 + j = i + (j + 1) := by omega
      rw [e] at hI ⊢
      exact h (j + 1) x env m hx hI
    have e : i + 1 + ds.length = i + (ds.length + 1) := by omega
    rw [e] at h3
    refine ⟨env3, m3, ?_, h3⟩
    unfold loopD
    rw [e1, putS_some, e2, S.turn_nx]
    exact e3
/-- a loop whose turns come to nothing -/
theorem loop_idle {put : D → Env → M → Option Env} {body : Env → M → S} {P : Env → Prop} {m : M} : ∀ (ds : List D) (env : Env), P env → (∀ d ∈ ds, ∀ env, P env → ∃ env1 env2, put d env m = some env1 ∧ body env1 m = .nx env2 m ∧ P env2) → ∃ env2, loopD put body ds env m = .nx env2 m ∧ P env2
  | [], env, h0, _ => ⟨env, rfl, h0⟩
  | d :: ds, env, h0, h => by
    obtain ⟨env1, env2, e1, e2, h2⟩ := h d List.mem_cons_self env h0
    obtain ⟨env3, e3, h3⟩ := loop_idle ds env2 h2 fun x hx => h x (List.mem_cons_of_mem _ hx)
    refine ⟨env3, ?_, h3⟩
    unfold loopD
    rw [e1, putS_some, e2, S.turn_nx]
    exact e3
end
end DL

/-! DL: facts of texts -/
namespace DL
open PySem PySem.Spec L2
/-- a small letter -/
def low (c : Nat) : Bool := decide (97 ≤ c) && decide (c ≤ 122)
def partB (x : Str) : Bool := decide (1 ≤ x.length) && (decide (x.length ≤ 8) && x.cps.toList.all low)
theorem ascii_tab : ((List.range 128).all fun c => (Unicode.isAlpha c == (decide (65 ≤ c) && decide (c ≤ 90) || low c)) && (Unicode.isLower c == low c) && (Unicode.isUpper c == (decide (65 ≤ c) && decide (c ≤ 90))) && !Unicode.isTitle c) = true := by decide +kernel
theorem ascii_at {c : Nat} (h : c < 128) : Unicode.isAlpha c = (decide (65 ≤ c) && decide (c ≤ 90) || low c) ∧ Unicode.isLower c = low c ∧ Unicode.isUpper c = (decide (65 ≤ c) && decide (c ≤ 90)) ∧ Unicode.isTitle c = false := by
  have t := List.all_eq_true.mp ascii_tab c (List.mem_range.mpr h)
  simp only [Bool.and_eq_true, beq_iff_eq, Bool.not_eq_true'] at t
  exact ⟨t.1.1.1, t.1.1.2, t.1.2, t.2⟩
theorem len_tl (x : Str) : x.length = x.cps.toList.length := by simp [Str.length]
theorem asc3 (x : Str) : (Txt.isascii x && (Txt.isalpha x && Txt.islower x)) = (decide (1 ≤ x.length) && x.cps.toList.all low) := by
  unfold Txt.isascii Txt.isalpha Txt.islower
  rw [len_tl]
  rw [← Array.all_toList, ← Array.all_toList, ← Array.any_toList, ← Array.any_toList]
  generalize x.cps.toList = l
  rw [Bool.eq_iff_iff]
  simp only [Bool.and_eq_true, List.all_eq_true, decide_eq_true_eq, Bool.not_eq_true', List.any_eq_true, List.any_eq_false, Bool.or_eq_true, not_or, Bool.not_eq_true, gt_iff_lt]
  constructor
  · rintro ⟨h1, ⟨h2, h3⟩, _, h5⟩
    refine ⟨h2, fun c hc => ?_⟩
    obtain ⟨a, b, d, e⟩ := ascii_at (h1 c hc)
    have h3c := h3 c hc
    have h5c := (h5 c hc).1
    rw [a, Bool.or_eq_true] at h3c
    rw [d] at h5c
    rcases h3c with q | q
    · rw [q] at h5c; cases h5c
    · exact q
  · rintro ⟨h1, h2⟩
    have lt : ∀ c ∈ l, c < 128 := fun c hc => by
      have := h2 c hc
      simp [low] at this
      omega
    have hup : ∀ c ∈ l, (decide (65 ≤ c) && decide (c ≤ 90)) = false := fun c hc => by
      have := h2 c hc
      simp [low] at this
      simp
      omega
    refine ⟨lt, ⟨h1, fun c hc => ?_⟩, ?_, fun c hc => ?_⟩
    · rw [(ascii_at (lt c hc)).1, h2 c hc, Bool.or_true]
    · cases l with
      | nil => simp at h1
      | cons c r => exact ⟨c, List.mem_cons_self, by rw [(ascii_at (lt c List.mem_cons_self)).2.1]; exact h2 c List.mem_cons_self⟩
    · obtain ⟨a, b, d, e⟩ := ascii_at (lt c hc)
      rw [d, e]
      exact ⟨hup c hc, rfl⟩
theorem abc_mem (c : Nat) : decide (c ∈ ("abcdefghijklmnopqrstuvwxyz" : Str).cps.toList) = low c := by
  have e : ("abcdefghijklmnopqrstuvwxyz" : Str).cps.toList = List.range' 97 26 := by decide +kernel
  rw [e, Bool.eq_iff_iff]
  simp [low, List.mem_range'_1]
  omega
/-! split and count -/
theorem partsFrom_len (x : Str) (w : Nat) : ∀ (cuts : List Nat) (a : Nat), (StrLaws.partsFrom x w a cuts).length = cuts.length + 1
  | [], _ => rfl
  | c :: r, a => by
    show (StrLaws.partsFrom x w (c + w) r).length + 1 = _
    rw [partsFrom_len x w r]; rfl
theorem split_count {x y : Str} (hy : TL.tl y ≠ []) (hk : y.cps.all (· < 256) = true) : ((Txt.split x y).length : Int) = Txt.count x y + 1 := by
  obtain ⟨f, g, hn⟩ := StrLaws.occ_tight x y (TL.len1 hy)
  have kk := TL.kind_ok (x := x) hk
  unfold Txt.split Txt.count
  by_cases h1 : (decide (x.length < y.length) || decide (Builtin.Str.strKind x < Builtin.Str.strKind y)) = true
  · rw [if_pos h1]
    have hlt : x.length < y.length := by
      simp only [Bool.or_eq_true, decide_eq_true_eq] at h1
      rcases h1 with h | h
      · exact h
      · exact absurd h kk
    have e : Builtin.Str.occurrences x y 0 x.length (x.length + 1) = [] := by
      cases ho : Builtin.Str.occurrences x y 0 x.length (x.length + 1) with
      | nil => rfl
      | cons c r =>
        rw [ho] at g
        have hc : c + y.length ≤ x.length := g.2.1.1
        omega
    rw [e]; rfl
  · rw [if_neg h1]
    by_cases h2 : (Builtin.Str.occurrences x y 0 x.length (x.length + 1)).isEmpty = true
    · rw [if_pos h2, List.isEmpty_iff.mp h2]; rfl
    · rw [if_neg h2, StrLaws.partsBetween_eq, partsFrom_len]
      simp
/-! the last dot of a joined text -/
theorem tl_dot : TL.tl ("." : Str) = [46] := by decide +kernel
theorem dot_kind : ("." : Str).cps.all (· < 256) = true := by decide +kernel
theorem dot_len : ("." : Str).length = 1 := by decide +kernel
theorem joinL_snoc (S : List Nat) (p : List Nat) : ∀ qs : List (List Nat), qs ≠ [] → TL.joinL S (qs ++ [p]) = TL.joinL S qs ++ (S ++ p)
  | [], h => absurd rfl h
  | [q], _ => rfl
  | q :: r :: l, _ => by
    have ih := joinL_snoc S p (r :: l) (by simp)
    show q ++ (S ++ TL.joinL S ((r :: l) ++ [p])) = (q ++ (S ++ TL.joinL S (r :: l))) ++ (S ++ p)
    rw [ih]
    simp
theorem pre_dot {l : List Nat} {i : Nat} (h : TL.pre [46] (l.drop i) = true) : l[i]? = some 46 := by
  have e : (l.drop i).take 1 = [46] := eq_of_beq h
  cases q : l.drop i with
  | nil => rw [q] at e; cases e
  | cons c r =>
    rw [q] at e
    have hc : c = 46 := by simpa using e
    have : (l.drop i)[0]? = some c := by rw [q]; rfl
    rw [List.getElem?_drop] at this
    rw [← hc]
    simpa using this
theorem rpar_one {x : Str} (h : 46 ∉ TL.tl x) : rpar x "." = (Str.empty, Str.empty, x) := by
  have hy : TL.tl ("." : Str) ≠ [] := by rw [tl_dot]; simp
  unfold rpar
  rcases StrLaws.last_spec x "." with ⟨e, _⟩ | ⟨i, e, hi, _⟩
  · rw [e]
  · have := (TL.at_iff hy i).mp hi
    rw [tl_dot] at this
    exact absurd (List.mem_of_getElem? (pre_dot this)) h
theorem rpar_two {x : Str} {a b : List Nat} (hx : TL.tl x = a ++ (46 :: b)) (h : 46 ∉ b) : rpar x "." = ((⟨a.toArray⟩ : Str), (("." : Str), (⟨b.toArray⟩ : Str))) := by
  have hy : TL.tl ("." : Str) ≠ [] := by rw [tl_dot]; simp
  have at_n : StrLaws.At x "." x.length a.length := (TL.at_iff hy a.length).mpr (by
    rw [tl_dot, hx, List.drop_left]
    rfl)
  unfold rpar
  rcases StrLaws.last_spec x "." with ⟨e, hn⟩ | ⟨i, e, hi, hl⟩
  · exact absurd at_n (hn _)
  · have hin : i = a.length := by
      rcases Nat.lt_trichotomy i a.length with lt | eq | gt
      · exact absurd at_n (hl _ lt)
      · exact eq
      · have q := pre_dot (by have := (TL.at_iff hy i).mp hi; rw [tl_dot] at this; exact this)
        rw [hx, List.getElem?_append_right (by omega)] at q
        have : i - a.length = (i - a.length - 1) + 1 := by omega
        rw [this, List.getElem?_cons_succ] at q
        exact absurd (List.mem_of_getElem? q) h
    subst hin
    rw [e]
    have hl := TL.len_tl x
    have h1 : Builtin.Str.strSub x 0 a.length = ⟨a.toArray⟩ := TL.ext_tl (by
      rw [TL.tl_strSub, hx]
      simp)
    have h2 : Builtin.Str.strSub x (a.length + ("." : Str).length) x.length = ⟨b.toArray⟩ := TL.ext_tl (by
      rw [TL.tl_strSub_end, hx, dot_len]
      simp)
    show (Builtin.Str.strSub x 0 a.length, ("." : Str), Builtin.Str.strSub x (a.length + ("." : Str).length) x.length) = _
    rw [h1, h2]
/-- names of parts -/
structure Named (ps : List Str) : Prop where
  ne : ps ≠ []
  le : ps.length ≤ 4
  all : ∀ p ∈ ps, partB p = true
theorem partB_len {p : Str} (h : partB p = true) : 1 ≤ p.length ∧ p.length ≤ 8 := by
  unfold partB at h
  simp only [Bool.and_eq_true, decide_eq_true_eq] at h
  exact ⟨h.1, h.2.1⟩
theorem partB_dot {p : Str} (h : partB p = true) : 46 ∉ TL.tl p := by
  unfold partB at h
  simp only [Bool.and_eq_true, decide_eq_true_eq, List.all_eq_true] at h
  intro hm
  have := h.2.2 46 hm
  simp [low] at this
theorem Named.dots {ps : List Str} (h : Named ps) : ∀ p ∈ ps, 46 ∉ TL.tl p := fun p hp => partB_dot (h.all p hp)
theorem named_split {ps : List Str} (h : Named ps) : Txt.split (Txt.join "." ps) "." = ps := TL.split_join tl_dot dot_kind h.ne h.dots
theorem tl_joinT (ps : List Str) : TL.tl (Txt.join "." ps) = TL.joinL [46] (ps.map TL.tl) := by rw [TL.join_eq, TL.tl_join, tl_dot]
theorem rpar_named1 {p : Str} (h : 46 ∉ TL.tl p) : rpar (Txt.join "." [p]) "." = (Str.empty, Str.empty, p) := by
  have e : Txt.join "." [p] = p := TL.ext_tl (by rw [tl_joinT]; rfl)
  rw [e]
  exact rpar_one h
theorem rpar_named2 {qs : List Str} {p : Str} (hq : qs ≠ []) (h : 46 ∉ TL.tl p) : rpar (Txt.join "." (qs ++ [p])) "." = (Txt.join "." qs, (("." : Str), p)) := by
  have e : TL.tl (Txt.join "." (qs ++ [p])) = TL.tl (Txt.join "." qs) ++ (46 :: TL.tl p) := by
    rw [tl_joinT, tl_joinT, List.map_append]
    exact joinL_snoc [46] (TL.tl p) (qs.map TL.tl) (by simpa using hq)
  rw [rpar_two e h]
theorem join_le (ps : List Str) : ∀ (_ : ∀ p ∈ ps, p.length ≤ 8), (Txt.join "." ps).length ≤ 9 * ps.length := by
  intro h
  have a := StrLaws.join_length_le "." ps
  rw [← TL.join_eq, dot_len] at a
  have b : (ps.map (·.length)).sum ≤ 8 * ps.length := by
    induction ps with
    | nil => simp
    | cons p ps ih =>
      have h1 := h p List.mem_cons_self
      have h2 := ih (fun q hq => h q (List.mem_cons_of_mem _ hq)) (by
        have := StrLaws.join_length_le "." ps
        rw [← TL.join_eq, dot_len] at this
        exact this)
      simp
      omega
  omega
theorem join_pos {ps : List Str} (h : ps ≠ []) (hp : ∀ p ∈ ps, 1 ≤ p.length) : 1 ≤ (Txt.join "." ps).length := by
  cases ps with
  | nil => exact absurd rfl h
  | cons p ps =>
    rw [TL.len_tl, tl_joinT]
    have := hp p List.mem_cons_self
    rw [TL.len_tl] at this
    cases ps with
    | nil => exact this
    | cons q ps =>
      show 1 ≤ (TL.tl p ++ ([46] ++ TL.joinL [46] ((q :: ps).map TL.tl))).length
      rw [List.length_append]
      omega
end DL

namespace DL
open PySem PySem.Spec PyProof.Rows L2
/-- what 'except x as n' wishes of an error of the body, where the error is told of from then on -/
def wKp (K : PySem.W.Frag) (c : Value) (i : Nat) (ts : Addr → TS) (Wo : WX) (D : Ends) : WX := fun cls d σ H => ∃ b, PySem.W.exmOne K cls c = some b ∧ (b = false → Wo cls d σ H) ∧
  (b = true → ∀ a, H a = none → ts a { nx := fun τ G => D.nx (τ.set i none) G, ct := fun τ G => D.ct (τ.set i none) G, bk := fun τ G => D.bk (τ.set i none) G, rt := D.rt } (σ.set i (some (.ref a))) (upd H a (ExK cls d a)))
section
variable {X : Cx} {pins : List (Addr × Obj)} {σ : L2.St} {H : Hp} {sI s' : Shared} {B : Heap} {a : Addr} {cls : Value} {d : Option Addr}
/-- an error that flies is nobody's -/
theorem fly_out {h : Heap} (fl : HandSPX.FlyingZ B X.stack a (Zc cls d) h) : a ∉ frs X.stack := by
  obtain ⟨oe, vs, he, _, hd⟩ := fl.there
  intro hm
  obtain ⟨_, o, e, hn⟩ := fl.2.2.1.mem hm
  rw [he] at e
  cases e
  exact hn _ hd
theorem fly_new (I : Inv X pins σ H sI) (hx : X.ex = []) (nb : ∀ b o, sI.heap.get? b = some o → b ∉ frs X.stack → B.get? b = some o) (hB : B.get? a = none) (nf : a ∉ frs X.stack) : X.s_0.heap.get? a = none ∧ ∀ p ∈ X.pn ++ pins, p.1 ≠ a := by
  have old : ∀ o, sI.heap.get? a ≠ some o := fun o e => by
    have := nb a o e nf
    rw [hB] at this
    cases this
  refine ⟨?_, fun p hp q => old p.2 (by rw [← q]; exact (I.pin p hp).1)⟩
  cases e : X.s_0.heap.get? a with
  | none => rfl
  | some o =>
    obtain ⟨o', e'⟩ := I.base.there a o e (by rw [hx]; exact fun z => nomatch z)
    exact absurd e' (old o')
theorem bare_suite (I : Inv X pins σ H s') : Inv (X.suite a (X.pn ++ pins)) [] σ H s' := { I with ok := I.ok.suite _ _, pin := fun p hp => I.pin p (by rwa [List.append_nil] at hp) }
theorem suite_bare {pn : List (Addr × Obj)} (ok : X.Ok) (I : Inv (X.suite a (X.pn ++ pins)) pn σ H s') : Inv X pins σ H s' := { I with ok := ok, pin := fun p hp => I.pin p (List.mem_append_left _ hp) }
end
section
variable {X : Cx} {x n : Str} {c : Value} {i : Nat} {body suite : List Stmt} {s1 : Stmt} {np pos pos2 : Pos} {tb : WX → TS} {ts : Addr → TS} {Wo : WX}
/-- try: body / except x as n: suite, the error told of in the suite and behind it -/
theorem ps_keep (hs : X.stack = X.env :: X.outer) (hf : X.env.frame = some X.env.locals) (hx : X.ex = []) (hN : X.N.Nodup) (hi : X.N[i]? = some n) (hln : X.env.kindOf n = some .local) (hc : Names X x c) (tk : Takes X Wo)
    (hb : ∀ (W : WX) (pn : List (Addr × Obj)) (xe : Value → Shared → Prop), PassesOwn (model X.prog X.w) X.A X.env xe → Takes (X.tr pn xe) W → PSs (X.tr pn xe) body (tb W))
    (hsu : ∀ (a : Addr) (pn : List (Addr × Obj)), PSs (X.suite a pn) (s1 :: suite) (ts a)) :
    PS X (.Try body [.ExceptHandler (some (.Name x np)) (some n) (s1 :: suite) pos2] [] [] pos) (fun D σ H => tb (wKp X.K c i ts Wo D) D σ H) := by
  constructor
  intro pins s σ H D I h
  have ok := I.ok
  have fr : X.A.frames = some (X.env :: X.outer) := ok.frames.trans (by rw [hs])
  refine wpAny_Try_except ?_
  refine wpAny_mono ((hb (wKp X.K c i ts Wo D) (X.pn ++ pins) _ PassesOwn.looking ?out).run [] s σ H D (I.toTry _) h) (fun f t q => ?thru) (fun _ _ e => e)
  case thru =>
    cases f with
    | ret u => exact let ⟨v, τ, G, J, r, q⟩ := q; ⟨v, τ, G, J.ofTry ok, r, q⟩
    | next => exact let ⟨τ, G, J, q⟩ := q; wpAny_execs_nil ⟨τ, G, J.ofTry ok, q⟩
    | brk => exact let ⟨τ, G, J, q⟩ := q; ⟨τ, G, J.ofTry ok, q⟩
    | cont => exact let ⟨τ, G, J, q⟩ := q; ⟨τ, G, J.ofTry ok, q⟩
  case out =>
    rintro u t ⟨a, B, sI, pins', τ, G, cls, d, rfl, J0, nb, up, sky, na, os, ag, b, hm, hno, hyes⟩
    have J : Inv X pins τ G sI := J0.ofTry ok
    have sky : Sky B (X.env :: X.outer) a (Zc cls d) X.env.locals t.heap := hs ▸ sky
    refine Sky.land Zc.steady fr hf sky fun h1 fl up1 => ?_
    have J1 : Inv X pins τ G { t with heap := h1 } := J.landed nb fl.1 (up.trans up1) os ag
    obtain ⟨o1, w1, e1, z1, d1⟩ := fl.there
    have fl' : HandSPX.FlyingZ B X.stack a (Zc cls d) h1 := hs.symm ▸ fl
    have nf := fly_out (X := X) fl'
    have nL : a ≠ X.env.locals := fun q => nf (by rw [hs]; exact List.mem_filterMap.mpr ⟨X.env, List.mem_cons_self, by rw [hf, q]⟩)
    have nF : a ∉ X.fs := fun q => nf (by
      rw [hs]
      obtain ⟨e, he, r⟩ := List.mem_filterMap.mp q
      exact List.mem_filterMap.mpr ⟨e, List.mem_cons_of_mem _ he, r⟩)
    obtain ⟨n0, np0⟩ := fly_new J hx nb fl.2.1 nf
    have S1 := J1.suite e1 d1 na nL nF
    refine wpAny_handleBy_cons (codeAny_handlers_test ?_) (fun q => nomatch q)
    have lt : PySem.W.Looks (model X.prog X.w) h1 (typeOf (.ref a)) cls := fun A Q E s k q => wpAny_typeOf_ref (k _ _ e1) (z1.1.symm ▸ q)
    have lm := PySem.W.exm_one (M := model X.prog X.w) J1.kIn lt hm
    have named : ∀ {Q : Value → Shared → Prop} {E : Value → Shared → Prop}, Q c { t with heap := h1 } → wpAny (model X.prog X.w) (X.A.mark (some (.ref a))) (eval (.Name x np) X.env) Q E { t with heap := h1 } := fun {Q E} q => by
      rcases hc with ⟨g1, g2, g3 | ⟨g3, g4, g5⟩⟩
      · exact ld_glob (X := X.suite a ((a, o1) :: (X.pn ++ pins))) S1 g1 g3 q g2
      · exact ld_blt (X := X.suite a ((a, o1) :: (X.pn ++ pins))) S1 g1 g3 g4 q g5 g2
    refine named (lm.here ?_)
    cases b with
    | true =>
      refine codeAny_handlers_suite_as (HandSPX.lands_againZ fl fun h2 fl2 up2 => ?_)
      have J2 : Inv X pins τ G { t with heap := h2 } := J.landed nb fl2.1 (up.trans (up1.trans up2)) os ag
      obtain ⟨o2, w2, e2, z2, d2⟩ := fl2.there
      have K1 := bare_suite (a := a) (keepE J2 e2 z2 d2 na nL n0 np0)
      refine store_ok (X := X.suite a (X.pn ++ pins)) (v := .ref a) K1 hN hi (.inl hln) rfl (fun s5 K5 => ?_) (.inr hln)
      refine wpAny_mono ((hsu a (X.pn ++ pins)).run [] s5 _ _ _ K5 (hyes rfl a na)) (fun f s6 q => ?_) fun _ _ z => z.elim
      cases f with
      | ret u => exact let ⟨v, τ1, G1, K6, r, q⟩ := q; gone_ok (suite_bare ok K6) hN hi hln fun s7 K7 => ⟨v, _, _, K7, r, q⟩
      | next => exact let ⟨τ1, G1, K6, q⟩ := q; gone_ok (suite_bare ok K6) hN hi hln fun s7 K7 => ⟨_, _, K7, q⟩
      | brk => exact let ⟨τ1, G1, K6, q⟩ := q; gone_ok (suite_bare ok K6) hN hi hln fun s7 K7 => ⟨_, _, K7, q⟩
      | cont => exact let ⟨τ1, G1, K6, q⟩ := q; gone_ok (suite_bare ok K6) hN hi hln fun s7 K7 => ⟨_, _, K7, q⟩
    | false =>
      show wpAny _ X.A (handleBy (.ref a) X.env []) _ _ _
      refine wpAny_handleBy_nil ?_
      obtain ⟨_, _, _, oe, vs, T, oT, tv, he, hz, hd, hT, _⟩ := id fl
      unfold PySem.passOn
      refine wpAny_bind (wpAny_field he hd hT ?_)
      rw [if_neg (by simp)]
      have fin : wpAny (model X.prog X.w) X.A (setFlight (.ref a) X.env.frame) (fun _ t4 => wpAny (model X.prog X.w) X.A (throw (.ref a) : Sem Flow) (SP X pins D) X.xe t4) X.xe { t with heap := h1 } := by
        rw [hf]
        exact HandSPX.setFlight_upZ fl fun h4 held up4 => wpAny_throw (tk _ _ ⟨a, B, sI, pins, τ, G, cls, d, rfl, J, nb, up.trans (up1.trans up4), .inr (.inr (hs.symm ▸ held)), na, os, ag, hno rfl⟩)
      first
        | exact wpAny_bind (wpAny_pure (wpAny_bind fin))
        | exact wpAny_bind fin
end
end DL

namespace DL
open PySem PySem.Spec PyProof.Rows L2
/-- the class of a kept error -/
def KeptAt (H : Hp) (a D : Addr) (d : Option Addr) : Prop := H a = some (ExK (.ref D) d a) ∧ ∀ dd, d = some dd → ∃ fs, H dd = some (.xd fs)
section
variable {X : Cx} {pins : List (Addr × Obj)} {σ : L2.St} {H : Hp} {s : Shared} {a D : Addr} {d : Option Addr}
theorem kept_inst (I : Inv X pins σ H s) (h : KeptAt H a D d) : ∃ oe od, PySem.W.InstAt s.heap a oe D od := by
  obtain ⟨⟨oe, vs, e, ⟨z1, z2⟩, hd⟩, _, _⟩ := I.hok a _ h.1
  have hc : ∀ c, oe.data ≠ .cls c := fun c q => by rw [hd] at q; cases q
  cases d with
  | none =>
    refine ⟨oe, none, ?_⟩
    obtain ⟨oc, od, oda, osl⟩ := oe
    subst z1 z2 hd
    exact ⟨e, rfl, rfl, trivial⟩
  | some dd =>
    obtain ⟨fs, hx⟩ := h.2 dd rfl
    obtain ⟨mA, ⟨o, es, ep, ho, _⟩, _⟩ := I.hok dd _ hx
    refine ⟨oe, some o, ?_⟩
    obtain ⟨oc, od, oda, osl⟩ := oe
    subst z1 z2 hd
    exact ⟨e, rfl, rfl, ho⟩
def rIsK (K : PySem.W.Frag) : List V → Hp → VK → Prop := fun xs H Q => ∃ (a D : Addr) (d : Option Addr) (c : V) (cv : Value) (b : Bool), xs = [.ref a, c] ∧ KeptAt H a D d ∧ ClsV c cv ∧ ExcC K D ∧ PySem.W.kitOne K (.ref D) cv = some b ∧ Q (.bl b) H
/-- isinstance(e, C) of an error that was kept -/
theorem call_isK : CallR X (.builtin "isinstance") (rIsK X.K) := by
  rintro pins s σ H xs us Q I r ⟨a, D, d, c, cv, b, rfl, hk, hc, C, e, q⟩
  obtain ⟨u1, u2, rfl, r1, r2⟩ := vals2 r
  have e2 := hc.eq r2
  subst e2
  cases r1
  obtain ⟨oe, od, J⟩ := kept_inst I hk
  obtain ⟨cd, hcl, _⟩ := PySem.W.any_some C.hd
  exact PySem.W.kia_one (PySem.W.kitx_exc (by rw [hcl]; rfl) C.hg C.hk C.hs C.ha C.hn C.ht C.hm) I.kIn J e (fun z => nomatch z) fun tk => ⟨.bl b, H, I.kept (t' := tk) fun _ _ z => z, rfl, q⟩
/-- e.f of an error that was kept -/
def tXfK (K : PySem.W.Frag) (f : Str) (te : TE) : TE := fun σ H Q => te σ H fun x G => ∃ (a C dd : Addr) (fs : List (Str × V)) (v : V), x = .ref a ∧ G a = some (ExK (.ref C) (some dd) a) ∧ XfC K C ∧ PySem.W.findIn K (.ref C) f = some none ∧ G dd = some (.xd fs) ∧ fs.lookup f = some v ∧ Q v G
theorem pe_xfK {e : Expr} {te : TE} {pos : Pos} {n : Str} (he : PE X e te) (hb : attributeBase e n X.env (eval e X.env) = eval e X.env := by rfl) : PE X (.Attribute e n pos) (tXfK X.K n te) := by
  constructor
  intro pins s σ H Q I h
  refine attr_of hb (thn (he.run pins s σ H _ I h) ?_)
  rintro u t ⟨_, G, J, rx, a, C, dd, fs, v, rfl, hk, T, hno, hx, hl, q⟩
  cases rx
  obtain ⟨⟨oe, vs, e1, ⟨z1, z2⟩, hd⟩, _, _⟩ := J.hok a _ hk
  obtain ⟨mA, hns, hr⟩ := J.hok dd _ hx
  obtain ⟨od, ho, hn⟩ := lookIn_ns hns
  obtain ⟨w, hw, rw'⟩ := RelO.some_of (v := v) (o := mA n) (hl ▸ hr n)
  have at_ : PySem.W.InstAt t.heap a oe C (some od) := ⟨e1, z1, by unfold PySem.W.notCls; rw [hd], by rw [z2]; exact ho⟩
  exact HandSPX.exc_get J.kIn at_ T.ga T.gg T.exC (PySem.W.findObj_own T.hdC hno rfl ((hn n).trans (congrArg some hw))) (handed_of rw') ⟨v, G, J.tok _, rw', q⟩
end
end DL

/-! DL: errors -/
namespace DL
open PySem PySem.Spec L2
section
variable {A : Amb} {z : Z} {H : Hp}
theorem Sl.unset {σ : L2.St} {env : Env} {i : Nat} (hs : Sl A z H σ env) : Sl A z H (σ.set i none) (env.set i none) := by
  refine ⟨by rw [List.length_set, List.length_set]; exact hs.1, fun j e h => ?_⟩
  by_cases c : j = i
  · subst c
    have hj := (List.getElem?_eq_some_iff.mp h).1
    rw [List.length_set] at hj
    rw [List.getElem?_set_self hj] at h
    cases h
  · rw [List.getElem?_set_ne (fun q => c q.symm)] at h
    obtain ⟨w, h1, h2⟩ := hs.2 j e h
    exact ⟨w, by rw [List.getElem?_set_ne (fun q => c q.symm)]; exact h1, h2⟩
end
/-- behind the suite the error's name is gone; nothing leaves a suite -/
def unS (i : Nat) : S → S
  | .nx env m => .nx (env.set i none) m
  | .bk env m => .bk (env.set i none) m
  | .ct env m => .ct (env.set i none) m
  | .rt d m => .rt d m
  | _ => .no
def sTry (K : PySem.W.Frag) (c : Value) (i : Nat) (Fb Fs : Env → M → S) : Env → M → S := fun env m => match Fb env m with
  | .ex x env1 m1 => (match PySem.W.exmOne K x.C c with
    | some true => unS i (Fs (env1.set i (some (.cell m1.length))) (m1 ++ [.exc x.C x.fs]))
    | some false => .ex x env1 m1
    | none => .no)
  | s => s
section
variable {A : Amb} {c : Value} {i : Nat} {Fb Fs : Env → M → S} {tb : WX → TS} {ts : Addr → TS} {Wo : WX}
theorem dens_try (hb : ∀ W : WX, DenS A (WE W) (tb W) Fb) (hsu : ∀ a, DenS A (fun _ _ _ _ => False) (ts a) Fs) : DenS A (WE Wo) (fun D σ H => tb (wKp A.K c i ts Wo D) D σ H) (sTry A.K c i Fb Fs) := by
  intro z H σ env m E hm hs h
  refine hb (wKp A.K c i ts Wo E) z H σ env m E hm hs ?_
  unfold sTry at h
  cases e : Fb env m with
  | nx env1 m1 => rw [e] at h; exact h
  | rt d m1 => rw [e] at h; exact h
  | bk env1 m1 => rw [e] at h; exact h
  | ct env1 m1 => rw [e] at h; exact h
  | no => rw [e] at h; exact h
  | ex x env1 m1 =>
    rw [e] at h
    intro z1 σ1 d H1 s1 hm1 hs1 hx
    cases q : PySem.W.exmOne A.K x.C c with
    | none => simp only [q] at h; exact h.elim
    | some b =>
      refine ⟨b, q, fun hf => ?_, fun ht a na => ?_⟩
      · subst hf
        simp only [q] at h
        exact h z1 σ1 d H1 s1 hm1 hs1 hx
      · subst ht
        simp only [q] at h
        have s2 : Step z1 H1 ⟨z1.as ++ [a], z1.hs⟩ (upd H1 a (ExK x.C d a)) := Step.newCell hm1 na
        have hm2 : MOk A ⟨z1.as ++ [a], z1.hs⟩ (upd H1 a (ExK x.C d a)) (m1 ++ [.exc x.C x.fs]) := MOk.newCell hm1 na ⟨d, upd_same, hx.step s2⟩
        have hc : (z1.as ++ [a])[m1.length]? = some a := by
          rw [← hm1.len, List.getElem?_append_right (Nat.le_refl _)]
          simp
        have hs2 := (hs1.step s2).set (i := i) (v := .ref a) (d := .cell m1.length) (Rep.cell hc)
        refine hsu a _ _ _ _ _ _ hm2 hs2 ?_
        have h2 := PostS.step (s1.trans s2) h
        generalize Fs (env1.set i (some (.cell m1.length))) (m1 ++ [.exc x.C x.fs]) = r at h2
        cases r with
        | nx env3 m3 => exact fun z' σ' H' s' hm' hs' => h2 z' _ H' s' hm' hs'.unset
        | bk env3 m3 => exact fun z' σ' H' s' hm' hs' => h2 z' _ H' s' hm' hs'.unset
        | ct env3 m3 => exact fun z' σ' H' s' hm' hs' => h2 z' _ H' s' hm' hs'.unset
        | rt d3 m3 => exact h2
        | ex x3 env3 m3 => exact h2.elim
        | no => exact h2.elim
end
/-! ### raise -/
def sRaise (c : Value) (f : Env → M → R D) : Env → M → S := fun env m => (f env m).to env fun _ m => .ex ⟨c, none⟩ env m
def sRaise0 (c : Value) : Env → M → S := fun env m => .ex ⟨c, none⟩ env m
section
variable {A : Amb} {W : WX} {te : TE} {fe : Env → M → R D} {C : Addr}
theorem dens_raise (he : Den A (WE W) te fe) : DenS A (WE W) (fun _ σ H => te σ H fun _ H1 => W (.ref C) none σ H1) (sRaise (.ref C) fe) := by
  intro z H σ env m E hm hs h
  exact he z H σ env m _ hm hs (post_to hs h fun z1 H1 d m1 v s1 hm1 hs1 _ h1 => h1 z1 σ none H1 Step.refl hm1 hs1 rfl)
theorem dens_raise0 : DenS A (WE W) (fun _ σ H => W (.ref C) none σ H) (sRaise0 (.ref C)) := fun z H σ env m E hm hs h => h z σ none H Step.refl hm hs rfl
end
/-! ### defs that may let errors out -/
structure OwnX (P : Program) (w : World) (A : Amb) (mg : Str → Option Value) (base : Heap) (x : Str) (ps : List Str) (lv : Nat) (g : List D → M → R D) (f : Addr) (fd : FuncData) : Prop where
  m : mg x = some (.ref f)
  k : PySem.W.keepIn A.K (.ref f) = true
  b : Binds A.K fd ps []
  F : FnOk P w A.K mg base (L2.CX P w) lv f fd ps (spD A ps.length g)
section
variable {A : Amb} {P : Program} {w : World} {mg : Str → Option Value} {base : Heap}
theorem tk_cx {N : List Str} {q : Str} {sc : Scope} {f : Addr} {cd : Value} {Ar : Around} {outer : List PySem.Env} {s : Shared} {H : Hp} {E : XK} {K : PySem.W.Frag} : Takes (cxOf (L2.CX P w) P w K mg base N q sc f cd Ar outer s H E) (fun cls d _ H => E cls d H) := takes_of rfl rfl rfl rfl
theorem fn_denX {x : Str} {st : Stmt} {f : Addr} {fd : FuncData} {N ps : List Str} {k : Nat} {F : Env → M → S} {dvs : List V} {kws : List (Str × V)} (Fu : FunD A.K x x (defArgs st) (defBody st) (defScope st) dvs kws f fd) (Sc : FnScope N ps (defScope st)) (hn : ps.length ≤ N.length)
    (hbody : ∀ (cdv : Value) (Ar : Around) (outer : List PySem.Env) (s : Shared) (H : Hp) (E : XK), Room k (Ar.deeper (PyProof.Rows.envOfC x (defScope st) s.heap.objs.size f cdv)) →
      ∃ t, PSs (cxOf (L2.CX P w) P w A.K mg base N x (defScope st) f cdv Ar outer s H E) (defBody st) t ∧ DenS A (WE (fun cls d _ H => E cls d H)) t F) : FnOk P w A.K mg base (L2.CX P w) (k + 1) f fd ps (spD A ps.length (bodyD N.length F)) := by
  refine Fu.ok Sc (fun vs H Q E h => h.1) fun cdv Ar outer s H vs Q E hr h => ?_
  obtain ⟨hl, z, m, ds, hm, hr', hq⟩ := h
  obtain ⟨t, ht, hd⟩ := hbody cdv Ar outer s H E hr
  exact ⟨t, ht, hd z H _ _ m _ hm (sl_start hr' (by rw [← hr'.length, hl]; exact hn)) (post_ret hq)⟩
end
/-! ### isinstance, whatever the thing -/
def clsV : V → Option Value
  | .ty n => some (.type n)
  | .ref C => some (.ref C)
  | _ => none
/-- what a class of errors must say, asked of the written part -/
theorem exB_ok {K : PySem.W.Frag} {D : Addr} (h : exB K D = true) : ExcC K D := by
  unfold exB at h
  simp only [Bool.and_eq_true, decide_eq_true_eq] at h
  obtain ⟨⟨a, b⟩, ⟨c, d⟩, ⟨e, f⟩, g, i⟩ := h
  exact ⟨a, b, c, d, e, f, g, i⟩
/-- of what class a kept error is -/
def keptV (d : D) (m : M) : Option Addr := match d with
  | .cell k => (match m[k]? with
    | some (.exc (.ref D) _) => some D
    | _ => none)
  | _ => none
def isiX (K : PySem.W.Frag) : List D → M → R D
  | [d, .ob c], m => match clsV c with
    | none => .no
    | some u => match tyD d m with
      | some n => (match PySem.W.kitOne K (.type n) u with | some b => .ok (.bl b) m | none => .no)
      | none => match keptV d m with
        | some D => if exB K D = true then (match PySem.W.kitOne K (.ref D) u with | some b => .ok (.bl b) m | none => .no) else .no
        | none => .no
  | _, _ => .no
theorem clsV_ok {c : V} {u : Value} (h : clsV c = some u) : ClsV c u := by
  unfold clsV at h
  split at h
  · cases h; exact .ty _
  · cases h; exact .own _
  · cases h
theorem keptV_ok {A : Amb} {z : Z} {H : Hp} {m : M} {v : V} {d : D} {D : Addr} (hm : MOk A z H m) (hv : Rep A z H v d) (e : keptV d m = some D) : ∃ a dd, v = .ref a ∧ KeptAt H a D dd := by
  unfold keptV at e
  split at e
  · rename_i k
    split at e
    · rename_i D' fs q
      cases e
      cases hv with
      | cell hk =>
        obtain ⟨dd, h1, h2⟩ := hm.at_ k _ _ hk q
        refine ⟨_, dd, rfl, h1, fun x hx => ?_⟩
        subst hx
        cases fs with
        | none => exact absurd h2 (by simp [RepX])
        | some fs =>
          obtain ⟨b, vs, hb, h3, _⟩ := h2
          cases hb
          exact ⟨vs, h3⟩
    · cases e
  · cases e
theorem calld_isiX {A : Amb} : CallD A (fun xs H Q => rIsi A.K xs H Q ∨ rIsK A.K xs H Q) (isiX A.K) := by
  intro z H m xs ds W Q hm hx h
  unfold isiX at h
  split at h
  · cases hx with
    | cons h1 h2 =>
      cases h2 with
      | cons h2 h3 =>
        cases h3
        cases h2
        split at h
        · exact h.elim
        · rename_i u hu
          split at h
          · rename_i n e
            split at h
            · rename_i b e2
              exact .inl ⟨_, _, _, _, b, rfl, clsV_ok hu, tyD_ok hm h1 e, e2, h.ok_at hm (.bl _)⟩
            · exact h.elim
          · split at h
            · rename_i D e
              obtain ⟨hD, h⟩ := post_if h
              split at h
              · rename_i b e2
                obtain ⟨a, dd, rfl, hk⟩ := keptV_ok hm h1 e
                exact .inr ⟨a, D, dd, _, _, b, rfl, hk, clsV_ok hu, exB_ok hD, e2, h.ok_at hm (.bl _)⟩
              · exact h.elim
            · exact h.elim
  · exact h.elim
theorem call_isX {X : Cx} : CallR X (.builtin "isinstance") (fun xs H Q => rIsi X.K xs H Q ∨ rIsK X.K xs H Q) := call_isi.or call_isK
end DL

/-! DL: texts with values in them -/
namespace DL
open PySem PySem.Spec L2
def fmtD : D → M → R D
  | .str y, m => if y.length ≤ sizeLine then .ok (.str y) m else .no
  | .int i, m => if i.natAbs.log2 < 1920 then .ok (.str (toString i)) m else .no
  | _, _ => .no
/-- texts one behind the other -/
def eJs : List (Env → M → R D) → Str → Env → M → R D
  | [], acc, _, m => .ok (.str acc) m
  | f :: fs, acc, env, m => (f env m).bind fun x m => match x with
    | .str y => if (acc ++ y).length ≤ sizeLine then eJs fs (acc ++ y) env m else .no
    | _ => .no
section
variable {A : Amb} {W : L2.St → XK} {te : TE} {fe : Env → M → R D}
theorem den_fmt (he : Den A W te fe) : Den A W (tFmt te) (eUn fmtD fe) := by
  intro z H σ env m Q hm hs h
  refine he z H σ env m _ hm hs (post_bind h fun z1 H1 d m1 v s1 hm1 hv h1 => ?_)
  unfold fmtD at h1
  split at h1
  · cases hv
    obtain ⟨c, h1⟩ := post_if h1
    exact .inl ⟨_, rfl, c, h1.ok_at hm1 (.str _)⟩
  · cases hv
    obtain ⟨c, h1⟩ := post_if h1
    exact .inr ⟨_, rfl, c, h1.ok_at hm1 (.str _)⟩
  · exact h1.elim
inductive DenJ (A : Amb) (W : L2.St → XK) : List TE → List (Env → M → R D) → Prop
  | nil : DenJ A W [] []
  | cons {t : TE} {ts : List TE} {f : Env → M → R D} {fs : List (Env → M → R D)} (h : Den A W t f) (r : DenJ A W ts fs) : DenJ A W (t :: ts) (f :: fs)
theorem den_js {ts : List TE} {fs : List (Env → M → R D)} (h : DenJ A W ts fs) : ∀ (acc : Str), Den A W (fun σ H Q => tJs ts acc σ H fun out H1 => Q (.str out) H1) (eJs fs acc) := by
  induction h with
  | nil => exact fun acc z H σ env m Q hm hs q => q.ok_at hm (.str acc)
  | cons h r ih =>
    intro acc z H σ env m Q hm hs q
    refine h z H σ env m _ hm hs (post_bind q fun z1 H1 d m1 v s1 hm1 hv q1 => ?_)
    cases hv with
    | str y =>
      obtain ⟨c, q1⟩ := post_if q1
      exact ⟨y, rfl, c, ih (acc ++ y) z1 H1 σ env m1 Q hm1 (hs.step s1) q1⟩
    | _ => exact q1.elim
theorem den_joined {ts : List TE} {fs : List (Env → M → R D)} (h : DenJ A W ts fs) : Den A W (fun σ H Q => tJs ts Str.empty σ H fun out H1 => Q (.str out) H1) (eJs fs Str.empty) := den_js h Str.empty
end
section
variable {A : Amb}
/-! more methods and calls -/
def lstripD : D → List D → M → R D
  | .str a, [.str b], m => if a.length ≤ sizeLine then .ok (.str (Txt.lstripChars a b)) m else .no
  | _, _, _ => .no
theorem mtd_lstrip : MtD A (fun x xs H Q => ∃ a b, x = .str a ∧ xs = [.str b] ∧ a.length ≤ sizeLine ∧ Q (.str (Txt.lstripChars a b)) H) lstripD := by
  intro z H m x xs d ds W Q hm hx hxs h
  unfold lstripD at h
  split at h
  · cases hx
    cases hxs with
    | cons h1 h2 =>
      cases h2; cases h1
      obtain ⟨c, h⟩ := post_if h
      exact ⟨_, _, rfl, rfl, c, h.ok_at hm (.str _)⟩
  · exact h.elim
/-- the first place of a thing in a list -/
def firstEq (p : PyData) : List PyData → Option Nat
  | [] => none
  | q :: ps => if PyData.eqv q p = true then some 0 else (firstEq p ps).map (· + 1)
theorem firstEq_ok {p : PyData} : ∀ {ps : List PyData} {j : Nat}, firstEq p ps = some j → ∃ q, ps[j]? = some q ∧ PyData.eqv q p = true ∧ ∀ (k : Nat) (r : PyData), k < j → ps[k]? = some r → PyData.eqv r p = false
  | [], _, h => nomatch h
  | q :: ps, j, h => by
    unfold firstEq at h
    split at h
    · rename_i c
      cases h
      exact ⟨q, rfl, c, fun k r hk _ => absurd hk (Nat.not_lt_zero k)⟩
    · rename_i c
      obtain ⟨i, h1, rfl⟩ := Option.map_eq_some_iff.mp h
      obtain ⟨q', a, b, d⟩ := firstEq_ok h1
      refine ⟨q', a, b, fun k r hk e => ?_⟩
      cases k with
      | zero => cases e; simpa using c
      | succ k => exact d k r (by omega) e
def indexD : D → List D → M → R D
  | x, [y], m => match seqOf x m, toPm y m with
    | some ds, some p => (match toPs ds with
      | some ps => if SeqAt.shaped (.list ps) = true ∧ SeqAt.shaped p = true then (match firstEq p ps with | some j => .ok (.int (j : Nat)) m | none => .no) else .no
      | none => .no)
    | _, _ => .no
  | _, _, _ => .no
theorem mtd_index : MtD A (rIndexD A.K) indexD := by
  intro z H m x xs d ds W Q hm hx hxs h
  unfold indexD at h
  split at h
  · cases hxs with
    | cons h1 h2 =>
      cases h2
      split at h
      · rename_i e1 e2
        split at h
        · rename_i ps e3
          obtain ⟨c, h⟩ := post_if h
          split at h
          · rename_i j e4
            obtain ⟨a, vs, rfl, hl, r⟩ := seqOf_ok hm hx e1
            obtain ⟨q, f1, f2, f3⟩ := firstEq_ok e4
            exact ⟨a, _, _, ps, j, q, rfl, rfl, .lst (SqL.of hl) (toPs_ok r e3), toPm_ok hm h1 e2, c.1, c.2, f1, f2, f3, h.ok_at hm (.int _)⟩
          · exact h.elim
        · exact h.elim
      · exact h.elim
  · exact h.elim
end
end DL

/-! DL: walking what may change meanwhile: the item at i by the memory as it is at that turn -/
namespace DL
open PySem PySem.Spec L2
abbrev Src := M → Nat → Option (Option D)
def ItOkM (A : Amb) (z : Z) (H : Hp) (J : It) (it : Src) : Prop := ∀ z' H' m, StepH z H z' H' → MOk A z' H' m → ∀ i : Nat, (it m i = some none → J.stop i H') ∧
  ∀ d, it m i = some (some d) → J.go i H' ∧ ∀ x H2, J.yld i H' x H2 → Step z' H' z' H2 ∧ MOk A z' H2 m ∧ Rep A z' H2 x d
def DenIM (A : Amb) (W : L2.St → XK) (t : TI) (f : Env → M → R (Nat × Src)) : Prop := ∀ z H σ env m Q, MOk A z H m → Sl A z H σ env → PostG A (fun z H J p => ItOkM A z H J p.2) (W σ) z H (f env m) Q → t σ H Q
/-- at most n turns -/
def loopM (put : D → Env → M → Option Env) (body : Env → M → S) (it : Src) : Nat → Nat → Env → M → S
  | 0, _, _, _ => .no
  | n + 1, i, env, m => match it m i with
    | some none => .nx env m
    | some (some d) => putS (put d env m) fun env1 => (body env1 m).turn (loopM put body it n (i + 1))
    | none => .no
def sForM (it : Env → M → R (Nat × Src)) (put : D → Env → M → Option Env) (body : Env → M → S) : Env → M → S := fun env m => (it env m).to env fun p m => loopM put body p.2 p.1 0 env m
section
variable {A : Amb} {W : L2.St → XK} {te : TE} {tt : TT} {ts : TS} {fe : Env → M → R D} {ft : Env → M → R Bool} {F : Env → M → S} {wi : TI} {g : TG} {put : D → Env → M → Option Env} {fi : Env → M → R (Nat × Src)} {js vs : List Nat}
theorem dens_forM (hi : DenIM A W wi fi) (hg : DenG A js g put) (hb : DenS A W ts F) : DenS A W (tFor wi g ts) (sForM fi put F) := by
  intro z H σ env m E hm hs h
  refine hi z H σ env m _ hm hs (post_to hs h fun z1 H1 p m1 J s1 hm1 hs1 hJ h1 => ?_)
  refine ⟨fun i n σ' H' => ∃ z' env' m', Step z1 H1 z' H' ∧ MOk A z' H' m' ∧ Sl A z' H' σ' env' ∧ PostS A W z' H' (loopM put F p.2 n i env' m') E, ⟨p.1, z1, env, m1, Step.refl, hm1, hs1, h1⟩, ?_⟩
  rintro i n σ' H' ⟨z', env', m', s', hm', hs', h'⟩
  cases n with
  | zero => exact h'.elim
  | succ n =>
    obtain ⟨hstop, hy⟩ := hJ z' H' m' s'.h hm' i
    unfold loopM at h'
    cases e : p.2 m' i with
    | none => rw [e] at h'; exact h'.elim
    | some o =>
      cases o with
      | none =>
        rw [e] at h'
        exact .inl ⟨hstop e, h' z' σ' H' Step.refl hm' hs'⟩
      | some d =>
        rw [e] at h'
        obtain ⟨hgo, hy⟩ := hy d e
        refine .inr ⟨hgo, fun σ2 H2 => ∃ z2 env2 m2, Step z1 H1 z2 H2 ∧ MOk A z2 H2 m2 ∧ Sl A z2 H2 σ2 env2 ∧ PostS A W z2 H2 (loopM put F p.2 n (i + 1) env2 m2) E, fun σ2 H2 q => ⟨n, Nat.lt_succ_self n, q⟩, fun x H2 y => ?_⟩
        obtain ⟨s2, hm2, rd⟩ := hy x H2 y
        have h2 : PostS A W z' H2 (putS (put d env' m') fun env1 => (F env1 m').turn (loopM put F p.2 n (i + 1))) E := PostS.step s2 h'
        cases ep : put d env' m' with
        | none => rw [ep] at h2; exact h2.elim
        | some env1 =>
          rw [ep] at h2
          refine hg z' H2 σ' env' m' x d env1 _ hm2 (hs'.step s2) rd ep fun σ3 hs3 _ _ => ?_
          refine hb z' H2 σ3 env1 m' _ hm2 hs3 ?_
          have s12 := s'.trans s2
          exact post_turn h2 fun z3 σ4 H4 env2 m2 s4 hm4 hs4 q => ⟨z3, env2, m2, s12.trans s4, hm4, hs4, q⟩
end
/-- a list's items as they stand; a bound of the turns -/
def itL (d : D) : Src := fun m i => (seqOf d m).map fun ds => ds[i]?
def srcL (fe : Env → M → R D) : Env → M → R (Nat × Src) := fun env m => (fe env m).bind fun d m => match d, seqOf d m with
  | .cell k, some ds => .ok (ds.length + 1, itL (.cell k)) m
  | _, _ => .no
section
variable {A : Amb} {W : L2.St → XK} {te : TE} {fe : Env → M → R D}
theorem denim_list (he : Den A W te fe) : DenIM A W (iList A.K te) (srcL fe) := by
  intro z H σ env m Q hm hs h
  refine he z H σ env m _ hm hs (post_bind h fun z1 H1 d m1 v s1 hm1 hv h1 => ?_)
  split at h1
  · rename_i k ds e
    obtain ⟨a, vs, rfl, h2, r⟩ := seqOf_ok hm1 hv e
    cases hv with
    | cell hk =>
      refine ⟨_, rfl, ⟨_, SqL.of h2⟩, h1.ok_at hm1 fun z' H' m' st hm' i => ?_⟩
      have hk' : z'.as[k]? = some a := st.c k a hk
      have key : ∀ o, itL (.cell k) m' i = some o → ∃ us es, H' a = some (.lst us) ∧ RepL A z' H' us es ∧ es[i]? = o := fun o q => by
        obtain ⟨es, q1, q2⟩ := Option.map_eq_some_iff.mp q
        obtain ⟨b, us, hb, hl, hr⟩ := seqOf_ok hm' (Rep.cell (A := A) (H := H') hk') q1
        cases hb
        exact ⟨us, es, hl, hr, q2⟩
      refine ⟨fun q => ?_, fun d q => ?_⟩
      · obtain ⟨us, es, hl, hr, q⟩ := key _ q
        have := List.getElem?_eq_none_iff.mp q
        exact ⟨us, SqL.of hl, by rw [hr.length]; exact this⟩
      · obtain ⟨us, es, hl, hr, q⟩ := key _ q
        obtain ⟨v, hv1, hv2⟩ := hr.getD q
        refine ⟨⟨us, v, SqL.of hl, hv1⟩, fun x H2 y => ?_⟩
        obtain ⟨rfl, y⟩ := y
        have := y us (SqL.of hl)
        rw [hv1] at this
        cases this
        exact ⟨Step.refl, hm', hv2⟩
  · exact h1.elim
end
/-- two lists' items in pairs -/
def itZ (d1 d2 : D) : Src := fun m i => match seqOf d1 m, seqOf d2 m with
  | some xs, some ys => some (match xs[i]?, ys[i]? with
    | some x, some y => some (.tup [x, y])
    | _, _ => none)
  | _, _ => none
def srcZ (fr : Env → M → R (List D)) : Env → M → R (Nat × Src) := fun env m => (fr env m).bind fun ds m => match ds with
  | [d1, d2] => (match seqOf d1 m, seqOf d2 m with
    | some xs, some _ => .ok (xs.length + 1, itZ d1 d2) m
    | _, _ => .no)
  | _ => .no
section
variable {A : Amb} {W : L2.St → XK} {ta : TA} {fr : Env → M → R (List D)}
theorem SqL.same {K : PySem.W.Frag} {H : Hp} {a : Addr} {xs ys : List V} (h : H a = some (.lst xs)) (k : SqL K H a ys) (hk : ∀ zs, SqL K H a zs → zs = xs) : ys = xs := hk ys k
theorem itokM_zip {z : Z} {H : Hp} {a b : Addr} {d1 d2 : D} (r1 : Rep A z H (.ref a) d1) (r2 : Rep A z H (.ref b) d2) : ItOkM A z H (Itz A.K a b) (itZ d1 d2) := by
  intro z' H' m st hm i
  have r1 := r1.map st.k st.c
  have r2 := r2.map st.k st.c
  have key : ∀ o, itZ d1 d2 m i = some o → ∃ us es vs fs, H' a = some (.lst us) ∧ RepL A z' H' us es ∧ H' b = some (.lst vs) ∧ RepL A z' H' vs fs ∧ o = (match es[i]?, fs[i]? with | some x, some y => some (.tup [x, y]) | _, _ => none) := fun o q => by
    unfold itZ at q
    split at q
    · rename_i xs ys e1 e2
      obtain ⟨a', us, ha, hl1, hr1⟩ := seqOf_ok hm r1 e1
      obtain ⟨b', vs, hb, hl2, hr2⟩ := seqOf_ok hm r2 e2
      cases ha
      cases hb
      exact ⟨us, xs, vs, ys, hl1, hr1, hl2, hr2, (Option.some.inj q).symm⟩
    · cases q
  refine ⟨fun q => ?_, fun d q => ?_⟩
  · obtain ⟨us, es, vs, fs, h1, h2, h3, h4, e⟩ := key _ q
    refine ⟨us, vs, SqL.of h1, SqL.of h3, ?_⟩
    rw [h2.length, h4.length]
    by_cases c1 : i < es.length
    · by_cases c2 : i < fs.length
      · rw [List.getElem?_eq_getElem c1, List.getElem?_eq_getElem c2] at e
        cases e
      · exact .inr (Nat.le_of_not_lt c2)
    · exact .inl (Nat.le_of_not_lt c1)
  · obtain ⟨us, es, vs, fs, h1, h2, h3, h4, e⟩ := key _ q
    split at e
    · rename_i x y e1 e2
      cases e
      obtain ⟨u, hu, ru⟩ := h2.getD e1
      obtain ⟨v, hv, rv⟩ := h4.getD e2
      refine ⟨⟨us, vs, u, v, SqL.of h1, SqL.of h3, hu, hv⟩, fun w H2 y => ?_⟩
      obtain ⟨T, x', y', rfl, hT, rfl, q1, q2⟩ := y
      have := q1 us (SqL.of h1)
      rw [hu] at this
      cases this
      have := q2 vs (SqL.of h3)
      rw [hv] at this
      cases this
      have s := Step.lay (o := .tup [u, v]) hm hT
      exact ⟨s, hm.lay hT, .tup (.inl ⟨upd_same, hm.fresh hT⟩) (.cons (ru.step s) (.cons (rv.step s) .nil))⟩
    · cases e
theorem denim_zip (ha : DenA A W ta fr) : DenIM A W (iZip A.K ta) (srcZ fr) := by
  intro z H σ env m Q hm hs h
  refine ha z H σ env m _ hm hs (post_bind h fun z1 H1 ds m1 vs s1 hm1 hv h1 => ?_)
  split at h1
  · rename_i d1 d2
    split at h1
    · rename_i xs ys e1 e2
      cases hv with
      | cons r1 hv =>
        cases hv with
        | cons r2 hv =>
          cases hv
          obtain ⟨a, us, rfl, hl1, _⟩ := seqOf_ok hm1 r1 e1
          obtain ⟨b, vs, rfl, hl2, _⟩ := seqOf_ok hm1 r2 e2
          exact ⟨a, b, us, vs, rfl, SqL.of hl1, SqL.of hl2, h1.ok_at hm1 (itokM_zip r1 r2)⟩
    · exact h1.elim
  · exact h1.elim
end
/-! ### comprehensions over such -/
def compM (put : D → Env → M → Option Env) (c : Env → M → R Bool) (el : Env → M → R D) (env : Env) (it : Src) : Nat → Nat → List D → M → R (List D)
  | 0, _, _, _ => .no
  | n + 1, i, acc, m => match it m i with
    | some none => .ok acc m
    | some (some d) => putR (put d env m) fun env1 => (c env1 m).bindS fun b m => if b = true then ((el env1 m).bindS fun e m => if acc.length < sizeLine then compM put c el env it n (i + 1) (acc ++ [e]) m else .no) else compM put c el env it n (i + 1) acc m
    | none => .no
def eCompM (mk : List D → M → R D) (vs : List Nat) (it : Env → M → R (Nat × Src)) (put : D → Env → M → Option Env) (c : Env → M → R Bool) (el : Env → M → R D) : Env → M → R D :=
  fun env m => (it env m).bind fun p m => (compM put c el (wipeD env vs) p.2 p.1 0 [] m).bindS mk
section
variable {A : Amb} {W : L2.St → XK} {te : TE} {tt : TT} {fe : Env → M → R D} {ft : Env → M → R Bool}
theorem den_compGM {W' : L2.St → XK} {js vs : List Nat} {mk : List D → M → R D} {wi : TI} {g : TG} {put : D → Env → M → Option Env} {fi : Env → M → R (Nat × Src)} (hj : ∀ i ∈ js, i ∈ vs)
    (hmk : ∀ z H m p ds xs z0 H0 W Q, H0 p = none → Step z0 H0 z H → MOk A (z.hide p) H m → H p = some (.lst xs) → RepL A (z.hide p) H xs ds → z0.im p → PostE A W z0 H0 (mk ds m) Q → Q (.ref p) H)
    (hi : DenIM A W wi fi) (hg : DenG A js g put) (hc : DenT A W' tt ft) (he : Den A W' te fe) : Den A W (tLc wi g tt te vs) (eCompM mk vs fi put ft fe) := by
  intro z H σ env m Q hm hs h
  refine hi z H σ env m _ hm hs (post_bind h fun z1 H1 sr m1 J s1 hm1 hJ h1 => ?_)
  intro p hp
  have hs1 := hs.step s1
  have hw : Sl A (z1.hide p) (upd H1 p (.lst [])) (L2.wipe σ vs) (wipeD env vs) := ((hs1.wipe vs).hide hp).step (step_hide (o := .lst []) hm1 hp)
  refine ⟨fun i n H' => ∃ z' xs acc m', Step z1 H1 z' H' ∧ MOk A (z'.hide p) H' m' ∧ Sl A (z'.hide p) H' (L2.wipe σ vs) (wipeD env vs) ∧ H' p = some (.lst xs) ∧ RepL A (z'.hide p) H' xs acc ∧
    PostE A (W σ) z1 H1 ((compM put ft fe (wipeD env vs) sr.2 n i acc m').bindS mk) Q,
    ⟨sr.1, z1, [], [], m1, step_from hp Step.refl, mok_hide hm1 hp, hw, upd_same, .nil, h1⟩, ?_⟩
  rintro i n H' ⟨z', xs, acc, m', s', hm', hs', hp', hr', h'⟩
  cases n with
  | zero => exact h'.elim
  | succ n =>
    obtain ⟨hstop, hy⟩ := hJ (z'.hide p) H' m' (stepH_hide hp s') hm' i
    unfold compM at h'
    cases e : sr.2 m' i with
    | none => rw [e] at h'; exact h'.elim
    | some o =>
      cases o with
      | none =>
        rw [e] at h'
        exact .inl ⟨hstop e, hmk z' H' m' p acc xs z1 H1 (W σ) Q hp s' hm' hp' hr' (hm1.fresh hp) h'⟩
      | some d =>
        rw [e] at h'
        obtain ⟨hgo, hy⟩ := hy d e
        refine .inr ⟨hgo, fun H2 => ∃ z' xs acc m', Step z1 H1 z' H2 ∧ MOk A (z'.hide p) H2 m' ∧ Sl A (z'.hide p) H2 (L2.wipe σ vs) (wipeD env vs) ∧ H2 p = some (.lst xs) ∧ RepL A (z'.hide p) H2 xs acc ∧
          PostE A (W σ) z1 H1 ((compM put ft fe (wipeD env vs) sr.2 n (i + 1) acc m').bindS mk) Q, fun H2 q => ⟨n, Nat.lt_succ_self n, q⟩, fun x H2 y => ?_⟩
        obtain ⟨s2, hm2, rd⟩ := hy x H2 y
        have h2 : PostE A (W σ) z1 H1 ((putR (put d (wipeD env vs) m') fun env1 => (ft env1 m').bindS fun b m => if b = true then ((fe env1 m).bindS fun e m => if acc.length < sizeLine then compM put ft fe (wipeD env vs) sr.2 n (i + 1) (acc ++ [e]) m else .no) else compM put ft fe (wipeD env vs) sr.2 n (i + 1) acc m).bindS mk) Q := h'
        cases ep : put d (wipeD env vs) m' with
        | none => rw [ep] at h2; exact h2.elim
        | some env1 =>
          rw [ep] at h2
          rw [putR_some] at h2
          have hs2 := hs'.step s2
          have p2 := s2.kp p _ hp' fun q => hm'.apart p q List.mem_cons_self
          have r2 := hr'.step s2
          refine hg (z'.hide p) H2 (L2.wipe σ vs) (wipeD env vs) m' x d env1 _ hm2 hs2 rd ep fun σ3 hs3 hl3 hk3 => ⟨wipe_same hj hl3 hk3, ?_⟩
          refine hc (z'.hide p) H2 σ3 env1 m' _ hm2 hs3 ?_
          cases ec : ft env1 m' with
          | no => rw [ec] at h2; exact h2.elim
          | ex x m => rw [ec] at h2; exact h2.elim
          | ok b m3 =>
            rw [ec, R.bindS_ok] at h2
            intro z3 b' H3 s3 hm3 eb
            subst eb
            have p3 := s3.kp p _ p2 fun q => hm2.apart p q List.mem_cons_self
            have r3 := r2.step s3
            obtain ⟨z4, rfl, s34⟩ := (s2.trans s3).unhide
            cases b' with
            | false => exact ⟨z4, xs, acc, m3, s'.trans s34, hm3, hs2.step s3, p3, r3, h2⟩
            | true =>
              show te σ3 H3 fun y H4 => _
              refine he (z4.hide p) H3 σ3 env1 m3 _ hm3 (hs3.step s3) ?_
              rw [if_pos rfl] at h2
              cases ee : fe env1 m3 with
              | no => rw [ee] at h2; exact h2.elim
              | ex x m => rw [ee] at h2; exact h2.elim
              | ok e4 m4 =>
                rw [ee, R.bindS_ok] at h2
                intro z5 y H4 s5 hm5 ry
                have p5 := s5.kp p _ p3 fun q => hm3.apart p q List.mem_cons_self
                have r5 := r3.step s5
                obtain ⟨z6, rfl, s56⟩ := s5.unhide
                by_cases hl : acc.length < sizeLine
                · rw [if_pos hl] at h2
                  exact ⟨xs, p5, by rw [r5.length]; exact hl, z6, xs ++ [y], acc ++ [e4], m4, step_from hp ((s'.trans s34).trans s56), mok_grow hm5, sl_grow ((hs2.step s3).step s5), upd_same, (r5.snoc ry).map k_grow fun _ _ h => h, h2⟩
                · rw [if_neg hl] at h2; exact h2.elim
/-- nothing leaves a comprehension -/
abbrev WF : L2.St → XK := fun _ _ _ _ => False
theorem den_compM {js vs : List Nat} {wi : TI} {g : TG} {put : D → Env → M → Option Env} {fi : Env → M → R (Nat × Src)} (hj : ∀ i ∈ js, i ∈ vs) (hi : DenIM A W wi fi) (hg : DenG A js g put) (hc : DenT A WF tt ft) (he : Den A WF te fe) : Den A W (tLc wi g tt te vs) (eCompM okL vs fi put ft fe) :=
  den_compGM hj (fun z H m p ds xs z0 H0 W Q hp s hm e r hn h => h z _ H s hm.unhide (.lst e ⟨fun q => hm.apart p q List.mem_cons_self, by rw [s.hs]; exact hn.2⟩ (r.map k_unhide fun _ _ h => h))) hi hg hc he
theorem den_compX {js vs : List Nat} {wi : TI} {g : TG} {put : D → Env → M → Option Env} {fi : Env → M → R (List D)} (hj : ∀ i ∈ js, i ∈ vs) (hi : DenI A W wi fi) (hg : DenG A js g put) (hc : DenT A WF tt ft) (he : Den A WF te fe) : Den A W (tLc wi g tt te vs) (eComp okL vs fi put ft fe) :=
  den_compG hj (fun z H m p ds xs z0 H0 W Q hp s hm e r hn h => h z _ H s hm.unhide (.lst e ⟨fun q => hm.apart p q List.mem_cons_self, by rw [s.hs]; exact hn.2⟩ (r.map k_unhide fun _ _ h => h))) hi hg hc he
/-- a def that may let errors out, called where nothing leaves: by a wish that allows none -/
theorem passF {X : Cx} {P : Program} {w : World} {σ : L2.St} : PassesAt (L2.CX P w) X σ (WF σ) := fun _ _ _ _ _ _ h => by
  obtain ⟨_, _, _, _, _, _, _, _, _, _, _, _, h⟩ := h
  exact h.elim
end
end DL

/-! DL: calls with values by place and by name -/
namespace DL
open PySem PySem.Spec L2
def tCallNS (n k : Nat) (sp : Sp) (gV : List V → List V → List V) (E : L2.St → XK) (t tk : TA) : TE := fun σ H Q => t σ H fun vs G => tk σ G fun zs J => vs.length = n ∧ zs.length = k ∧ sp (gV vs zs) J Q (E σ)
section
variable {X : Cx} {CX : CXT} {k n : Nat} {f : Addr} {fd : FuncData} {ps ks : List Str} {sp : Sp} {E : L2.St → XK} {x : Str} {p pos : Pos} {e : Expr} {es : List Expr} {kws : List Keyword} {t tk : TA} {g : List Value → List Value → List Value} {gV : List V → List V → List V}
theorem pe_callNS (F : FnOk X.prog X.w X.K X.mg X.base CX k f fd ps sp) (hr : Room k X.A) (hg : Gl X x) (hm : X.mg x = some (.ref f)) (hk : PySem.W.keepIn X.K (.ref f) = true) (hb : KBn X.K fd ps n ks g gV) (hx : ∀ σ, PassesAt CX X σ (E σ)) (ha : PA X (e :: es) t) (hkw : PK X kws tk)
    (hall : (backToKw pos (keywordEach kws X.env)).all (·.1.isSome) = true := by rfl) (hks : (backToKw pos (keywordEach kws X.env)).filterMap (·.1) = ks := by rfl)
    (hdb : (x == ("__debug__" : Str)) = false := by decide)
    (he : starEach (e :: es) X.env = (false, eval e X.env) :: starEach es X.env := by rfl)
    (hpl : ((backTo pos (starEach (e :: es) X.env)).any (·.1) || (backToKw pos (keywordEach kws X.env)).any (·.1.isNone)) = false := by rfl) : PE X (.Call (.Name x p) (e :: es) kws pos) (tCallNS n ks.length sp gV E t tk) := by
  constructor
  intro pins s σ H Q I h
  refine wpAny_Call_Name_kw (ld_glob I hg hm ?_ hdb)
  refine PySem.W.callWith_KW (h₀ := X.base) I.ok.mod.kin hk hall (thn (ha.run pos pins s σ H _ I h) ?_) hpl he
  rintro us t1 ⟨vs, G, I1, r, q⟩
  refine thn (hkw.run pos pins t1 σ G _ I1 q) ?_
  rintro ws t2 ⟨zs, J, I2, rz, l1, l2, q⟩
  refine ⟨I2.kIn, ?_⟩
  rw [hks]
  refine wpAny_call (codeAny_mono (F.run X.A X.stack t2 J _ (g us ws) (gV vs zs) Q (E σ) hr I2.env0 (hb.to t2 us ws I2.kIn (r.length.symm.trans l1) (rz.length.symm.trans l2)) (hb.rel r rz) q) ?_)
  rintro (e1 | fl) t3 hq
  · exact hx σ pins J t2 e1 t3 I2 hq
  · cases fl with
    | ret u => exact I2.after hq
    | next => exact hq.elim
    | brk => exact hq.elim
    | cont => exact hq.elim
end
def eCallN (n k np : Nat) (gD : List D → List D → List D) (g : List D → M → R D) (fa fk : Env → M → R (List D)) : Env → M → R D := fun env m => (fa env m).bind fun ds m => (fk env m).bind fun es m => if ds.length = n ∧ es.length = k ∧ (gD ds es).length = np then g (gD ds es) m else .no
section
variable {A : Amb} {W : L2.St → XK} {ta tk : TA} {fa fk : Env → M → R (List D)} {n k np : Nat} {gV : List V → List V → List V} {gD : List D → List D → List D} {g : List D → M → R D}
theorem den_callN (hg : ∀ z H vs ds zs es, vs.length = n → zs.length = k → RepL A z H vs ds → RepL A z H zs es → RepL A z H (gV vs zs) (gD ds es)) (ha : DenA A W ta fa) (hk : DenA A W tk fk) : Den A W (tCallNS n k (spD A np g) gV W ta tk) (eCallN n k np gD g fa fk) := by
  intro z H σ env m Q hm hs h
  refine ha z H σ env m _ hm hs (post_bind h fun z1 H1 ds m1 vs s1 hm1 hv h1 => ?_)
  refine hk z1 H1 σ env m1 _ hm1 (hs.step s1) (post_bind h1 fun z2 H2 es m2 zs s2 hm2 hz h2 => ?_)
  obtain ⟨⟨c1, c2, c3⟩, h2⟩ := post_if h2
  have l1 : vs.length = n := hv.length.trans c1
  have l2 : zs.length = k := hz.length.trans c2
  have r := hg z2 H2 vs ds zs es l1 l2 (hv.step s2) hz
  exact ⟨l1, l2, r.length.trans c3, z2, m2, _, hm2, r, h2⟩
end
theorem po_cx {P : Program} {w : World} {mg : Str → Option Value} {base : Heap} {N : List Str} {q : Str} {sc : Scope} {f : Addr} {cd : Value} {Ar : Around} {outer : List PySem.Env} {s : Shared} {H : Hp} {E : XK} {K : PySem.W.Frag} :
    PassesOwn (model (cxOf (L2.CX P w) P w K mg base N q sc f cd Ar outer s H E).prog (cxOf (L2.CX P w) P w K mg base N q sc f cd Ar outer s H E).w) (cxOf (L2.CX P w) P w K mg base N q sc f cd Ar outer s H E).A (cxOf (L2.CX P w) P w K mg base N q sc f cd Ar outer s H E).env (cxOf (L2.CX P w) P w K mg base N q sc f cd Ar outer s H E).xe := passes_of rfl
end DL

/-! DL: errors beneath ValueError, by their names -/
namespace DL
open PySem PySem.Spec L2
structure ErrV (K : PySem.W.Frag) (mg : Str → Option Value) (x : Str) (C : Addr) : Prop where
  m : mg x = some (.ref C)
  k : PySem.W.keepIn K (.ref C) = true
  q : PySem.W.excIn K C [.type "ValueError", .type "Exception", .type "BaseException", .type "object"] "ValueError.__new__" = true
  sub : PySem.W.subIn K (.ref C) (.type "BaseException") = some true
  ty : PySem.W.typeIn K (.ref C) = some (.type "type")
  ex : exB K C = true
section
variable {X : Cx} {W : WX} {x : Str} {C : Addr} {e : Expr} {te : TE} {p pos pos2 : Pos}
theorem ps_raiseV (V : ErrV X.K X.mg x C) (hg : Gl X x) (hc : X.calm = true) (tk : Takes X W) (he : PE X e te) (hs : starEach [e] X.env = (false, eval e X.env) :: starEach [] X.env := by rfl) (hdb : (x == ("__debug__" : Str)) = false := by decide) :
    PS X (.Raise (some (.Call (.Name x p) [e] [] pos)) none pos2) (fun _ σ H => te σ H fun _ H1 => W (.ref C) none σ H1) := ps_raise hc tk (SkE.pmk_own1 PySem.F.excBase_ValueError V.q V.m V.k (raises_own V.sub V.ty) hg he hs hdb)
theorem names_V (V : ErrV X.K X.mg x C) (hg : Gl X x) (hdb : (x == ("__debug__" : Str)) = false := by decide) : Names X x (.ref C) := ⟨hg, hdb, .inl V.m⟩
end
end DL

/-! DL: values put in the parameters' order; a new changing list by +; classes by their names -/
namespace DL
open PySem PySem.Spec L2
def pick {α : Type} : List Nat → List α → List α
  | [], _ => []
  | i :: is, xs => (xs.drop i).take 1 ++ pick is xs
theorem vals_pick {vs : List V} {us : List Value} (r : Vals vs us) : ∀ is : List Nat, Vals (pick is vs) (pick is us)
  | [] => .nil
  | i :: is => ((r.drop i).take 1).append (vals_pick r is)
theorem repL_pick {A : Amb} {z : Z} {H : Hp} {vs : List V} {ds : List D} (r : RepL A z H vs ds) : ∀ is : List Nat, RepL A z H (pick is vs) (pick is ds)
  | [] => .nil
  | i :: is => ((r.drop i).take 1).append (repL_pick r is)
/-- how a call with n values by place and ks by name stands to the parameters; dv: what lacks -/
def KBp (K : PySem.W.Frag) (fd : FuncData) (ps : List Str) (n : Nat) (ks : List Str) (is : List Nat) (dv : List V) : Prop :=
  ∃ mv : List Value, KBn K fd ps n ks (fun us ws => pick is (us ++ (ws ++ mv))) (fun vs zs => pick is (vs ++ (zs ++ dv)))
section
variable {K : PySem.W.Frag} {x qual : Str} {params : Arguments} {body : List Stmt} {scope : Scope} {dvs : List V} {kws : List (Str × V)} {f : Addr} {fd : FuncData} {ps : List Str}
theorem kb_all (F : FunD K x qual params body scope [] kws f fd) (n : Nat) (ks : List Str) (is : List Nat)
    (h : ∀ (kV doc pm : Value) (an : Option Addr) (cdv ct : Value) (us ws : List Value), us.length = n → ws.length = ks.length → bindArgs (PySem.W.fnOf x qual params body scope .none kV doc pm an cdv ct) ⟨us, ks.zip ws⟩ = pure (ps.zip (pick is (us ++ (ws ++ []))))) : KBp K fd ps n ks is [] := by
  obtain ⟨oc, od, dV, kV, doc, pm, an, cdv, ct, osl, rfl, lk, hcd, hD, hK⟩ := F.ex
  rcases hD with ⟨_, rfl⟩ | ⟨e, _⟩
  · exact ⟨[], fun s us ws X l1 l2 => .of_eq (h kV doc pm an cdv ct us ws l1 l2), fun r1 r2 => vals_pick (r1.append (r2.append .nil)) is⟩
  · exact absurd rfl e
theorem kb_miss (F : FunD K x qual params body scope [] kws f fd) (n : Nat) (ks : List Str) (is : List Nat) (ms : List (Str × V)) (hk : kws ≠ []) (hms : ∀ q ∈ ms, q ∈ kws)
    (h : ∀ (D : Addr) (doc pm : Value) (an : Option Addr) (cdv ct : Value) (us ws mv : List Value), us.length = n → ws.length = ks.length → mv.length = ms.length →
      KwChain D ((ms.map (·.1)).zip mv) (bindArgs (PySem.W.fnOf x qual params body scope .none (.ref D) doc pm an cdv ct) ⟨us, ks.zip ws⟩) (ps.zip (pick is (us ++ (ws ++ mv))))) : KBp K fd ps n ks is (ms.map (·.2)) := by
  obtain ⟨oc, od, dV, kV, doc, pm, an, cdv, ct, osl, rfl, lk, hcd, hD, hK⟩ := F.ex
  rcases hD with ⟨_, rfl⟩ | ⟨e, _⟩
  · rcases hK with e | ⟨D, rfl, hq⟩
    · exact absurd e hk
    · obtain ⟨mv, hl, rk, hks⟩ := kwd_vals (ms := ms) fun q hm => hq q (hms q hm)
      exact ⟨mv, fun s us ws X l1 l2 => L2.BindsTo.of_looks fun M => KwChain.looks X hks (h D doc pm an cdv ct us ws mv l1 l2 hl), fun r1 r2 => vals_pick (r1.append (r2.append rk)) is⟩
  · exact absurd rfl e
end
section
variable {X : Cx} {CX : CXT} {k : Nat} {f : Addr} {fd : FuncData} {ps ks : List Str} {sp : Sp} {E : L2.St → XK} {x : Str} {p pos : Pos} {e : Expr} {es : List Expr} {kws : List Keyword} {t tk : TA} {n : Nat} {is : List Nat} {dv : List V}
theorem pe_callP (F : FnOk X.prog X.w X.K X.mg X.base CX k f fd ps sp) (hr : Room k X.A) (hg : Gl X x) (hm : X.mg x = some (.ref f)) (hk : PySem.W.keepIn X.K (.ref f) = true) (hb : KBp X.K fd ps n ks is dv) (hx : ∀ σ, PassesAt CX X σ (E σ)) (ha : PA X (e :: es) t) (hkw : PK X kws tk)
    (hall : (backToKw pos (keywordEach kws X.env)).all (·.1.isSome) = true := by rfl) (hks : (backToKw pos (keywordEach kws X.env)).filterMap (·.1) = ks := by rfl)
    (hdb : (x == ("__debug__" : Str)) = false := by decide)
    (he : starEach (e :: es) X.env = (false, eval e X.env) :: starEach es X.env := by rfl)
    (hpl : ((backTo pos (starEach (e :: es) X.env)).any (·.1) || (backToKw pos (keywordEach kws X.env)).any (·.1.isNone)) = false := by rfl) :
    PE X (.Call (.Name x p) (e :: es) kws pos) (tCallNS n ks.length sp (fun vs zs => pick is (vs ++ (zs ++ dv))) E t tk) := by
  obtain ⟨mv, hb⟩ := hb
  exact pe_callNS F hr hg hm hk hb hx ha hkw hall hks hdb he hpl
theorem pe_callP0 (F : FnOk X.prog X.w X.K X.mg X.base CX k f fd ps sp) (hr : Room k X.A) (hg : Gl X x) (hm : X.mg x = some (.ref f)) (hk : PySem.W.keepIn X.K (.ref f) = true) (hb : KBp X.K fd ps 0 ks is dv) (hx : ∀ σ, PassesAt CX X σ (E σ)) (hkw : PK X kws tk)
    (hall : (backToKw pos (keywordEach kws X.env)).all (·.1.isSome) = true := by rfl) (hks : (backToKw pos (keywordEach kws X.env)).filterMap (·.1) = ks := by rfl)
    (hdb : (x == ("__debug__" : Str)) = false := by decide)
    (hpl : ((backTo pos (starEach [] X.env)).any (·.1) || (backToKw pos (keywordEach kws X.env)).any (·.1.isNone)) = false := by rfl) :
    PE X (.Call (.Name x p) [] kws pos) (tCallNS 0 ks.length sp (fun vs zs => pick is (vs ++ (zs ++ dv))) E tNil tk) := by
  obtain ⟨mv, hb⟩ := hb
  constructor
  intro pins s σ H Q I h
  refine wpAny_Call_Name_kw (ld_glob I hg hm ?_ hdb)
  refine PySem.W.callWith_KW0 (h₀ := X.base) I.ok.mod.kin hk hall ?_ hpl
  refine thn (hkw.run pos pins s σ H _ I h) ?_
  rintro ws t2 ⟨zs, J, I2, rz, l1, l2, q⟩
  refine ⟨I2.kIn, ?_⟩
  rw [hks]
  refine wpAny_call (codeAny_mono (F.run X.A X.stack t2 J _ _ (pick is ([] ++ (zs ++ dv))) Q (E σ) hr I2.env0 (hb.to t2 [] ws I2.kIn rfl (rz.length.symm.trans l2)) (hb.rel .nil rz) q) ?_)
  rintro (e1 | fl) t3 hq
  · exact hx σ pins J t2 e1 t3 I2 hq
  · cases fl with
    | ret u => exact I2.after hq
    | next => exact hq.elim
    | brk => exact hq.elim
    | cont => exact hq.elim
end
/-- data of a call with values by place and by name -/
def eCallP (n k np : Nat) (is : List Nat) (dd : List D) (g : List D → M → R D) (fa fk : Env → M → R (List D)) : Env → M → R D := eCallN n k np (fun ds es => pick is (ds ++ (es ++ dd))) g fa fk
section
variable {A : Amb} {W : L2.St → XK} {ta tk : TA} {fa fk : Env → M → R (List D)} {n k np : Nat} {is : List Nat} {dv : List V} {dd : List D} {g : List D → M → R D}
theorem den_callP (hd : dv.map cstD = dd.map some) (ha : DenA A W ta fa) (hk : DenA A W tk fk) : Den A W (tCallNS n k (spD A np g) (fun vs zs => pick is (vs ++ (zs ++ dv))) W ta tk) (eCallP n k np is dd g fa fk) :=
  den_callN (fun z H vs ds zs es _ _ r1 r2 => repL_pick (r1.append (r2.append (repL_cst hd))) is) ha hk
/-- + that makes a changing list -/
def addC (x y : D) (m : M) : R D := match seqOf x m, seqOf y m with
  | some xs, some ys => if xs.length + ys.length ≤ sizeLine then .ok (.cell m.length) (m ++ [.lst (xs ++ ys)]) else .no
  | _, _ => .no
theorem opd_addC : OpD A rAddU addC := by
  intro z H m x y dx dy W Q hm hx hy h
  unfold addC at h
  split at h
  · rename_i xs ys e1 e2
    obtain ⟨c, h⟩ := post_if h
    obtain ⟨a, vs, rfl, h1, r1⟩ := seqOf_ok hm hx e1
    obtain ⟨b, ws, rfl, h2, r2⟩ := seqOf_ok hm hy e2
    exact .inr (.inr ⟨a, b, vs, ws, rfl, rfl, h1, h2, by rw [r1.length, r2.length]; exact c, lay_cell hm (r1.append r2) h⟩)
  · exact h.elim
end
section
variable {X : Cx} {K : PySem.W.Frag}
theorem call_isXA (hK : X.K = K) : CallR X (.builtin "isinstance") (fun xs H Q => rIsi K xs H Q ∨ rIsK K xs H Q) := by subst hK; exact call_isX
theorem mt_indexDA (hK : X.K = K) (hu : X.A.units + 65 < cLine) : MtR X "list.index" (rIndexD K) := by subst hK; exact mt_indexD hu
end
/-! ### two names at once -/
def sUnpL (i j : Nat) (fe : Env → M → R D) : Env → M → S := fun env m => (fe env m).to env fun d m => match seqOf d m with
  | some [x, y] => .nx ((env.set i (some x)).set j (some y)) m
  | _ => .no
def sUnpT (i j : Nat) (fe : Env → M → R D) : Env → M → S := fun env m => (fe env m).to env fun d m => match d with
  | .tup [x, y] => .nx ((env.set i (some x)).set j (some y)) m
  | _ => .no
section
variable {A : Amb} {W : L2.St → XK} {te : TE} {fe : Env → M → R D}
theorem dens_unpL {i j : Nat} (he : Den A W te fe) : DenS A W (tAsg te (gLst A.K 2 (gCons (gName i) (gCons (gName j) gNil)))) (sUnpL i j fe) := by
  intro z H σ env m E hm hs h
  refine he z H σ env m _ hm hs (post_to hs h fun z1 H1 d m1 v s1 hm1 hs1 hv h1 => ?_)
  split at h1
  · rename_i x y e
    obtain ⟨a, vs, rfl, hl, r⟩ := seqOf_ok hm1 hv e
    cases r with
    | cons r1 r =>
      cases r with
      | cons r2 r =>
        cases r
        exact ⟨_, _, rfl, SqL.of hl, rfl, _, _, rfl, _, _, rfl, rfl, h1 z1 _ H1 Step.refl hm1 ((hs1.set r1).set r2)⟩
  · exact h1.elim
theorem dens_unpT {i j : Nat} (he : Den A W te fe) : DenS A W (tAsg te (gTup A.K 2 (gCons (gName i) (gCons (gName j) gNil)))) (sUnpT i j fe) := by
  intro z H σ env m E hm hs h
  refine he z H σ env m _ hm hs (post_to hs h fun z1 H1 d m1 v s1 hm1 hs1 hv h1 => ?_)
  split at h1
  · rename_i x y
    cases hv with
    | tup hl r =>
      cases r with
      | cons r1 r =>
        cases r with
        | cons r2 r =>
          cases r
          exact ⟨_, _, rfl, hl.sq, rfl, _, _, rfl, _, _, rfl, rfl, h1 z1 _ H1 Step.refl hm1 ((hs1.set r1).set r2)⟩
  · exact h1.elim
end
section
variable {X : Cx} {K : PySem.W.Frag} {pos : Pos}
theorem pg_lstA {es : List Expr} {k n : Nat} {ts : TGs} (hK : X.K = K) (hc : X.calm = true) (h : PGs X es ts) (hn : (assignEach es X.env).length = n := by rfl) (hst : (assignEach es X.env).findIdx? (·.1) = none := by rfl) : PG X (.Tuple es k pos) (gLst K n ts) := by subst hK; exact pg_lst hc h hn hst
theorem pi_zipK {e e2 : Expr} {ta : TA} {p tpos : Pos} {elts : List Expr} {kk : Nat} (hK : X.K = K) (hg : Gl X "zip") (hm : X.mg "zip" = none) (ha : PA X [e, e2] ta)
    (hs : starEach [e, e2] X.env = (false, eval e X.env) :: starEach [e2] X.env := by rfl) (hpl : (backTo pos (starEach [e2] X.env)).any (·.1) = false := by rfl) :
    PI X (.Tuple elts kk tpos) (.Call (.Name "zip" p) [e, e2] [] pos) (iZip K ta) := by subst hK; exact pi_zip hg hm ha hs hpl
end
/-- a def with parameters by name alone -/
structure OwnXN (P : Program) (w : World) (A : Amb) (mg : Str → Option Value) (base : Heap) (x : Str) (ps : List Str) (lv : Nat) (g : List D → M → R D) (f : Addr) (fd : FuncData) : Prop where
  m : mg x = some (.ref f)
  k : PySem.W.keepIn A.K (.ref f) = true
  F : FnOk P w A.K mg base (L2.CX P w) lv f fd ps (spD A ps.length g)
def gPutT (i j : Nat) : D → Env → M → Option Env := fun d env m => match d with
  | .tup _ => gPut2 i j d env m
  | _ => none
theorem deng_tupT {A : Amb} {i j : Nat} : DenG A [i, j] (gTup A.K 2 (gCons (gName i) (gCons (gName j) gNil))) (gPutT i j) := deng_tup2
theorem units65 {k : Nat} {Ar : Around} (r : Room k Ar) : Ar.units + 65 < cLine := by have := r.un; omega
end DL

/-! DL: equations for errors, calls by name, zip -/
namespace DL
open PySem PySem.Spec L2
section
variable (env : Env) (m : M) (f g h : Env → M → R D) (F G : Env → M → S) (fr gr : Env → M → R (List D)) (A : Amb)
@[simp] theorem sRaise_ap (c : Value) : sRaise c f env m = (f env m).to env fun _ m => .ex ⟨c, none⟩ env m := rfl
@[simp] theorem eCallP_ap (n k np : Nat) (is : List Nat) (dd : List D) (q : List D → M → R D) : eCallP n k np is dd q fr gr env m = (fr env m).bind fun ds m => (gr env m).bind fun es m => if ds.length = n ∧ es.length = k ∧ (pick is (ds ++ (es ++ dd))).length = np then q (pick is (ds ++ (es ++ dd))) m else .no := rfl
@[simp] theorem sUnpL_ap (i j : Nat) : sUnpL i j f env m = (f env m).to env fun d m => match seqOf d m with
  | some [x, y] => .nx ((env.set i (some x)).set j (some y)) m
  | _ => .no := rfl
@[simp] theorem gPutT_ap (i j : Nat) (x y : D) : gPutT i j (.tup [x, y]) env m = some ((env.set i (some x)).set j (some y)) := rfl
@[simp] theorem eCompM_ap (mk : List D → M → R D) (vs : List Nat) (it : Env → M → R (Nat × Src)) (put : D → Env → M → Option Env) (c : Env → M → R Bool) : eCompM mk vs it put c f env m = (it env m).bind fun p m => (compM put c f (wipeD env vs) p.2 p.1 0 [] m).bindS mk := rfl
@[simp] theorem isNone_n (n : Bool) : isNoneD n .non .non m = .ok (.bl (n ^^ true)) m := by cases n <;> rfl
@[simp] theorem isNone_s (n : Bool) (x : Str) : isNoneD n (.str x) .non m = .ok (.bl (n ^^ false)) m := by cases n <;> rfl
@[simp] theorem isNone_i (n : Bool) (x : Int) : isNoneD n (.int x) .non m = .ok (.bl (n ^^ false)) m := by cases n <;> rfl
@[simp] theorem isNone_b (n : Bool) (x : Bool) : isNoneD n (.bl x) .non m = .ok (.bl (n ^^ false)) m := by cases n <;> rfl
@[simp] theorem isNone_l (n : Bool) (x : List D) : isNoneD n (.lst x) .non m = .ok (.bl (n ^^ false)) m := by cases n <;> rfl
@[simp] theorem isNone_t (n : Bool) (x : List D) : isNoneD n (.tup x) .non m = .ok (.bl (n ^^ false)) m := by cases n <;> rfl
@[simp] theorem isNone_c (n : Bool) (k : Nat) : isNoneD n (.cell k) .non m = .ok (.bl (n ^^ false)) m := by cases n <;> rfl
@[simp] theorem intD_int (i : Int) : intD [.int i] m = .ok (.int i) m := rfl
@[simp] theorem intD_bl (b : Bool) : intD [.bl b] m = .ok (.int (if b then 1 else 0)) m := rfl
@[simp] theorem retS_ex (x : X) : retS (.ex x env m) = .ex x m := rfl
/-- isinstance of a kept error -/
theorem isi_kept {K : PySem.W.Frag} {k : Nat} {D' : Addr} {fs : Option (List (Str × D))} {c : V} {u : Value} {b : Bool} (e : m[k]? = some (.exc (.ref D') fs)) (hx : exB K D' = true) (hc : clsV c = some u) (hk : PySem.W.kitOne K (.ref D') u = some b) : isiX K [.cell k, .ob c] m = .ok (.bl b) m := by
  have h1 : tyD (.cell k) m = none := by
    show (match m[k]? with | some (.lst _) => some "list" | some (.dK _) => some "dict" | _ => none) = none
    rw [e]
  have h2 : keptV (.cell k) m = some D' := by
    show (match m[k]? with | some (.exc (.ref D2) _) => some D2 | _ => none) = some D'
    rw [e]
  show (match clsV c with
    | none => R.no
    | some u => match tyD (.cell k) m with
      | some n => (match PySem.W.kitOne K (.type n) u with | some b => R.ok (D.bl b) m | none => .no)
      | none => match keptV (.cell k) m with
        | some D2 => if exB K D2 = true then (match PySem.W.kitOne K (.ref D2) u with | some b => R.ok (D.bl b) m | none => .no) else .no
        | none => .no) = _
  rw [hc]
  simp only [h1, h2]
  rw [if_pos hx, hk]
end
section
variable {m : M}
theorem get_app {k : Nat} {o : O} (e : m[k]? = some o) (l : M) : (m ++ l)[k]? = some o := by
  rw [List.getElem?_append_left (List.getElem?_eq_some_iff.mp e).1]; exact e
theorem get_end {i : Nat} {l : M} {o : O} (e : l[i]? = some o) : (m ++ l)[m.length + i]? = some o := by
  rw [List.getElem?_append_right (Nat.le_add_right _ _), Nat.add_sub_cancel_left]; exact e
theorem seq_end {i : Nat} {l : M} {xs : List D} (e : l[i]? = some (.lst xs)) : seqOf (.cell (m.length + i)) (m ++ l) = some xs := by
  show (match (m ++ l)[m.length + i]? with | some (.lst ds) => some ds | _ => none) = _
  rw [get_end e]
theorem addC_end {i : Nat} {l : M} {xs ys : List D} (e : l[i]? = some (.lst xs)) (h : xs.length + ys.length ≤ sizeLine) : addC (.cell (m.length + i)) (.lst ys) (m ++ l) = .ok (.cell (m.length + l.length)) (m ++ (l ++ [.lst (xs ++ ys)])) := by
  show (match seqOf (.cell (m.length + i)) (m ++ l), seqOf (.lst ys) (m ++ l) with
  | some xs, some ys => if xs.length + ys.length ≤ sizeLine then R.ok (D.cell (m ++ l).length) (m ++ l ++ [O.lst (xs ++ ys)]) else .no
  | _, _ => .no) = _
  rw [seq_end e, seqOf_lst]
  simp only
  rw [if_pos h, List.length_append, List.append_assoc]
theorem append_end {i : Nat} {l : M} {xs : List D} {d : D} (e : l[i]? = some (.lst xs)) (h : xs.length < sizeLine) : appendD (.cell (m.length + i)) [d] (m ++ l) = .ok .non (m ++ l.set i (.lst (xs ++ [d]))) := by
  show (match (m ++ l)[m.length + i]? with
  | some (.lst ds) => if ds.length < sizeLine then R.ok D.non ((m ++ l).set (m.length + i) (.lst (ds ++ [d]))) else .no
  | _ => .no) = _
  rw [get_end e]
  simp only
  rw [if_pos h, List.set_append_right _ _ (Nat.le_add_right _ _), Nat.add_sub_cancel_left]
theorem isLst_end {i : Nat} {l : M} {xs : List D} (e : l[i]? = some (.lst xs)) : isLst (.cell (m.length + i)) (m ++ l) = true := by
  show (seqOf (.cell (m.length + i)) (m ++ l)).isSome = true
  rw [seq_end e]
  rfl
/-- those whose truth is told -/
def kept {α : Type} : List α → List Bool → List α
  | x :: xs, true :: bs => x :: kept xs bs
  | _ :: xs, false :: bs => kept xs bs
  | _, _ => []
theorem compM_zip {put : D → Env → M → Option Env} {c : Env → M → R Bool} {el : Env → M → R D} {env : Env} {d1 d2 : D} {xs : List Str} {bs : List Bool} (h1 : seqOf d1 m = some (txs xs)) (h2 : seqOf d2 m = some (bs.map D.bl)) (hl : xs.length = bs.length) (hz : xs.length < sizeLine)
    (h : ∀ x b, ∃ env1, put (.tup [.str x, .bl b]) env m = some env1 ∧ c env1 m = .ok b m ∧ el env1 m = .ok (.str x) m) :
    ∀ (n i : Nat) (acc : List D), xs.length < n + i → i ≤ xs.length → acc.length ≤ i → compM put c el env (itZ d1 d2) n i acc m = .ok (acc ++ txs (kept (xs.drop i) (bs.drop i))) m := by
  have hit : ∀ i, itZ d1 d2 m i = some (match (txs xs)[i]?, (bs.map D.bl)[i]? with | some x, some y => some (.tup [x, y]) | _, _ => none) := fun i => by
    show (match seqOf d1 m, seqOf d2 m with | some xs, some ys => some (match xs[i]?, ys[i]? with | some x, some y => some (D.tup [x, y]) | _, _ => none) | _, _ => none) = _
    rw [h1, h2]
  intro n
  induction n with
  | zero =>
    intro i acc hn hi0 ha
    omega
  | succ n ih =>
    intro i acc hn hi0 ha
    unfold compM
    rw [hit]
    by_cases hi : i < xs.length
    · have hb : i < bs.length := by omega
      obtain ⟨env1, p1, p2, p3⟩ := h xs[i] bs[i]
      have e1 : (txs xs)[i]? = some (.str xs[i]) := by simp [txs, hi]
      have e2 : (bs.map D.bl)[i]? = some (.bl bs[i]) := by simp [hb]
      rw [e1, e2]
      simp only
      rw [p1, putR_some, p2, R.bindS_ok, List.drop_eq_getElem_cons hi, List.drop_eq_getElem_cons hb]
      cases bs[i] with
      | true =>
        simp only [kept, if_true]
        rw [p3, R.bindS_ok, if_pos (by omega), ih (i + 1) (acc ++ [D.str xs[i]]) (by omega) (by omega) (by simp; omega)]
        simp [txs]
      | false =>
        simp only [kept]
        rw [if_neg (by simp), ih (i + 1) acc (by omega) (by omega) (by omega)]
    · have e1 : (txs xs)[i]? = none := by simp [txs]; omega
      rw [e1]
      simp only
      rw [List.drop_eq_nil_of_le (by omega)]
      simp [kept, txs]
end
end DL
namespace DL
open PySem PySem.Spec L2
section
variable (m : M)
theorem seqOf_cell (k : Nat) : seqOf (.cell k) m = match m[k]? with | some (.lst ds) => some ds | _ => none := rfl
theorem isLst_cell (k : Nat) : isLst (.cell k) m = (seqOf (.cell k) m).isSome := rfl
theorem appendD_cell (k : Nat) (d : D) : appendD (.cell k) [d] m = match m[k]? with
  | some (.lst ds) => if ds.length < sizeLine then .ok .non (m.set k (.lst (ds ++ [d]))) else .no
  | _ => .no := rfl
theorem addC_cell (k : Nat) (ys : List D) : addC (.cell k) (.lst ys) m = match seqOf (.cell k) m with
  | some xs => if xs.length + ys.length ≤ sizeLine then R.ok (.cell m.length) (m ++ [.lst (xs ++ ys)]) else .no
  | none => .no := by
  show (match seqOf (.cell k) m, seqOf (.lst ys) m with
    | some xs, some ys => if xs.length + ys.length ≤ sizeLine then R.ok (D.cell m.length) (m ++ [O.lst (xs ++ ys)]) else .no
    | _, _ => .no) = _
  rw [seqOf_lst]
  cases seqOf (.cell k) m <;> rfl
theorem mulD_lst {xs : List D} {n : Nat} (h : xs.length * n ≤ sizeLine) (hn : n < 1000) : mulD (.lst xs) (.int (n : Int)) m = .ok (.lst (List.replicate n xs).flatten) m := by
  have c : -(2 ^ 63) ≤ (n : Int) ∧ (n : Int) < 2 ^ 63 ∧ xs.length * (n : Int).toNat ≤ sizeLine := by
    rw [Int.toNat_natCast]
    exact ⟨by omega, by omega, h⟩
  unfold mulD
  simp only [seqOf_lst]
  rw [if_pos c, Int.toNat_natCast]
theorem get_endS (l : M) (i : Nat) : (m ++ l)[m.length + i]? = l[i]? := by rw [List.getElem?_append_right (Nat.le_add_right _ _), Nat.add_sub_cancel_left]
theorem get_end0 (l : M) : (m ++ l)[m.length]? = l[0]? := by rw [List.getElem?_append_right (Nat.le_refl _), Nat.sub_self]
theorem set_endS (l : M) (i : Nat) (o : O) : (m ++ l).set (m.length + i) o = m ++ l.set i o := by rw [List.set_append_right _ _ (Nat.le_add_right _ _), Nat.add_sub_cancel_left]
theorem set_end0 (l : M) (o : O) : (m ++ l).set m.length o = m ++ l.set 0 o := by rw [List.set_append_right _ _ (Nat.le_refl _), Nat.sub_self]
end
end DL
namespace DL
open PySem PySem.Spec L2
/-! texts that are written -/
theorem toNat_inj' {a b : Char} (h : a.toNat = b.toNat) : a = b := by
  have : a.val = b.val := UInt32.toNat_inj.mp h
  exact Char.ext this
theorem map_toNat : ∀ {l k : List Char}, l.map Char.toNat = k.map Char.toNat → l = k
  | [], [], _ => rfl
  | [], _ :: _, h => by simp at h
  | _ :: _, [], h => by simp at h
  | a :: l, b :: k, h => by
    rw [List.map_cons, List.map_cons] at h
    injection h with h1 h2
    rw [toNat_inj' h1, map_toNat h2]
@[simp] theorem ofString_inj {a b : String} : (Str.ofString a = Str.ofString b) ↔ a = b := by
  constructor
  · intro h
    have h2 := congrArg TL.tl h
    rw [TL.tl_ofString, TL.tl_ofString] at h2
    exact String.toList_inj.mp (map_toNat h2)
  · rintro rfl
    rfl
end DL

/-! DL: own objects: made, asked, told to do -/
namespace DL
open PySem PySem.Spec L2
/-! ### readings and rules, where an error may go on -/
def tMkP (C : Addr) (n m : Nat) (sp : Sp) (gV : List V → List V → List V) (E : L2.St → XK) (t tk : TA) : TE := fun σ H Q => t σ H fun vs G => tk σ G fun zs J => vs.length = n ∧ zs.length = m ∧
  ∀ x dx, J x = none → J dx = none → dx ≠ x → sp (gV (.ref x :: vs) zs) (upd (upd J dx (.own x)) x (.ins C dx [])) (fun v L => v = .non ∧ Q (.ref x) L) (E σ)
def tMtP (C : Addr) (nm : Str) (n m : Nat) (sp : Sp) (gV : List V → List V → List V) (E : L2.St → XK) (to : TE) (t tk : TA) : TE := fun σ H Q => to σ H fun x G => ∃ a dx fs, x = .ref a ∧ G a = some (.ins C dx fs) ∧ fs.lookup nm = none ∧
  t σ G fun vs J => tk σ J fun zs L => vs.length = n ∧ zs.length = m ∧ sp (gV (.ref a :: vs) zs) L Q (E σ)
section
variable {X : Cx} {CX : CXT} {k n : Nat} {f C : Addr} {fd : FuncData} {ps ks : List Str} {sp : Sp} {E : L2.St → XK} {x nm : Str} {p apos pos : Pos} {e o : Expr} {es : List Expr} {kws : List Keyword} {t tk : TA} {to : TE} {g : List Value → List Value → List Value} {gV : List V → List V → List V}
  {pins : List (Addr × Obj)} {σ : L2.St} {H : Hp} {s : Shared} {Q : VK} {us ws : List Value} {vs zs : List V} {is : List Nat} {dv : List V}
theorem mkP_run (M : Mk X.K C f) (F : FnOk X.prog X.w X.K X.mg X.base CX k f fd ps sp) (hr : Room (k + 1) X.A) (hb : KBn X.K fd ps (n + 1) ks g gV) (hx : PassesAt CX X σ (E σ)) (I : Inv X pins σ H s) (r : Vals vs us) (rz : Vals zs ws) (l1 : vs.length = n) (l2 : zs.length = ks.length)
    (h : ∀ x dx, H x = none → H dx = none → dx ≠ x → sp (gV (.ref x :: vs) zs) (upd (upd H dx (.own x)) x (.ins C dx [])) (fun v L => v = .non ∧ Q (.ref x) L) (E σ)) :
    wpAny (model X.prog X.w) X.A (call (.ref C) us (ks.zip ws)) (EP X pins σ Q) X.xe s := by
  have fr : ∀ b, s.heap.objs.size ≤ b → H b = none := fun b hb => I.hok.fresh hb
  have q0 := h (s.heap.objs.size + 1) s.heap.objs.size (fr _ (Nat.le_succ _)) (fr _ (Nat.le_refl _)) (Nat.ne_of_lt (Nat.lt_succ_self _))
  have J := Inv.made (C := C) I
  have ra : Vals (V.ref (s.heap.objs.size + 1) :: vs) (Value.ref (s.heap.objs.size + 1) :: us) := .cons rfl r
  have c1 : (Value.ref (s.heap.objs.size + 1) :: us).length = n + 1 := by rw [← ra.length]; exact congrArg Nat.succ l1
  have c2 : ws.length = ks.length := by rw [← rz.length]; exact l2
  refine wpAny_call (make_map (f := f) I.kIn M.makes M.init (beq_iff_eq.mp M.fn) (codeAny_mono (F.run _ X.stack _ _ ⟨Value.ref (s.heap.objs.size + 1) :: us, ks.zip ws⟩ (g (Value.ref (s.heap.objs.size + 1) :: us) ws) _ _ (E σ) (hr.make C us (ks.zip ws))
    (J.env0.make C us (ks.zip ws)) (hb.to _ (Value.ref (s.heap.objs.size + 1) :: us) ws J.kIn c1 c2) (hb.rel ra rz) q0) ?_))
  rintro (er | fl) t3 q
  · exact hx pins _ _ er t3 J q
  · cases fl with
    | ret u =>
      obtain ⟨v, G, J3, rv, ev, q3⟩ := J.after q
      subst ev
      exact ⟨rv, ⟨V.ref (s.heap.objs.size + 1), G, J3, rfl, q3⟩⟩
    | next => exact q.elim
    | brk => exact q.elim
    | cont => exact q.elim
theorem fnP_run (F : FnOk X.prog X.w X.K X.mg X.base CX k f fd ps sp) (hr : Room k X.A) (hb : KBn X.K fd ps n ks g gV) (hx : PassesAt CX X σ (E σ)) (I : Inv X pins σ H s) (r : Vals vs us) (rz : Vals zs ws) (l1 : vs.length = n) (l2 : zs.length = ks.length)
    (h : sp (gV vs zs) H Q (E σ)) : wpAny (model X.prog X.w) X.A (call (.ref f) us (ks.zip ws)) (EP X pins σ Q) X.xe s := by
  have c1 : us.length = n := by rw [← r.length]; exact l1
  have c2 : ws.length = ks.length := by rw [← rz.length]; exact l2
  refine wpAny_call (codeAny_mono (F.run X.A X.stack s H ⟨us, ks.zip ws⟩ (g us ws) (gV vs zs) Q (E σ) hr I.env0 (hb.to s us ws I.kIn c1 c2) (hb.rel r rz) h) ?_)
  rintro (er | fl) t3 q
  · exact hx pins H s er t3 I q
  · cases fl with
    | ret u => exact I.after q
    | next => exact q.elim
    | brk => exact q.elim
    | cont => exact q.elim
/-- C(e, ..) -/
theorem pe_mkP (M : Mk X.K C f) (F : FnOk X.prog X.w X.K X.mg X.base CX k f fd ps sp) (hr : Room (k + 1) X.A) (hg : Gl X x) (hm : X.mg x = some (.ref C)) (hb : KBp X.K fd ps (n + 1) [] is dv) (hx : ∀ σ, PassesAt CX X σ (E σ)) (ha : PA X (e :: es) t)
    (hdb : (x == ("__debug__" : Str)) = false := by decide) (he : starEach (e :: es) X.env = (false, eval e X.env) :: starEach es X.env := by rfl) (hpl : (backTo pos (starEach es X.env)).any (·.1) = false := by rfl) :
    PE X (.Call (.Name x p) (e :: es) [] pos) (tMkP C n 0 sp (fun vs zs => pick is (vs ++ (zs ++ dv))) E t tNil) := by
  obtain ⟨mv, hb⟩ := hb
  constructor
  intro pins s σ H Q I h
  refine wpAny_Call_Name_kw (ld_glob I hg hm ?_ hdb)
  refine PySem.W.callWith_K (h₀ := X.base) I.ok.mod.kin M.kp (thn (ha.run pos pins s σ H _ I h) ?_) he hpl
  rintro us s1 ⟨vs, G, I1, r, l1, l2, q⟩
  exact ⟨I1.kIn, mkP_run (ks := []) (ws := []) (zs := []) M F hr hb (hx σ) I1 r .nil l1 l2 q⟩
/-- C() -/
theorem pe_mkP0 (M : Mk X.K C f) (F : FnOk X.prog X.w X.K X.mg X.base CX k f fd ps sp) (hr : Room (k + 1) X.A) (hg : Gl X x) (hm : X.mg x = some (.ref C)) (hb : KBp X.K fd ps 1 [] is dv) (hx : ∀ σ, PassesAt CX X σ (E σ))
    (hdb : (x == ("__debug__" : Str)) = false := by decide) : PE X (.Call (.Name x p) [] [] pos) (tMkP C 0 0 sp (fun vs zs => pick is (vs ++ (zs ++ dv))) E tNil tNil) := by
  obtain ⟨mv, hb⟩ := hb
  constructor
  rintro pins s σ H Q I ⟨l1, l2, q⟩
  refine wpAny_Call_Name_kw (ld_glob I hg hm ?_ hdb)
  exact PySem.W.callWith_K0 I.kIn M.kp (mkP_run (us := []) (ks := []) (ws := []) (vs := []) (zs := []) (n := 0) M F hr hb (hx σ) I .nil .nil l1 l2 q)
/-- C(e, .., k = v, ..) -/
theorem pe_mkPK (M : Mk X.K C f) (F : FnOk X.prog X.w X.K X.mg X.base CX k f fd ps sp) (hr : Room (k + 1) X.A) (hg : Gl X x) (hm : X.mg x = some (.ref C)) (hb : KBp X.K fd ps (n + 1) ks is dv) (hx : ∀ σ, PassesAt CX X σ (E σ)) (ha : PA X (e :: es) t) (hkw : PK X kws tk)
    (hall : (backToKw pos (keywordEach kws X.env)).all (·.1.isSome) = true := by rfl) (hks : (backToKw pos (keywordEach kws X.env)).filterMap (·.1) = ks := by rfl)
    (hdb : (x == ("__debug__" : Str)) = false := by decide) (he : starEach (e :: es) X.env = (false, eval e X.env) :: starEach es X.env := by rfl)
    (hpl : ((backTo pos (starEach (e :: es) X.env)).any (·.1) || (backToKw pos (keywordEach kws X.env)).any (·.1.isNone)) = false := by rfl) :
    PE X (.Call (.Name x p) (e :: es) kws pos) (tMkP C n ks.length sp (fun vs zs => pick is (vs ++ (zs ++ dv))) E t tk) := by
  obtain ⟨mv, hb⟩ := hb
  constructor
  intro pins s σ H Q I h
  refine wpAny_Call_Name_kw (ld_glob I hg hm ?_ hdb)
  refine PySem.W.callWith_KW (h₀ := X.base) I.ok.mod.kin M.kp hall (thn (ha.run pos pins s σ H _ I h) ?_) hpl he
  rintro us s1 ⟨vs, G, I1, r, q⟩
  refine thn (hkw.run pos pins s1 σ G _ I1 q) ?_
  rintro ws s2 ⟨zs, J, I2, rz, l1, l2, q2⟩
  refine ⟨I2.kIn, ?_⟩
  rw [hks]
  exact mkP_run M F hr hb (hx σ) I2 r rz l1 l2 q2
/-- C(k = v, ..) -/
theorem pe_mkPK0 (M : Mk X.K C f) (F : FnOk X.prog X.w X.K X.mg X.base CX k f fd ps sp) (hr : Room (k + 1) X.A) (hg : Gl X x) (hm : X.mg x = some (.ref C)) (hb : KBp X.K fd ps 1 ks is dv) (hx : ∀ σ, PassesAt CX X σ (E σ)) (hkw : PK X kws tk)
    (hall : (backToKw pos (keywordEach kws X.env)).all (·.1.isSome) = true := by rfl) (hks : (backToKw pos (keywordEach kws X.env)).filterMap (·.1) = ks := by rfl)
    (hdb : (x == ("__debug__" : Str)) = false := by decide)
    (hpl : ((backTo pos (starEach [] X.env)).any (·.1) || (backToKw pos (keywordEach kws X.env)).any (·.1.isNone)) = false := by rfl) :
    PE X (.Call (.Name x p) [] kws pos) (tMkP C 0 ks.length sp (fun vs zs => pick is (vs ++ (zs ++ dv))) E tNil tk) := by
  obtain ⟨mv, hb⟩ := hb
  constructor
  intro pins s σ H Q I h
  refine wpAny_Call_Name_kw (ld_glob I hg hm ?_ hdb)
  refine PySem.W.callWith_KW0 (h₀ := X.base) I.ok.mod.kin M.kp hall ?_ hpl
  refine thn (hkw.run pos pins s σ H _ I h) ?_
  rintro ws s2 ⟨zs, J, I2, rz, l1, l2, q2⟩
  refine ⟨I2.kIn, ?_⟩
  rw [hks]
  exact mkP_run (us := []) (vs := []) M F hr hb (hx σ) I2 .nil rz l1 l2 q2
/-- o.m(e, ..) -/
theorem pe_mtP {pl : Sem Bool} (ho : PE X o to) (c : Cls X.K C) (hm : Meth X.K C nm f) (F : FnOk X.prog X.w X.K X.mg X.base CX k f fd ps sp) (hr : Room k X.A) (hb : KBp X.K fd ps (n + 1) [] is dv) (hx : ∀ σ, PassesAt CX X σ (E σ)) (ha : PA X (e :: es) t)
    (hst : starEach (e :: es) X.env = (false, eval e X.env) :: starEach es X.env := by rfl) (hpl : (backTo pos (starEach es X.env)).any (·.1) = false := by rfl)
    (ht : eval (.Call (.Attribute o nm apos) (e :: es) [] pos) X.env = (do
      let ov ← eval o X.env
      standAt apos.atName
      let (f, first) ← holding [ov] (getMethod ov nm pl)
      callWith pos f first (backTo pos (starEach (e :: es) X.env)) (backToKw pos (keywordEach [] X.env))) := by rfl) :
    PE X (.Call (.Attribute o nm apos) (e :: es) [] pos) (tMtP C nm n 0 sp (fun vs zs => pick is (vs ++ (zs ++ dv))) E to t tNil) := by
  obtain ⟨mv, hb⟩ := hb
  constructor
  intro pins s σ H Q I h
  refine PySem.W.methodCall_KW (pl := pl) (thn (ho.run pins s σ H _ I h) ?_) ht
  rintro u s1 ⟨x, G, I1, rx, a, dx, fs, ex, ea, l, q⟩
  subst ex
  obtain rfl : u = Value.ref a := rx
  refine getmeth_ok I1 ea c hm l ?_
  refine PySem.W.callWith_K (first := [.ref a]) (h₀ := X.base) I.ok.mod.kin hm.kp (thn (ha.run pos pins s1 σ G _ I1 q) ?_) hst hpl
  rintro us s2 ⟨vs, J, I2, r, l1, l2, q2⟩
  exact ⟨I2.kIn, fnP_run (ks := []) (ws := []) (zs := []) (us := .ref a :: us) (vs := .ref a :: vs) F hr hb (hx σ) I2 (.cons rfl r) .nil (congrArg Nat.succ l1) l2 q2⟩
/-- o.m() -/
theorem pe_mtP0 {pl : Sem Bool} (ho : PE X o to) (c : Cls X.K C) (hm : Meth X.K C nm f) (F : FnOk X.prog X.w X.K X.mg X.base CX k f fd ps sp) (hr : Room k X.A) (hb : KBp X.K fd ps 1 [] is dv) (hx : ∀ σ, PassesAt CX X σ (E σ))
    (ht : eval (.Call (.Attribute o nm apos) [] [] pos) X.env = (do
      let ov ← eval o X.env
      standAt apos.atName
      let (f, first) ← holding [ov] (getMethod ov nm pl)
      callWith pos f first (backTo pos (starEach [] X.env)) (backToKw pos (keywordEach [] X.env))) := by rfl) :
    PE X (.Call (.Attribute o nm apos) [] [] pos) (tMtP C nm 0 0 sp (fun vs zs => pick is (vs ++ (zs ++ dv))) E to tNil tNil) := by
  obtain ⟨mv, hb⟩ := hb
  constructor
  intro pins s σ H Q I h
  refine PySem.W.methodCall_KW (pl := pl) (thn (ho.run pins s σ H _ I h) ?_) ht
  rintro u s1 ⟨x, G, I1, rx, a, dx, fs, ex, ea, l, l1, l2, q⟩
  subst ex
  obtain rfl : u = Value.ref a := rx
  refine getmeth_ok I1 ea c hm l ?_
  exact PySem.W.callWith_K0 (first := [.ref a]) I1.kIn hm.kp (fnP_run (ks := []) (ws := []) (zs := []) (us := [.ref a]) (vs := [.ref a]) F hr hb (hx σ) I1 (.cons rfl .nil) .nil (congrArg Nat.succ l1) l2 q)
end
section
variable {X : Cx} {CX : CXT} {k n : Nat} {f C : Addr} {fd : FuncData} {ps ks : List Str} {sp : Sp} {E : L2.St → XK} {nm : Str} {apos pos : Pos} {e o : Expr} {es : List Expr} {kws : List Keyword} {t tk : TA} {to : TE} {is : List Nat} {dv : List V}
/-- o.m(e, .., k = v, ..) -/
theorem pe_mtPK {pl : Sem Bool} (ho : PE X o to) (c : Cls X.K C) (hm : Meth X.K C nm f) (F : FnOk X.prog X.w X.K X.mg X.base CX k f fd ps sp) (hr : Room k X.A) (hb : KBp X.K fd ps (n + 1) ks is dv) (hx : ∀ σ, PassesAt CX X σ (E σ)) (ha : PA X (e :: es) t) (hkw : PK X kws tk)
    (hall : (backToKw pos (keywordEach kws X.env)).all (·.1.isSome) = true := by rfl) (hks : (backToKw pos (keywordEach kws X.env)).filterMap (·.1) = ks := by rfl)
    (hst : starEach (e :: es) X.env = (false, eval e X.env) :: starEach es X.env := by rfl) (hpl : ((backTo pos (starEach (e :: es) X.env)).any (·.1) || (backToKw pos (keywordEach kws X.env)).any (·.1.isNone)) = false := by rfl)
    (ht : eval (.Call (.Attribute o nm apos) (e :: es) kws pos) X.env = (do
      let ov ← eval o X.env
      standAt apos.atName
      let (f, first) ← holding [ov] (getMethod ov nm pl)
      callWith pos f first (backTo pos (starEach (e :: es) X.env)) (backToKw pos (keywordEach kws X.env))) := by rfl) :
    PE X (.Call (.Attribute o nm apos) (e :: es) kws pos) (tMtP C nm n ks.length sp (fun vs zs => pick is (vs ++ (zs ++ dv))) E to t tk) := by
  obtain ⟨mv, hb⟩ := hb
  constructor
  intro pins s σ H Q I h
  refine PySem.W.methodCall_KW (pl := pl) (thn (ho.run pins s σ H _ I h) ?_) ht
  rintro u s1 ⟨x, G, I1, rx, a, dx, fs, ex, ea, l, q⟩
  subst ex
  obtain rfl : u = Value.ref a := rx
  refine getmeth_ok I1 ea c hm l ?_
  refine PySem.W.callWith_KW (first := [.ref a]) (h₀ := X.base) I.ok.mod.kin hm.kp hall (thn (ha.run pos pins s1 σ G _ I1 q) ?_) hpl hst
  rintro us s2 ⟨vs, J, I2, r, q2⟩
  refine thn (hkw.run pos pins s2 σ J _ I2 q2) ?_
  rintro ws s3 ⟨zs, L, I3, rz, l1, l2, q3⟩
  refine ⟨I3.kIn, ?_⟩
  rw [hks]
  exact fnP_run (us := .ref a :: us) (vs := .ref a :: vs) F hr hb (hx σ) I3 (.cons rfl r) rz (congrArg Nat.succ l1) l2 q3
/-- o.m(k = v, ..) -/
theorem pe_mtPK0 {pl : Sem Bool} (ho : PE X o to) (c : Cls X.K C) (hm : Meth X.K C nm f) (F : FnOk X.prog X.w X.K X.mg X.base CX k f fd ps sp) (hr : Room k X.A) (hb : KBp X.K fd ps 1 ks is dv) (hx : ∀ σ, PassesAt CX X σ (E σ)) (hkw : PK X kws tk)
    (hall : (backToKw pos (keywordEach kws X.env)).all (·.1.isSome) = true := by rfl) (hks : (backToKw pos (keywordEach kws X.env)).filterMap (·.1) = ks := by rfl)
    (hpl : ((backTo pos (starEach [] X.env)).any (·.1) || (backToKw pos (keywordEach kws X.env)).any (·.1.isNone)) = false := by rfl)
    (ht : eval (.Call (.Attribute o nm apos) [] kws pos) X.env = (do
      let ov ← eval o X.env
      standAt apos.atName
      let (f, first) ← holding [ov] (getMethod ov nm pl)
      callWith pos f first (backTo pos (starEach [] X.env)) (backToKw pos (keywordEach kws X.env))) := by rfl) :
    PE X (.Call (.Attribute o nm apos) [] kws pos) (tMtP C nm 0 ks.length sp (fun vs zs => pick is (vs ++ (zs ++ dv))) E to tNil tk) := by
  obtain ⟨mv, hb⟩ := hb
  constructor
  intro pins s σ H Q I h
  refine PySem.W.methodCall_KW (pl := pl) (thn (ho.run pins s σ H _ I h) ?_) ht
  rintro u s1 ⟨x, G, I1, rx, a, dx, fs, ex, ea, l, q⟩
  subst ex
  obtain rfl : u = Value.ref a := rx
  refine getmeth_ok I1 ea c hm l ?_
  refine PySem.W.callWith_KW0 (first := [.ref a]) (h₀ := X.base) I.ok.mod.kin hm.kp hall ?_ hpl
  refine thn (hkw.run pos pins s1 σ G _ I1 q) ?_
  rintro ws s3 ⟨zs, L, I3, rz, l1, l2, q3⟩
  refine ⟨I3.kIn, ?_⟩
  rw [hks]
  exact fnP_run (us := [.ref a]) (vs := [.ref a]) F hr hb (hx σ) I3 (.cons rfl .nil) rz (congrArg Nat.succ l1) l2 q3
end
/-! ### data -/
/-- C(..): a new object, then __init__ -/
def mkObj (C : Addr) (g : List D → M → R D) (full : D → List D) (m : M) : R D := match g (full (.cell m.length)) (m ++ [.ins C []]) with
  | .ok .non m' => .ok (.cell m.length) m'
  | .ex x m' => .ex x m'
  | _ => .no
def eMkP (C : Addr) (n k np : Nat) (is : List Nat) (dd : List D) (g : List D → M → R D) (fa fk : Env → M → R (List D)) : Env → M → R D := fun env m => (fa env m).bind fun ds m => (fk env m).bind fun es m =>
  if ds.length = n ∧ es.length = k ∧ (pick is ((D.non :: ds) ++ (es ++ dd))).length = np then mkObj C g (fun o => pick is ((o :: ds) ++ (es ++ dd))) m else .no
def objOf (d : D) (m : M) : Option (Addr × List (Str × D)) := match d with
  | .cell k => (match m[k]? with
    | some (.ins C fs) => some (C, fs)
    | _ => none)
  | _ => none
def eMtP (C : Addr) (nm : Str) (n k np : Nat) (is : List Nat) (dd : List D) (g : List D → M → R D) (fo : Env → M → R D) (fa fk : Env → M → R (List D)) : Env → M → R D := fun env m => (fo env m).bind fun o m => match objOf o m with
  | some (C', fs) => if C' = C ∧ fs.lookup nm = none then (fa env m).bind fun ds m => (fk env m).bind fun es m =>
      if ds.length = n ∧ es.length = k ∧ (pick is ((o :: ds) ++ (es ++ dd))).length = np then g (pick is ((o :: ds) ++ (es ++ dd))) m else .no
    else .no
  | none => .no
section
variable {A : Amb} {W : L2.St → XK} {to te : TE} {ta tk : TA} {fo fe : Env → M → R D} {fa fk : Env → M → R (List D)} {n k np : Nat} {is : List Nat} {dv : List V} {dd : List D} {g : List D → M → R D} {C : Addr} {nm : Str}
theorem pick_len {α β : Type} {xs : List α} {ys : List β} (h : xs.length = ys.length) : ∀ is : List Nat, (pick is xs).length = (pick is ys).length
  | [] => rfl
  | i :: is => by
    show ((xs.drop i).take 1 ++ pick is xs).length = ((ys.drop i).take 1 ++ pick is ys).length
    rw [List.length_append, List.length_append, pick_len h is, List.length_take, List.length_take, List.length_drop, List.length_drop, h]
theorem den_mkP (hd : dv.map cstD = dd.map some) (ha : DenA A W ta fa) (hk : DenA A W tk fk) : Den A W (tMkP C n k (spD A np g) (fun vs zs => pick is (vs ++ (zs ++ dv))) W ta tk) (eMkP C n k np is dd g fa fk) := by
  intro z H σ env m Q hm hs h
  refine ha z H σ env m _ hm hs (post_bind h fun z1 H1 ds m1 vs s1 hm1 hv h1 => ?_)
  refine hk z1 H1 σ env m1 _ hm1 (hs.step s1) (post_bind h1 fun z2 H2 es m2 zs s2 hm2 hz h2 => ?_)
  obtain ⟨⟨c1, c2, c3⟩, h2⟩ := post_if h2
  refine ⟨hv.length.trans c1, hz.length.trans c2, fun x dx nx ndx ne => ?_⟩
  have hm3 : MOk A z2 (upd H2 dx (.own x)) m2 := hm2.lay ndx
  have st3 : Step z2 H2 z2 (upd H2 dx (.own x)) := Step.lay hm2 ndx
  have nx3 : (upd H2 dx (.own x)) x = none := by rw [upd_ne (Ne.symm ne)]; exact nx
  have st4 : Step z2 (upd H2 dx (.own x)) ⟨z2.as ++ [x], z2.hs⟩ (upd (upd H2 dx (.own x)) x (.ins C dx [])) := Step.newCell hm3 nx3
  have hm4 : MOk A ⟨z2.as ++ [x], z2.hs⟩ (upd (upd H2 dx (.own x)) x (.ins C dx [])) (m2 ++ [.ins C []]) := hm3.newCell nx3 ⟨dx, [], upd_same, .nil⟩
  have st := st3.trans st4
  have hcell : (z2.as ++ [x])[m2.length]? = some x := by
    rw [← hm2.len, List.getElem?_append_right (Nat.le_refl _)]
    simp
  have r4 : RepL A ⟨z2.as ++ [x], z2.hs⟩ (upd (upd H2 dx (.own x)) x (.ins C dx [])) ((.ref x :: vs) ++ (zs ++ dv)) ((.cell m2.length :: ds) ++ (es ++ dd)) := .cons (.cell hcell) (((hv.step s2).step st).append ((hz.step st).append (repL_cst hd)))
  refine ⟨?_, ⟨z2.as ++ [x], z2.hs⟩, m2 ++ [.ins C []], _, hm4, repL_pick r4 is, ?_⟩
  · rw [(repL_pick r4 is).length]
    exact (pick_len (by simp) is).trans c3
  · have h2 : PostE A (W σ) z2 H2 (mkObj C g (fun o => pick is ((o :: ds) ++ (es ++ dd))) m2) Q := h2
    unfold mkObj at h2
    cases e : g (pick is ((.cell m2.length :: ds) ++ (es ++ dd))) (m2 ++ [.ins C []]) with
    | no => simp only [e] at h2; exact h2.elim
    | ex x5 m5 =>
      simp only [e] at h2
      exact fun z' d H' s' hm' hx' => h2 z' d H' (st.trans s') hm' hx'
    | ok d m5 =>
      simp only [e] at h2
      cases d with
      | non =>
        intro z' v H' s' hm' hv'
        cases hv'
        exact ⟨rfl, h2 z' (.ref x) H' (st.trans s') hm' (.cell (s'.cell hcell))⟩
      | _ => exact h2.elim
theorem objOf_ok {z : Z} {H : Hp} {m : M} {v : V} {d : D} {fs : List (Str × D)} (hm : MOk A z H m) (hv : Rep A z H v d) (e : objOf d m = some (C, fs)) : ∃ a dx vs, v = .ref a ∧ H a = some (.ins C dx vs) ∧ RepF A z H vs fs := by
  unfold objOf at e
  split at e
  · rename_i k
    split at e
    · rename_i C' fs' q
      cases e
      cases hv with
      | cell hk =>
        obtain ⟨dx, vs, h1, h2⟩ := hm.at_ k _ _ hk q
        exact ⟨_, dx, vs, rfl, h1, h2⟩
    · cases e
  · cases e
theorem RepF.lookup {z : Z} {H : Hp} {nm : Str} : ∀ {vs : List (Str × V)} {fs : List (Str × D)}, RepF A z H vs fs → (fs.lookup nm = none → vs.lookup nm = none) ∧ ∀ d, fs.lookup nm = some d → ∃ v, vs.lookup nm = some v ∧ Rep A z H v d
  | _, _, .nil => ⟨fun _ => rfl, fun d h => nomatch h⟩
  | _, _, @RepF.cons _ _ _ _ q v vs d ds h r => by
    obtain ⟨a, b⟩ := RepF.lookup (nm := nm) r
    by_cases c : nm = q
    · subst c
      simp [List.lookup]
      exact h
    · have c' : (nm == q) = false := by simpa using c
      simp only [List.lookup, c']
      exact ⟨a, b⟩
theorem den_mtP (hd : dv.map cstD = dd.map some) (ho : Den A W to fo) (ha : DenA A W ta fa) (hk : DenA A W tk fk) : Den A W (tMtP C nm n k (spD A np g) (fun vs zs => pick is (vs ++ (zs ++ dv))) W to ta tk) (eMtP C nm n k np is dd g fo fa fk) := by
  intro z H σ env m Q hm hs h
  refine ho z H σ env m _ hm hs (post_bind h fun z0 H0 o m0 x s0 hm0 hx h0 => ?_)
  split at h0
  · rename_i C' fs e
    obtain ⟨⟨hC, hl⟩, hh⟩ := post_if h0
    subst hC
    obtain ⟨a, dx, vf, rfl, ha0, rf⟩ := objOf_ok hm0 hx e
    refine ⟨a, dx, vf, rfl, ha0, rf.lookup.1 hl, ?_⟩
    refine ha z0 H0 σ env m0 _ hm0 (hs.step s0) (post_bind hh fun z1 H1 ds m1 vs s1 hm1 hv h1 => ?_)
    refine hk z1 H1 σ env m1 _ hm1 ((hs.step s0).step s1) (post_bind h1 fun z2 H2 es m2 zs s2 hm2 hz h2 => ?_)
    obtain ⟨⟨c1, c2, c3⟩, h2⟩ := post_if h2
    have r2 : RepL A z2 H2 ((.ref a :: vs) ++ (zs ++ dv)) ((o :: ds) ++ (es ++ dd)) := .cons ((hx.step s1).step s2) ((hv.step s2).append (hz.append (repL_cst hd)))
    refine ⟨hv.length.trans c1, hz.length.trans c2, ?_, z2, m2, _, hm2, repL_pick r2 is, h2⟩
    rw [(repL_pick r2 is).length]
    exact c3
  · exact h0.elim
/-! ### attributes -/
/-- what a class must say for an attribute of its objects -/
theorem clsB_ok {K : PySem.W.Frag} {C : Addr} {nm : Str} (h : clsB K C nm = true) : Cls K C ∧ NoAttr K C nm := by
  unfold clsB at h
  simp only [Bool.and_eq_true, decide_eq_true_eq] at h
  obtain ⟨a, b, c, d, e⟩ := h
  exact ⟨⟨a, b, c, d⟩, e⟩
def eFld (K : PySem.W.Frag) (nm : Str) (fo : Env → M → R D) : Env → M → R D := fun env m => (fo env m).bind fun o m => match objOf o m with
  | some (C, fs) => if clsB K C nm = true then (match fs.lookup nm with | some d => .ok d m | none => .no) else .no
  | none => .no
theorem den_fld (ho : Den A W to fo) : Den A W (tFld A.K to nm) (eFld A.K nm fo) := by
  intro z H σ env m Q hm hs h
  refine ho z H σ env m _ hm hs (post_bind h fun z0 H0 o m0 x s0 hm0 hx h0 => ?_)
  split at h0
  · rename_i C' fs e
    obtain ⟨hc, h0⟩ := post_if h0
    obtain ⟨a, dx, vf, rfl, ha0, rf⟩ := objOf_ok hm0 hx e
    split at h0
    · rename_i d q
      obtain ⟨v, l, r⟩ := rf.lookup.2 d q
      exact ⟨a, C', dx, vf, v, rfl, ha0, (clsB_ok hc).1, (clsB_ok hc).2, l, h0.ok_at hm0 r⟩
    · exact h0.elim
  · exact h0.elim
def putD (nm : Str) (d : D) : List (Str × D) → List (Str × D)
  | [] => [(nm, d)]
  | (k, e) :: fs => if k = nm then (k, d) :: fs else (k, e) :: putD nm d fs
def sFldD (K : PySem.W.Frag) (nm : Str) (fo fe : Env → M → R D) : Env → M → S := fun env m => (fe env m).to env fun v m => (fo env m).to env fun o m => match o with
  | .cell k => (match m[k]? with
    | some (.ins C fs) => if clsB K C nm = true ∧ fs.length < 1000 then .nx env (m.set k (.ins C (putD nm v fs))) else .no
    | _ => .no)
  | _ => .no
theorem RepF.put {z : Z} {H : Hp} {v : V} {d : D} (h : Rep A z H v d) : ∀ {vs : List (Str × V)} {fs : List (Str × D)}, RepF A z H vs fs → RepF A z H (putF nm v vs) (putD nm d fs)
  | _, _, .nil => .cons h .nil
  | _, _, @RepF.cons _ _ _ _ q w vs e fs h1 r => by
    show RepF A z H (if q = nm then (q, v) :: vs else (q, w) :: putF nm v vs) (if q = nm then (q, d) :: fs else (q, e) :: putD nm d fs)
    by_cases c : q = nm
    · rw [if_pos c, if_pos c]; exact .cons h r
    · rw [if_neg c, if_neg c]; exact .cons h1 (RepF.put h r)
theorem RepF.length {κ : Type} {z : Z} {H : Hp} : ∀ {vs : List (κ × V)} {fs : List (κ × D)}, RepF A z H vs fs → vs.length = fs.length
  | _, _, .nil => rfl
  | _, _, .cons _ r => congrArg Nat.succ (RepF.length r)
theorem dens_fld (he : Den A W te fe) (ho : Den A W to fo) : DenS A W (sFld A.K to te nm) (sFldD A.K nm fo fe) := by
  intro z H σ env m E hm hs h
  refine he z H σ env m _ hm hs (post_to hs h fun z1 H1 d m1 v s1 hm1 hs1 hv h1 => ?_)
  refine ho z1 H1 σ env m1 _ hm1 hs1 (post_to hs1 h1 fun z2 H2 o m2 x s2 hm2 hs2 hx h2 => ?_)
  split at h2
  · rename_i k
    split at h2
    · rename_i C' fs q
      split at h2
      · rename_i c
        cases hx with
        | @cell a _ hk =>
          obtain ⟨dx, vs, e1, r1⟩ := hm2.at_ k a _ hk q
          have hv2 := hv.step s2
          refine ⟨a, C', dx, vs, rfl, e1, (clsB_ok c.1).1, (clsB_ok c.1).2, by rw [r1.length]; exact c.2, ?_⟩
          have st : Step z2 H2 z2 (upd H2 a (.ins C' dx (putF nm v vs))) := Step.put hm2 hk (nofr e1)
          exact h2 z2 σ _ st (hm2.put hk ⟨dx, _, upd_same, (r1.put hv2).step st⟩ (nofr e1)) (hs2.step st)
      · exact h2.elim
    · exact h2.elim
  · exact h2.elim
end
/-! ### a kept error's fields -/
def excOf (d : D) (m : M) : Option (Addr × List (Str × D)) := match d with
  | .cell k => (match m[k]? with
    | some (.exc (.ref C) (some fs)) => some (C, fs)
    | _ => none)
  | _ => none
def eXfK (K : PySem.W.Frag) (nm : Str) (fo : Env → M → R D) : Env → M → R D := fun env m => (fo env m).bind fun o m => match excOf o m with
  | some (C, fs) => if xfB K C = true ∧ PySem.W.findIn K (.ref C) nm = some none then (match fs.lookup nm with | some d => .ok d m | none => .no) else .no
  | none => .no
section
variable {A : Amb} {W : L2.St → XK} {to : TE} {fo : Env → M → R D} {nm : Str}
theorem den_xfK (ho : Den A W to fo) : Den A W (tXfK A.K nm to) (eXfK A.K nm fo) := by
  intro z H σ env m Q hm hs h
  refine ho z H σ env m _ hm hs (post_bind h fun z0 H0 o m0 x s0 hm0 hx h0 => ?_)
  unfold excOf at h0
  split at h0
  · rename_i C fs e
    obtain ⟨hc, hh⟩ := post_if h0
    split at e
    · rename_i k
      split at e
      · rename_i C' fs' q
        cases e
        cases hx with
        | @cell a _ hk =>
          obtain ⟨d, e1, b, vs, rfl, e2, i, r⟩ := hm0.at_ k a _ hk q
          split at hh
          · rename_i dd l
            obtain ⟨v, lv, rv⟩ := r.lookup.2 dd l
            exact ⟨a, C, b, vs, v, rfl, e1, xfB_ok hc.1, hc.2, e2, lv, hh.ok_at hm0 rv⟩
          · exact hh.elim
      · cases e
    · cases e
  · exact h0.elim
end
end DL
namespace DL
open PySem PySem.Spec L2
section
variable {X : Cx} {K : PySem.W.Frag} {e : Expr} {ta : TE} {nm : Str} {pos : Pos}
theorem pe_fldA (hK : X.K = K) (he : PE X e ta) (hb : attributeBase e nm X.env (eval e X.env) = eval e X.env := by rfl) : PE X (.Attribute e nm pos) (tFld K ta nm) := by subst hK; exact pe_fld he hb
theorem pe_xfKA (hK : X.K = K) (he : PE X e ta) (hb : attributeBase e nm X.env (eval e X.env) = eval e X.env := by rfl) : PE X (.Attribute e nm pos) (tXfK K nm ta) := by subst hK; exact pe_xfK he hb
end
/-- a method of an own class -/
structure OwnM (P : Program) (w : World) (A : Amb) (mg : Str → Option Value) (base : Heap) (C nm : Str) (ps : List Str) (lv : Nat) (g : List D → M → R D) (f : Addr) (fd : FuncData) : Prop where
  c : Cls A.K (He.ga A.K C)
  mt : Meth A.K (He.ga A.K C) nm f
  F : FnOk P w A.K mg base (L2.CX P w) lv f fd ps (spD A ps.length g)
/-- an own class that is made by its __init__ -/
structure OwnI (P : Program) (w : World) (A : Amb) (mg : Str → Option Value) (base : Heap) (C : Str) (ps : List Str) (lv : Nat) (g : List D → M → R D) (f : Addr) (fd : FuncData) : Prop where
  m : mg C = some (.ref (He.ga A.K C))
  ini : Mk A.K (He.ga A.K C) f
  F : FnOk P w A.K mg base (L2.CX P w) lv f fd ps (spD A ps.length g)
section
variable {A : Amb} {P : Program} {w : World} {mg : Str → Option Value} {base : Heap}
theorem fn_denM {x qual : Str} {st : Stmt} {f : Addr} {fd : FuncData} {N ps : List Str} {k : Nat} {F : Env → M → S} {dvs : List V} {kws : List (Str × V)} (Fu : FunD A.K x qual (defArgs st) (defBody st) (defScope st) dvs kws f fd) (Sc : FnScope N ps (defScope st)) (hn : ps.length ≤ N.length)
    (hbody : ∀ (cdv : Value) (Ar : Around) (outer : List PySem.Env) (s : Shared) (H : Hp) (E : XK), Room k (Ar.deeper (PyProof.Rows.envOfC qual (defScope st) s.heap.objs.size f cdv)) →
      ∃ t, PSs (cxOf (L2.CX P w) P w A.K mg base N qual (defScope st) f cdv Ar outer s H E) (defBody st) t ∧ DenS A (WE (fun cls d _ H => E cls d H)) t F) : FnOk P w A.K mg base (L2.CX P w) (k + 1) f fd ps (spD A ps.length (bodyD N.length F)) := by
  refine Fu.ok Sc (fun vs H Q E h => h.1) fun cdv Ar outer s H vs Q E hr h => ?_
  obtain ⟨hl, z, m, ds, hm, hr', hq⟩ := h
  obtain ⟨t, ht, hd⟩ := hbody cdv Ar outer s H E hr
  exact ⟨t, ht, hd z H _ _ m _ hm (sl_start hr' (by rw [← hr'.length, hl]; exact hn)) (post_ret hq)⟩
end
end DL

/-! DL: dicts whose keys are numbers and texts -/
namespace DL
open PySem PySem.Spec L2
def keyOf : D → Option Key
  | .int i => some (.inl i)
  | .str x => some (.inr x)
  | _ => none
def kvsOf (d : D) (m : M) : Option (Nat × List (Key × D)) := match d with
  | .cell k => (match m[k]? with
    | some (.dK kvs) => some (k, kvs)
    | _ => none)
  | _ => none
def valK {κ : Type} [DecidableEq κ] (kvs : List (κ × D)) (k : κ) : Option D := (kvs.find? fun kv => decide (kv.1 = k)).map (·.2)
def putKD {κ : Type} [DecidableEq κ] (kvs : List (κ × D)) (k : κ) (v : D) : List (κ × D) :=
  if (kvs.any fun kv => decide (kv.1 = k)) = true then kvs.map (fun kv => if kv.1 = k then (kv.1, v) else kv) else kvs ++ [(k, v)]
def dropKD {κ : Type} [DecidableEq κ] (kvs : List (κ × D)) (k : κ) : List (κ × D) := kvs.filter fun kv => decide (kv.1 ≠ k)
section
variable {A : Amb} {z : Z} {H : Hp}
theorem keyOf_ok {v : V} {d : D} {k : Key} (h : Rep A z H v d) (e : keyOf d = some k) : v = kV k := by
  cases h <;> first | (cases e; rfl) | cases e
theorem kvsOf_ok {m : M} {v : V} {d : D} {k : Nat} {kvs : List (Key × D)} (hm : MOk A z H m) (hv : Rep A z H v d) (e : kvsOf d m = some (k, kvs)) : ∃ a vs, d = .cell k ∧ v = .ref a ∧ z.as[k]? = some a ∧ H a = some (.dK vs) ∧ RepF A z H vs kvs := by
  unfold kvsOf at e
  split at e
  · split at e
    · rename_i k' kvs' q
      cases e
      cases hv with
      | cell hk =>
        obtain ⟨vs, h1, h2⟩ := hm.at_ k _ _ hk q
        exact ⟨_, vs, rfl, rfl, hk, h1, h2⟩
    · cases e
  · cases e
theorem RepF.val {κ : Type} [DecidableEq κ] {k : κ} : ∀ {vs : List (κ × V)} {ds : List (κ × D)}, RepF A z H vs ds → (valK ds k = none → valV vs k = none) ∧ ∀ d, valK ds k = some d → ∃ v, valV vs k = some v ∧ Rep A z H v d
  | _, _, .nil => ⟨fun _ => rfl, fun d h => nomatch h⟩
  | _, _, @RepF.cons _ _ _ _ q v vs d ds h r => by
    obtain ⟨a, b⟩ := RepF.val (k := k) r
    by_cases c : q = k
    · subst c
      simp [valK, valV]
      exact h
    · have e1 : valK ((q, d) :: ds) k = valK ds k := by simp [valK, c]
      have e2 : valV ((q, v) :: vs) k = valV vs k := by simp [valV, c]
      rw [e1, e2]
      exact ⟨a, b⟩
theorem RepF.keys {κ : Type} : ∀ {vs : List (κ × V)} {ds : List (κ × D)}, RepF A z H vs ds → vs.map (·.1) = ds.map (·.1)
  | _, _, .nil => rfl
  | _, _, .cons _ r => by rw [List.map_cons, List.map_cons, RepF.keys r]
theorem RepF.anyK {κ : Type} [DecidableEq κ] {k : κ} : ∀ {vs : List (κ × V)} {ds : List (κ × D)}, RepF A z H vs ds → (vs.any fun kv => decide (kv.1 = k)) = ds.any fun kv => decide (kv.1 = k)
  | _, _, .nil => rfl
  | _, _, .cons _ r => by rw [List.any_cons, List.any_cons, RepF.anyK r]
theorem RepF.mapK {κ : Type} [DecidableEq κ] {k : κ} {v : V} {d : D} (h : Rep A z H v d) : ∀ {vs : List (κ × V)} {ds : List (κ × D)}, RepF A z H vs ds → RepF A z H (vs.map fun kv => if kv.1 = k then (kv.1, v) else kv) (ds.map fun kv => if kv.1 = k then (kv.1, d) else kv)
  | _, _, .nil => .nil
  | _, _, @RepF.cons _ _ _ _ q w vs e ds h1 r => by
    rw [List.map_cons, List.map_cons]
    by_cases c : q = k
    · rw [if_pos c, if_pos c]; exact .cons h (RepF.mapK h r)
    · rw [if_neg c, if_neg c]; exact .cons h1 (RepF.mapK h r)
theorem RepF.snocK {κ : Type} {q : κ} {v : V} {d : D} (h : Rep A z H v d) : ∀ {vs : List (κ × V)} {ds : List (κ × D)}, RepF A z H vs ds → RepF A z H (vs ++ [(q, v)]) (ds ++ [(q, d)])
  | _, _, .nil => .cons h .nil
  | _, _, .cons h1 r => .cons h1 (RepF.snocK h r)
theorem RepF.putK {κ : Type} [DecidableEq κ] {k : κ} {v : V} {d : D} (h : Rep A z H v d) {vs : List (κ × V)} {ds : List (κ × D)} (r : RepF A z H vs ds) : RepF A z H (L2.putK vs k v) (putKD ds k d) := by
  unfold L2.putK putKD
  rw [r.anyK]
  by_cases c : (ds.any fun kv => decide (kv.1 = k)) = true
  · rw [if_pos c, if_pos c]; exact r.mapK h
  · rw [if_neg c, if_neg c]; exact r.snocK h
theorem RepF.dropK {κ : Type} [DecidableEq κ] {k : κ} : ∀ {vs : List (κ × V)} {ds : List (κ × D)}, RepF A z H vs ds → RepF A z H (L2.dropK vs k) (dropKD ds k)
  | _, _, .nil => .nil
  | _, _, @RepF.cons _ _ _ _ q w vs e ds h1 r => by
    have ih := RepF.dropK (k := k) r
    by_cases c : q = k
    · have e1 : L2.dropK ((q, w) :: vs) k = L2.dropK vs k := by simp [L2.dropK, c]
      have e2 : dropKD ((q, e) :: ds) k = dropKD ds k := by simp [dropKD, c]
      rw [e1, e2]; exact ih
    · have e1 : L2.dropK ((q, w) :: vs) k = (q, w) :: L2.dropK vs k := by simp [L2.dropK, c]
      have e2 : dropKD ((q, e) :: ds) k = (q, e) :: dropKD ds k := by simp [dropKD, c]
      rw [e1, e2]; exact .cons h1 ih
end
section
variable {A : Amb} {W : L2.St → XK} {td ty tv tx : TE} {fd fy fv fx : Env → M → R D} {tr : TA} {fr : Env → M → R (List D)}
/-- {} -/
def eDNew : Env → M → R D := fun _ m => .ok (.cell m.length) (m ++ [.dK []])
theorem den_dnew : Den A W tDNewK eDNew := by
  intro z H σ env m Q hm hs h p hp
  refine h _ _ _ (Step.newCell hm hp) (hm.newCell hp ⟨[], upd_same, .nil⟩) (.cell ?_)
  show (z.as ++ [p])[m.length]? = some p
  rw [← hm.len]
  simp
/-- d[k] -/
def eDGet (fd fy : Env → M → R D) : Env → M → R D := fun env m => (fd env m).bind fun x m => (fy env m).bind fun y m => match kvsOf x m, keyOf y with
  | some (_, kvs), some k => (match valK kvs k with | some d => .ok d m | none => .no)
  | _, _ => .no
theorem den_dget (hd : Den A W td fd) (hy : Den A W ty fy) : Den A W (tDGet td ty) (eDGet fd fy) := by
  intro z H σ env m Q hm hs h
  refine hd z H σ env m _ hm hs (post_bind h fun z1 H1 x m1 u s1 hm1 hu h1 => ?_)
  refine hy z1 H1 σ env m1 _ hm1 (hs.step s1) (post_bind h1 fun z2 H2 y m2 w s2 hm2 hw h2 => ?_)
  split at h2
  · rename_i k' kvs k e1 e2
    split at h2
    · rename_i d e3
      obtain ⟨a, vs, _, rfl, _, ha, r⟩ := kvsOf_ok hm2 (hu.step s2) e1
      obtain ⟨v, ev, rv⟩ := r.val.2 d e3
      have := keyOf_ok hw e2
      subst this
      exact ⟨a, v, rfl, by rw [← ev]; exact DGet.k ha, h2.ok_at hm2 rv⟩
    · exact h2.elim
  · exact h2.elim
/-- k in d -/
def eDIn (neg : Bool) (fy fd : Env → M → R D) : Env → M → R D := fun env m => (fy env m).bind fun y m => (fd env m).bind fun x m => match kvsOf x m, keyOf y with
  | some (_, kvs), some k => .ok (.bl (neg ^^ (valK kvs k).isSome)) m
  | _, _ => .no
theorem val_some {κ : Type} [DecidableEq κ] {z : Z} {H : Hp} {k : κ} {vs : List (κ × V)} {ds : List (κ × D)} (r : RepF A z H vs ds) : (valV vs k).isSome = (valK ds k).isSome := by
  cases e : valK ds k with
  | none => rw [r.val.1 e]; rfl
  | some d =>
    obtain ⟨v, ev, _⟩ := r.val.2 d e
    rw [ev]
    rfl
theorem den_din (hy : Den A W ty fy) (hd : Den A W td fd) : Den A W (tDIn ty td) (eDIn false fy fd) := by
  intro z H σ env m Q hm hs h
  refine hy z H σ env m _ hm hs (post_bind h fun z1 H1 y m1 w s1 hm1 hw h1 => ?_)
  refine hd z1 H1 σ env m1 _ hm1 (hs.step s1) (post_bind h1 fun z2 H2 x m2 u s2 hm2 hu h2 => ?_)
  split at h2
  · rename_i k' kvs k e1 e2
    obtain ⟨a, vs, _, rfl, _, ha, r⟩ := kvsOf_ok hm2 hu e1
    have := keyOf_ok (hw.step s2) e2
    subst this
    refine ⟨a, valV vs k, rfl, DGet.k ha, ?_⟩
    rw [val_some r]
    exact h2.ok_at hm2 (by rw [Bool.false_xor]; exact .bl _)
  · exact h2.elim
theorem den_dnotin (hy : Den A W ty fy) (hd : Den A W td fd) : Den A W (tDNotIn ty td) (eDIn true fy fd) := by
  intro z H σ env m Q hm hs h
  refine hy z H σ env m _ hm hs (post_bind h fun z1 H1 y m1 w s1 hm1 hw h1 => ?_)
  refine hd z1 H1 σ env m1 _ hm1 (hs.step s1) (post_bind h1 fun z2 H2 x m2 u s2 hm2 hu h2 => ?_)
  split at h2
  · rename_i k' kvs k e1 e2
    obtain ⟨a, vs, _, rfl, _, ha, r⟩ := kvsOf_ok hm2 hu e1
    have := keyOf_ok (hw.step s2) e2
    subst this
    refine ⟨a, valV vs k, rfl, DGet.k ha, ?_⟩
    rw [val_some r]
    exact h2.ok_at hm2 (by rw [Bool.true_xor]; exact .bl _)
  · exact h2.elim
/-- d[k] = v -/
def sDPutD (fd fy fv : Env → M → R D) : Env → M → S := fun env m => (fv env m).to env fun v m => (fd env m).to env fun x m => (fy env m).to env fun y m => match kvsOf x m, keyOf y with
  | some (j, kvs), some k => if kvs.length < sizeLine then .nx env (m.set j (.dK (putKD kvs k v))) else .no
  | _, _ => .no
theorem dens_dput (hd : Den A W td fd) (hy : Den A W ty fy) (hv : Den A W tv fv) : DenS A W (sDPut td ty tv) (sDPutD fd fy fv) := by
  intro z H σ env m E hm hs h
  refine hv z H σ env m _ hm hs (post_to hs h fun z1 H1 v m1 v' s1 hm1 hs1 rv h1 => ?_)
  refine hd z1 H1 σ env m1 _ hm1 hs1 (post_to hs1 h1 fun z2 H2 x m2 u s2 hm2 hs2 ru h2 => ?_)
  refine hy z2 H2 σ env m2 _ hm2 hs2 (post_to hs2 h2 fun z3 H3 y m3 w s3 hm3 hs3 rw' h3 => ?_)
  split at h3
  · rename_i j kvs k e1 e2
    split at h3
    · rename_i c
      obtain ⟨a, vs, _, rfl, hj, ha, r⟩ := kvsOf_ok hm3 (ru.step s3) e1
      have := keyOf_ok rw' e2
      subst this
      have rv3 := (rv.step s2).step s3
      have st : Step z3 H3 z3 (upd H3 a (.dK (L2.putK vs k v'))) := Step.put hm3 hj (nofr ha)
      exact ⟨a, _, rfl, DPut.k ha (by rw [r.length]; exact c), h3 z3 σ _ st (hm3.put hj ⟨_, upd_same, (r.putK rv3).step st⟩ (nofr ha)) (hs3.step st)⟩
    · exact h3.elim
  · exact h3.elim
/-- del d[k] -/
def sDDelD (fd fy : Env → M → R D) : Env → M → S := fun env m => (fd env m).to env fun x m => (fy env m).to env fun y m => match kvsOf x m, keyOf y with
  | some (j, kvs), some k => if (valK kvs k).isSome = true then .nx env (m.set j (.dK (dropKD kvs k))) else .no
  | _, _ => .no
theorem dens_ddel (hd : Den A W td fd) (hy : Den A W ty fy) : DenS A W (sDDel td ty) (sDDelD fd fy) := by
  intro z H σ env m E hm hs h
  refine hd z H σ env m _ hm hs (post_to hs h fun z2 H2 x m2 u s2 hm2 hs2 ru h2 => ?_)
  refine hy z2 H2 σ env m2 _ hm2 hs2 (post_to hs2 h2 fun z3 H3 y m3 w s3 hm3 hs3 rw' h3 => ?_)
  split at h3
  · rename_i j kvs k e1 e2
    split at h3
    · rename_i c
      obtain ⟨a, vs, _, rfl, hj, ha, r⟩ := kvsOf_ok hm3 (ru.step s3) e1
      have := keyOf_ok rw' e2
      subst this
      have st : Step z3 H3 z3 (upd H3 a (.dK (L2.dropK vs k))) := Step.put hm3 hj (nofr ha)
      exact ⟨a, vs, k, rfl, ha, rfl, by rw [val_some r]; exact c, h3 z3 σ _ st (hm3.put hj ⟨_, upd_same, r.dropK.step st⟩ (nofr ha)) (hs3.step st)⟩
    · exact h3.elim
  · exact h3.elim
/-- d.get(k), d.get(k, x) -/
def eDGet1 (fd fy : Env → M → R D) : Env → M → R D := fun env m => (fd env m).bind fun x m => match kvsOf x m with
  | some _ => (fy env m).bind fun y m => (match kvsOf x m, keyOf y with
    | some (_, kvs), some k => .ok ((valK kvs k).getD .non) m
    | _, _ => .no)
  | none => .no
theorem den_dget1 (hd : Den A W td fd) (hy : Den A W ty fy) : Den A W (tDGet1 td ty) (eDGet1 fd fy) := by
  intro z H σ env m Q hm hs h
  refine hd z H σ env m _ hm hs (post_bind h fun z1 H1 x m1 u s1 hm1 hu h1 => ?_)
  split at h1
  · rename_i p e0
    obtain ⟨a0, vs0, _, rfl, _, ha0, _⟩ := kvsOf_ok (k := p.1) (kvs := p.2) hm1 hu e0
    refine ⟨a0, rfl, .inl ⟨_, .inl ha0⟩, ?_⟩
    refine hy z1 H1 σ env m1 _ hm1 (hs.step s1) (post_bind h1 fun z2 H2 y m2 w s2 hm2 hw h2 => ?_)
    split at h2
    · rename_i k' kvs k e1 e2
      obtain ⟨a, vs, _, ea, _, ha, r⟩ := kvsOf_ok hm2 (hu.step s2) e1
      cases ea
      have := keyOf_ok hw e2
      subst this
      refine ⟨valV vs k, DGet.k ha, ?_⟩
      cases e3 : valK kvs k with
      | none =>
        rw [e3] at h2
        rw [r.val.1 e3]
        exact h2.ok_at hm2 .non
      | some d =>
        rw [e3] at h2
        obtain ⟨v, ev, rv⟩ := r.val.2 d e3
        rw [ev]
        exact h2.ok_at hm2 rv
    · exact h2.elim
  · exact h1.elim
end
end DL

/-! DL: sorted texts; len, sorted, clear of a dict; list(..), tuple(..) -/
namespace DL
open PySem PySem.Spec L2 PyProof.Rows
/-- of two texts the one is not behind the other -/
def leS (a b : Str) : Bool := !ltCps b.cps.toList a.cps.toList
theorem leS_iff {a b : Str} : leS a b = true ↔ a.cps.toList ≤ b.cps.toList := by
  unfold leS
  rw [ltCps_eq]
  by_cases h : b.cps.toList < a.cps.toList
  · rw [decide_eq_true h]
    exact ⟨(fun e => by cases e), fun e => absurd h (List.not_lt.mpr e)⟩
  · rw [decide_eq_false h]
    exact ⟨fun _ => List.not_lt.mp h, fun _ => rfl⟩
theorem leS_trans (a b c : Str) : leS a b = true → leS b c = true → leS a c = true := fun h1 h2 => leS_iff.mpr (List.le_trans (leS_iff.mp h1) (leS_iff.mp h2))
theorem leS_total (a b : Str) : (leS a b || leS b a) = true := by
  rcases List.le_total a.cps.toList b.cps.toList with h | h
  · rw [leS_iff.mpr h]; rfl
  · rw [leS_iff.mpr h, Bool.or_true]
theorem leS_antisymm {a b : Str} (h1 : leS a b = true) (h2 : leS b a = true) : a = b := TL.ext_tl (List.le_antisymm (leS_iff.mp h1) (leS_iff.mp h2))
def sortT (ks : List Str) : List Str := ks.mergeSort leS
theorem rising_pairwise : ∀ {l : List Str} {p : Str}, risingS p l = true → (p :: l).Pairwise fun a b => leS a b = true
  | [], p, _ => by simp
  | x :: r, p, h => by
    have h : (leS p x && risingS x r) = true := h
    obtain ⟨h1, h2⟩ := Bool.and_eq_true_iff.mp h
    have ih := rising_pairwise h2
    refine List.pairwise_cons.mpr ⟨fun y hy => ?_, ih⟩
    rcases List.mem_cons.mp hy with rfl | hy
    · exact h1
    · exact leS_trans _ _ _ h1 ((List.pairwise_cons.mp ih).1 y hy)
theorem sorted_pairwise {l : List Str} (h : sortedS l = true) : l.Pairwise fun a b => leS a b = true := by
  cases l with
  | nil => simp
  | cons x r => exact rising_pairwise h
theorem sortT_eq {ys ks : List Str} (p : ys.Perm ks) (h : sortedS ys = true) : ys = sortT ks :=
  List.Perm.eq_of_pairwise (le := fun a b => leS a b = true) (fun a b _ _ h1 h2 => leS_antisymm h1 h2) (sorted_pairwise h) (List.pairwise_mergeSort leS_trans leS_total ks) (p.trans (List.mergeSort_perm ks leS).symm)
theorem sortT_perm (ks : List Str) : (sortT ks).Perm ks := List.mergeSort_perm ks leS
theorem sortT_len (ks : List Str) : (sortT ks).length = ks.length := (sortT_perm ks).length_eq
/-- the keys, all of them texts -/
def strKeys : List (Key × D) → Option (List Str)
  | [] => some []
  | (.inr x, _) :: r => (strKeys r).map (x :: ·)
  | (.inl _, _) :: _ => none
theorem strKeys_ok : ∀ {kvs : List (Key × D)} {ks : List Str}, strKeys kvs = some ks → kvs.map (·.1) = ks.map Sum.inr
  | [], ks, h => by cases h; rfl
  | (.inr x, d) :: r, ks, h => by
    obtain ⟨k2, e1, rfl⟩ := Option.map_eq_some_iff.mp (show (strKeys r).map (x :: ·) = some ks from h)
    rw [List.map_cons, List.map_cons, strKeys_ok e1]
  | (.inl i, d) :: r, ks, h => nomatch h
/-- sorted(d) -/
def sortedD : List D → M → R D
  | [d], m => match kvsOf d m with
    | some (_, kvs) => (match strKeys kvs with
      | some ks => if ks.length < 64 then .ok (.lst (txs (sortT ks))) m else .no
      | none => .no)
    | none => .no
  | _, _ => .no
/-- len(d) -/
def lenKD : List D → M → R D
  | [d], m => match kvsOf d m with
    | some (_, kvs) => .ok (.int kvs.length) m
    | none => .no
  | _, _ => .no
def clearD : D → List D → M → R D
  | d, [], m => match kvsOf d m with
    | some (k, _) => .ok .non (m.set k (.dK []))
    | none => .no
  | _, _, _ => .no
def isDct (d : D) (m : M) : Bool := (kvsOf d m).isSome
def tupleD : List D → M → R D
  | [d], m => match d with
    | .tup ds => .ok (.tup ds) m
    | d => match seqOf d m with
      | some ds => .ok (.tup ds) m
      | none => .no
  | _, _ => .no
def listD : List D → M → R D
  | [d], m => match d with
    | .tup ds => .ok (.lst ds) m
    | d => match seqOf d m with
      | some ds => .ok (.lst ds) m
      | none => .no
  | _, _ => .no
def listC : List D → M → R D
  | [d], m => match d with
    | .tup ds => .ok (.cell m.length) (m ++ [.lst ds])
    | d => match seqOf d m with
      | some ds => .ok (.cell m.length) (m ++ [.lst ds])
      | none => .no
  | _, _ => .no
section
variable {A : Amb}
def rSortedU : List V → Hp → VK → Prop := fun xs H Q => ∃ (a : Addr) (kvs : List (Key × V)) (ks : List Str), xs = [.ref a] ∧ Rd H a (.dK kvs) ∧ kvs.map (·.1) = ks.map Sum.inr ∧ ks.length < 64 ∧
    ∀ ys p, ys.Perm ks → sortedS ys = true → H p = none → Q (.ref p) (upd H p (.lst (ys.map V.str)))
theorem call_sortedU {X : Cx} (hc : X.calm = true) : CallR X (.builtin "sorted") rSortedU := call_sortedD hc
theorem calld_sorted : CallD A rSortedU sortedD := by
  intro z H m xs ds W Q hm hx h
  unfold sortedD at h
  split at h
  · cases hx with
    | cons h1 h2 =>
      cases h2
      split at h
      · rename_i k kvs e
        obtain ⟨a, vs, _, rfl, _, ha, r⟩ := kvsOf_ok hm h1 e
        split at h
        · rename_i ks e2
          obtain ⟨c, h⟩ := post_if h
          refine ⟨a, vs, ks, rfl, .inl ha, by rw [r.keys]; exact strKeys_ok e2, c, fun ys p hp hs np => ?_⟩
          have := sortT_eq hp hs
          subst this
          exact lay_lst hm (repL_txs _) h p np
        · exact h.elim
      · exact h.elim
  · exact h.elim
def rLenK : List V → Hp → VK → Prop := fun xs H Q => ∃ a kvs, xs = [V.ref a] ∧ H a = some (.dK kvs) ∧ Q (.int kvs.length) H
theorem call_lenK {X : Cx} : CallR X (.builtin "len") rLenK := call_lenD
theorem calld_lenK : CallD A rLenK lenKD := by
  intro z H m xs ds W Q hm hx h
  unfold lenKD at h
  split at h
  · cases hx with
    | cons h1 h2 =>
      cases h2
      split at h
      · rename_i k kvs e
        obtain ⟨a, vs, _, rfl, _, ha, r⟩ := kvsOf_ok hm h1 e
        exact ⟨a, vs, rfl, ha, by rw [r.length]; exact h.ok_at hm (.int _)⟩
      · exact h.elim
  · exact h.elim
theorem tyd_dct : TyD A "dict" isDct := by
  intro z H m x d hm hx h
  unfold isDct at h
  cases e : kvsOf d m with
  | none => rw [e] at h; cases h
  | some p =>
    obtain ⟨a, vs, _, rfl, _, ha, r⟩ := kvsOf_ok (k := p.1) (kvs := p.2) hm hx e
    exact .inr (.inr (.inl ⟨rfl, .inl ⟨vs, ha⟩⟩))
theorem mtd_clearD : MtD A rDClear clearD := by
  intro z H m x xs d ds W Q hm hx hxs h
  unfold clearD at h
  split at h
  · cases hxs
    split at h
    · rename_i k kvs e
      obtain ⟨a, vs, _, rfl, hk, ha, r⟩ := kvsOf_ok hm hx e
      have st : Step z H z (upd H a (.dK [])) := Step.put hm hk (nofr ha)
      exact ⟨a, vs, rfl, rfl, ha, h z .non _ st (hm.put hk ⟨[], upd_same, .nil⟩ (nofr ha)) .non⟩
    · exact h.elim
  · exact h.elim
def rTupU (K : PySem.W.Frag) : List V → Hp → VK → Prop := fun xs H Q => ∃ p ys, xs = [.ref p] ∧ ((SqL K H p ys ∧ ∀ l, H l = none → Q (.ref l) (upd H l (.tup ys))) ∨ (SqT K H p ys ∧ Q (.ref p) H))
theorem call_tupA {X : Cx} {K : PySem.W.Frag} (hK : X.K = K) : CallR X (.type "tuple") (rTupU K) := by subst hK; exact call_tuple_of
theorem calld_tuple : CallD A (rTupU A.K) tupleD := by
  intro z H m xs ds W Q hm hx h
  unfold tupleD at h
  split at h
  · cases hx with
    | cons h1 h2 =>
      cases h2
      split at h
      · cases h1 with
        | tup h1 r => exact ⟨_, _, rfl, .inr ⟨h1.sq, h.ok_at hm (.tup h1 r)⟩⟩
      · split at h
        · rename_i ds' e
          obtain ⟨a, vs, rfl, ha, r⟩ := seqOf_ok hm h1 e
          exact ⟨a, vs, rfl, .inl ⟨SqL.of ha, lay_tup hm r h⟩⟩
        · exact h.elim
  · exact h.elim
def rLstU (K : PySem.W.Frag) : List V → Hp → VK → Prop := fun xs H Q => ∃ p ys, xs = [.ref p] ∧ (SqL K H p ys ∨ SqT K H p ys) ∧ ∀ l, H l = none → Q (.ref l) (upd H l (.lst ys))
theorem call_lstA {X : Cx} {K : PySem.W.Frag} (hK : X.K = K) : CallR X (.type "list") (rLstU K) := by subst hK; exact call_list_of
theorem calld_list : CallD A (rLstU A.K) listD := by
  intro z H m xs ds W Q hm hx h
  unfold listD at h
  split at h
  · cases hx with
    | cons h1 h2 =>
      cases h2
      split at h
      · cases h1 with
        | tup h1 r => exact ⟨_, _, rfl, .inr h1.sq, lay_lst hm r h⟩
      · split at h
        · rename_i ds' e
          obtain ⟨a, vs, rfl, ha, r⟩ := seqOf_ok hm h1 e
          exact ⟨a, vs, rfl, .inl (SqL.of ha), lay_lst hm r h⟩
        · exact h.elim
  · exact h.elim
theorem calld_listC : CallD A (rLstU A.K) listC := by
  intro z H m xs ds W Q hm hx h
  unfold listC at h
  split at h
  · cases hx with
    | cons h1 h2 =>
      cases h2
      split at h
      · cases h1 with
        | tup h1 r => exact ⟨_, _, rfl, .inr h1.sq, lay_cell hm r h⟩
      · split at h
        · rename_i ds' e
          obtain ⟨a, vs, rfl, ha, r⟩ := seqOf_ok hm h1 e
          exact ⟨a, vs, rfl, .inl (SqL.of ha), lay_cell hm r h⟩
        · exact h.elim
  · exact h.elim
end
/-! ### what is never come to -/
theorem ps_dead {X : Cx} {st : Stmt} : PS X st (fun _ _ _ => False) := ⟨fun _ _ _ _ _ _ h => h.elim⟩
def sDead : Env → M → S := fun _ _ => .no
theorem dens_dead {A : Amb} {W : L2.St → XK} : DenS A W (fun _ _ _ => False) sDead := fun _ _ _ _ _ _ _ _ h => h.elim
/-! ### rules with room by name -/
theorem unitsD {k : Nat} {Ar : Around} (r : Room k Ar) : Ar.units + 1 < cLine := by have := r.un; omega
end DL

/-! DL: equations for objects and dicts -/
namespace DL
open PySem PySem.Spec L2
@[simp] theorem beq_str {a b : String} : ((Str.ofString a : Str) == Str.ofString b) = decide (a = b) := by
  by_cases h : a = b
  · subst h; simp
  · have : ¬ (Str.ofString a : Str) = Str.ofString b := fun e => h (ofString_inj.mp e)
    simp [h, this]
section
variable (env : Env) (m : M) (f g h fd fy fv fo : Env → M → R D) (K : PySem.W.Frag) (fa fk : Env → M → R (List D))
theorem eFld_ap (nm : Str) : eFld K nm fo env m = (fo env m).bind fun o m => match objOf o m with
  | some (C, fs) => if clsB K C nm = true then (match fs.lookup nm with | some d => .ok d m | none => .no) else .no
  | none => .no := rfl
theorem objOf_cell (k : Nat) : objOf (.cell k) m = match m[k]? with | some (.ins C fs) => some (C, fs) | _ => none := rfl
theorem kvsOf_cell (k : Nat) : kvsOf (.cell k) m = match m[k]? with | some (.dK kvs) => some (k, kvs) | _ => none := rfl
theorem sFldD_ap (nm : Str) : sFldD K nm fo fv env m = (fv env m).to env fun v m => (fo env m).to env fun o m => match o with
  | .cell k => (match m[k]? with
    | some (.ins C fs) => if clsB K C nm = true ∧ fs.length < 1000 then .nx env (m.set k (.ins C (putD nm v fs))) else .no
    | _ => .no)
  | _ => .no := rfl
theorem eDNew_ap : eDNew env m = .ok (.cell m.length) (m ++ [.dK []]) := rfl
theorem eDGet_ap : eDGet fd fy env m = (fd env m).bind fun x m => (fy env m).bind fun y m => match kvsOf x m, keyOf y with
  | some (_, kvs), some k => (match valK kvs k with | some d => .ok d m | none => .no)
  | _, _ => .no := rfl
theorem eDGet1_ap : eDGet1 fd fy env m = (fd env m).bind fun x m => match kvsOf x m with
  | some _ => (fy env m).bind fun y m => (match kvsOf x m, keyOf y with
    | some (_, kvs), some k => .ok ((valK kvs k).getD .non) m
    | _, _ => .no)
  | none => .no := rfl
theorem eDIn_ap (neg : Bool) : eDIn neg fy fd env m = (fy env m).bind fun y m => (fd env m).bind fun x m => match kvsOf x m, keyOf y with
  | some (_, kvs), some k => .ok (.bl (neg ^^ (valK kvs k).isSome)) m
  | _, _ => .no := rfl
theorem sDPutD_ap : sDPutD fd fy fv env m = (fv env m).to env fun v m => (fd env m).to env fun x m => (fy env m).to env fun y m => match kvsOf x m, keyOf y with
  | some (j, kvs), some k => if kvs.length < sizeLine then .nx env (m.set j (.dK (putKD kvs k v))) else .no
  | _, _ => .no := rfl
theorem sDDelD_ap : sDDelD fd fy env m = (fd env m).to env fun x m => (fy env m).to env fun y m => match kvsOf x m, keyOf y with
  | some (j, kvs), some k => if (valK kvs k).isSome = true then .nx env (m.set j (.dK (dropKD kvs k))) else .no
  | _, _ => .no := rfl
theorem eMkP_ap (C : Addr) (n k np : Nat) (is : List Nat) (dd : List D) (q : List D → M → R D) : eMkP C n k np is dd q fa fk env m = (fa env m).bind fun ds m => (fk env m).bind fun es m =>
  if ds.length = n ∧ es.length = k ∧ (pick is ((D.non :: ds) ++ (es ++ dd))).length = np then mkObj C q (fun o => pick is ((o :: ds) ++ (es ++ dd))) m else .no := rfl
theorem eMtP_ap (C : Addr) (nm : Str) (n k np : Nat) (is : List Nat) (dd : List D) (q : List D → M → R D) : eMtP C nm n k np is dd q fo fa fk env m = (fo env m).bind fun o m => match objOf o m with
  | some (C', fs) => if C' = C ∧ fs.lookup nm = none then (fa env m).bind fun ds m => (fk env m).bind fun es m =>
      if ds.length = n ∧ es.length = k ∧ (pick is ((o :: ds) ++ (es ++ dd))).length = np then q (pick is ((o :: ds) ++ (es ++ dd))) m else .no
    else .no
  | none => .no := rfl
@[simp] theorem keyOf_str (x : Str) : keyOf (.str x) = some (.inr x) := rfl
@[simp] theorem keyOf_int (x : Int) : keyOf (.int x) = some (.inl x) := rfl
theorem sortedD_cell (k : Nat) : sortedD [.cell k] m = match kvsOf (.cell k) m with
    | some (_, kvs) => (match strKeys kvs with
      | some ks => if ks.length < 64 then .ok (.lst (txs (sortT ks))) m else .no
      | none => .no)
    | none => .no := rfl
theorem lenKD_cell (k : Nat) : lenKD [.cell k] m = match kvsOf (.cell k) m with
    | some (_, kvs) => .ok (.int kvs.length) m
    | none => .no := rfl
theorem clearD_cell (k : Nat) : clearD (.cell k) [] m = match kvsOf (.cell k) m with
    | some (k, _) => .ok .non (m.set k (.dK []))
    | none => .no := rfl
theorem isDct_cell (k : Nat) : isDct (.cell k) m = (kvsOf (.cell k) m).isSome := rfl
@[simp] theorem tupleD_lst (ds : List D) : tupleD [.lst ds] m = .ok (.tup ds) m := rfl
@[simp] theorem tupleD_tup (ds : List D) : tupleD [.tup ds] m = .ok (.tup ds) m := rfl
@[simp] theorem listD_tup (ds : List D) : listD [.tup ds] m = .ok (.lst ds) m := rfl
@[simp] theorem listC_tup (ds : List D) : listC [.tup ds] m = .ok (.cell m.length) (m ++ [.lst ds]) := rfl
@[simp] theorem listC_lst (ds : List D) : listC [.lst ds] m = .ok (.cell m.length) (m ++ [.lst ds]) := rfl
end
/-! what stands in a dict -/
section
variable {κ : Type} [DecidableEq κ]
theorem valK_nil {k : κ} : valK ([] : List (κ × D)) k = none := rfl
theorem valK_cons (q : κ) (d : D) (kvs : List (κ × D)) (k : κ) : valK ((q, d) :: kvs) k = if q = k then some d else valK kvs k := by
  by_cases h : q = k <;> simp [valK, h]
theorem valK_app (k : κ) : ∀ (kvs : List (κ × D)) (q : κ) (d : D), valK (kvs ++ [(q, d)]) k = match valK kvs k with | some v => some v | none => if q = k then some d else none
  | [], q, d => by simp [valK_cons, valK_nil]
  | (p, e) :: kvs, q, d => by
    rw [List.cons_append, valK_cons, valK_cons]
    by_cases h : p = k
    · rw [if_pos h, if_pos h]
    · rw [if_neg h, if_neg h]; exact valK_app k kvs q d
theorem valK_any (k : κ) : ∀ kvs : List (κ × D), (kvs.any fun kv => decide (kv.1 = k)) = (valK kvs k).isSome
  | [] => rfl
  | (p, e) :: kvs => by
    rw [List.any_cons, valK_cons, valK_any k kvs]
    by_cases h : p = k <;> simp [h]
theorem valK_map (k k' : κ) (v : D) : ∀ kvs : List (κ × D), valK (kvs.map fun kv => if kv.1 = k then (kv.1, v) else kv) k' = if k = k' then (valK kvs k').map fun _ => v else valK kvs k'
  | [] => by simp [valK_nil]
  | (p, e) :: kvs => by
    rw [List.map_cons]
    by_cases h : p = k
    · rw [if_pos h, valK_cons, valK_cons, valK_map k k' v kvs]
      subst h
      by_cases h2 : p = k' <;> simp [h2]
    · rw [if_neg h, valK_cons, valK_cons, valK_map k k' v kvs]
      by_cases h2 : p = k'
      · subst h2
        have : ¬ k = p := fun e => h e.symm
        simp [this]
      · simp [h2]
theorem valK_put (kvs : List (κ × D)) (k k' : κ) (v : D) : valK (putKD kvs k v) k' = if k = k' then some v else valK kvs k' := by
  unfold putKD
  by_cases c : (kvs.any fun kv => decide (kv.1 = k)) = true
  · rw [if_pos c, valK_map]
    by_cases h : k = k'
    · subst h
      rw [valK_any] at c
      rw [if_pos rfl, if_pos rfl]
      obtain ⟨w, e⟩ := Option.isSome_iff_exists.mp c
      rw [e]
      rfl
    · rw [if_neg h, if_neg h]
  · rw [if_neg c, valK_app]
    have hn : valK kvs k = none := by
      rw [valK_any] at c
      simpa using c
    by_cases h : k = k'
    · subst h
      rw [hn, if_pos rfl]
    · rw [if_neg h, if_neg h]
      cases valK kvs k' <;> rfl
theorem valK_drop (k k' : κ) : ∀ kvs : List (κ × D), valK (dropKD kvs k) k' = if k = k' then none else valK kvs k'
  | [] => by simp [dropKD, valK_nil]
  | (p, e) :: kvs => by
    have ih := valK_drop k k' kvs
    by_cases h : p = k
    · have e1 : dropKD ((p, e) :: kvs) k = dropKD kvs k := by simp [dropKD, h]
      rw [e1, ih, valK_cons]
      subst h
      by_cases h2 : p = k' <;> simp [h2]
    · have e1 : dropKD ((p, e) :: kvs) k = (p, e) :: dropKD kvs k := by simp [dropKD, h]
      rw [e1, valK_cons, valK_cons, ih]
      by_cases h2 : p = k'
      · subst h2
        have : ¬ k = p := fun e => h e.symm
        simp [this]
      · simp [h2]
theorem put_len (kvs : List (κ × D)) (k : κ) (v : D) : (putKD kvs k v).length ≤ kvs.length + 1 := by
  unfold putKD
  by_cases c : (kvs.any fun kv => decide (kv.1 = k)) = true
  · rw [if_pos c, List.length_map]; omega
  · rw [if_neg c]; simp
theorem drop_len (kvs : List (κ × D)) (k : κ) : (dropKD kvs k).length ≤ kvs.length := List.length_filter_le _ _
theorem mem_put {kvs : List (κ × D)} {k : κ} {v : D} {p : κ × D} (h : p ∈ putKD kvs k v) : p = (k, v) ∨ p ∈ kvs := by
  unfold putKD at h
  by_cases c : (kvs.any fun kv => decide (kv.1 = k)) = true
  · rw [if_pos c] at h
    obtain ⟨q, hq, rfl⟩ := List.mem_map.mp h
    by_cases e : q.1 = k
    · rw [if_pos e, e]; exact .inl rfl
    · rw [if_neg e]; exact .inr hq
  · rw [if_neg c] at h
    rcases List.mem_append.mp h with h | h
    · exact .inr h
    · exact .inl (List.mem_singleton.mp h)
theorem mem_drop {kvs : List (κ × D)} {k : κ} {p : κ × D} (h : p ∈ dropKD kvs k) : p ∈ kvs := (List.mem_filter.mp h).1
theorem valK_mem {kvs : List (κ × D)} {k : κ} {d : D} (h : valK kvs k = some d) : (k, d) ∈ kvs := by
  unfold valK at h
  obtain ⟨p, hp, rfl⟩ := Option.map_eq_some_iff.mp h
  have h1 := List.find?_some hp
  have h2 := List.mem_of_find?_eq_some hp
  obtain ⟨a, b⟩ := p
  simp at h1
  subst h1
  exact h2
end
/-- keys that are texts -/
theorem strKeys_of : ∀ {kvs : List (Key × D)}, (∀ p ∈ kvs, ∃ x, p.1 = .inr x) → ∃ ks, strKeys kvs = some ks ∧ ks.length = kvs.length ∧ ∀ x ∈ ks, ∃ p ∈ kvs, p.1 = .inr x
  | [], _ => ⟨[], rfl, rfl, by simp⟩
  | (q, d) :: kvs, h => by
    obtain ⟨x, hx⟩ := h (q, d) List.mem_cons_self
    have hx : q = .inr x := hx
    subst hx
    obtain ⟨ks, e, l, hk⟩ := strKeys_of (kvs := kvs) fun p hp => h p (List.mem_cons_of_mem _ hp)
    refine ⟨x :: ks, ?_, by simp [l], fun y hy => ?_⟩
    · show (strKeys kvs).map (x :: ·) = _
      rw [e]
      rfl
    · rcases List.mem_cons.mp hy with rfl | hy
      · exact ⟨_, List.mem_cons_self, rfl⟩
      · obtain ⟨p, hp, ep⟩ := hk y hy
        exact ⟨p, List.mem_cons_of_mem _ hp, ep⟩
section
variable {m : M}
theorem get_set {j k : Nat} {o : O} (h : j ≠ k) : (m.set k o)[j]? = m[j]? := List.getElem?_set_ne (fun e => h e.symm)
theorem get_set_eq {k : Nat} {o u : O} (h : m[k]? = some u) : (m.set k o)[k]? = some o := List.getElem?_set_self (List.getElem?_eq_some_iff.mp h).1
theorem ne_at {j k : Nat} {a b : O} (h1 : m[j]? = some a) (h2 : m[k]? = some b) (h : a ≠ b) : j ≠ k := fun e => by subst e; rw [h1] at h2; exact h (Option.some.inj h2)
end
end DL

/-! DL: d.get(k, x), d.pop(k) -/
namespace DL
open PySem PySem.Spec L2
def eDGet2 (fd fy fx : Env → M → R D) : Env → M → R D := fun env m => (fd env m).bind fun x m => match kvsOf x m with
  | some _ => (fy env m).bind fun y m => (fx env m).bind fun e m => (match kvsOf x m, keyOf y with
    | some (_, kvs), some k => .ok ((valK kvs k).getD e) m
    | _, _ => .no)
  | none => .no
def eDPop1 (fd fy : Env → M → R D) : Env → M → R D := fun env m => (fd env m).bind fun x m => match kvsOf x m with
  | some _ => (fy env m).bind fun y m => (match kvsOf x m, keyOf y with
    | some (j, kvs), some k => (match valK kvs k with
      | some d => .ok d (m.set j (.dK (dropKD kvs k)))
      | none => .no)
    | _, _ => .no)
  | none => .no
section
variable {A : Amb} {W : L2.St → XK} {td ty tx : TE} {fd fy fx : Env → M → R D}
theorem den_dget2 (hd : Den A W td fd) (hy : Den A W ty fy) (hx : Den A W tx fx) : Den A W (tDGet2 td ty tx) (eDGet2 fd fy fx) := by
  intro z H σ env m Q hm hs h
  refine hd z H σ env m _ hm hs (post_bind h fun z1 H1 x m1 u s1 hm1 hu h1 => ?_)
  split at h1
  · rename_i p e0
    obtain ⟨a0, vs0, _, rfl, _, ha0, _⟩ := kvsOf_ok (k := p.1) (kvs := p.2) hm1 hu e0
    refine ⟨a0, rfl, .inl ⟨_, .inl ha0⟩, ?_⟩
    refine hy z1 H1 σ env m1 _ hm1 (hs.step s1) (post_bind h1 fun z2 H2 y m2 w s2 hm2 hw h2 => ?_)
    refine hx z2 H2 σ env m2 _ hm2 ((hs.step s1).step s2) (post_bind h2 fun z3 H3 e m3 g s3 hm3 hg h3 => ?_)
    split at h3
    · rename_i k' kvs k e1 e2
      obtain ⟨a, vs, _, ea, _, ha, r⟩ := kvsOf_ok hm3 ((hu.step s2).step s3) e1
      cases ea
      have := keyOf_ok (hw.step s3) e2
      subst this
      refine ⟨valV vs k, DGet.k ha, ?_⟩
      cases e3 : valK kvs k with
      | none =>
        rw [e3] at h3
        rw [r.val.1 e3]
        exact h3.ok_at hm3 hg
      | some d =>
        rw [e3] at h3
        obtain ⟨v, ev, rv⟩ := r.val.2 d e3
        rw [ev]
        exact h3.ok_at hm3 rv
    · exact h3.elim
  · exact h1.elim
theorem den_dpop1 (hd : Den A W td fd) (hy : Den A W ty fy) : Den A W (tDPop1 td ty) (eDPop1 fd fy) := by
  intro z H σ env m Q hm hs h
  refine hd z H σ env m _ hm hs (post_bind h fun z1 H1 x m1 u s1 hm1 hu h1 => ?_)
  split at h1
  · rename_i p e0
    obtain ⟨a0, vs0, _, rfl, _, ha0, _⟩ := kvsOf_ok (k := p.1) (kvs := p.2) hm1 hu e0
    refine ⟨a0, rfl, .inl ⟨_, .inl ha0⟩, ?_⟩
    refine hy z1 H1 σ env m1 _ hm1 (hs.step s1) (post_bind h1 fun z2 H2 y m2 w s2 hm2 hw h2 => ?_)
    split at h2
    · rename_i j kvs k e1 e2
      obtain ⟨a, vs, _, ea, hj, ha, r⟩ := kvsOf_ok hm2 (hu.step s2) e1
      cases ea
      have := keyOf_ok hw e2
      subst this
      split at h2
      · rename_i d e3
        obtain ⟨v, ev, rv⟩ := r.val.2 d e3
        have st : Step z2 H2 z2 (upd H2 a0 (.dK (L2.dropK vs k))) := Step.put hm2 hj (nofr ha)
        exact ⟨vs, k, v, ha, rfl, ev, h2 z2 v _ st (hm2.put hj ⟨_, upd_same, r.dropK.step st⟩ (nofr ha)) (rv.step st)⟩
      · exact h2.elim
    · exact h2.elim
  · exact h1.elim
theorem eDGet2_ap {env : Env} {m : M} : eDGet2 fd fy fx env m = (fd env m).bind fun x m => match kvsOf x m with
  | some _ => (fy env m).bind fun y m => (fx env m).bind fun e m => (match kvsOf x m, keyOf y with
    | some (_, kvs), some k => .ok ((valK kvs k).getD e) m
    | _, _ => .no)
  | none => .no := rfl
theorem eDPop1_ap {env : Env} {m : M} : eDPop1 fd fy env m = (fd env m).bind fun x m => match kvsOf x m with
  | some _ => (fy env m).bind fun y m => (match kvsOf x m, keyOf y with
    | some (j, kvs), some k => (match valK kvs k with
      | some d => .ok d (m.set j (.dK (dropKD kvs k)))
      | none => .no)
    | _, _ => .no)
  | none => .no := rfl
/-! in a tuple of ints -/
def intsOf : List D → Option (List Int)
  | [] => some []
  | .int i :: ds => (intsOf ds).map (i :: ·)
  | _ => none
theorem intsOf_ok {z : Z} {H : Hp} : ∀ {vs : List V} {ds : List D} {is : List Int}, RepL A z H vs ds → intsOf ds = some is → vs = is.map V.int
  | _, _, _, .nil, e => by cases e; rfl
  | v :: vs, d :: ds, is, .cons h r, e => by
    cases d with
    | int i =>
      obtain ⟨js, e1, rfl⟩ := Option.map_eq_some_iff.mp (show (intsOf ds).map (i :: ·) = some is from e)
      cases h
      rw [intsOf_ok r e1]
      rfl
    | _ => cases e
def inDL (neg : Bool) (x y : D) (m : M) : R D := match x, y with
  | .int i, .tup ds => (match intsOf ds with
    | some is => .ok (.bl (neg ^^ inV (.int i) (is.map V.int))) m
    | none => .no)
  | _, _ => .no
theorem flat_ints : ∀ is : List Int, (is.map V.int).all flatV = true
  | [] => rfl
  | i :: is => by rw [List.map_cons, List.all_cons, flat_ints is]; rfl
theorem opd_inL : OpD A (rIn A.K false) (inDL false) := by
  intro z H m x y dx dy W Q hm hx hy h
  unfold inDL at h
  split at h
  · rename_i i ds
    split at h
    · rename_i is e
      cases hx
      cases hy with
      | tup ht r =>
        have := intsOf_ok r e
        subst this
        rw [Bool.false_xor] at h
        exact ⟨_, _, rfl, .inr ht.sq, rfl, flat_ints is, h.ok_at hm (.bl _)⟩
    · exact h.elim
  · exact h.elim
/-- sorted(d), a list that may be changed -/
def sortedC : List D → M → R D
  | [d], m => match kvsOf d m with
    | some (_, kvs) => (match strKeys kvs with
      | some ks => if ks.length < 64 then .ok (.cell m.length) (m ++ [.lst (txs (sortT ks))]) else .no
      | none => .no)
    | none => .no
  | _, _ => .no
theorem calld_sortedC : CallD A rSortedU sortedC := by
  intro z H m xs ds W Q hm hx h
  unfold sortedC at h
  split at h
  · cases hx with
    | cons h1 h2 =>
      cases h2
      split at h
      · rename_i k kvs e
        obtain ⟨a, vs, _, rfl, _, ha, r⟩ := kvsOf_ok hm h1 e
        split at h
        · rename_i ks e2
          obtain ⟨c, h⟩ := post_if h
          refine ⟨a, vs, ks, rfl, .inl ha, by rw [r.keys]; exact strKeys_ok e2, c, fun ys p hp hs np => ?_⟩
          have := sortT_eq hp hs
          subst this
          exact lay_cell hm (repL_txs _) h p np
        · exact h.elim
      · exact h.elim
  · exact h.elim
theorem sortedC_cell {m : M} (k : Nat) : sortedC [.cell k] m = match kvsOf (.cell k) m with
    | some (_, kvs) => (match strKeys kvs with
      | some ks => if ks.length < 64 then .ok (.cell m.length) (m ++ [.lst (txs (sortT ks))]) else .no
      | none => .no)
    | none => .no := rfl
end
end DL

/-! DM: dicts whose keys are tuples; tuples that are keys -/
namespace DL
open PySem PySem.Spec L2
def keyD : Key → D
  | .inl i => .int i
  | .inr x => .str x
def keysOf : List D → Option (List Key)
  | [] => some []
  | d :: ds => match keyOf d, keysOf ds with
    | some k, some ks => some (k :: ks)
    | _, _ => none
def tkOf : D → Option (List Key)
  | .tk ks => some ks
  | _ => none
def kvtOf (d : D) (m : M) : Option (Nat × List (List Key × D)) := match d with
  | .cell k => (match m[k]? with
    | some (.dT kvs) => some (k, kvs)
    | _ => none)
  | _ => none
/-- to be read: locked or not -/
def kvtR (d : D) (m : M) : Option (List (List Key × D)) := match d with
  | .cell k => (match m[k]? with
    | some (.dT kvs) => some kvs
    | some (.frT kvs) => some kvs
    | _ => none)
  | _ => none
def kvsR (d : D) (m : M) : Option (List (Key × D)) := match d with
  | .cell k => (match m[k]? with
    | some (.dK kvs) => some kvs
    | some (.frK kvs) => some kvs
    | _ => none)
  | _ => none
section
variable {A : Amb} {z : Z} {H : Hp}
theorem keysOf_ok : ∀ {vs : List V} {ds : List D} {ks : List Key}, RepL A z H vs ds → keysOf ds = some ks → vs = ks.map kV
  | _, _, _, .nil, e => by cases e; rfl
  | _, _, _, .cons (d := d) (ds := ds) h r, e => by
    have e : (match keyOf d, keysOf ds with | some k, some ks => some (k :: ks) | _, _ => none) = some _ := e
    cases e1 : keyOf d with
    | none => rw [e1] at e; cases e
    | some k =>
      cases e2 : keysOf ds with
      | none => rw [e1, e2] at e; cases e
      | some ks =>
        rw [e1, e2] at e
        cases e
        rw [List.map_cons, keyOf_ok h e1, keysOf_ok r e2]
theorem kvtOf_ok {m : M} {v : V} {d : D} {k : Nat} {kvs : List (List Key × D)} (hm : MOk A z H m) (hv : Rep A z H v d) (e : kvtOf d m = some (k, kvs)) : ∃ a vs, d = .cell k ∧ v = .ref a ∧ z.as[k]? = some a ∧ H a = some (.dT vs) ∧ RepF A z H vs kvs := by
  unfold kvtOf at e
  split at e
  · split at e
    · rename_i k' kvs' q
      cases e
      cases hv with
      | cell hk =>
        obtain ⟨vs, h1, h2⟩ := hm.at_ k _ _ hk q
        exact ⟨_, vs, rfl, rfl, hk, h1, h2⟩
    · cases e
  · cases e
theorem kvtR_ok {m : M} {v : V} {d : D} {kvs : List (List Key × D)} (hm : MOk A z H m) (hv : Rep A z H v d) (e : kvtR d m = some kvs) : ∃ a vs, v = .ref a ∧ Rd H a (.dT vs) ∧ RepF A z H vs kvs := by
  unfold kvtR at e
  split at e
  · rename_i k
    split at e
    · rename_i q
      cases e
      cases hv with
      | cell hk =>
        obtain ⟨vs, h1, h2⟩ := hm.at_ k _ _ hk q
        exact ⟨_, vs, rfl, .inl h1, h2⟩
    · rename_i q
      cases e
      cases hv with
      | cell hk =>
        obtain ⟨od, vs, h1, h2⟩ := hm.at_ k _ _ hk q
        exact ⟨_, vs, rfl, .inr ⟨od, h1⟩, h2⟩
    · cases e
  · cases e
theorem kvsR_ok {m : M} {v : V} {d : D} {kvs : List (Key × D)} (hm : MOk A z H m) (hv : Rep A z H v d) (e : kvsR d m = some kvs) : ∃ a vs, v = .ref a ∧ Rd H a (.dK vs) ∧ RepF A z H vs kvs := by
  unfold kvsR at e
  split at e
  · rename_i k
    split at e
    · rename_i q
      cases e
      cases hv with
      | cell hk =>
        obtain ⟨vs, h1, h2⟩ := hm.at_ k _ _ hk q
        exact ⟨_, vs, rfl, .inl h1, h2⟩
    · rename_i q
      cases e
      cases hv with
      | cell hk =>
        obtain ⟨od, vs, h1, h2⟩ := hm.at_ k _ _ hk q
        exact ⟨_, vs, rfl, .inr ⟨od, h1⟩, h2⟩
    · cases e
  · cases e
theorem tk_ok {v : V} {d : D} {ks : List Key} (h : Rep A z H v d) (e : tkOf d = some ks) : ∃ b, v = .ref b ∧ H b = some (.tup (ks.map kV)) := by
  cases h <;> first | (rename_i b h1 _; cases e; exact ⟨_, rfl, by assumption⟩) | cases e
end
section
variable {A : Amb} {W : L2.St → XK} {td ty tv tx : TE} {fd fy fv fx : Env → M → R D} {tr : TA} {fr : Env → M → R (List D)}
/-- a tuple that is a key -/
def mkK (ds : List D) (m : M) : R D := if ds.length ≤ sizeLine then (match keysOf ds with | some ks => .ok (.tk ks) m | none => .no) else .no
theorem den_mkK (hr : DenA A W tr fr) : Den A W (tTup tr) (eCall mkK fr) := by
  intro z H σ env m Q hm hs h
  refine hr z H σ env m _ hm hs (post_bind h fun z1 H1 d m1 v s1 hm1 hv h1 => ?_)
  obtain ⟨hl, h1⟩ := post_if h1
  split at h1
  · rename_i ks e
    refine ⟨by rw [hv.length]; exact hl, fun p hp => ?_⟩
    have s : Step z1 H1 z1 (upd H1 p (.tup v)) := Step.lay hm1 hp
    have := keysOf_ok hv e
    subst this
    exact h1 z1 _ _ s (hm1.lay hp) (.tk upd_same (hm1.fresh hp))
  · exact h1.elim
def eTNew : Env → M → R D := fun _ m => .ok (.cell m.length) (m ++ [.dT []])
theorem den_tnew : Den A W tDNewT eTNew := by
  intro z H σ env m Q hm hs h p hp
  refine h _ _ _ (Step.newCell hm hp) (hm.newCell hp ⟨[], upd_same, .nil⟩) (.cell ?_)
  show (z.as ++ [p])[m.length]? = some p
  rw [← hm.len]
  simp
theorem DGet.rt {H : Hp} {a b : Addr} {kvs : List (List Key × V)} {k : List Key} (e : Rd H a (.dT kvs)) (eb : H b = some (.tup (k.map kV))) : DGet H a (.ref b) (valV kvs k) := .inr ⟨kvs, k, b, e, rfl, eb, rfl⟩
theorem DGet.rk {H : Hp} {a : Addr} {kvs : List (Key × V)} {k : Key} (e : Rd H a (.dK kvs)) : DGet H a (kV k) (valV kvs k) := .inl ⟨kvs, k, e, rfl, rfl⟩
/-- d[k], k in d, of either kind, locked or not -/
def getR (x y : D) (m : M) : Option (Option D) := match tkOf y with
  | some k => (kvtR x m).map fun kvs => valK kvs k
  | none => match keyOf y with
    | some k => (kvsR x m).map fun kvs => valK kvs k
    | none => none
theorem getR_ok {z : Z} {H : Hp} {m : M} {u w : V} {x y : D} {o : Option D} (hm : MOk A z H m) (hu : Rep A z H u x) (hw : Rep A z H w y) (e : getR x y m = some o) :
    ∃ a o', u = .ref a ∧ IsD H a ∧ DGet H a w o' ∧ (o = none → o' = none) ∧ ∀ d, o = some d → ∃ v, o' = some v ∧ Rep A z H v d := by
  unfold getR at e
  split at e
  · rename_i k e1
    obtain ⟨kvs, e2, rfl⟩ := Option.map_eq_some_iff.mp e
    obtain ⟨a, vs, rfl, h1, r⟩ := kvtR_ok hm hu e2
    obtain ⟨b, rfl, hb⟩ := tk_ok hw e1
    exact ⟨a, _, rfl, .inr ⟨_, h1⟩, DGet.rt h1 hb, r.val.1, r.val.2⟩
  · split at e
    · rename_i k e1
      obtain ⟨kvs, e2, rfl⟩ := Option.map_eq_some_iff.mp e
      obtain ⟨a, vs, rfl, h1, r⟩ := kvsR_ok hm hu e2
      have := keyOf_ok hw e1
      subst this
      exact ⟨a, _, rfl, .inl ⟨_, h1⟩, DGet.rk h1, r.val.1, r.val.2⟩
    · cases e
def eRGet (fd fy : Env → M → R D) : Env → M → R D := fun env m => (fd env m).bind fun x m => (fy env m).bind fun y m => match getR x y m with
  | some (some d) => .ok d m
  | _ => .no
theorem den_rget (hd : Den A W td fd) (hy : Den A W ty fy) : Den A W (tDGet td ty) (eRGet fd fy) := by
  intro z H σ env m Q hm hs h
  refine hd z H σ env m _ hm hs (post_bind h fun z1 H1 x m1 u s1 hm1 hu h1 => ?_)
  refine hy z1 H1 σ env m1 _ hm1 (hs.step s1) (post_bind h1 fun z2 H2 y m2 w s2 hm2 hw h2 => ?_)
  split at h2
  · rename_i d e
    obtain ⟨a, o', rfl, _, g, _, q⟩ := getR_ok hm2 (hu.step s2) hw e
    obtain ⟨v, rfl, rv⟩ := q d rfl
    exact ⟨a, v, rfl, g, h2.ok_at hm2 rv⟩
  · exact h2.elim
def eRIn (neg : Bool) (fy fd : Env → M → R D) : Env → M → R D := fun env m => (fy env m).bind fun y m => (fd env m).bind fun x m => match getR x y m with
  | some o => .ok (.bl (neg ^^ o.isSome)) m
  | _ => .no
theorem getR_some {o : Option D} {o' : Option V} (h1 : o = none → o' = none) {z : Z} {H : Hp} (h2 : ∀ d, o = some d → ∃ v, o' = some v ∧ Rep A z H v d) : o'.isSome = o.isSome := by
  cases o with
  | none => rw [h1 rfl]; rfl
  | some d => obtain ⟨v, e, _⟩ := h2 d rfl; rw [e]; rfl
theorem den_rin (hy : Den A W ty fy) (hd : Den A W td fd) : Den A W (tDIn ty td) (eRIn false fy fd) := by
  intro z H σ env m Q hm hs h
  refine hy z H σ env m _ hm hs (post_bind h fun z1 H1 y m1 w s1 hm1 hw h1 => ?_)
  refine hd z1 H1 σ env m1 _ hm1 (hs.step s1) (post_bind h1 fun z2 H2 x m2 u s2 hm2 hu h2 => ?_)
  split at h2
  · rename_i o e
    obtain ⟨a, o', rfl, _, g, q1, q2⟩ := getR_ok hm2 hu (hw.step s2) e
    refine ⟨a, o', rfl, g, ?_⟩
    rw [getR_some q1 q2]
    exact h2.ok_at hm2 (by rw [Bool.false_xor]; exact .bl _)
  · exact h2.elim
theorem den_rnotin (hy : Den A W ty fy) (hd : Den A W td fd) : Den A W (tDNotIn ty td) (eRIn true fy fd) := by
  intro z H σ env m Q hm hs h
  refine hy z H σ env m _ hm hs (post_bind h fun z1 H1 y m1 w s1 hm1 hw h1 => ?_)
  refine hd z1 H1 σ env m1 _ hm1 (hs.step s1) (post_bind h1 fun z2 H2 x m2 u s2 hm2 hu h2 => ?_)
  split at h2
  · rename_i o e
    obtain ⟨a, o', rfl, _, g, q1, q2⟩ := getR_ok hm2 hu (hw.step s2) e
    refine ⟨a, o', rfl, g, ?_⟩
    rw [getR_some q1 q2]
    exact h2.ok_at hm2 (by rw [Bool.true_xor]; exact .bl _)
  · exact h2.elim
def isDR (x : D) (m : M) : Bool := (kvtR x m).isSome || (kvsR x m).isSome
theorem isDR_ok {z : Z} {H : Hp} {m : M} {u : V} {x : D} (hm : MOk A z H m) (hu : Rep A z H u x) (e : isDR x m = true) : ∃ a, u = .ref a ∧ IsD H a := by
  unfold isDR at e
  cases e1 : kvtR x m with
  | some kvs =>
    obtain ⟨a, vs, rfl, h1, r⟩ := kvtR_ok hm hu e1
    exact ⟨a, rfl, .inr ⟨_, h1⟩⟩
  | none =>
    cases e2 : kvsR x m with
    | some kvs =>
      obtain ⟨a, vs, rfl, h1, r⟩ := kvsR_ok hm hu e2
      exact ⟨a, rfl, .inl ⟨_, h1⟩⟩
    | none => rw [e1, e2] at e; cases e
/-- d.get(k), d.get(k, x) -/
def eRGet1 (fd fy : Env → M → R D) : Env → M → R D := fun env m => (fd env m).bind fun x m => if isDR x m = true then (fy env m).bind fun y m => (match getR x y m with
    | some o => .ok (o.getD .non) m
    | none => .no) else .no
theorem den_rget1 (hd : Den A W td fd) (hy : Den A W ty fy) : Den A W (tDGet1 td ty) (eRGet1 fd fy) := by
  intro z H σ env m Q hm hs h
  refine hd z H σ env m _ hm hs (post_bind h fun z1 H1 x m1 u s1 hm1 hu h1 => ?_)
  obtain ⟨c, h1⟩ := post_if h1
  obtain ⟨a0, rfl, i0⟩ := isDR_ok hm1 hu c
  refine ⟨a0, rfl, i0, ?_⟩
  refine hy z1 H1 σ env m1 _ hm1 (hs.step s1) (post_bind h1 fun z2 H2 y m2 w s2 hm2 hw h2 => ?_)
  split at h2
  · rename_i o e
    obtain ⟨a, o', ea, _, g, q1, q2⟩ := getR_ok hm2 (hu.step s2) hw e
    cases ea
    refine ⟨o', g, ?_⟩
    cases o with
    | none => rw [q1 rfl]; exact h2.ok_at hm2 .non
    | some d => obtain ⟨v, ev, rv⟩ := q2 d rfl; rw [ev]; exact h2.ok_at hm2 rv
  · exact h2.elim
def eRGet2 (fd fy fx : Env → M → R D) : Env → M → R D := fun env m => (fd env m).bind fun x m => if isDR x m = true then (fy env m).bind fun y m => (fx env m).bind fun e m => (match getR x y m with
    | some o => .ok (o.getD e) m
    | none => .no) else .no
theorem den_rget2 (hd : Den A W td fd) (hy : Den A W ty fy) (hx : Den A W tx fx) : Den A W (tDGet2 td ty tx) (eRGet2 fd fy fx) := by
  intro z H σ env m Q hm hs h
  refine hd z H σ env m _ hm hs (post_bind h fun z1 H1 x m1 u s1 hm1 hu h1 => ?_)
  obtain ⟨c, h1⟩ := post_if h1
  obtain ⟨a0, rfl, i0⟩ := isDR_ok hm1 hu c
  refine ⟨a0, rfl, i0, ?_⟩
  refine hy z1 H1 σ env m1 _ hm1 (hs.step s1) (post_bind h1 fun z2 H2 y m2 w s2 hm2 hw h2 => ?_)
  refine hx z2 H2 σ env m2 _ hm2 ((hs.step s1).step s2) (post_bind h2 fun z3 H3 e m3 g' s3 hm3 hg h3 => ?_)
  split at h3
  · rename_i o e'
    obtain ⟨a, o', ea, _, g, q1, q2⟩ := getR_ok hm3 ((hu.step s2).step s3) (hw.step s3) e'
    cases ea
    refine ⟨o', g, ?_⟩
    cases o with
    | none => rw [q1 rfl]; exact h3.ok_at hm3 hg
    | some d => obtain ⟨v, ev, rv⟩ := q2 d rfl; rw [ev]; exact h3.ok_at hm3 rv
  · exact h3.elim
/-- d[k] = v, tuple keys -/
def sTPutD (fd fy fv : Env → M → R D) : Env → M → S := fun env m => (fv env m).to env fun v m => (fd env m).to env fun x m => (fy env m).to env fun y m => match kvtOf x m, tkOf y with
  | some (j, kvs), some k => if kvs.length < sizeLine then .nx env (m.set j (.dT (putKD kvs k v))) else .no
  | _, _ => .no
theorem dens_tput (hd : Den A W td fd) (hy : Den A W ty fy) (hv : Den A W tv fv) : DenS A W (sDPut td ty tv) (sTPutD fd fy fv) := by
  intro z H σ env m E hm hs h
  refine hv z H σ env m _ hm hs (post_to hs h fun z1 H1 v m1 v' s1 hm1 hs1 rv h1 => ?_)
  refine hd z1 H1 σ env m1 _ hm1 hs1 (post_to hs1 h1 fun z2 H2 x m2 u s2 hm2 hs2 ru h2 => ?_)
  refine hy z2 H2 σ env m2 _ hm2 hs2 (post_to hs2 h2 fun z3 H3 y m3 w s3 hm3 hs3 rw' h3 => ?_)
  split at h3
  · rename_i j kvs k e1 e2
    split at h3
    · rename_i c
      obtain ⟨a, vs, _, rfl, hj, ha, r⟩ := kvtOf_ok hm3 (ru.step s3) e1
      obtain ⟨b, rfl, hb⟩ := tk_ok rw' e2
      have rv3 := (rv.step s2).step s3
      have st : Step z3 H3 z3 (upd H3 a (.dT (L2.putK vs k v'))) := Step.put hm3 hj (nofr ha)
      exact ⟨a, _, rfl, DPut.t ha hb (by rw [r.length]; exact c), h3 z3 σ _ st (hm3.put hj ⟨_, upd_same, (r.putK rv3).step st⟩ (nofr ha)) (hs3.step st)⟩
    · exact h3.elim
  · exact h3.elim
end
/-! ### del d[k], d.pop(k[, x]), tuple keys -/
section
variable {X : Cx} {pins : List (Addr × Obj)} {σ : L2.St} {H : Hp} {s : Shared} {a b : Addr} {kvs : List (List Key × V)} {k : List Key} {Ar : Around} {E : Value → Shared → Prop}
theorem withoutH_drop {xs : List (List Key × Addr × Value)} {k : List Key} : withoutH xs k = DT.dropH xs k := rfl
theorem t_gone {xs : List (List Key × Addr × Value)} {h' : Heap} {t' : Nat} (I : Inv X pins σ H s) (e : H a = some (.dT kvs)) (z : kvs.length ≤ sizeLine) (hd : (a == sysModules) = false) (rel : KT H kvs xs)
    (dd : h'.DictOfH (tupleKind (mixKind X.prog X.w)) a (withoutH xs k)) (hs : Heap.SameBut a s.heap h') : Inv X pins σ (upd H a (.dT (dropK kvs k))) { s with heap := h', toks := t' } := by
  obtain ⟨o, es, ep, hq, h2, h3, h4, _, h5⟩ := dd
  refine d_write I (by rw [e]; exact True.intro) hs ⟨o, hq⟩ ⟨Nat.le_trans (dropK_le kvs k) z, hd, _, (L2.DX.KT_drop k rel).keeps fun c ys ec => ?_, o, es, ep, hq, h2, h3, h4, h5⟩
  rw [upd_ne (ne_of ec e (fun z => nomatch z))]
  exact ec
theorem t_at {xs : List (List Key × Addr × Value)} {v : V} (rel : KT H kvs xs) (l : valV kvs k = some v) : ∃ p, atKey xs k = some p ∧ RelV v p.2 := by
  have r := rel.val k
  rw [l] at r
  cases e : atKey xs k with
  | none => rw [e] at r; exact (show False from r).elim
  | some p => rw [e] at r; exact ⟨p, rfl, r⟩
theorem t_delItem {Q : Unit → Shared → Prop} (hu : Ar.units + 1 < cLine) (I : Inv X pins σ H s) (e : H a = some (.dT kvs)) (eb : H b = some (.tup (k.map kV))) (l : (valV kvs k).isSome = true) (h : ∀ s', Inv X pins σ (upd H a (.dT (dropK kvs k))) s' → Q () s') :
    wpAny (model X.prog X.w) Ar (delItem (.ref a) (.ref b)) Q E s := by
  obtain ⟨z, hd, xs, rel, dd⟩ := dt_of I.hok e
  have hz : xs.length ≤ sizeLine := by rw [← Paired.length rel]; exact z
  obtain ⟨v, ev⟩ := Option.isSome_iff_exists.mp l
  obtain ⟨p, hp, _⟩ := t_at rel ev
  exact wpAny_delItem_heap (hsz := hz) (tupleKind_room_in1 hu) (key_of I.hok eb) hd dd hp fun h' dd' hs => h _ (t_gone I e z hd rel dd' hs)
end
def tsDelT (td ty : TE) : TS := fun D σ H => td σ H fun x H1 => ty σ H1 fun y H2 => ∃ a kvs k b, x = .ref a ∧ H2 a = some (.dT kvs) ∧ y = .ref b ∧ H2 b = some (.tup (k.map kV)) ∧ (valV kvs k).isSome = true ∧ D.nx σ (upd H2 a (.dT (dropK kvs k)))
section
variable {X : Cx} {o i : Expr} {td ty tx : TE} {tpos pos apos cpos : Pos}
theorem ps_delT (hu : X.A.units + 1 < cLine) (ho : PE X o td) (hi : PE X i ty) : PS X (.Delete [.Subscript o i tpos] pos) (tsDelT td ty) := by
  refine ⟨fun pins s σ H D I h => ?_⟩
  refine wpAny_Delete (wpAny_deleteEach_cons (wpAny_delete_Subscript (thn (ho.run pins s σ H _ I h) fun u s1 q => ?_)))
  obtain ⟨x, H1, I1, rx, q1⟩ := q
  refine thn (hi.run pins s1 σ H1 _ I1 q1) fun iv s2 q => ?_
  obtain ⟨y, H2, I2, ry, a, kvs, k, b, rfl, e, rfl, eb, l, q2⟩ := q
  obtain rfl : u = Value.ref a := rx
  obtain rfl : iv = Value.ref b := ry
  exact t_delItem hu I2 e eb l fun s3 I3 => wpAny_deleteEach_nil ⟨σ, _, I3, q2⟩
def tTPop1 (td ty : TE) : TE := fun σ H Q => td σ H fun x H1 => ∃ a, x = .ref a ∧ IsD H1 a ∧ ty σ H1 fun y H2 => ∃ kvs k b v, H2 a = some (.dT kvs) ∧ y = .ref b ∧ H2 b = some (.tup (k.map kV)) ∧ valV kvs k = some v ∧ Q v (upd H2 a (.dT (dropK kvs k)))
end
section
variable {A : Amb} {W : L2.St → XK} {td ty tv tx : TE} {fd fy fv fx : Env → M → R D}
def sTDelD (fd fy : Env → M → R D) : Env → M → S := fun env m => (fd env m).to env fun x m => (fy env m).to env fun y m => match kvtOf x m, tkOf y with
  | some (j, kvs), some k => if (valK kvs k).isSome = true then .nx env (m.set j (.dT (dropKD kvs k))) else .no
  | _, _ => .no
theorem dens_tdel (hd : Den A W td fd) (hy : Den A W ty fy) : DenS A W (tsDelT td ty) (sTDelD fd fy) := by
  intro z H σ env m E hm hs h
  refine hd z H σ env m _ hm hs (post_to hs h fun z2 H2 x m2 u s2 hm2 hs2 ru h2 => ?_)
  refine hy z2 H2 σ env m2 _ hm2 hs2 (post_to hs2 h2 fun z3 H3 y m3 w s3 hm3 hs3 rw' h3 => ?_)
  split at h3
  · rename_i j kvs k e1 e2
    split at h3
    · rename_i c
      obtain ⟨a, vs, _, rfl, hj, ha, r⟩ := kvtOf_ok hm3 (ru.step s3) e1
      obtain ⟨b, rfl, hb⟩ := tk_ok rw' e2
      have st : Step z3 H3 z3 (upd H3 a (.dT (L2.dropK vs k))) := Step.put hm3 hj (nofr ha)
      exact ⟨a, vs, k, b, rfl, ha, rfl, hb, by rw [val_some r]; exact c, h3 z3 σ _ st (hm3.put hj ⟨_, upd_same, r.dropK.step st⟩ (nofr ha)) (hs3.step st)⟩
    · exact h3.elim
  · exact h3.elim
/-- len(d), tuple keys -/
def lenTD : List D → M → R D
  | [d], m => match kvtOf d m with
    | some (_, kvs) => .ok (.int kvs.length) m
    | none => .no
  | _, _ => .no
theorem calld_lenT : CallD A rLenT lenTD := by
  intro z H m xs ds W Q hm hx h
  unfold lenTD at h
  split at h
  · cases hx with
    | cons h1 h2 =>
      cases h2
      split at h
      · rename_i k kvs e
        obtain ⟨a, vs, _, rfl, _, ha, r⟩ := kvtOf_ok hm h1 e
        exact ⟨a, vs, rfl, ha, by rw [r.length]; exact h.ok_at hm (.int _)⟩
      · exact h.elim
  · exact h.elim
end
end DL

/-! DM: a dict is walked: locked meanwhile -/
namespace DL
open PySem PySem.Spec L2
section
variable {A : Amb} {z z' : Z} {H H' : Hp} {m : M}
theorem RepO.notTup {a : Addr} {o : O} (h : RepO A z H a o) (ys : List V) : H a ≠ some (.tup ys) := by
  intro e
  cases o with
  | lst ds => obtain ⟨vs, e1, _⟩ := h; rw [e] at e1; cases e1
  | dK ds => obtain ⟨vs, e1, _⟩ := h; rw [e] at e1; cases e1
  | dT ds => obtain ⟨vs, e1, _⟩ := h; rw [e] at e1; cases e1
  | frK ds => obtain ⟨od, vs, e1, _⟩ := h; rw [e] at e1; cases e1
  | frT ds => obtain ⟨od, vs, e1, _⟩ := h; rw [e] at e1; cases e1
  | ins C ds => obtain ⟨dx, vs, e1, _⟩ := h; rw [e] at e1; cases e1
  | exc cls fs => obtain ⟨d, e1, _⟩ := h; rw [e] at e1; cases e1
theorem MOk.tupIm (h : MOk A z H m) {q : Addr} {ys : List V} (e : H q = some (.tup ys)) : z.im q := by
  refine ⟨fun hb => ?_, fun hb => (h.hid q hb).2 ys e⟩
  obtain ⟨k, hk, e1⟩ := List.mem_iff_getElem.mp hb
  have hk' : k < m.length := by rw [← h.len]; exact hk
  exact (h.at_ k q m[k] (by rw [List.getElem?_eq_getElem hk, e1]) (List.getElem?_eq_getElem hk')).notTup ys e
theorem MOk.cellAt (h : MOk A z H m) {k : Nat} {o : O} (e : m[k]? = some o) : ∃ a, z.as[k]? = some a ∧ RepO A z H a o := by
  have hk : k < z.as.length := by rw [h.len]; exact (List.getElem?_eq_some_iff.mp e).1
  exact ⟨z.as[k], List.getElem?_eq_getElem hk, h.at_ k _ _ (List.getElem?_eq_getElem hk) e⟩
theorem k_change {p : Addr} {o : HO} (hp : p ∈ z.as) : ∀ b u, H b = some u → z.im b → (upd H p o) b = some u ∧ z.im b := fun b u h i => ⟨by rw [upd_ne (fun e => i.1 (by rw [e]; exact hp))]; exact h, i⟩
theorem MOk.change {k : Nat} {p : Addr} {o : HO} {u : O} (h : MOk A z H m) (hk : z.as[k]? = some p) (hu : RepO A z (upd H p o) p u) : MOk A z (upd H p o) (m.set k u) := by
  have hm : p ∈ z.as := List.mem_of_getElem? hk
  refine ⟨by rw [List.length_set]; exact h.len, h.nd, fun b hb => (h.hid b hb).upd fun e => h.apart p hm (by rw [← e]; exact hb), h.apart, fun j a w e1 e2 => ?_⟩
  by_cases e : j = k
  · subst e
    rw [hk] at e1; cases e1
    have hj : j < m.length := by rw [← h.len]; exact (List.getElem?_eq_some_iff.mp hk).1
    rw [List.getElem?_set_self hj] at e2
    cases e2
    exact hu
  · rw [List.getElem?_set_ne (fun q => e q.symm)] at e2
    refine (h.at_ j a w e1 e2).map (k_change hm) (fun _ _ h => h) fun x hx => ?_
    have ne : a ≠ p := by
      rintro rfl
      obtain ⟨h1, q1⟩ := List.getElem?_eq_some_iff.mp e1
      obtain ⟨h2, q2⟩ := List.getElem?_eq_some_iff.mp hk
      rcases Nat.lt_or_gt_of_ne e with lt | lt
      · exact List.pairwise_iff_getElem.mp h.nd j k h1 h2 lt (q1.trans q2.symm)
      · exact List.pairwise_iff_getElem.mp h.nd k j h2 h1 lt (q2.trans q1.symm)
    rw [upd_ne ne]
    exact hx
theorem Sl.change {σ : L2.St} {env : Env} {p : Addr} {o : HO} (hp : p ∈ z.as) (h : Sl A z H σ env) : Sl A z (upd H p o) σ env := ⟨h.1, fun i d e => by
  obtain ⟨v, h1, h2⟩ := h.2 i d e
  exact ⟨v, h1, h2.map (k_change hp) fun _ _ h => h⟩⟩
/-- locked, much done, unlocked: a step -/
theorem Step.lock {p : Addr} {o : HO} {u w : HO} {od : Obj} (hp : p ∈ z.as) (e0 : H p = some u) (hu : ∀ od v, u ≠ .frz od v) (s : Step z (upd H p (.frz od w)) z' H') : Step z H z' (upd H' p o) := by
  refine ⟨s.hs, ?_, fun b v e hb => ?_, fun b e => ?_, fun b od' v e => ?_⟩
  · obtain ⟨n, en, hn⟩ := s.new
    refine ⟨n, en, fun b hb => ?_⟩
    have := hn b hb
    by_cases q : b = p
    · subst q; rw [upd_same] at this; cases this
    · rw [upd_ne q] at this; exact this
  · have ne : b ≠ p := fun q => hb (by rw [q]; exact hp)
    rw [upd_ne ne]
    exact s.kp b v (by rw [upd_ne ne]; exact e) hb
  · by_cases q : b = p
    · subst q; rw [upd_same]; simp
    · rw [upd_ne q]; exact s.al b (by rw [upd_ne q]; exact e)
  · have ne : b ≠ p := by
      rintro rfl
      exact hu od' v (Option.some.inj (e0.symm.trans e))
    rw [upd_ne ne]
    exact s.fz b od' v (by rw [upd_ne ne]; exact e)
end
/-- the cell of an expression that changes nothing -/
def cellOf (r : R D) : Option Nat := match r with
  | .ok (.cell k) _ => some k
  | _ => none
def frO : O → Option O
  | .dK kvs => some (.frK kvs)
  | .dT kvs => some (.frT kvs)
  | _ => none
def unO : O → Option O
  | .frK kvs => some (.dK kvs)
  | .frT kvs => some (.dT kvs)
  | _ => none
def unM (k : Nat) (m : M) : Option M := match m[k]? with
  | some o => (unO o).map fun u => m.set k u
  | none => none
def unlS (k : Nat) (s : S) : S := match s with
  | .nx env m => (match unM k m with | some m' => .nx env m' | none => .no)
  | .bk env m => (match unM k m with | some m' => .bk env m' | none => .no)
  | .ct env m => (match unM k m with | some m' => .ct env m' | none => .no)
  | .rt d m => (match unM k m with | some m' => .rt d m' | none => .no)
  | _ => .no
def unlR {α : Type} (k : Nat) (r : R α) : R α := match r with
  | .ok d m => (match unM k m with | some m' => .ok d m' | none => .no)
  | _ => .no
def lkM (k : Nat) (m : M) : Option M := match m[k]? with
  | some o => (frO o).map fun u => m.set k u
  | none => none
def sLockD (fd : Env → M → R D) (F : Env → M → S) : Env → M → S := fun env m => match cellOf (fd env m) with
  | some k => (match lkM k m with
    | some m1 => unlS k (F env m1)
    | none => .no)
  | none => .no
def eLockD (fd : Env → M → R D) (F : Env → M → R D) : Env → M → R D := fun env m => match cellOf (fd env m) with
  | some k => (match lkM k m with
    | some m1 => unlR k (F env m1)
    | none => .no)
  | none => .no
section
variable {A : Amb} {W : L2.St → XK} {t : TS} {te td : TE} {F : Env → M → S} {fe fd : Env → M → R D}
theorem lk_ok {z : Z} {H : Hp} {m m1 : M} {k : Nat} (hm : MOk A z H m) (e : lkM k m = some m1) : ∃ a u, z.as[k]? = some a ∧ H a = some u ∧ Mut (some u) ∧ (∀ od v, u ≠ .frz od v) ∧
    ∀ od, Step z H z (upd H a (.frz od u)) ∧ MOk A z (upd H a (.frz od u)) m1 ∧
      ∀ z' H' m' m2, Step z (upd H a (.frz od u)) z' H' → MOk A z' H' m' → unM k m' = some m2 → H' a = some (.frz od u) ∧ Step z H z' (upd H' a u) ∧ MOk A z' (upd H' a u) m2 ∧ a ∈ z'.as := by
  unfold lkM at e
  cases q : m[k]? with
  | none => rw [q] at e; cases e
  | some o =>
    rw [q] at e
    obtain ⟨a, ha, ro⟩ := hm.cellAt q
    have fin : ∀ (u : HO) (w : O), H a = some u → (∀ od v, u ≠ .frz od v) → Mut (some u) → m1 = m.set k w → (∀ od, RepO A z (upd H a (.frz od u)) a w) →
        (∀ od z' H' m' m2, H' a = some (.frz od u) → z'.as[k]? = some a → MOk A z' H' m' → unM k m' = some m2 → ∃ w2, m2 = m'.set k w2 ∧ RepO A z' (upd H' a u) a w2) →
        ∃ a u, z.as[k]? = some a ∧ H a = some u ∧ Mut (some u) ∧ (∀ od v, u ≠ .frz od v) ∧
    ∀ od, Step z H z (upd H a (.frz od u)) ∧ MOk A z (upd H a (.frz od u)) m1 ∧
      ∀ z' H' m' m2, Step z (upd H a (.frz od u)) z' H' → MOk A z' H' m' → unM k m' = some m2 → H' a = some (.frz od u) ∧ Step z H z' (upd H' a u) ∧ MOk A z' (upd H' a u) m2 ∧ a ∈ z'.as := by
      intro u w hu nu mu em rw1 back
      refine ⟨a, u, ha, hu, mu, nu, fun od => ⟨Step.put hm ha (nofr hu nu), ?_, fun z' H' m' m2 s hm' eu => ?_⟩⟩
      · rw [em]; exact hm.put ha (rw1 od) (nofr hu nu)
      · have e1 : H' a = some (.frz od u) := s.fz a od u upd_same
        have ha' := s.cell ha
        obtain ⟨w2, rfl, r2⟩ := back od z' H' m' m2 e1 ha' hm' eu
        exact ⟨e1, Step.lock (List.mem_of_getElem? ha) hu nu s, hm'.change ha' r2, List.mem_of_getElem? ha'⟩
    cases o with
    | dK kvs =>
      obtain ⟨vs, e1, r⟩ := ro
      cases e
      have hp : a ∈ z.as := List.mem_of_getElem? ha
      refine fin (.dK vs) (.frK kvs) e1 (by intro _ _ e; cases e) trivial rfl (fun od => ⟨od, vs, upd_same, r.map (k_change hp) fun _ _ h => h⟩) fun od z' H' m' m2 eH ha' hm' eu => ?_
      unfold unM at eu
      cases q2 : m'[k]? with
      | none => rw [q2] at eu; cases eu
      | some o2 =>
        rw [q2] at eu
        have ro2 := hm'.at_ k a o2 ha' q2
        cases o2 with
        | frK kvs2 =>
          cases eu
          obtain ⟨od2, vs2, e2, r2⟩ := ro2
          rw [eH] at e2
          cases e2
          exact ⟨_, rfl, vs, upd_same, r2.map (k_change (List.mem_of_getElem? ha')) fun _ _ h => h⟩
        | frT kvs2 =>
          obtain ⟨od2, vs2, e2, r2⟩ := ro2
          rw [eH] at e2
          cases e2
        | _ => cases eu
    | dT kvs =>
      obtain ⟨vs, e1, r⟩ := ro
      cases e
      have hp : a ∈ z.as := List.mem_of_getElem? ha
      refine fin (.dT vs) (.frT kvs) e1 (by intro _ _ e; cases e) trivial rfl (fun od => ⟨od, vs, upd_same, r.map (k_change hp) fun _ _ h => h⟩) fun od z' H' m' m2 eH ha' hm' eu => ?_
      unfold unM at eu
      cases q2 : m'[k]? with
      | none => rw [q2] at eu; cases eu
      | some o2 =>
        rw [q2] at eu
        have ro2 := hm'.at_ k a o2 ha' q2
        cases o2 with
        | frT kvs2 =>
          cases eu
          obtain ⟨od2, vs2, e2, r2⟩ := ro2
          rw [eH] at e2
          cases e2
          exact ⟨_, rfl, vs, upd_same, r2.map (k_change (List.mem_of_getElem? ha')) fun _ _ h => h⟩
        | frK kvs2 =>
          obtain ⟨od2, vs2, e2, r2⟩ := ro2
          rw [eH] at e2
          cases e2
        | _ => cases eu
    | _ => cases e
theorem dens_lock (ht : DenS A W t F) : DenS A W (tLock t) (sLockD fd F) := by
  intro z H σ env m E hm hs h
  unfold sLockD at h
  split at h
  · rename_i k ek
    split at h
    · rename_i m1 e1
      obtain ⟨a, u, ha, hu, mu, nu, q⟩ := lk_ok hm e1
      refine ⟨a, u, hu, mu, fun od => ?_⟩
      obtain ⟨s1, hm1, back⟩ := q od
      refine ht z _ σ env m1 _ hm1 (hs.step s1) ?_
      generalize F env m1 = r at h
      have cut : ∀ {m' : M} {r : M → S}, PostS A W z H (match unM k m' with | some m2 => r m2 | none => .no) E → ∃ m2, unM k m' = some m2 ∧ PostS A W z H (r m2) E := by
        intro m' r h
        cases e : unM k m' with
        | none => rw [e] at h; exact h.elim
        | some m2 => rw [e] at h; exact ⟨m2, rfl, h⟩
      cases r with
      | nx env3 m3 =>
        obtain ⟨m2, e2, h2⟩ := cut (r := fun m2 => .nx env3 m2) h
        intro z' σ' H' s' hm' hs'
        obtain ⟨b1, b2, b3, b4⟩ := back z' H' m3 m2 s' hm' e2
        exact ⟨b1, h2 z' σ' _ b2 b3 (hs'.change b4)⟩
      | bk env3 m3 =>
        obtain ⟨m2, e2, h2⟩ := cut (r := fun m2 => .bk env3 m2) h
        intro z' σ' H' s' hm' hs'
        obtain ⟨b1, b2, b3, b4⟩ := back z' H' m3 m2 s' hm' e2
        exact ⟨b1, h2 z' σ' _ b2 b3 (hs'.change b4)⟩
      | ct env3 m3 =>
        obtain ⟨m2, e2, h2⟩ := cut (r := fun m2 => .ct env3 m2) h
        intro z' σ' H' s' hm' hs'
        obtain ⟨b1, b2, b3, b4⟩ := back z' H' m3 m2 s' hm' e2
        exact ⟨b1, h2 z' σ' _ b2 b3 (hs'.change b4)⟩
      | rt d3 m3 =>
        obtain ⟨m2, e2, h2⟩ := cut (r := fun m2 => .rt d3 m2) h
        intro z' v H' s' hm' rv
        obtain ⟨b1, b2, b3, b4⟩ := back z' H' m3 m2 s' hm' e2
        exact ⟨b1, h2 z' v _ b2 b3 (rv.map (k_change b4) fun _ _ h => h)⟩
      | ex x3 env3 m3 => exact h.elim
      | no => exact h.elim
    · exact h.elim
  · exact h.elim
theorem den_lockE (ht : Den A W te fe) : Den A W (tLockE te) (eLockD fd fe) := by
  intro z H σ env m Q hm hs h
  unfold eLockD at h
  split at h
  · rename_i k ek
    split at h
    · rename_i m1 e1
      obtain ⟨a, u, ha, hu, mu, nu, q⟩ := lk_ok hm e1
      refine ⟨a, u, hu, mu, fun od => ?_⟩
      obtain ⟨s1, hm1, back⟩ := q od
      refine ht z _ σ env m1 _ hm1 (hs.step s1) ?_
      generalize fe env m1 = r at h
      cases r with
      | ok d3 m3 =>
        have h : PostE A (W σ) z H (match unM k m3 with | some m' => .ok d3 m' | none => .no) Q := h
        cases e : unM k m3 with
        | none => rw [e] at h; exact h.elim
        | some m2 =>
          rw [e] at h
          intro z' v H' s' hm' rv
          obtain ⟨b1, b2, b3, b4⟩ := back z' H' m3 m2 s' hm' e
          exact ⟨b1, h z' v _ b2 b3 (rv.map (k_change b4) fun _ _ h => h)⟩
      | ex x3 m3 => exact h.elim
      | no => exact h.elim
    · exact h.elim
  · exact h.elim
/-- the keys of a locked dict -/
def keysL (d : D) (m : M) : Option (List D) := match d with
  | .cell k => (match m[k]? with
    | some (.frK kvs) => some (kvs.map fun p => keyD p.1)
    | some (.frT kvs) => some (kvs.map fun p => .tk p.1)
    | _ => none)
  | _ => none
def iKeysD (fd : Env → M → R D) : Env → M → R (List D) := fun env m => (fd env m).bind fun d m => match keysL d m with
  | some ds => .ok ds m
  | none => .no
theorem rep_key {z : Z} {H : Hp} (k : Key) : Rep A z H (kV k) (keyD k) := by
  cases k with
  | inl i => exact .int i
  | inr x => exact .str x
theorem RepF.getK {κ : Type} {z : Z} {H : Hp} : ∀ {vs : List (κ × V)} {kvs : List (κ × D)} {i : Nat} {k : κ} {v : V}, RepF A z H vs kvs → vs[i]? = some (k, v) → ∃ d, kvs[i]? = some (k, d)
  | _, _, 0, _, _, .cons _ _, e => by cases e; exact ⟨_, rfl⟩
  | _, _, i + 1, _, _, .cons _ r, e => by
    have e : _ := e
    simp only [List.getElem?_cons_succ] at e ⊢
    exact RepF.getK r e
theorem deni_keys (hd : Den A W td fd) : DenI A W (iKeys td) (iKeysD fd) := by
  intro z H σ env m Q hm hs h
  refine hd z H σ env m _ hm hs (post_bind h fun z1 H1 d m1 v s1 hm1 hv h1 => ?_)
  unfold keysL at h1
  split at h1
  · rename_i ds e
    split at e
    · rename_i k
      split at e
      · rename_i kvs q
        cases e
        cases hv with
        | @cell a _ hk =>
          obtain ⟨od, vs, e1, r⟩ := hm1.at_ k a _ hk q
          refine ⟨a, od, rfl, .inl ⟨vs, e1, h1.ok_at hm1 ?_⟩⟩
          intro z' H' m' s' hm'
          have e2 := s'.fz a od _ e1
          have l : (kvs.map fun p => keyD p.1).length = vs.length := by rw [List.length_map, r.length]
          refine ⟨fun i hi => ⟨e2, by rw [← l]; exact hi⟩, fun i hi => ⟨e2, by rw [← l]; exact hi⟩, fun i x H2 hi y => ?_⟩
          obtain ⟨rfl, k', v', ev, rfl⟩ := y
          obtain ⟨d, ed⟩ := r.getK ev
          exact ⟨Step.refl, hm', keyD k', by rw [List.getElem?_map, ed]; rfl, rep_key k'⟩
      · rename_i kvs q
        cases e
        cases hv with
        | @cell a _ hk =>
          obtain ⟨od, vs, e1, r⟩ := hm1.at_ k a _ hk q
          refine ⟨a, od, rfl, .inr ⟨vs, e1, h1.ok_at hm1 ?_⟩⟩
          intro z' H' m' s' hm'
          have e2 := s'.fz a od _ e1
          have l : (kvs.map fun p => D.tk p.1).length = vs.length := by rw [List.length_map, r.length]
          refine ⟨fun i hi => ⟨e2, by rw [← l]; exact hi⟩, fun i hi => ⟨e2, by rw [← l]; exact hi⟩, fun i x H2 hi y => ?_⟩
          obtain ⟨rfl, k', v', b, ev, rfl, eb⟩ := y
          obtain ⟨d, ed⟩ := r.getK ev
          exact ⟨Step.refl, hm', .tk k', by rw [List.getElem?_map, ed]; rfl, .tk eb (hm'.tupIm eb)⟩
      · cases e
    · cases e
  · exact h1.elim
end
end DL

/-! sorted(d), d a dict whose keys are tuples of two texts -/
namespace DL
open PySem PySem.Spec PyProof.Rows L2
section
variable {prog : Program} {w : World} {A : Around} {E : Value → Shared → Prop} {s : Shared}
theorem rawWalks {I d : Addr} {es : Array DictEntry} {ep : Nat} (hh : A.handled = none) (hne : d ≠ I) :
    Walks prog w A I [I, d] [I] es.size (fun i v => ∃ en, es[i]? = some en ∧ v = en.key) (fun i h => h.IsKeyIter I d i es.size ep ∧ DT.Raw h d es ep) where
  sub := fun b hb => by simp at hb; simp [hb]
  frame := fun _ _ _ st hk => ⟨st.1.at fun o e => hk I (by simp) o e, st.2.at' fun o e => hk d (by simp) o e⟩
  item := fun i s Q E hi st hQ => by
    obtain ⟨o, ho, hc, hd⟩ := st.2
    obtain ⟨en, hen⟩ : ∃ en, es[i]? = some en := ⟨es[i], by simp [hi]⟩
    refine next_key_item st.1 ho hd rfl hen fun h' hit' hs' => ?_
    exact hQ en.key h' s.toks ⟨en, hen, rfl⟩ ⟨hit', st.2.at' fun o e => hs'.extBut d o hne e⟩ fun b o hb e => hs'.extBut b o (fun h => hb (by simp [h])) e
  done := fun s Q E st hQ => by
    obtain ⟨o, ho, hc, hd⟩ := st.2
    exact next_key_end hh st.1 ho hd rfl (Nat.le_refl _) fun h' he' => hQ h' s.toks fun b o hb e => he' b o (fun h => hb (by simp [h])) e
  self := fun _ _ _ _ st hQ => wpAny_pyIter_keyiter st.1 hQ
theorem rawSrc {d : Addr} {es : Array DictEntry} {ep : Nat} (lo : (d == sysModules) = false) : PySem.W.KdlSrc prog w "dict" d d es.size (fun i v => ∃ en, es[i]? = some en ∧ v = en.key) (fun h => DT.Raw h d es ep) where
  type := fun _ hm => hm.typeIs
  there := fun _ hm => ⟨hm.lt, hm.lt⟩
  keep := fun _ _ hm hk => hm.at' fun o e => hk d (.inl rfl) o e
  notList := by decide
  notTuple := by decide
  hint := fun _ _ _ _ hm hq => PySem.W.kdl_hint_dict hm.typeIs hq
  iter := fun A s hh hm => by
    obtain ⟨o, ho, hc, hd⟩ := id hm
    exact ⟨_, _, (fun _ _ hq => iter_keys lo ho hc hd hq), rawWalks hh (Nat.ne_of_lt hm.lt), ⟨⟨_, Heap.get?_push_size _ rfl, rfl, rfl⟩, hm.push _⟩⟩
end
/-- keys that are pairs of texts -/
def pairK (p : Str × Str) : List Key := [.inr p.1, .inr p.2]
def encP (b : Addr × Str × Str) : PyData := .tuple [.str b.2.1, .str b.2.2]
def encQ (p : Str × Str) : PyData := .tuple [.str p.1, .str p.2]
def leP : Str × Str → Str × Str → Bool := PySem.W.dataLe false encQ
def sortP (ps : List (Str × Str)) : List (Str × Str) := ps.mergeSort leP
theorem sortP_perm (ps : List (Str × Str)) : (sortP ps).Perm ps := List.mergeSort_perm ps leP
section
variable {X : Cx}
theorem cr_sortedTk (hcalm : X.calm = true) (hu : X.A.units + 70 < cLine) : CallR X (.builtin "sorted") (fun xs H Q => ∃ (a : Addr) (kvs : List (List Key × V)) (ps : List (Str × Str)), xs = [.ref a] ∧ H a = some (.dT kvs) ∧ kvs.map (·.1) = ps.map pairK ∧ ps.length < 1000 ∧
    ∀ (bs : List (Addr × Str × Str)) p, bs.map (·.2) = sortP ps → (∀ b ∈ bs, H b.1 = some (.tup [.str b.2.1, .str b.2.2])) → H p = none → Q (.ref p) (upd H p (.lst (bs.map fun b => V.ref b.1)))) := by
  intro pins s σ H xs us Q I r q
  obtain ⟨a, kvs, ps, ex, hd, hks, h64, q⟩ := q
  subst ex
  obtain ⟨u, eu, rx⟩ := vals1 r
  subst eu
  cases rx
  obtain ⟨z, lo, xs', rel, o, es, ep, ho, hx, hdat, hes, his, hn⟩ := dt_of I.hok hd
  have l0 : kvs.length = ps.length := by
    have e := congrArg List.length hks
    rw [List.length_map, List.length_map] at e
    exact e
  have l1 : kvs.length = xs'.length := Paired.length rel
  have l2 : es.size = xs'.length := size_of_entries hes
  have hh : X.A.handled = none := I.ok.hd hcalm
  have raw : DT.Raw s.heap a es ep := ⟨o, ho, hx, hdat⟩
  refine Calls.call_function_entry PyProof.Rows.kind_sorted PyProof.Rows.plain_sorted PyProof.Rows.entry_sorted (PyProof.Rows.args_sorted1 _) ?_
  unfold Builtin.«sorted»
  refine wpAny_bind (m := checkCount "sorted" 1 1 _) (wpAny_pure ?_)
  refine wpAny_bind (PySem.W.kdu_collect (A := X.A.in1) (rawSrc (es := es) (ep := ep) lo) hh raw (by rw [sizeLine_eq]; omega) fun h' tk acc hk hacc => ?_)
  have hal : acc.toList.length = ps.length := by rw [Array.length_toList, hacc.1]; omega
  -- each key, with what it is
  have each : ∀ (j : Nat) (p : Str × Str), ps[j]? = some p → ∃ b : Addr, acc.toList[j]? = some (.ref b) ∧ H b = some (.tup [.str p.1, .str p.2]) := by
    intro j p hp
    have hj : j < ps.length := (List.getElem?_eq_some_iff.mp hp).1
    obtain ⟨v, hv⟩ : ∃ v, acc.toList[j]? = some v := ⟨acc.toList[j]'(by omega), List.getElem?_eq_getElem (by omega)⟩
    obtain ⟨en, he, rfl⟩ := hacc.2 j v (by rw [← Array.getElem?_toList]; exact hv)
    rw [entry_at hes j] at he
    cases hxj : xs'[j]? with
    | none => rw [hxj] at he; exact nomatch (show (none : Option DictEntry) = some en from he)
    | some x =>
      rw [hxj] at he
      have een : entryOfKey (tupleKind (mixKind X.prog X.w)) x = en := Option.some.inj he
      obtain ⟨e0, he0, r1, r2, r3⟩ := DX.pget rel hxj
      have hk0 : (kvs.map (·.1))[j]? = some e0.1 := by rw [List.getElem?_map, he0]; rfl
      rw [hks, List.getElem?_map, hp] at hk0
      have ek : pairK p = e0.1 := Option.some.inj hk0
      rw [← ek] at r2
      refine ⟨x.2.1, ?_, r2⟩
      rw [hv, ← een]
      all_goals rfl
  have I1 : Inv X pins σ H { s with heap := h', toks := tk } := I.kept hk
  obtain ⟨bs, hb1, hb2, hb3⟩ : ∃ bs : List (Addr × Str × Str), bs.map (·.2) = ps ∧ acc.toList = bs.map (fun b => Value.ref b.1) ∧ ∀ b ∈ bs, H b.1 = some (.tup [.str b.2.1, .str b.2.2]) := by
    have gen : ∀ (vs : List Value) (ps : List (Str × Str)), vs.length = ps.length → (∀ (j : Nat) (p : Str × Str), ps[j]? = some p → ∃ b : Addr, vs[j]? = some (.ref b) ∧ H b = some (.tup [.str p.1, .str p.2])) →
        ∃ bs : List (Addr × Str × Str), bs.map (·.2) = ps ∧ vs = bs.map (fun b => Value.ref b.1) ∧ ∀ b ∈ bs, H b.1 = some (.tup [.str b.2.1, .str b.2.2]) := by
      intro vs ps
      induction ps generalizing vs with
      | nil =>
        intro hl _
        have : vs = [] := List.length_eq_zero_iff.mp hl
        exact ⟨[], rfl, this, by simp⟩
      | cons p ps ih =>
        intro hl h
        cases vs with
        | nil => simp at hl
        | cons v vs =>
          obtain ⟨b, e1, e2⟩ := h 0 p rfl
          obtain rfl : v = .ref b := Option.some.inj e1
          obtain ⟨bs, c1, c2, c3⟩ := ih vs (by simpa using hl) fun j p hj => h (j + 1) p hj
          refine ⟨(b, p) :: bs, by rw [List.map_cons, c1], by rw [List.map_cons, c2], fun x hx => ?_⟩
          rcases List.mem_cons.mp hx with rfl | hx
          · exact e2
          · exact c3 x hx
    exact gen acc.toList ps hal each
  have hlb : bs.length = ps.length := by rw [← hb1, List.length_map]
  refine wpAny_bind (wpAny_newList ?_ (by rw [hal, sizeLine_eq]; omega))
  have hoL : (h'.push (seqObj "list" acc.toList.toArray 0)).get? h'.objs.size = some (seqObj "list" acc.toList.toArray 0) := Heap.get?_push_size _ rfl
  show wpAny _ _ _ _ _ { s with heap := h'.push (seqObj "list" acc.toList.toArray 0), toks := tk }
  have R1 : PySem.W.EachIs (fun v (b : Addr × Str × Str) => v = Value.ref b.1) acc.toList bs := by
    rw [hb2]
    clear hb1 hb2 hb3 hlb
    induction bs with
    | nil => exact .nil
    | cons b bs ih => exact .cons rfl ih
  have reads : ∀ b ∈ bs, ∃ as, Reads (h'.push (seqObj "list" acc.toList.toArray 0)) (Value.ref b.1) (encP b) as ∧ h'.objs.size ∉ as := fun b hb => by
    have e := hb3 b hb
    obtain ⟨_, its, rv, ot, hot, hct, nt, hdt⟩ := (show ObjOk X.prog X.w H s.heap b.1 (.tup [.str b.2.1, .str b.2.2]) from I.hok b.1 _ e)
    obtain ⟨t1, t2, rfl⟩ : ∃ t1 t2, its = [Value.str b.2.1 t1, Value.str b.2.2 t2] := by
      cases rv with
      | cons r1 r2 =>
        cases r2 with
        | cons r2 r3 =>
          cases r3
          obtain ⟨t1, rfl⟩ := r1
          obtain ⟨t2, rfl⟩ := r2
          exact ⟨t1, t2, rfl⟩
    have hg := Heap.get?_push_of_some (seqObj "list" acc.toList.toArray 0) (hk _ _ hot)
    exact ⟨[] ++ ([] ++ []), .tuple hg hct hdt (.cons (.str _ _) (.cons (.str _ _) .nil)), by simp⟩
  have R2 : PySem.W.EachIs (fun v (b : Addr × Str × Str) => ∃ as, Reads (h'.push (seqObj "list" acc.toList.toArray 0)) v (encP b) as ∧ h'.objs.size ∉ as) acc.toList bs := by
    generalize h'.push (seqObj "list" acc.toList.toArray 0) = h2 at reads
    rw [hb2]
    clear hb1 hb2 hb3 hlb R1
    induction bs with
    | nil => exact .nil
    | cons b bs ih => exact .cons (reads b List.mem_cons_self) (ih fun c hc => reads c (List.mem_cons_of_mem _ hc))
  have dep : ∀ b : Addr × Str × Str, (encP b).depth = 1 := fun b => by simp [encP, PyData.depth, PyData.depthAll]
  have hg := PySem.W.list_sort_data (prog := X.prog) (w := X.w) (A := X.A.in1) (E := X.xe) (s := { s with heap := h'.push (seqObj "list" acc.toList.toArray 0), toks := tk }) (enc := encP) (Q := fun _ s' => EP X pins σ Q (.ref h'.objs.size) s') hoL R1 R2
    (PySem.W.AllAlike.of fun b b' => by simp [encP, PySem.W.alike, PySem.W.alikeAll]) (PySem.W.Sortable.tuples fun b => ⟨_, _, rfl⟩) (by rw [sizeLine_eq]; omega) (fun b _ => by rw [dep]; show X.A.units + 1 + 1 + 1 < cLine; omega) fun out ho hout => ?_
  · refine wpAny_bind (wpAny_holding (wpAny_mono hg (fun _ s' x => ?_) fun _ _ e => e))
    exact wpAny_pure ⟨_, rfl, x⟩
  · have hlb2 : (bs.mergeSort (PySem.W.dataLe false encP)).length = bs.length := (List.mergeSort_perm bs _).length_eq
    generalize hcs : bs.mergeSort (PySem.W.dataLe false encP) = cs at hout hlb2
    have hout2 : out = cs.map fun b => Value.ref b.1 := by
      clear hcs hlb2 ho
      induction hout with
      | nil => rfl
      | cons h t ih => rw [List.map_cons, ← ih, h]
    have hcs2 : cs.map (·.2) = sortP ps := by
      rw [← hcs, ← hb1]
      exact PySem.W.sort_maps (r := PySem.W.dataLe false encP) (s := leP) (fun b : Addr × Str × Str => b.2) fun a _ b _ => rfl
    have hmem : ∀ b ∈ cs, H b.1 = some (.tup [.str b.2.1, .str b.2.2]) := fun b hb => hb3 b (by rw [← hcs] at hb; exact (List.mergeSort_perm bs _).mem_iff.mp hb)
    obtain ⟨e', he'⟩ := PyProof.Rows.sortedHeap_at (vs := acc.toList) (out := out.toArray) hoL
    have hlen : (cs.map fun b => V.ref b.1).length ≤ sizeLine := by rw [List.length_map, sizeLine_eq]; omega
    have rv : Vals (cs.map fun b => V.ref b.1) out := by
      rw [hout2]
      exact vals_maps (fun z : Addr × Str × Str => V.ref z.1) (fun z => Value.ref z.1) cs fun _ _ => rfl
    refine ⟨.ref h'.objs.size, upd H h'.objs.size (.lst (cs.map fun b => V.ref b.1)), I1.laid (t' := tk) (fun b u e => ?_) (Nat.le_refl _)
      (show ObjOk X.prog X.w _ _ _ (.lst (cs.map fun b => V.ref b.1)) from ⟨hlen, out, e', rv, he'⟩), rfl, q cs _ hcs2 hmem (I1.hok.fresh (Nat.le_refl _))⟩
    have hb : b < h'.objs.size := Heap.lt_size e
    rw [PyProof.Rows.sortedHeap_old (Nat.ne_of_lt hb) (by rw [size_push']; exact Nat.lt_succ_of_lt hb)]
    exact Heap.get?_push_of_some _ e
end
end DL

/-! own exceptions with an __init__ of their own, straight beneath a class of Python's -/
namespace DL
open PySem PySem.Spec PyProof.Rows L2 Builtin Builtin.ObjectAttr
/-- classes that a store of a field passes by -/
structure MroOk (l : List Value) : Prop where
  ne : l.isEmpty = false
  ob : l.contains (.type "object") = true
  ps : ∀ x, refuseLoop x "__setattr__" l = pure ()
structure BaseOk (B newId initId : String) (bm : List Value) : Prop where
  F : ExcBaseFacts B newId initId bm
  M : ∀ C, MroOk (.ref C :: bm)
theorem ob_cons {C : Addr} {l : List Value} (h : l.contains (.type "object") = true) : (Value.ref C :: l).contains (.type "object") = true := by rw [List.contains_cons, h, Bool.or_true]
theorem base_VE : BaseOk "ValueError" "ValueError.__new__" "ValueError.__init__" [.type "ValueError", .type "Exception", .type "BaseException", .type "object"] :=
  ⟨F.excBase_ValueError, fun C => ⟨rfl, ob_cons (by decide +kernel), fun x => by rw [refuseLoop_ref]; exact F.store_ValueError.passes x⟩⟩
theorem base_LE : BaseOk "LookupError" "LookupError.__new__" "LookupError.__init__" [.type "LookupError", .type "Exception", .type "BaseException", .type "object"] :=
  ⟨F.excBase_LookupError, fun C => ⟨rfl, ob_cons (by decide +kernel), fun x => by rw [refuseLoop_ref]; exact F.store_LookupError.passes x⟩⟩
theorem base_AE : BaseOk "ArithmeticError" "ArithmeticError.__new__" "ArithmeticError.__init__" [.type "ArithmeticError", .type "Exception", .type "BaseException", .type "object"] :=
  ⟨F.excBase_ArithmeticError, fun C => ⟨rfl, ob_cons (by decide +kernel), fun x => by rw [refuseLoop_ref]; exact F.store_ArithmeticError.passes x⟩⟩
section
variable {prog : Program} {w : World} {hp : Heap} {A : Around} {R : Result → Shared → Prop} {E : Value → Shared → Prop} {g : Array GenState} {d : Drawn} {t : Nat} {os : OsState}
/-- the first field of an exception -/
theorem osa_fst {K : PySem.W.Frag} {x C : Addr} {fn : Str} {u : Value} {k : Tok} {fv : Array Value} {cd : ClassData} (kin : K.In hp) (at0 : hp.get? x = some { cls := .ref C, data := .fields fv })
    (cin : PySem.W.clsIn K C = some cd) (mo : MroOk cd.mro) (dict : cd.hasDict = true) (no : PySem.W.findIn K (.ref C) fn = some none)
    (h : ∀ h1 k1 dx, (∀ b o, b ≠ x → hp.get? b = some o → h1.get? b = some o) → hp.objs.size ≤ dx → dx ≠ x → h1.get? x = some { cls := .ref C, dict := some dx, data := .fields fv } → h1.Ns1 dx (fun y => if y = fn then some u else none) → R (.ok (.ret .none)) ⟨h1, g, d, k1, os⟩) :
    codeAny (model prog w) A (.call (.builtin "object.__setattr__") ⟨[.ref x, .str fn k, u], []⟩) R ⟨hp, g, d, t, os⟩ := by
  have it : PySem.W.InstAt hp x { cls := .ref C, data := .fields fv } C none := ⟨at0, rfl, rfl, trivial⟩
  have st := F.store_object
  have xs : hp.objs.size ≠ x := fun e => Nat.lt_irrefl _ (by have := Heap.lt_size at0; rwa [← e] at this)
  have isO : PySem.W.Looks (model prog w) hp (isInstance (.ref x) (.type "object")) true :=
    it.type.andThen (PySem.W.looks_mroIn kin (by unfold PySem.W.mroIn; rw [cin, Option.bind_some, mo.ne, mo.ob]; rfl))
  have l1 : PySem.W.Looks (model prog w) hp (mroOf (.ref C)) cd.mro := (PySem.W.looks_clsIn kin cin).andThen .now
  have l2 : PySem.W.Looks (model prog w) hp (storeTaker? none) none := .now
  have l3 : PySem.W.Looks (model prog w) hp (classData C) cd := PySem.W.looks_clsIn kin cin
  refine codeAny_call_builtin st.slot.plain st.entry (@PySem.W.check_slot (model prog w) _ _ ⟨hp, g, d, t, os⟩ "object.__setattr__" "object" "__setattr__" (.ref x) [.str fn k, u] [] _ st.kind st.split isO (st.args (.ref x) (.str fn k) u) ?_)
  rw [PySem.W.osa_eq, refuse_eq]
  refine wpAny_bind (wpAny_bind (it.type.at (wpAny_bind (l1.at ?_)))); rw [mo.ps]
  refine wpAny_pure (wpAny_bind (it.type.at (wpAny_bind ((PySem.W.looks_findIn kin no).at (wpAny_bind (l2.at ?_))))))
  show wpAny _ _ (storeInOwnDict (.ref x) (.ref C) (.str fn k) fn u false) _ _ _
  obtain ⟨c1, c2, c3, c4, c5, c6, c7, c8, c9, c10, c11⟩ := cd
  dsimp only at dict; subst dict
  unfold storeInOwnDict ownDictForStores; repeat (first | with_reducible refine PySem.HandSPX.store_in_new ?_ ?_ | with_reducible refine wpAny_loadPart_at at0 ?_ | with_reducible refine l3.at ?_ | wp_step)
  · exact ⟨_, #[], _, (Heap.get?_update_ne _ _ _ _ xs).trans (Heap.get?_push_at rfl rfl), rfl, fun _ z => absurd z (by simp), fun _ => rfl⟩
  · intro h1 k1 n1 sm
    have at1 : (hp.push { cls := .type "dict", data := .dict #[] }).get? x = some { cls := .ref C, data := .fields fv } := Heap.get?_push_of_some _ at0
    exact h h1 k1 hp.objs.size (fun b o nb e => (sm.2 b (Nat.ne_of_lt (Heap.lt_size e))).trans ((Heap.get?_update_ne _ _ _ _ nb).trans (Heap.get?_push_of_some _ e))) (Nat.le_refl _) xs
      ((sm.2 x xs.symm).trans (Heap.get?_update_self _ at1 rfl)) n1
/-- a further one -/
theorem osa_nxt {K : PySem.W.Frag} {x C dx : Addr} {fn : Str} {u : Value} {k : Tok} {fv : Array Value} {cd : ClassData} {m0 : Str → Option Value} {nl : List Str} (kin : K.In hp) (at0 : hp.get? x = some { cls := .ref C, dict := some dx, data := .fields fv })
    (ns : hp.Ns1 dx m0) (wi : Within m0 nl) (z : nl.length ≤ 1000) (cin : PySem.W.clsIn K C = some cd) (mo : MroOk cd.mro) (dict : cd.hasDict = true) (no : PySem.W.findIn K (.ref C) fn = some none)
    (h : ∀ h1 k1, (∀ b o, b ≠ dx → hp.get? b = some o → h1.get? b = some o) → h1.Ns1 dx (fun y => if y = fn then some u else m0 y) → R (.ok (.ret .none)) ⟨h1, g, d, k1, os⟩) :
    codeAny (model prog w) A (.call (.builtin "object.__setattr__") ⟨[.ref x, .str fn k, u], []⟩) R ⟨hp, g, d, t, os⟩ := by
  obtain ⟨od, _, _, hod, _, _⟩ := ns.count wi
  have it : PySem.W.InstAt hp x { cls := .ref C, dict := some dx, data := .fields fv } C (some od) := ⟨at0, rfl, rfl, hod⟩
  have st := F.store_object
  have isO : PySem.W.Looks (model prog w) hp (isInstance (.ref x) (.type "object")) true :=
    it.type.andThen (PySem.W.looks_mroIn kin (by unfold PySem.W.mroIn; rw [cin, Option.bind_some, mo.ne, mo.ob]; rfl))
  have l1 : PySem.W.Looks (model prog w) hp (mroOf (.ref C)) cd.mro := (PySem.W.looks_clsIn kin cin).andThen .now
  have l2 : PySem.W.Looks (model prog w) hp (storeTaker? none) none := .now
  have l3 : PySem.W.Looks (model prog w) hp (classData C) cd := PySem.W.looks_clsIn kin cin
  refine codeAny_call_builtin st.slot.plain st.entry (@PySem.W.check_slot (model prog w) _ _ ⟨hp, g, d, t, os⟩ "object.__setattr__" "object" "__setattr__" (.ref x) [.str fn k, u] [] _ st.kind st.split isO (st.args (.ref x) (.str fn k) u) ?_)
  rw [PySem.W.osa_eq, refuse_eq]
  refine wpAny_bind (wpAny_bind (it.type.at (wpAny_bind (l1.at ?_)))); rw [mo.ps]
  refine wpAny_pure (wpAny_bind (it.type.at (wpAny_bind ((PySem.W.looks_findIn kin no).at (wpAny_bind (l2.at ?_))))))
  show wpAny _ _ (storeInOwnDict (.ref x) (.ref C) (.str fn k) fn u false) _ _ _
  obtain ⟨c1, c2, c3, c4, c5, c6, c7, c8, c9, c10, c11⟩ := cd
  dsimp only at dict; subst dict
  unfold storeInOwnDict ownDictForStores; repeat (first | with_reducible refine PySem.OEX.store_in_old ns wi z ?_ | with_reducible refine wpAny_loadPart_at at0 ?_ | with_reducible refine l3.at ?_ | wp_step)
  exact fun h1 k1 n1 sm => h h1 k1 (fun b o nb e => (sm.2 b nb).trans e) n1
end
end DL

/-! own exceptions with an __init__ of their own: what is told of their making -/
namespace DL
open PySem PySem.Spec PyProof.Rows L2
structure OexB (K : PySem.W.Frag) (C : Addr) (newId : String) (bm : List Value) : Prop where
  cls : ∃ nm q N bs sn sub ab col dd k0 k1 k2 k3 k5, K.lookup C = some (excClassObj nm q C N bs bm true sn sub ab col dd k0 k1 k2 k3 k5 newId)
  sa : PySem.W.findIn K (.ref C) ("__setattr__" : Str) = some (some (.builtin "object.__setattr__"))
  up : PySem.W.subIn K (.ref C) (.type "BaseException") = some true
  ty : PySem.W.typeIn K (.ref C) = some (.type "type")
  kp : PySem.W.keepIn K (.ref C) = true
theorem OexB.cd {K : PySem.W.Frag} {C : Addr} {newId : String} {bm : List Value} (T : OexB K C newId bm) : ∃ cd, PySem.W.clsIn K C = some cd ∧ cd.mro = .ref C :: bm ∧ cd.hasDict = true := by
  obtain ⟨nm, q, N, bs, sn, sub, ab, col, dd, k0, k1, k2, k3, k5, e⟩ := T.cls
  refine ⟨{ name := nm, bases := bs, mro := .ref C :: bm, ns := N, qualname := q, hasDict := true, slotNames := sn, subclasses := sub, abstract := ab, collection := col, hasDel := false }, ?_, rfl, rfl⟩
  unfold PySem.W.clsIn
  rw [e] <;> rfl
section
variable {X : Cx} {pins : List (Addr × Obj)} {σ : L2.St} {H : Hp} {s : Shared} {a C dx : Addr} {f : Str} {y : V} {u : Value} {fs : List (Str × V)} {Q : Unit → Shared → Prop} {E : Value → Shared → Prop} {Ar : Around} {B newId initId : String} {bm : List Value}
theorem fld_fst (Bk : BaseOk B newId initId bm) (T : OexB X.K C newId bm) (I : L2.Inv X pins σ H s) (e : H a = some (exo a C none)) (no : PySem.W.findIn X.K (.ref C) f = some none) (ry : RelV y u)
    (h : ∀ d s', H d = none → d ≠ a → L2.Inv X pins σ (upd (upd H d (exd d [(f, y)])) a (exo a C (some d))) s' → Q () s') : wpAny (model X.prog X.w) Ar (setAttr (.ref a) f u) Q E s := by
  obtain ⟨cd, cin, mro, dict⟩ := T.cd
  obtain ⟨t1, he⟩ := exo_at I.hok e
  obtain ⟨hp, gs, dr, tk, os⟩ := s
  refine PySem.W.set_plain I.kIn (ox := { cls := .ref C, dict := none, data := .fields #[.ref t1, .none, .none, .none, .bool false, .none] }) (od := none) ⟨he, rfl, rfl, trivial⟩ T.sa
    (osa_fst I.kIn he cin (by rw [mro]; exact Bk.M C) dict no fun h1 k1 d kp ge ne ha hn => ?_)
  have hd : H d = none := I.hok.fresh ge
  have old : ∀ {b : Addr} {o : Obj}, hp.get? b = some o → b ≠ d := fun {b o} z => Nat.ne_of_lt (Nat.lt_of_lt_of_le (Heap.lt_size z) ge)
  have off : ∀ {b : Addr}, H b = none → b ≠ a := fun {b} n z => by rw [z, e] at n; cases n
  have put : ∀ {b : Addr} {o : HO}, b ≠ a → b ≠ d → H b = some o → (upd (upd H d (exd d [(f, y)])) a (exo a C (some d))) b = some o := fun {b o} n1 n2 z => by rw [upd_ne n1, upd_ne n2]; exact z
  have U : Un X.fs [] H (upd (upd H d (exd d [(f, y)])) a (exo a C (some d))) hp h1 := by
    refine ⟨fun b o z n _ _ => kp b o (off n) z, fun b o z n _ _ => ⟨o.slots, kp b o (off n) z⟩, fun b o z n _ => ?_, fun b o z _ => ?_, fun b xs z => put (at_ne e z exo_tup) (ne_of_none z hd) z, fun b o v z => put (at_ne e z exo_frz) (ne_of_none z hd) z, fun b ps z => ⟨#[], ?_⟩⟩
    · rw [upd_ne (off n), upd_ne (old z)]; exact n
    · by_cases c : b = a
      · exact ⟨_, c ▸ ha⟩
      · exact ⟨o, kp b o c z⟩
    · rw [put (at_ne e z exo_tbl) (ne_of_none z hd) z]; simp
  refine h d _ hd ne (I.un (t' := k1) U fun b o z => ?_)
  by_cases c : b = a
  · subst c
    rw [upd_same] at z; cases z
    exact exo_ok ha
  · rw [upd_ne c] at z
    by_cases c2 : b = d
    · subst c2
      rw [upd_same] at z; cases z
      exact exd_ok hn (relO_put (fs := []) ry fun _ => True.intro)
    · rw [upd_ne c2] at z
      refine (I.hok b o z).stay (fun q v hq w => kp q v ?_ w) (fun q hq => put (at_ne e hq exo_own) (ne_of_none hq hd) hq) (fun q xs hq => put (at_ne e hq exo_tup) (ne_of_none hq hd) hq)
      rcases hq with hq | hq
      · exact hq ▸ c
      · exact at_ne e hq exo_own
theorem fld_nxt (Bk : BaseOk B newId initId bm) (T : OexB X.K C newId bm) (I : L2.Inv X pins σ H s) (e : H a = some (exo a C (some dx))) (ed : H dx = some (exd dx fs)) (z : fs.length ≤ 900) (no : PySem.W.findIn X.K (.ref C) f = some none) (ry : RelV y u)
    (h : ∀ s', L2.Inv X pins σ (upd H dx (exd dx ((f, y) :: fs))) s' → Q () s') : wpAny (model X.prog X.w) Ar (setAttr (.ref a) f u) Q E s := by
  obtain ⟨cd, cin, mro, dict⟩ := T.cd
  obtain ⟨t1, he⟩ := exo_at I.hok e
  obtain ⟨mA, ns, rel⟩ := exd_at I.hok ed
  have wi := within_of rel
  obtain ⟨hp, gs, dr, tk, os⟩ := s
  obtain ⟨od, _, _, hod, _, _⟩ := ns.count wi
  refine PySem.W.set_plain I.kIn (ox := { cls := .ref C, dict := some dx, data := .fields #[.ref t1, .none, .none, .none, .bool false, .none] }) (od := some od) ⟨he, rfl, rfl, hod⟩ T.sa
    (osa_nxt I.kIn he ns wi (by rw [List.length_map]; omega) cin (by rw [mro]; exact Bk.M C) dict no fun h1 k1 kp hn => ?_)
  have there : ∃ o, h1.get? dx = some o := let ⟨o, _, _, q, _⟩ := hn; ⟨o, q⟩
  exact h _ (I.write (t' := k1) (x := dx) (e := dx) (o := exd dx ((f, y) :: fs)) (by rw [ed]; exact True.intro) (.inl rfl) kp there (exd_ok hn (relO_put ry rel)))
/-- the base's own __init__: nothing of it is told -/
theorem ini_ok {us : List Value} {Q : Value → Shared → Prop} (Bk : BaseOk B newId initId bm) (T : OexB X.K C newId bm) (I : L2.Inv X pins σ H s) (e : H a = some (exo a C none)) (z : us.length ≤ sizeLine) (h : ∀ s', L2.Inv X pins σ H s' → Q .none s') :
    wpAny (model X.prog X.w) Ar (call (.builtin initId) (.ref a :: us)) Q E s := by
  obtain ⟨nm, q, N, bs, sn, sub, ab, col, dd, k0, k1, k2, k3, k5, hC⟩ := T.cls
  obtain ⟨t1, he⟩ := exo_at I.hok e
  obtain ⟨hp, gs, dr, tk, os⟩ := s
  refine wpAny_call (PySem.HandSPX.init_base Bk.F (fun _ => rfl) (I.kIn _ _ hC) he z fun h1 t2 kp ha => ?_)
  have J := I.write (t' := tk) (x := a) (e := a) (o := exo a C none) (by rw [e]; exact True.intro) (.inl rfl) kp ⟨_, ha⟩ (exo_ok ha)
  have same : upd H a (exo a C none) = H := funext fun b => by
    by_cases c : b = a
    · rw [c, upd_same, e]
    · exact upd_ne c
  rw [same] at J
  exact h _ J
end
end DL

/-! own exceptions with an __init__ of their own: readings, rules -/
namespace DL
open PySem PySem.Spec PyProof.Rows L2
/-- what a class of Python's is found to be, by its name -/
structure BaseN (K : PySem.W.Frag) (mg : Str → Option Value) (Bn : Str) (B initId : String) : Prop where
  bt : bootBuiltins Bn = some (.type B)
  n1 : Bn ≠ "__name__"
  n2 : (Bn == ("__debug__" : Str)) = false
  ty : typeOf (.type B) = pure (.type "type")
  sb : Manifest.isStub B = false
  hi : PySem.W.handedIn (.builtin initId) = true
  fi : PySem.W.findCls K (.type B) (.type "type") "__init__" = some (.val (.builtin initId))
  ng : mg Bn = none
/-- B.__init__(self, ..) -/
def tIni (K : PySem.W.Frag) (newId : String) (bm : List Value) (ta : TA) : TE := fun σ H Q => ta σ H fun vs H1 => ∃ (a C : Addr) (ws : List V), vs = .ref a :: ws ∧ ws.length ≤ 1000 ∧ OexB K C newId bm ∧ H1 a = some (exo a C none) ∧ Q .non H1
/-- self.f = e -/
def tFldX (K : PySem.W.Frag) (newId : String) (bm : List Value) (f : Str) (to te : TE) : TS := fun D σ H => te σ H fun y H1 => to σ H1 fun x H2 => ∃ a C : Addr, x = .ref a ∧ OexB K C newId bm ∧ PySem.W.findIn K (.ref C) f = some none ∧
  ((H2 a = some (exo a C none) ∧ ∀ d, H2 d = none → d ≠ a → D.nx σ (upd (upd H2 d (exd d [(f, y)])) a (exo a C (some d)))) ∨
    ∃ (d : Addr) (fs : List (Str × V)), H2 a = some (exo a C (some d)) ∧ H2 d = some (exd d fs) ∧ fs.length ≤ 900 ∧ D.nx σ (upd H2 d (exd d ((f, y) :: fs))))
section
variable {X : Cx} {o e : Expr} {es : List Expr} {to te : TE} {ta : TA} {f Bn : Str} {p p' p1 p2 pos : Pos} {B newId initId : String} {bm : List Value}
theorem pe_ini {pl : Sem Bool} (Bk : BaseOk B newId initId bm) (N : BaseN X.K X.mg Bn B initId) (hg : Gl X Bn) (ha : PA X (e :: es) ta)
    (hc : eval (.Call (.Attribute (.Name Bn p1) "__init__" p2) (e :: es) [] pos) X.env = (do
      let cv ← eval (.Name Bn p1) X.env
      standAt p2.atName
      let (g, fst) ← holding [cv] (getMethod cv "__init__" pl)
      callWith pos g fst (backTo pos (starEach (e :: es) X.env)) (backToKw pos (keywordEach [] X.env))) := by rfl)
    (h1 : starEach (e :: es) X.env = (false, eval e X.env) :: starEach es X.env := by rfl) (h2 : (backTo pos (starEach es X.env)).any (·.1) = false := by rfl) :
    PE X (.Call (.Attribute (.Name Bn p1) "__init__" p2) (e :: es) [] pos) (tIni X.K newId bm ta) := by
  constructor
  intro pins s σ H Q I h
  refine PySem.W.methodCall_KW (ld_blt I hg N.ng N.bt ?_ N.n1 N.n2) hc
  obtain ⟨m, fr⟩ := I.fr
  refine PySem.W.method_type fr I.ok.mod.kin N.ty N.sb N.fi N.hi ?_
  show wpAny _ _ (callWith pos (Value.builtin initId) [] (backTo pos (starEach (e :: es) X.env)) []) _ _ _
  refine PyProof.Rows.callWith_method1 (thn (ha.run pos pins _ σ H _ (I.tok _) h) fun us s1 r => ?_) h1 h2
  obtain ⟨vs, H1, I1, r1, a, C, ws, rfl, z, T, ea, q⟩ := r
  cases r1 with
  | @cons _ u0 _ ur ra rest =>
    obtain rfl : u0 = Value.ref a := ra; refine ini_ok Bk T I1 ea ?_ fun s2 J => ⟨.non, H1, J, rfl, q⟩
    rw [← Paired.length rest, sizeLine_eq]; omega
theorem ps_fldX (Bk : BaseOk B newId initId bm) (ho : PE X o to) (he : PE X e te) (hs : swapsWith e (some (.Attribute o f p')) pos.line X.env = pure false := by rfl) : PS X (.Assign [.Attribute o f p'] e pos) (tFldX X.K newId bm f to te) := by
  constructor
  intro pins s σ H D I h
  refine plainObj_wpAny_Assign_Attribute (thn (he.run pins s σ H _ I h) fun v s1 r1 => ?_) hs
  obtain ⟨y, H1, I1, ry, q1⟩ := r1
  refine thn (ho.run pins s1 σ H1 _ I1 q1) fun u s2 r2 => ?_
  obtain ⟨x, H2, I2, rx, a, C, rfl, T, no, q⟩ := r2
  obtain rfl : u = Value.ref a := rx; rcases q with ⟨ea, q⟩ | ⟨d, fs, ea, ed, z, q⟩
  · exact fld_fst Bk T I2 ea no ry fun d s3 n ne J => ⟨σ, _, J, q d n ne⟩
  · exact fld_nxt Bk T I2 ea ed z no ry fun s3 J => ⟨σ, _, J, q⟩
/-- C(e, ..) -/
theorem pmk_ini {CX : CXT} {x : Str} {C fI : Addr} {k : Nat} {fd : FuncData} {ps : List Str} {sp : Sp} {ds : List Value} {dvs : List V} (Bk : BaseOk B newId initId bm) (T : OexB X.K C newId bm) (iC : PySem.W.findIn X.K (.ref C) "__init__" = some (some (.ref fI))) (tI : PySem.W.typeIn X.K (.ref fI) = some (.type "function"))
    (hr : Room (k + 1) X.A) (F1 : FnOk X.prog X.w X.K X.mg X.base CX k fI fd ps sp) (hb : Binds X.K fd ps ds) (hd : Vals dvs ds) (hx : Passes CX X (fun _ _ _ => False)) (hg : Gl X x) (hm : X.mg x = some (.ref C)) (ha : PA X (e :: es) ta)
    (n2 : (x == ("__debug__" : Str)) = false := by decide) (h1 : starEach (e :: es) X.env = (false, eval e X.env) :: starEach es X.env := by rfl) (h2 : (backTo pos (starEach es X.env)).any (·.1) = false := by rfl) :
    PMk X (.Call (.Name x p) (e :: es) [] pos) (tMkO C sp dvs ta) := by
  intro pins s σ H Q I h
  obtain ⟨nm, q, N, bs, sn, sub, ab, col, dd, k0, k1, k2, k3, k5, hC⟩ := T.cls
  refine wpAny_Call_Name_kw (ld_glob I hg hm ?_ n2)
  refine PySem.W.callWith_K (h₀ := X.base) I.ok.mod.kin T.kp (thn (ha.run pos pins s σ H _ I h) fun us s1 r => ?_) h1 h2
  obtain ⟨vs, H1, I1, r1, z, q1⟩ := r
  refine ⟨I1.kIn, ?_⟩
  show wpAny _ _ (call (.ref C) us) _ _ _; obtain ⟨hp, g, dr, tk, os⟩ := s1
  have ge : hp.objs.size ≤ hp.objs.size + 1 := Nat.le_succ _
  have q2 := q1 (hp.objs.size + 1) (I1.hok.fresh ge)
  have kp : ∀ b o, hp.get? b = some o → ((hp.push (PySem.W.kdv_tup us)).push (PySem.HandSPX.excO C hp.objs.size)).get? b = some o := fun b o w => Heap.get?_push_of_some _ (Heap.get?_push_of_some _ w)
  have here : ((hp.push (PySem.W.kdv_tup us)).push (PySem.HandSPX.excO C hp.objs.size)).get? (hp.objs.size + 1) = some (PySem.HandSPX.excO C hp.objs.size) := by heap_get
  have I2 : L2.Inv X pins σ (upd H1 (hp.objs.size + 1) (exo (hp.objs.size + 1) C none)) ⟨(hp.push (PySem.W.kdv_tup us)).push (PySem.HandSPX.excO C hp.objs.size), g, dr, tk, os⟩ :=
    I1.laid (t' := tk) (a := hp.objs.size + 1) (o := exo (hp.objs.size + 1) C none) (h' := (hp.push (PySem.W.kdv_tup us)).push (PySem.HandSPX.excO C hp.objs.size)) kp ge (exo_ok here)
  have rv : Vals (V.ref (hp.objs.size + 1) :: (vs ++ dvs)) (Value.ref (hp.objs.size + 1) :: (us ++ ds)) := .cons rfl (r1.append hd)
  have len : (Value.ref (hp.objs.size + 1) :: us ++ ds).length = ps.length := (F1.len _ _ _ _ q2).symm ▸ rv.length.symm
  have fit : us.length ≤ sizeLine := by rw [← Paired.length r1, sizeLine_eq]; omega
  refine wpAny_call (PySem.HandSPX.call_own Bk.F (fun _ => rfl) (I1.kIn _ _ hC) (PySem.W.looks_findIn I1.kIn iC) (fun self => PySem.W.bind_fn I1.kIn self tI) fit ?_)
  refine codeAny_mono (F1.run _ X.stack _ _ ⟨Value.ref (hp.objs.size + 1) :: us, []⟩ (Value.ref (hp.objs.size + 1) :: (us ++ ds)) _ _ (fun _ _ _ => False) (hr.make C us []) (I2.env0.make C us []) (hb _ (Value.ref (hp.objs.size + 1) :: us) I2.kIn len) rv q2) fun r s3 w => ?_
  cases r with
  | error er => exact hx pins σ _ _ er s3 I2 w
  | ok fl =>
    cases fl with
    | ret u =>
      obtain ⟨v, H2, os2, bare, un, hok, rr, rfl, d, fs, ea, ed, dn, q3⟩ := w
      obtain ⟨h3, g3, d3, t3, os3⟩ := s3
      exact ⟨rr, mk_end (raises_own T.up T.ty) I1 ge kp un hok os2 bare ea ed dn q3⟩
    | next => exact w.elim
    | brk => exact w.elim
    | cont => exact w.elim
end
end DL

/-! a raise of an own exception whose __init__ takes one thing and a trail -/
namespace DL
open PySem PySem.Spec PyProof.Rows L2
/-- {x}: a text, an int or None -/
def tFmtN (te : TE) : TE := fun σ H Q => te σ H fun x H1 => (x = .non ∧ Q (.str "None") H1) ∨ (∃ y : Str, x = .str y ∧ y.length ≤ sizeLine ∧ Q (.str y) H1) ∨ ∃ i : Int, x = .int i ∧ i.natAbs.log2 < 1920 ∧ Q (.str (toString i)) H1
theorem pe_fmtN {X : Cx} {e : Expr} {te : TE} {pos : Pos} (he : PE X e te) : PE X (.FormattedValue e (-1) none pos) (tFmtN te) := by
  constructor
  intro pins s σ H Q I h
  refine wpAny_FormattedValue_plain (thn (he.run pins s σ H _ I h) fun v s1 r => ?_)
  obtain ⟨x, H1, I1, r1, q⟩ := r
  rcases q with ⟨rfl, q⟩ | ⟨y, rfl, hz, q⟩ | ⟨i, rfl, hz, q⟩
  · cases r1
    exact wpAny_formatField_none ⟨.str "None", H1, I1.tok _, ⟨_, rfl⟩, q⟩
  · obtain ⟨t, rfl⟩ := r1; exact wpAny_formatField_str ⟨.str y, H1, I1, ⟨t, rfl⟩, q⟩ ⟨.str y, H1, I1.tok _, ⟨_, rfl⟩, q⟩ hz
  · obtain ⟨t, rfl⟩ := r1; exact wpAny_formatField_int hz ⟨.str (toString i), H1, I1.tok _, ⟨_, rfl⟩, q⟩
/-- what may stand in the message -/
def okF (pre : Str) (v : V) : Prop := (v = .non ∧ (Str.empty ++ pre ++ "None").length ≤ sizeLine) ∨ (∃ y : Str, v = .str y ∧ y.length ≤ sizeLine ∧ (Str.empty ++ pre ++ y).length ≤ sizeLine) ∨ ∃ i : Int, v = .int i ∧ i.natAbs.log2 < 1920 ∧ (Str.empty ++ pre ++ toString i).length ≤ sizeLine
/-- what such an __init__ keeps -/
def spI (K : PySem.W.Frag) (newId : String) (bm : List Value) (pre f : Str) : Sp := fun vs H Q _ => ∃ (a C : Addr) (y t : V), vs = [.ref a, y, t] ∧ okF pre y ∧ OexB K C newId bm ∧ PySem.W.findIn K (.ref C) f = some none ∧ PySem.W.findIn K (.ref C) "trail" = some none ∧ H a = some (exo a C none) ∧
  ∀ d, H d = none → d ≠ a → Q .non (upd (upd (upd H d (exd d [(f, y)])) a (exo a C (some d))) d (exd d [("trail", t), (f, y)]))
/-- the reading of its body -/
def tIniB (K : PySem.W.Frag) (newId : String) (bm : List Value) (pre f : Str) : TS :=
  tSeq (tDrop (tIni K newId bm (tCons (tVar 0) (tCons (fun σ H Q => tJs [tC (.str pre), tFmtN (tVar 1)] Str.empty σ H fun out H1 => Q (.str out) H1) tNil)))) (tSeq (tFldX K newId bm f (tVar 0) (tVar 1)) (tFldX K newId bm "trail" (tVar 0) (tVar 2)))
theorem ini_post {K : PySem.W.Frag} {newId : String} {bm : List Value} {pre f : Str} {vs : List V} {H : Hp} {Q : VK} {E : XK} {N : List Str} (h0 : (Str.empty ++ pre).length ≤ sizeLine) (h : spI K newId bm pre f vs H Q E) : tIniB K newId bm pre f { nx := fun _ H' => Q .non H', rt := Q } (start N vs) H := by
  obtain ⟨a, C, y, t, rfl, ok, T, n1, n2, ea, q⟩ := h
  have g0 : (start N [.ref a, y, t])[0]? = some (some (.ref a)) := rfl
  have g1 : (start N [.ref a, y, t])[1]? = some (some y) := rfl
  have g2 : (start N [.ref a, y, t])[2]? = some (some t) := rfl
  refine ⟨_, g0, _, rfl, h0, y, g1, ?_⟩
  have go : ∀ out : Str, (∃ (a' C' : Addr) (ws : List V), [V.ref a, .str out] = .ref a' :: ws ∧ ws.length ≤ 1000 ∧ OexB K C' newId bm ∧ H a' = some (exo a' C' none) ∧
      (tSeq (tFldX K newId bm f (tVar 0) (tVar 1)) (tFldX K newId bm "trail" (tVar 0) (tVar 2))) { nx := fun _ H' => Q .non H', rt := Q } (start N [.ref a, y, t]) H) := fun out => by
    refine ⟨a, C, [.str out], rfl, by simp, T, ea, y, g1, _, g0, a, C, rfl, T, n1, .inl ⟨ea, fun d hd ne => ?_⟩⟩
    refine ⟨t, g2, _, g0, a, C, rfl, T, n2, .inr ⟨d, [(f, y)], upd_same, ?_, by simp, q d hd ne⟩⟩
    rw [upd_ne ne, upd_same]
  rcases ok with ⟨rfl, z⟩ | ⟨x, rfl, z1, z⟩ | ⟨i, rfl, z1, z⟩
  · exact .inl ⟨rfl, _, rfl, z, go _⟩
  · exact .inr (.inl ⟨x, rfl, z1, _, rfl, z, go _⟩)
  · exact .inr (.inr ⟨i, rfl, z1, _, rfl, z, go _⟩)
end DL

/-! the data layer's raise of an own exception with an __init__ of its own -/
namespace DL
open PySem PySem.Spec PyProof.Rows L2
def okD (pre : Str) : D → Bool
  | .non => decide ((Str.empty ++ pre ++ "None").length ≤ sizeLine)
  | .str y => decide (y.length ≤ sizeLine) && decide ((Str.empty ++ pre ++ y).length ≤ sizeLine)
  | .int i => decide (i.natAbs.log2 < 1920) && decide ((Str.empty ++ pre ++ toString i).length ≤ sizeLine)
  | _ => false
theorem okD_ok {A : Amb} {z : Z} {H : Hp} {pre : Str} {v : V} {d : D} (r : Rep A z H v d) (h : okD pre d = true) : okF pre v := by
  cases r <;> simp only [okD, Bool.and_eq_true, decide_eq_true_eq, Bool.false_eq_true] at h
  · exact .inl ⟨rfl, h⟩
  · exact .inr (.inr ⟨_, rfl, h⟩)
  · exact .inr (.inl ⟨_, rfl, h⟩)
def sRaiseI (C : Addr) (pre f : Str) (fe : Env → M → R D) : Env → M → S := fun env m => (fe env m).to env fun d m => if okD pre d = true then .ex ⟨.ref C, some [("trail", .tup []), (f, d)]⟩ env m else .no
section
variable {A : Amb} {W : WX} {te : TE} {fe : Env → M → R D} {C T : Addr} {newId : String} {bm : List Value} {pre f : Str}
theorem made_at {H H1 : Hp} {a d : Addr} {o1 o2 o3 o4 : HO} {o5 : HO} (ha : H a = none) (hd : H d = none) (ne : d ≠ a) (e : H1 = upd (upd (upd (upd H a o1) d o2) a o3) d o4) : upd (L2.del H1 a) d o5 = upd H d o5 := by
  subst e
  funext b
  by_cases c : b = d
  · rw [c, upd_same, upd_same]
  · rw [upd_ne c, upd_ne c]
    by_cases c2 : b = a
    · rw [c2, L2.del_same, ha]
    · rw [L2.del_ne c2, upd_ne c, upd_ne c2, upd_ne c, upd_ne c2]
theorem dens_raiseI (he : Den A (WE W) te fe) (O : OexB A.K C newId bm) (n1 : PySem.W.findIn A.K (.ref C) f = some none) (n2 : PySem.W.findIn A.K (.ref C) "trail" = some none) (tT : WrT A.K T []) :
    DenS A (WE W) (fun _ σ H => tMkO C (spI A.K newId bm pre f) [.ref T] (tCons te tNil) σ H fun cls d H1 => W cls d σ H1) (sRaiseI C pre f fe) := by
  intro z H σ env m E hm hs h
  refine he z H σ env m _ hm hs (post_to hs h fun z1 H1 d m1 v s1 hm1 hs1 hv h1 => ?_)
  by_cases hc : okD pre d = true
  · rw [if_pos hc] at h1
    refine ⟨by simp, fun a ha => ⟨a, C, v, .ref T, rfl, okD_ok hv hc, O, n1, n2, upd_same, fun x hx ne => ⟨rfl, x, _, ?_, upd_same, ?_, ?_⟩⟩⟩
    · rw [upd_ne (Ne.symm ne), upd_same]
    · rwa [upd_ne ne] at hx
    · rw [upd_ne ne] at hx
      rw [made_at ha hx ne rfl]
      have st : Step z1 H1 z1 (upd H1 x (.xd [("trail", .ref T), (f, v)])) := Step.lay hm1 hx
      exact h1 z1 σ (some x) _ st (hm1.lay hx) (hs1.step st) ⟨x, _, rfl, upd_same, hm1.fresh hx, .cons (.tup (.inr tT) .nil) (.cons (hv.step st) .nil)⟩
  · rw [if_neg hc] at h1
    exact h1.elim
end
end DL

/-! try: .. except (A, B) as e, the error told of behind -/
namespace DL
open PySem PySem.Spec PyProof.Rows L2
def wKpC (dec : Value → Option Bool) (i : Nat) (ts : Addr → TS) (Wo : WX) (D : Ends) : WX := fun cls d σ H => ∃ b, dec cls = some b ∧ (b = false → Wo cls d σ H) ∧
  (b = true → ∀ a, H a = none → ts a { nx := fun τ G => D.nx (τ.set i none) G, ct := fun τ G => D.ct (τ.set i none) G, bk := fun τ G => D.bk (τ.set i none) G, rt := D.rt } (σ.set i (some (.ref a))) (upd H a (ExK cls d a)))
theorem fly_keep {B h h' : Heap} {l : List PySem.Env} {a : Addr} {Z : Obj → Prop} (x : HandSPX.FlyingZ B l a Z h) (k : ∀ b o, h.get? b = some o → h'.get? b = some o) : HandSPX.FlyingZ B l a Z h' := by
  obtain ⟨f1, f2, f3, oe, vs, T, oT, ts, h1, h2, h3, h4, h5, h6, h7, h8, h9⟩ := x
  exact ⟨fun b o e => k b o (f1 b o e), f2, f3.of_keeps fun b o e _ => ⟨o, k b o e, rfl⟩, oe, vs, T, oT, ts, k _ _ h1, h2, h3, h4, h5, h6, k _ _ h7, h8, h9⟩
/-- a clause that decides by the error's class -/
def Clause (X : Cx) (ce : Expr) (dec : Value → Option Bool) : Prop := ∀ {a : Addr} {pn pins : List (Addr × Obj)} {τ : L2.St} {G : Hp} {s : Shared} {cls : Value} {b : Bool} {Q : Bool → Shared → Prop} {E : Value → Shared → Prop}, L2.Inv (X.suite a pn) pins τ G s →
  PySem.W.Looks (model X.prog X.w) s.heap (typeOf (.ref a)) cls → dec cls = some b → (∀ h', (∀ q o, s.heap.get? q = some o → h'.get? q = some o) → Q b { s with heap := h' }) →
  wpAny (model X.prog X.w) (X.A.mark (some (.ref a))) (eval ce X.env) (fun c s1 => wpAny (model X.prog X.w) (X.A.mark (some (.ref a))) (excMatches (.ref a) c) Q E s1) E s
section
variable {X : Cx} {x1 x2 x3 : Str} {c1 c2 c3 : Value} {p1 p2 p3 tp : Pos} {kk : Nat}
theorem named_at {X : Cx} {x : Str} {c : Value} {p : Pos} (hc : Names X x c) {a : Addr} {pn pins : List (Addr × Obj)} {τ : L2.St} {G : Hp} {s : Shared} {Q : Value → Shared → Prop} {E : Value → Shared → Prop} (I : L2.Inv (X.suite a pn) pins τ G s) (q : Q c s) :
    wpAny (model X.prog X.w) (X.A.mark (some (.ref a))) (eval (.Name x p) X.env) Q E s := by
  rcases hc with ⟨g1, g2, g3 | ⟨g3, g4, g5⟩⟩
  · exact ld_glob (X := X.suite a pn) I g1 g3 q g2
  · exact ld_blt (X := X.suite a pn) I g1 g3 g4 q g5 g2
theorem clause2 (n1 : Names X x1 c1) (n2 : Names X x2 c2) : Clause X (.Tuple [.Name x1 p1, .Name x2 p2] kk tp) (fun cls => PySem.W.exmAny X.K cls [c1, c2]) := by
  intro a pn pins τ G s cls b Q E I lt hb h
  refine wpAny_Tuple (wpAny_items_cons (named_at n1 I (wpAny_items_cons (named_at n2 I (wpAny_items_nil ⟨by size_fits, ?_⟩)))))
  have kp : ∀ q o, s.heap.get? q = some o → (s.heap.push { cls := .type "tuple", data := .seq [c1, c2].toArray }).get? q = some o := fun q o e => Heap.get?_push_of_some _ e
  exact (PySem.W.exm_tup2 (I.kIn.keeps kp) (lt.keeps kp) (Heap.get?_push_size s.heap rfl) hb).here (h _ kp)
theorem clause3 (n1 : Names X x1 c1) (n2 : Names X x2 c2) (n3 : Names X x3 c3) : Clause X (.Tuple [.Name x1 p1, .Name x2 p2, .Name x3 p3] kk tp) (fun cls => PySem.W.exmAny X.K cls [c1, c2, c3]) := by
  intro a pn pins τ G s cls b Q E I lt hb h
  refine wpAny_Tuple (wpAny_items_cons (named_at n1 I (wpAny_items_cons (named_at n2 I (wpAny_items_cons (named_at n3 I (wpAny_items_nil ⟨by size_fits, ?_⟩)))))))
  have kp : ∀ q o, s.heap.get? q = some o → (s.heap.push { cls := .type "tuple", data := .seq [c1, c2, c3].toArray }).get? q = some o := fun q o e => Heap.get?_push_of_some _ e
  exact (PySem.W.exm_tup3 (I.kIn.keeps kp) (lt.keeps kp) (Heap.get?_push_size s.heap rfl) hb).here (h _ kp)
end
section
variable {X : Cx} {n : Str} {ce : Expr} {dec : Value → Option Bool} {i : Nat} {body suite : List Stmt} {s1 : Stmt} {pos pos2 : Pos} {tb : WX → TS} {ts : Addr → TS} {Wo : WX}
/-- try: body / except x as n: suite, the error told of in the suite and behind it -/
theorem ps_keepC (hs : X.stack = X.env :: X.outer) (hf : X.env.frame = some X.env.locals) (hx : X.ex = []) (hN : X.N.Nodup) (hi : X.N[i]? = some n) (hln : X.env.kindOf n = some .local) (hc : Clause X ce dec) (tk : Takes X Wo)
    (hb : ∀ (W : WX) (pn : List (Addr × Obj)) (xe : Value → Shared → Prop), PassesOwn (model X.prog X.w) X.A X.env xe → Takes (X.tr pn xe) W → PSs (X.tr pn xe) body (tb W))
    (hsu : ∀ (a : Addr) (pn : List (Addr × Obj)), PSs (X.suite a pn) (s1 :: suite) (ts a)) :
    PS X (.Try body [.ExceptHandler (some ce) (some n) (s1 :: suite) pos2] [] [] pos) (fun D σ H => tb (wKpC dec i ts Wo D) D σ H) := by
  constructor
  intro pins s σ H D I h
  have ok := I.ok
  have fr : X.A.frames = some (X.env :: X.outer) := ok.frames.trans (by rw [hs])
  refine wpAny_Try_except ?_
  refine wpAny_mono ((hb (wKpC dec i ts Wo D) (X.pn ++ pins) _ PassesOwn.looking ?out).run [] s σ H D (I.toTry _) h) (fun f t q => ?thru) (fun _ _ e => e)
  case thru =>
    cases f with
    | ret u => exact let ⟨v, τ, G, J, r, q⟩ := q; ⟨v, τ, G, J.ofTry ok, r, q⟩
    | next => exact let ⟨τ, G, J, q⟩ := q; wpAny_execs_nil ⟨τ, G, J.ofTry ok, q⟩
    | brk => exact let ⟨τ, G, J, q⟩ := q; ⟨τ, G, J.ofTry ok, q⟩
    | cont => exact let ⟨τ, G, J, q⟩ := q; ⟨τ, G, J.ofTry ok, q⟩
  case out =>
    rintro u t ⟨a, B, sI, pins', τ, G, cls, d, rfl, J0, nb, up, sky, na, os, ag, b, hm, hno, hyes⟩
    have J : Inv X pins τ G sI := J0.ofTry ok
    have sky : Sky B (X.env :: X.outer) a (Zc cls d) X.env.locals t.heap := hs ▸ sky
    refine Sky.land Zc.steady fr hf sky fun h1 fl up1 => ?_
    have J1 : Inv X pins τ G { t with heap := h1 } := J.landed nb fl.1 (up.trans up1) os ag
    obtain ⟨o1, w1, e1, z1, d1⟩ := fl.there
    have fl' : HandSPX.FlyingZ B X.stack a (Zc cls d) h1 := hs.symm ▸ fl
    have nf := fly_out (X := X) fl'
    have nL : a ≠ X.env.locals := fun q => nf (by rw [hs]; exact List.mem_filterMap.mpr ⟨X.env, List.mem_cons_self, by rw [hf, q]⟩)
    have nF : a ∉ X.fs := fun q => nf (by
      rw [hs]
      obtain ⟨e, he, r⟩ := List.mem_filterMap.mp q
      exact List.mem_filterMap.mpr ⟨e, List.mem_cons_of_mem _ he, r⟩)
    obtain ⟨n0, np0⟩ := fly_new J hx nb fl.2.1 nf
    have S1 := J1.suite e1 d1 na nL nF
    refine wpAny_handleBy_cons (codeAny_handlers_test ?_) (fun q => nomatch q)
    have lt : PySem.W.Looks (model X.prog X.w) h1 (typeOf (.ref a)) cls := fun A Q E s k q => wpAny_typeOf_ref (k _ _ e1) (z1.1.symm ▸ q)
    refine hc (pn := (a, o1) :: (X.pn ++ pins)) S1 lt hm fun h3 kp => ?_
    have flp := fly_keep fl kp
    have up3 : h1.UpToSlots h3 := Heap.UpToSlots.of_keeps kp
    cases b with
    | true =>
      refine codeAny_handlers_suite_as (HandSPX.lands_againZ flp fun h2 fl2 up2 => ?_)
      have J2 : Inv X pins τ G { t with heap := h2 } := J.landed nb fl2.1 (up.trans (up1.trans (up3.trans up2))) os ag
      obtain ⟨o2, w2, e2, z2, d2⟩ := fl2.there
      have K1 := bare_suite (a := a) (keepE J2 e2 z2 d2 na nL n0 np0)
      refine store_ok (X := X.suite a (X.pn ++ pins)) (v := .ref a) K1 hN hi (.inl hln) rfl (fun s5 K5 => ?_) (.inr hln)
      refine wpAny_mono ((hsu a (X.pn ++ pins)).run [] s5 _ _ _ K5 (hyes rfl a na)) (fun f s6 q => ?_) fun _ _ z => z.elim
      cases f with
      | ret u => exact let ⟨v, τ1, G1, K6, r, q⟩ := q; gone_ok (suite_bare ok K6) hN hi hln fun s7 K7 => ⟨v, _, _, K7, r, q⟩
      | next => exact let ⟨τ1, G1, K6, q⟩ := q; gone_ok (suite_bare ok K6) hN hi hln fun s7 K7 => ⟨_, _, K7, q⟩
      | brk => exact let ⟨τ1, G1, K6, q⟩ := q; gone_ok (suite_bare ok K6) hN hi hln fun s7 K7 => ⟨_, _, K7, q⟩
      | cont => exact let ⟨τ1, G1, K6, q⟩ := q; gone_ok (suite_bare ok K6) hN hi hln fun s7 K7 => ⟨_, _, K7, q⟩
    | false =>
      show wpAny _ X.A (handleBy (.ref a) X.env []) _ _ _
      refine wpAny_handleBy_nil ?_
      obtain ⟨_, _, _, oe, vs, T, oT, tv, he, hz, hd, hT, _⟩ := id flp
      unfold PySem.passOn
      refine wpAny_bind (wpAny_field he hd hT ?_)
      rw [if_neg (by simp)]
      have fin : wpAny (model X.prog X.w) X.A (setFlight (.ref a) X.env.frame) (fun _ t4 => wpAny (model X.prog X.w) X.A (throw (.ref a) : Sem Flow) (SP X pins D) X.xe t4) X.xe { t with heap := h3 } := by
        rw [hf]
        exact HandSPX.setFlight_upZ flp fun h4 held up4 => wpAny_throw (tk _ _ ⟨a, B, sI, pins, τ, G, cls, d, rfl, J, nb, up.trans (up1.trans (up3.trans up4)), .inr (.inr (hs.symm ▸ held)), na, os, ag, hno rfl⟩)
      first
        | exact wpAny_bind (wpAny_pure (wpAny_bind fin))
        | exact wpAny_bind fin
end
end DL

/-! DL: try with a clause that decides by the class -/
namespace DL
open PySem PySem.Spec PyProof.Rows L2
def sTryC (dec : Value → Option Bool) (i : Nat) (Fb Fs : Env → M → S) : Env → M → S := fun env m => match Fb env m with
  | .ex x env1 m1 => (match dec x.C with
    | some true => unS i (Fs (env1.set i (some (.cell m1.length))) (m1 ++ [.exc x.C x.fs]))
    | some false => .ex x env1 m1
    | none => .no)
  | s => s
section
variable {A : Amb} {dec : Value → Option Bool} {i : Nat} {Fb Fs : Env → M → S} {tb : WX → TS} {ts : Addr → TS} {Wo : WX}
theorem dens_tryC (hb : ∀ W : WX, DenS A (WE W) (tb W) Fb) (hsu : ∀ a, DenS A (fun _ _ _ _ => False) (ts a) Fs) : DenS A (WE Wo) (fun D σ H => tb (wKpC dec i ts Wo D) D σ H) (sTryC dec i Fb Fs) := by
  intro z H σ env m E hm hs h
  refine hb (wKpC dec i ts Wo E) z H σ env m E hm hs ?_
  unfold sTryC at h
  cases e : Fb env m with
  | nx env1 m1 => rw [e] at h; exact h
  | rt d m1 => rw [e] at h; exact h
  | bk env1 m1 => rw [e] at h; exact h
  | ct env1 m1 => rw [e] at h; exact h
  | no => rw [e] at h; exact h
  | ex x env1 m1 =>
    rw [e] at h
    intro z1 σ1 d H1 s1 hm1 hs1 hx
    cases q : dec x.C with
    | none => simp only [q] at h; exact h.elim
    | some b =>
      refine ⟨b, q, fun hf => ?_, fun ht a na => ?_⟩
      · subst hf
        simp only [q] at h
        exact h z1 σ1 d H1 s1 hm1 hs1 hx
      · subst ht
        simp only [q] at h
        have s2 : Step z1 H1 ⟨z1.as ++ [a], z1.hs⟩ (upd H1 a (ExK x.C d a)) := Step.newCell hm1 na
        have hm2 : MOk A ⟨z1.as ++ [a], z1.hs⟩ (upd H1 a (ExK x.C d a)) (m1 ++ [.exc x.C x.fs]) := MOk.newCell hm1 na ⟨d, upd_same, hx.step s2⟩
        have hc : (z1.as ++ [a])[m1.length]? = some a := by
          rw [← hm1.len, List.getElem?_append_right (Nat.le_refl _)]
          simp
        have hs2 := (hs1.step s2).set (i := i) (v := .ref a) (d := .cell m1.length) (Rep.cell hc)
        refine hsu a _ _ _ _ _ _ hm2 hs2 ?_
        have h2 := PostS.step (s1.trans s2) h
        generalize Fs (env1.set i (some (.cell m1.length))) (m1 ++ [.exc x.C x.fs]) = r at h2
        cases r with
        | nx env3 m3 => exact fun z' σ' H' s' hm' hs' => h2 z' _ H' s' hm' hs'.unset
        | bk env3 m3 => exact fun z' σ' H' s' hm' hs' => h2 z' _ H' s' hm' hs'.unset
        | ct env3 m3 => exact fun z' σ' H' s' hm' hs' => h2 z' _ H' s' hm' hs'.unset
        | rt d3 m3 => exact h2
        | ex x3 env3 m3 => exact h2.elim
        | no => exact h2.elim
end
end DL

/-! try: .. with clauses one behind another, each with a name for the error or without -/
namespace DL
open PySem PySem.Spec PyProof.Rows L2
structure HC where
  dec : Value → Option Bool
  nm : Option Nat
  ts : Addr → TS
def endsAt (o : Option Nat) (D : Ends) : Ends := match o with
  | none => D
  | some i => { nx := fun τ G => D.nx (τ.set i none) G, ct := fun τ G => D.ct (τ.set i none) G, bk := fun τ G => D.bk (τ.set i none) G, rt := D.rt }
def slotAt (o : Option Nat) (v : V) (σ : L2.St) : L2.St := match o with
  | none => σ
  | some i => σ.set i (some v)
def wKpL : List HC → WX → Ends → WX
  | [], Wo, _ => Wo
  | c :: cs, Wo, D => fun cls d σ H => ∃ b, c.dec cls = some b ∧ (b = false → wKpL cs Wo D cls d σ H) ∧
    (b = true → ∀ a, H a = none → c.ts a (endsAt c.nm D) (slotAt c.nm (.ref a) σ) (upd H a (ExK cls d a)))
theorem clause1 {X : Cx} {x : Str} {c : Value} {p : Pos} (n : Names X x c) : Clause X (.Name x p) (fun cls => PySem.W.exmOne X.K cls c) := by
  intro a pn pins τ G s cls b Q E I lt hb h
  exact named_at n I ((PySem.W.exm_one (M := model X.prog X.w) I.kIn lt hb).here (h s.heap fun _ _ e => e))
inductive Hands (X : Cx) : List PySem.ExceptHandler → List HC → Prop
  | nil : Hands X [] []
  | cas {n : Str} {i : Nat} {ce : Expr} {dec : Value → Option Bool} {s1 : Stmt} {suite : List Stmt} {pos : Pos} {ts : Addr → TS} {hs : List PySem.ExceptHandler} {cs : List HC} (hN : X.N.Nodup) (hi : X.N[i]? = some n) (hln : X.env.kindOf n = some .local) (hc : Clause X ce dec)
      (hsu : ∀ (a : Addr) (pn : List (Addr × Obj)), PSs (X.suite a pn) (s1 :: suite) (ts a)) (r : Hands X hs cs) : Hands X (.ExceptHandler (some ce) (some n) (s1 :: suite) pos :: hs) (⟨dec, some i, ts⟩ :: cs)
  | cun {ce : Expr} {dec : Value → Option Bool} {s1 : Stmt} {suite : List Stmt} {pos : Pos} {ts : Addr → TS} {hs : List PySem.ExceptHandler} {cs : List HC} (hc : Clause X ce dec)
      (hsu : ∀ (a : Addr) (pn : List (Addr × Obj)), PSs (X.suite a pn) (s1 :: suite) (ts a)) (r : Hands X hs cs) : Hands X (.ExceptHandler (some ce) none (s1 :: suite) pos :: hs) (⟨dec, none, ts⟩ :: cs)
section
variable {X : Cx} {body : List Stmt} {pos : Pos} {tb : WX → TS} {Wo : WX} {hds : List PySem.ExceptHandler} {h1 : PySem.ExceptHandler} {cs : List HC}
/-- try: body, and clauses -/
theorem ps_hands (hs : X.stack = X.env :: X.outer) (hf : X.env.frame = some X.env.locals) (hx : X.ex = []) (tk : Takes X Wo)
    (hb : ∀ (W : WX) (pn : List (Addr × Obj)) (xe : Value → Shared → Prop), PassesOwn (model X.prog X.w) X.A X.env xe → Takes (X.tr pn xe) W → PSs (X.tr pn xe) body (tb W))
    (hh : Hands X (h1 :: hds) cs) : PS X (.Try body (h1 :: hds) [] [] pos) (fun D σ H => tb (wKpL cs Wo D) D σ H) := by
  constructor
  intro pins s σ H D I h
  have ok := I.ok
  have fr : X.A.frames = some (X.env :: X.outer) := ok.frames.trans (by rw [hs])
  refine wpAny_Try_except ?_
  refine wpAny_mono ((hb (wKpL cs Wo D) (X.pn ++ pins) _ PassesOwn.looking ?out).run [] s σ H D (I.toTry _) h) (fun f t q => ?thru) (fun _ _ e => e)
  case thru =>
    cases f with
    | ret u => exact let ⟨v, τ, G, J, r, q⟩ := q; ⟨v, τ, G, J.ofTry ok, r, q⟩
    | next => exact let ⟨τ, G, J, q⟩ := q; wpAny_execs_nil ⟨τ, G, J.ofTry ok, q⟩
    | brk => exact let ⟨τ, G, J, q⟩ := q; ⟨τ, G, J.ofTry ok, q⟩
    | cont => exact let ⟨τ, G, J, q⟩ := q; ⟨τ, G, J.ofTry ok, q⟩
  case out =>
    rintro u t ⟨a, B, sI, pins', τ, G, cls, d, rfl, J0, nb, up, sky, na, os, ag, hW⟩
    have J : Inv X pins τ G sI := J0.ofTry ok
    have sky : Sky B (X.env :: X.outer) a (Zc cls d) X.env.locals t.heap := hs ▸ sky
    have go : ∀ {hds : List PySem.ExceptHandler} {cs : List HC}, Hands X hds cs → ∀ h1, HandSPX.FlyingZ B (X.env :: X.outer) a (Zc cls d) h1 → t.heap.UpToSlots h1 → wKpL cs Wo D cls d τ G →
        wpAny (model X.prog X.w) X.A (handleBy (.ref a) X.env hds) (SP X pins D) X.xe { t with heap := h1 } := by
      intro hds cs hh
      induction hh with
      | nil =>
        intro h1 fl up1 hno
        refine wpAny_handleBy_nil ?_
        obtain ⟨_, _, _, oe, vs, T, oT, tv, he, hz, hd, hT, _⟩ := id fl
        unfold PySem.passOn
        refine wpAny_bind (wpAny_field he hd hT ?_)
        rw [if_neg (by simp)]
        have fin : wpAny (model X.prog X.w) X.A (setFlight (.ref a) X.env.frame) (fun _ t4 => wpAny (model X.prog X.w) X.A (throw (.ref a) : Sem Flow) (SP X pins D) X.xe t4) X.xe { t with heap := h1 } := by
          rw [hf]
          exact HandSPX.setFlight_upZ fl fun h4 held up4 => wpAny_throw (tk _ _ ⟨a, B, sI, pins, τ, G, cls, d, rfl, J, nb, up.trans (up1.trans up4), .inr (.inr (hs.symm ▸ held)), na, os, ag, hno⟩)
        first
          | exact wpAny_bind (wpAny_pure (wpAny_bind fin))
          | exact wpAny_bind fin
      | @cas n i ce dec s1 suite pos ts hds cs hN hi hln hc hsu r ih =>
        intro h1 fl up1 hw
        obtain ⟨b, hm, hno, hyes⟩ := hw
        have J1 : Inv X pins τ G { t with heap := h1 } := J.landed nb fl.1 (up.trans up1) os ag
        obtain ⟨o1, w1, e1, z1, d1⟩ := fl.there
        have fl' : HandSPX.FlyingZ B X.stack a (Zc cls d) h1 := hs.symm ▸ fl
        have nf := fly_out (X := X) fl'
        have nL : a ≠ X.env.locals := fun q => nf (by rw [hs]; exact List.mem_filterMap.mpr ⟨X.env, List.mem_cons_self, by rw [hf, q]⟩)
        have nF : a ∉ X.fs := fun q => nf (by
          rw [hs]
          obtain ⟨e, he, r⟩ := List.mem_filterMap.mp q
          exact List.mem_filterMap.mpr ⟨e, List.mem_cons_of_mem _ he, r⟩)
        obtain ⟨n0, np0⟩ := fly_new J hx nb fl.2.1 nf
        have S1 := J1.suite e1 d1 na nL nF
        refine wpAny_handleBy_cons (codeAny_handlers_test ?_) (fun q => nomatch q)
        have lt : PySem.W.Looks (model X.prog X.w) h1 (typeOf (.ref a)) cls := fun A Q E s k q => wpAny_typeOf_ref (k _ _ e1) (z1.1.symm ▸ q)
        refine hc (pn := (a, o1) :: (X.pn ++ pins)) S1 lt hm fun h3 kp => ?_
        have flp := fly_keep fl kp
        have up3 : h1.UpToSlots h3 := Heap.UpToSlots.of_keeps kp
        cases b with
        | true =>
          refine codeAny_handlers_suite_as (HandSPX.lands_againZ flp fun h2 fl2 up2 => ?_)
          have J2 : Inv X pins τ G { t with heap := h2 } := J.landed nb fl2.1 (up.trans (up1.trans (up3.trans up2))) os ag
          obtain ⟨o2, w2, e2, z2, d2⟩ := fl2.there
          have K1 := bare_suite (a := a) (keepE J2 e2 z2 d2 na nL n0 np0)
          refine store_ok (X := X.suite a (X.pn ++ pins)) (v := .ref a) K1 hN hi (.inl hln) rfl (fun s5 K5 => ?_) (.inr hln)
          refine wpAny_mono ((hsu a (X.pn ++ pins)).run [] s5 _ _ _ K5 (hyes rfl a na)) (fun f s6 q => ?_) fun _ _ z => z.elim
          cases f with
          | ret u => exact let ⟨v, τ1, G1, K6, r, q⟩ := q; gone_ok (suite_bare ok K6) hN hi hln fun s7 K7 => ⟨v, _, _, K7, r, q⟩
          | next => exact let ⟨τ1, G1, K6, q⟩ := q; gone_ok (suite_bare ok K6) hN hi hln fun s7 K7 => ⟨_, _, K7, q⟩
          | brk => exact let ⟨τ1, G1, K6, q⟩ := q; gone_ok (suite_bare ok K6) hN hi hln fun s7 K7 => ⟨_, _, K7, q⟩
          | cont => exact let ⟨τ1, G1, K6, q⟩ := q; gone_ok (suite_bare ok K6) hN hi hln fun s7 K7 => ⟨_, _, K7, q⟩
        | false => exact ih h3 flp (up1.trans up3) (hno rfl)
      | @cun ce dec s1 suite pos ts hds cs hc hsu r ih =>
        intro h1 fl up1 hw
        obtain ⟨b, hm, hno, hyes⟩ := hw
        have J1 : Inv X pins τ G { t with heap := h1 } := J.landed nb fl.1 (up.trans up1) os ag
        obtain ⟨o1, w1, e1, z1, d1⟩ := fl.there
        have fl' : HandSPX.FlyingZ B X.stack a (Zc cls d) h1 := hs.symm ▸ fl
        have nf := fly_out (X := X) fl'
        have nL : a ≠ X.env.locals := fun q => nf (by rw [hs]; exact List.mem_filterMap.mpr ⟨X.env, List.mem_cons_self, by rw [hf, q]⟩)
        have nF : a ∉ X.fs := fun q => nf (by
          rw [hs]
          obtain ⟨e, he, r⟩ := List.mem_filterMap.mp q
          exact List.mem_filterMap.mpr ⟨e, List.mem_cons_of_mem _ he, r⟩)
        obtain ⟨n0, np0⟩ := fly_new J hx nb fl.2.1 nf
        have S1 := J1.suite e1 d1 na nL nF
        refine wpAny_handleBy_cons (codeAny_handlers_test ?_) (fun q => nomatch q)
        have lt : PySem.W.Looks (model X.prog X.w) h1 (typeOf (.ref a)) cls := fun A Q E s k q => wpAny_typeOf_ref (k _ _ e1) (z1.1.symm ▸ q)
        refine hc (pn := (a, o1) :: (X.pn ++ pins)) S1 lt hm fun h3 kp => ?_
        have flp := fly_keep fl kp
        have up3 : h1.UpToSlots h3 := Heap.UpToSlots.of_keeps kp
        cases b with
        | true =>
          refine codeAny_handlers_suite (HandSPX.lands_againZ flp fun h2 fl2 up2 => ?_)
          have J2 : Inv X pins τ G { t with heap := h2 } := J.landed nb fl2.1 (up.trans (up1.trans (up3.trans up2))) os ag
          obtain ⟨o2, w2, e2, z2, d2⟩ := fl2.there
          have K1 := bare_suite (a := a) (keepE J2 e2 z2 d2 na nL n0 np0)
          refine wpAny_mono ((hsu a (X.pn ++ pins)).run [] _ _ _ _ K1 (hyes rfl a na)) (fun f s6 q => ?_) fun _ _ z => z.elim
          cases f with
          | ret u => exact let ⟨v, τ1, G1, K6, r, q⟩ := q; ⟨v, _, _, suite_bare ok K6, r, q⟩
          | next => exact let ⟨τ1, G1, K6, q⟩ := q; ⟨_, _, suite_bare ok K6, q⟩
          | brk => exact let ⟨τ1, G1, K6, q⟩ := q; ⟨_, _, suite_bare ok K6, q⟩
          | cont => exact let ⟨τ1, G1, K6, q⟩ := q; ⟨_, _, suite_bare ok K6, q⟩
        | false => exact ih h3 flp (up1.trans up3) (hno rfl)
    exact Sky.land Zc.steady fr hf sky fun h1 fl up1 => go hh h1 fl up1 hW
end
end DL

/-! DM: try with clauses one behind another -/
namespace DL
open PySem PySem.Spec PyProof.Rows L2
structure HD where
  dec : Value → Option Bool
  nm : Option Nat
  F : Env → M → S
def noEx : S → S
  | .ex _ _ _ => .no
  | s => s
def suiteS (nm : Option Nat) (F : Env → M → S) (x : X) (env : Env) (m : M) : S := match nm with
  | some i => unS i (F (env.set i (some (.cell m.length))) (m ++ [.exc x.C x.fs]))
  | none => noEx (F env m)
def sHands : List HD → X → Env → M → S
  | [], x, env, m => .ex x env m
  | h :: hs, x, env, m => match h.dec x.C with
    | some true => suiteS h.nm h.F x env m
    | some false => sHands hs x env m
    | none => .no
def sTryL (hs : List HD) (Fb : Env → M → S) : Env → M → S := fun env m => match Fb env m with
  | .ex x env1 m1 => sHands hs x env1 m1
  | s => s
inductive HandsD (A : Amb) : List HC → List HD → Prop
  | nil : HandsD A [] []
  | cons {dec : Value → Option Bool} {nm : Option Nat} {ts : Addr → TS} {F : Env → M → S} {cs : List HC} {hs : List HD} (h : ∀ a, DenS A (fun _ _ _ _ => False) (ts a) F) (r : HandsD A cs hs) : HandsD A (⟨dec, nm, ts⟩ :: cs) (⟨dec, nm, F⟩ :: hs)
section
variable {A : Amb} {Fb : Env → M → S} {tb : WX → TS} {Wo : WX}
theorem hands_den {cs : List HC} {hs : List HD} (hh : HandsD A cs hs) : ∀ {z z1 : Z} {H H1 : Hp} {σ1 : L2.St} {env1 : Env} {m1 : M} {x : X} {d : Option Addr} {E : Ends}, Step z H z1 H1 → MOk A z1 H1 m1 → Sl A z1 H1 σ1 env1 → RepX A z1 H1 d x.fs →
    PostS A (WE Wo) z H (sHands hs x env1 m1) E → wKpL cs Wo E x.C d σ1 H1 := by
  induction hh with
  | nil => intro z z1 H H1 σ1 env1 m1 x d E s1 hm1 hs1 hx h; exact h z1 σ1 d H1 s1 hm1 hs1 hx
  | @cons dec nm ts F cs hs hsu r ih =>
    intro z z1 H H1 σ1 env1 m1 x d E s1 hm1 hs1 hx h
    have h : PostS A (WE Wo) z H (match dec x.C with
      | some true => suiteS nm F x env1 m1
      | some false => sHands hs x env1 m1
      | none => .no) E := h
    cases q : dec x.C with
    | none => simp only [q] at h; exact h.elim
    | some b =>
      refine ⟨b, q, fun hf => ?_, fun ht a na => ?_⟩
      · subst hf
        simp only [q] at h
        exact ih s1 hm1 hs1 hx h
      · subst ht
        simp only [q] at h
        cases nm with
        | none =>
          have h : PostS A (WE Wo) z H (noEx (F env1 m1)) E := h
          have s2 : Step z1 H1 z1 (upd H1 a (ExK x.C d a)) := Step.lay hm1 na
          have hm2 : MOk A z1 (upd H1 a (ExK x.C d a)) m1 := hm1.lay na
          refine hsu a _ _ _ _ _ _ hm2 (hs1.step s2) ?_
          have h2 := PostS.step (s1.trans s2) h
          generalize F env1 m1 = r at h2
          cases r with
          | nx env3 m3 => exact h2
          | bk env3 m3 => exact h2
          | ct env3 m3 => exact h2
          | rt d3 m3 => exact h2
          | ex x3 env3 m3 => exact h2.elim
          | no => exact h2.elim
        | some i =>
          have h : PostS A (WE Wo) z H (unS i (F (env1.set i (some (.cell m1.length))) (m1 ++ [.exc x.C x.fs]))) E := h
          have s2 : Step z1 H1 ⟨z1.as ++ [a], z1.hs⟩ (upd H1 a (ExK x.C d a)) := Step.newCell hm1 na
          have hm2 : MOk A ⟨z1.as ++ [a], z1.hs⟩ (upd H1 a (ExK x.C d a)) (m1 ++ [.exc x.C x.fs]) := MOk.newCell hm1 na ⟨d, upd_same, hx.step s2⟩
          have hc : (z1.as ++ [a])[m1.length]? = some a := by
            rw [← hm1.len, List.getElem?_append_right (Nat.le_refl _)]
            simp
          have hs2 := (hs1.step s2).set (i := i) (v := .ref a) (d := .cell m1.length) (Rep.cell hc)
          refine hsu a _ _ _ _ _ _ hm2 hs2 ?_
          have h2 := PostS.step (s1.trans s2) h
          generalize F (env1.set i (some (.cell m1.length))) (m1 ++ [.exc x.C x.fs]) = r at h2
          cases r with
          | nx env3 m3 => exact fun z' σ' H' s' hm' hs' => h2 z' _ H' s' hm' hs'.unset
          | bk env3 m3 => exact fun z' σ' H' s' hm' hs' => h2 z' _ H' s' hm' hs'.unset
          | ct env3 m3 => exact fun z' σ' H' s' hm' hs' => h2 z' _ H' s' hm' hs'.unset
          | rt d3 m3 => exact h2
          | ex x3 env3 m3 => exact h2.elim
          | no => exact h2.elim
theorem dens_tryL {cs : List HC} {hs : List HD} (hb : ∀ W : WX, DenS A (WE W) (tb W) Fb) (hh : HandsD A cs hs) : DenS A (WE Wo) (fun D σ H => tb (wKpL cs Wo D) D σ H) (sTryL hs Fb) := by
  intro z H σ env m E hm hs' h
  refine hb (wKpL cs Wo E) z H σ env m E hm hs' ?_
  unfold sTryL at h
  cases e : Fb env m with
  | nx env1 m1 => rw [e] at h; exact h
  | rt d m1 => rw [e] at h; exact h
  | bk env1 m1 => rw [e] at h; exact h
  | ct env1 m1 => rw [e] at h; exact h
  | no => rw [e] at h; exact h
  | ex x env1 m1 =>
    rw [e] at h
    intro z1 σ1 d H1 s1 hm1 hs1 hx
    exact hands_den hh s1 hm1 hs1 hx h
end
end DL

/-! sets of texts, of any number, made of a list or a tuple -/
namespace DL
open PySem PySem.Spec PyProof.Rows L2
/-- of the first i texts those that are new -/
def cntS (xs : List Str) : Nat → Nat
  | 0 => 0
  | i + 1 => if (xs.take i).any (· == xs.getD i Str.empty) = true then cntS xs i else cntS xs i + 1
theorem cntS_le (xs : List Str) : ∀ i, cntS xs i ≤ i
  | 0 => Nat.le_refl _
  | i + 1 => by
    have := cntS_le xs i
    unfold cntS
    split <;> omega
abbrev emptySet (led : Bool) : Obj := { cls := .type "set", dict := none, data := .set #[] 0 (.fresh 0 0 led) }
abbrev inFirst (xs : List Str) (i : Nat) : Str → Bool := fun q => (xs.take i).any (· == q)
theorem inFirst_succ {xs : List Str} {i : Nat} (hi : i < xs.length) (q : Str) : (inFirst xs i q || decide (q = xs.getD i Str.empty)) = inFirst xs (i + 1) q := by
  unfold inFirst
  rw [List.take_succ, List.getElem?_eq_getElem hi, List.any_append]
  have e : xs.getD i Str.empty = xs[i] := by rw [List.getD_eq_getElem?_getD, List.getElem?_eq_getElem hi]; rfl
  rw [e]
  congr 1
  show _ = ([xs[i]].any (· == q))
  by_cases h : q = xs[i]
  · subst h; simp
  · have h2 : (xs[i] == q) = false := beq_eq_false_iff_ne.mpr fun e => h e.symm
    simp [h, h2]
section
variable {prog : Program} {w : World} {A : Around} {R : Result → Shared → Prop} {I D : Addr} {fp wr : List Addr} {G : Array GenState → Array GenState → Prop} {n : Nat} {P : Nat → Value → Prop} {St : Nat → Shared → Prop}
theorem SetOf.carry {knd : KeyKind prog w Str} {h h' : Heap} {S : Str → Bool} {k : Nat} (x : h.SetOf knd D S k) (kp : ∀ o, h.get? D = some o → h'.get? D = some o) : h'.SetOf knd D S k := by
  obtain ⟨o, es, ep, t, ho, more⟩ := x
  exact ⟨o, es, ep, t, kp o ho, more⟩
/-- all that the walk gives is put in -/
theorem fill_texts (W : WalksS prog w A.in1 I fp wr G n P St) (far : D ∉ fp) {xs : List Str} (len : xs.length = n) (fits : n + 1 < scanBound) (val : ∀ i v, P i v → ∃ t, v = .str (xs.getD i Str.empty) t) :
    ∀ (left i : Nat) (s : Shared), left = n - i → i ≤ n → St i s → s.heap.SetOf (PySem.strKind prog w) D (inFirst xs i) (cntS xs i) →
      (∀ s', Moved (D :: wr) G s s' → s'.heap.SetOf (PySem.strKind prog w) D (inFirst xs n) (cntS xs n) → R (.ok (.ret .none)) s') →
      codeAny (model prog w) A (.builtin "set.update.loop" ⟨[.ref D, .ref I], []⟩) R s
  | 0, i, s, el, hi, st, hS, fin => by
    obtain rfl : i = n := by omega
    refine codeAny_builtin PyProof.Rows.F.entry_set_update_loop ?_
    rw [Around.under_plainId PyProof.Rows.F.plain_set_update_loop _]
    refine wpAny_bind (m := pyNext (.ref I)) (W.done s _ _ st fun s' mv => ?_)
    refine wpAny_pure (fin s' (mv.mono fun b hb => List.mem_cons_of_mem _ hb) ?_)
    exact SetOf.carry hS fun o e => mv.heap D _ (fun q => far (W.sub _ q)) e
  | left + 1, i, s, el, hi, st, hS, fin => by
    have lt : i < n := by omega
    have up : ∀ b ∈ wr, b ∈ D :: wr := fun b hb => List.mem_cons_of_mem _ hb
    refine codeAny_builtin PyProof.Rows.F.entry_set_update_loop ?_
    rw [Around.under_plainId PyProof.Rows.F.plain_set_update_loop _]
    refine wpAny_bind (m := pyNext (.ref I)) (W.item i s _ _ lt st fun v s1 pv st1 mv => ?_)
    obtain ⟨tk, rfl⟩ := val i v pv
    have hS1 := SetOf.carry hS fun o e => mv.heap D _ (fun q => far (W.sub _ q)) e
    generalize hx : xs.getD i Str.empty = x at *
    show wpAny _ A.in1 (holding [Value.str x tk] (setAdd D (.str x tk)) >>= _) _ _ s1
    refine wpAny_bind (wpAny_holding ?_)
    unfold setAdd
    refine wpAny_holding (wpAny_bind ((PySem.strKind prog w).pyHash (k := x) (strKind_is _ _ _ _) ?_))
    have room : cntS xs i + 1 < scanBound := by have := cntS_le xs i; omega
    refine wpAny_setAddHashed_of (knd := PySem.strKind prog w) (s := { s1 with toks := s1.toks + 1 }) (strKind_is _ _ _ _) rfl hS1 room fun h2 same hS2 => ?_
    have hS3 : h2.SetOf (PySem.strKind prog w) D (inFirst xs (i + 1)) (cntS xs (i + 1)) := by
      refine SetOf_congr hS2 (fun q => ?_) ?_
      · rw [← hx]; exact inFirst_succ (by omega) q
      · show _ = (if (xs.take i).any (· == xs.getD i Str.empty) = true then cntS xs i else cntS xs i + 1)
        rw [hx]
    have st2 := W.frame _ s1 h2 (s1.toks + 1) st1 (Nat.le_succ _) fun b hb o e => (same.2 b fun q => far (by rw [← q]; exact hb)).trans e
    refine wpAny_pure ⟨plainId_quiet PyProof.Rows.F.plain_set_update_loop _, fill_texts W far len fits val left (i + 1) _ (by omega) lt st2 hS3 fun s3 mv3 hS4 => ?_⟩
    refine fin s3 (Moved.trans W.gtrans ((mv.mono up).then_heap (Nat.le_succ _) fun b o hb e => ?_) mv3) hS4
    exact (same.2 b fun q => hb (by rw [q]; exact List.mem_cons_self)).trans e
end
end DL

/-! set(texts), len(set(texts)) -/
namespace DL
open PySem PySem.Spec PyProof.Rows L2
section
variable {prog : Program} {w : World} {A : Around} {E : Value → Shared → Prop} {s : Shared}
/-- what the made set is: the heap behind, the texts in it -/
def MadeSet (prog : Program) (w : World) (s : Shared) (xs : List Str) (h2 : Heap) : Prop :=
  h2.SetOf (PySem.strKind prog w) s.heap.objs.size (inFirst xs xs.length) (cntS xs xs.length) ∧ ∀ b o, b < s.heap.objs.size → s.heap.get? b = some o → h2.get? b = some o
/-- set(l), l a list of texts -/
theorem set_of_list {l : Addr} {items : Array Value} {xs : List Str} {Q : Value → Shared → Prop} (calm : A.handled = none) (hl : s.heap.IsList l items) (hi : PyProof.Rows.StrsAre items.toList xs) (fits : xs.length + 1 < scanBound)
    (fin : ∀ h2 tk, MadeSet prog w s xs h2 → Q (.ref s.heap.objs.size) { s with heap := h2, toks := tk }) : wpAny (model prog w) A (call (.type "set") [.ref l]) Q E s := by
  obtain ⟨c, tl, hmro⟩ := PySem.F.called_set.mro
  have x1 := PySem.F.called_set.made
  have x2 := PySem.F.called_set.sub
  have x3 := PySem.F.called_set.notType
  have x4 := PySem.F.called_set.canCreate
  have x5 := PySem.F.typeCall_set_1 (.ref l)
  refine wpAny_call (codeAny_of_tree ?_)
  show wpAny _ _ (callAny (.type "set") _) _ _ _
  refine wpAny_pure ⟨Code.quiet_builtin _ (by decide +kernel), codeAny_builtin PySem.F.entry_type_call ?_⟩
  rw [Around.under_plain (weight_type_call_type "set" [.ref l] []) rfl]
  repeat (any_goals (first | assumption | wp_step))
  refine codeAny_mono (code_set_new_1 (.ref l) (E := E) (Q₁ := fun v s1 => ∃ led : Bool, v = .ref s.heap.objs.size ∧ s1 = { s with heap := s.heap.push (emptySet led) }) fun led => ⟨led, rfl, rfl⟩) fun r s1 hr => ?_
  rcases r with e | fl
  · exact hr
  · cases fl with
    | ret v =>
      obtain ⟨led, rfl, rfl⟩ := hr
      have at0 : (s.heap.push (emptySet led)).get? s.heap.objs.size = some (emptySet led) := Heap.get?_push_size _ rfl
      have ty0 : Shared.TypeIs { s with heap := s.heap.push (emptySet led) } (.ref s.heap.objs.size) "set" := ⟨_, at0, rfl⟩
      have x6 := PySem.F.called_set.init.lookup
      have x7 := PySem.F.called_set.init.bind (.ref s.heap.objs.size)
      repeat (any_goals (first | assumption | wp_step))
      refine codeAny_mono (codeAny_call_builtin (R := wants (fun v s2 => v = .none ∧ ∃ h2 tk, s2 = { s with heap := h2, toks := tk } ∧ MadeSet prog w s xs h2) E) PySem.F.called_set.init.plain PySem.F.entry_set_init (check_set_init_1 ty0 ?_)) fun r2 s2 hr2 => ?_
      · obtain ⟨⟨cls, dd, dt, sl⟩, ho, hc, k, hd⟩ := hl
        simp only at hc hd
        subst hc; subst hd
        have lo : l < s.heap.objs.size := Heap.lt_size ho
        have y0 : (s.heap.push (emptySet led)).get? l = some { cls := .type "list", dict := dd, data := .seq items k, slots := sl } := Heap.get?_push_of_some _ ho
        have y1 : (s.heap.push (emptySet led)).IsList l items := ⟨_, y0, rfl, k, rfl⟩
        have y2 := PySem.F.sub_list_set
        have y3 := PySem.F.sub_list_frozenset
        have y4 : (Value.type "list" == Value.type "dict") = false := by decide
        unfold Builtin.«set.__init__» noKeywords Builtin.Frozenset.updateFrom
        generalize pit : pyIter = PI
        wp_walk
        subst pit
        refine wpAny_pyIter_list y1 (wpAny_bind (wpAny_runValue ?_))
        have far1 : l ≠ (s.heap.push (emptySet led)).objs.size := by
          rw [Heap.size_push]
          exact Nat.ne_of_lt (Nat.lt_succ_of_lt lo)
        have far2 : s.heap.objs.size ∉ [(s.heap.push (emptySet led)).objs.size, l] := by
          rw [Heap.size_push]
          simp only [List.mem_cons, List.not_mem_nil, or_false, not_or]
          exact And.intro (Nat.ne_of_lt (Nat.lt_succ_self _)) (Nat.ne_of_gt lo)
        have len : xs.length = items.size := (StrsAre.len_eq hi).symm
        have texts : ∀ (i : Nat) (v : Value), items[i]? = some v → ∃ t, v = .str (xs.getD i Str.empty) t := fun i v hv => SS.strs_at hi i v (by rw [Array.getElem?_toList]; exact hv)
        refine fill_texts ((Walks.list (by simp [calm]) _ l far1 items).toS) far2 len (by omega) texts (items.size - 0) 0 _ rfl (Nat.zero_le _) ⟨⟨_, Heap.get?_push_size _ rfl, rfl, rfl⟩, y1.push _⟩ ?_ fun s3 mv hS => ?_
        · exact PyProof.Rows.SetOf_congr ((PyProof.Rows.setObjOf_fresh (knd := PySem.strKind prog w) led).setOf (Heap.get?_push_of_some _ at0) (by unfold scanBound; omega)) (fun _ => rfl) rfl
        · obtain ⟨h3, g3, d3, t3, o3⟩ := s3
          cases (show g3 = s.gens from mv.gens)
          cases (show d3 = s.drawn from mv.drawn)
          cases (show o3 = s.os from mv.os)
          show wpAny _ _ _ _ _ _
          refine wpAny_pure ?_
          show wpAny _ _ (ret Value.none) _ _ _
          refine wpAny_pure ⟨rfl, h3, t3, rfl, by rw [len]; exact hS, fun b o hb e => ?_⟩
          refine mv.heap b o ?_ (Heap.get?_push_of_some _ (Heap.get?_push_of_some _ e))
          rw [Heap.size_push]
          simp only [List.mem_cons, List.not_mem_nil, or_false, not_or]
          exact And.intro (Nat.ne_of_lt hb) (Nat.ne_of_lt (Nat.lt_succ_of_lt hb))
      · rcases r2 with e | fl2
        · exact hr2
        · cases fl2 with
          | ret v2 =>
            obtain ⟨rfl, h2, tk, rfl, hm⟩ := hr2
            repeat (any_goals (first | assumption | wp_step))
            exact fin h2 tk hm
          | _ => exact hr2.elim
    | _ => exact hr.elim

/-- set(l), l a tuple of texts -/
theorem set_of_tuple {l : Addr} {items : Array Value} {xs : List Str} {Q : Value → Shared → Prop} (calm : A.handled = none) (hl : s.heap.IsTuple l items) (hi : PyProof.Rows.StrsAre items.toList xs) (fits : xs.length + 1 < scanBound)
    (fin : ∀ h2 tk, MadeSet prog w s xs h2 → Q (.ref s.heap.objs.size) { s with heap := h2, toks := tk }) : wpAny (model prog w) A (call (.type "set") [.ref l]) Q E s := by
  obtain ⟨c, tl, hmro⟩ := PySem.F.called_set.mro
  have x1 := PySem.F.called_set.made
  have x2 := PySem.F.called_set.sub
  have x3 := PySem.F.called_set.notType
  have x4 := PySem.F.called_set.canCreate
  have x5 := PySem.F.typeCall_set_1 (.ref l)
  refine wpAny_call (codeAny_of_tree ?_)
  show wpAny _ _ (callAny (.type "set") _) _ _ _
  refine wpAny_pure ⟨Code.quiet_builtin _ (by decide +kernel), codeAny_builtin PySem.F.entry_type_call ?_⟩
  rw [Around.under_plain (weight_type_call_type "set" [.ref l] []) rfl]
  repeat (any_goals (first | assumption | wp_step))
  refine codeAny_mono (code_set_new_1 (.ref l) (E := E) (Q₁ := fun v s1 => ∃ led : Bool, v = .ref s.heap.objs.size ∧ s1 = { s with heap := s.heap.push (emptySet led) }) fun led => ⟨led, rfl, rfl⟩) fun r s1 hr => ?_
  rcases r with e | fl
  · exact hr
  · cases fl with
    | ret v =>
      obtain ⟨led, rfl, rfl⟩ := hr
      have at0 : (s.heap.push (emptySet led)).get? s.heap.objs.size = some (emptySet led) := Heap.get?_push_size _ rfl
      have ty0 : Shared.TypeIs { s with heap := s.heap.push (emptySet led) } (.ref s.heap.objs.size) "set" := ⟨_, at0, rfl⟩
      have x6 := PySem.F.called_set.init.lookup
      have x7 := PySem.F.called_set.init.bind (.ref s.heap.objs.size)
      repeat (any_goals (first | assumption | wp_step))
      refine codeAny_mono (codeAny_call_builtin (R := wants (fun v s2 => v = .none ∧ ∃ h2 tk, s2 = { s with heap := h2, toks := tk } ∧ MadeSet prog w s xs h2) E) PySem.F.called_set.init.plain PySem.F.entry_set_init (check_set_init_1 ty0 ?_)) fun r2 s2 hr2 => ?_
      · obtain ⟨⟨cls, dd, dt, sl⟩, ho, hc, k, hd⟩ := hl
        simp only at hc hd
        subst hc; subst hd
        have lo : l < s.heap.objs.size := Heap.lt_size ho
        have y0 : (s.heap.push (emptySet led)).get? l = some { cls := .type "tuple", dict := dd, data := .seq items k, slots := sl } := Heap.get?_push_of_some _ ho
        have y1 : (s.heap.push (emptySet led)).IsTuple l items := ⟨_, y0, rfl, k, rfl⟩
        have y2 := PySem.F.sub_tuple_set
        have y3 := PySem.F.sub_tuple_frozenset
        have y4 : (Value.type "tuple" == Value.type "dict") = false := by decide
        unfold Builtin.«set.__init__» noKeywords Builtin.Frozenset.updateFrom
        generalize pit : pyIter = PI
        wp_walk
        subst pit
        refine wpAny_pyIter_tuple y1 (wpAny_bind (wpAny_runValue ?_))
        have far1 : l ≠ (s.heap.push (emptySet led)).objs.size := by
          rw [Heap.size_push]
          exact Nat.ne_of_lt (Nat.lt_succ_of_lt lo)
        have far2 : s.heap.objs.size ∉ [(s.heap.push (emptySet led)).objs.size, l] := by
          rw [Heap.size_push]
          simp only [List.mem_cons, List.not_mem_nil, or_false, not_or]
          exact And.intro (Nat.ne_of_lt (Nat.lt_succ_self _)) (Nat.ne_of_gt lo)
        have len : xs.length = items.size := (StrsAre.len_eq hi).symm
        have texts : ∀ (i : Nat) (v : Value), items[i]? = some v → ∃ t, v = .str (xs.getD i Str.empty) t := fun i v hv => SS.strs_at hi i v (by rw [Array.getElem?_toList]; exact hv)
        refine fill_texts ((Walks.tuple (by simp [calm]) _ l far1 items).toS) far2 len (by omega) texts (items.size - 0) 0 _ rfl (Nat.zero_le _) ⟨⟨_, Heap.get?_push_size _ rfl, rfl, rfl⟩, y1.push _⟩ ?_ fun s3 mv hS => ?_
        · exact PyProof.Rows.SetOf_congr ((PyProof.Rows.setObjOf_fresh (knd := PySem.strKind prog w) led).setOf (Heap.get?_push_of_some _ at0) (by unfold scanBound; omega)) (fun _ => rfl) rfl
        · obtain ⟨h3, g3, d3, t3, o3⟩ := s3
          cases (show g3 = s.gens from mv.gens)
          cases (show d3 = s.drawn from mv.drawn)
          cases (show o3 = s.os from mv.os)
          show wpAny _ _ _ _ _ _
          refine wpAny_pure ?_
          show wpAny _ _ (ret Value.none) _ _ _
          refine wpAny_pure ⟨rfl, h3, t3, rfl, by rw [len]; exact hS, fun b o hb e => ?_⟩
          refine mv.heap b o ?_ (Heap.get?_push_of_some _ (Heap.get?_push_of_some _ e))
          rw [Heap.size_push]
          simp only [List.mem_cons, List.not_mem_nil, or_false, not_or]
          exact And.intro (Nat.ne_of_lt hb) (Nat.ne_of_lt (Nat.lt_succ_of_lt hb))
      · rcases r2 with e | fl2
        · exact hr2
        · cases fl2 with
          | ret v2 =>
            obtain ⟨rfl, h2, tk, rfl, hm⟩ := hr2
            repeat (any_goals (first | assumption | wp_step))
            exact fin h2 tk hm
          | _ => exact hr2.elim
    | _ => exact hr.elim
end
end DL

/-! len of an own object -/
namespace DL
open PySem PySem.Spec PyProof.Rows L2
/-- a method of an own class, called by a name of Python's -/
theorem cspecF {M : Model} {Ar : Around} {E : Value → Shared → Prop} {s : Shared} {self : Value} {nm : Str} {f : Addr} {args : List Value} {Q : Option Value → Shared → Prop} (sp : PySem.W.Looks M s.heap (specialOf self nm) (some (.ref f)))
    (bf : PySem.W.Looks M s.heap (bindSpecial (.ref f) self) (.ref f, [self])) (h : wpAny M Ar (call (.ref f) (self :: args)) (fun v => Q (some v)) E s) : wpAny M Ar (callSpecial? self nm args) Q E s := by
  simp only [callSpecial?]
  refine wpAny_bind (sp.here (wpAny_holding (wpAny_bind (bf.here ?_))))
  exact wpAny_bind (wpAny_mono h (fun v s1 q => wpAny_pure q) fun _ _ q => q)
def rLenO (C : Addr) (sp : Sp) : List V → Hp → VK → Prop := fun xs H Q => ∃ (a dx : Addr) (fs : List (Str × V)), xs = [.ref a] ∧ H a = some (.ins C dx fs) ∧ sp [.ref a] H (fun v H1 => ∃ n : Int, v = .int n ∧ 0 ≤ n ∧ n < 2 ^ 63 ∧ Q (.int n) H1) fun _ _ _ => False
theorem call_lenO {X : Cx} {CX : CXT} {C f : Addr} {k : Nat} {fd : FuncData} {ps : List Str} {sp : Sp} (hl : Meth X.K C "__len__" f) (F : FnOk X.prog X.w X.K X.mg X.base CX k f fd ps sp) (hr : Room (k + 1) X.A) (hb : Binds X.K fd ps []) (hx : Passes CX X (fun _ _ _ => False)) : CallR X (.builtin "len") (rLenO C sp) := by
  intro pins s σ H xs us Q I r h
  obtain ⟨a, dx, fs, rfl, e, q⟩ := h
  obtain ⟨u, rfl, ru⟩ := vals1 r
  obtain rfl : u = Value.ref a := ru
  obtain ⟨o, ho, oc⟩ := NwS.OfCls.ins (X := X) e s.heap I.hok
  have ty : PySem.W.Looks (model X.prog X.w) s.heap (typeOf (.ref a)) (.ref C) := fun A Q E s k q => wpAny_typeOf_ref (k _ _ ho) (oc.symm ▸ q)
  refine Calls.call_function_entry kind_len plain_len entry_len (args_len1 _) ?_; unfold Builtin.«len»; refine wpAny_bind (m := oneArg "len" _) (wpAny_pure ?_)
  refine wpAny_bind (m := callSpecial? (.ref a) (PySem.Str.ofString "__len__")) (cspecF (ty.andThen (PySem.W.looks_findIn I.kIn hl.at_)) (PySem.W.bind_fn I.kIn (.ref a) (beq_iff_eq.mp hl.fn)) ?_)
  have len : ([Value.ref a] ++ []).length = ps.length := (F.len _ _ _ _ q).symm ▸ rfl
  refine wpAny_call (codeAny_mono (F.run _ X.stack s H ⟨[Value.ref a], []⟩ [Value.ref a] [.ref a] _ (fun _ _ _ => False) hr.in1 I.env0.in1 (by have := hb s [Value.ref a] I.kIn len; rwa [List.append_nil] at this) r q) fun r1 s1 w => ?_)
  cases r1 with
  | error er => exact hx pins σ H s er s1 I w
  | ok fl =>
    cases fl with
    | ret v =>
      obtain ⟨v', H1, J, rr, n, rfl, n0, n1, q1⟩ := I.after w
      obtain ⟨t, rfl⟩ := rr
      refine wpAny_bind (wpAny_holding (wpAny_pure (wpAny_bind (wpAny_letGo ?_))))
      show wpAny _ _ (if n < 0 then _ else _) _ _ _; rw [if_neg (by omega)]
      show wpAny _ _ (if n ≥ 2 ^ 63 then _ else _) _ _ _; rw [if_neg (by omega)]
      exact wpAny_bind (wpAny_mkInt (wpAny_pure ⟨_, rfl, .int n, H1, J.tok _, ⟨_, rfl⟩, q1⟩))
    | next => exact w.elim
    | brk => exact w.elim
    | cont => exact w.elim
/-! data -/
def lenO (C : Addr) (g : List D → M → R D) : List D → M → R D
  | [d], m => match objOf d m with
    | some (C', _) => if C' = C then (match g [d] m with
      | .ok (.int n) m' => if 0 ≤ n ∧ n < 2 ^ 63 then .ok (.int n) m' else .no
      | _ => .no) else .no
    | none => .no
  | _, _ => .no
theorem calld_lenO {A : Amb} {C : Addr} {g : List D → M → R D} : CallD A (rLenO C (spD A 1 g)) (lenO C g) := by
  intro z H m xs ds W Q hm hxs h
  unfold lenO at h
  split at h
  · rename_i d
    split at h
    · rename_i C' fs eo
      obtain ⟨hC, h3⟩ := post_if h
      clear h
      subst hC
      cases hxs with
      | cons h1 h2 =>
        cases h2
        obtain ⟨a, dx, vf, rfl, ha, _⟩ := objOf_ok hm h1 eo
        refine ⟨a, dx, vf, rfl, ha, rfl, z, m, [d], hm, .cons h1 .nil, ?_⟩
        cases eg : g [d] m with
        | ok e m' =>
          rw [eg] at h3
          cases e with
          | int n =>
            by_cases c : 0 ≤ n ∧ n < 2 ^ 63
            · have h : PostE A W z H (if 0 ≤ n ∧ n < 2 ^ 63 then R.ok (.int n) m' else .no) Q := h3
              rw [if_pos c] at h
              intro z' v H' st hm' hv
              cases hv
              exact ⟨n, rfl, c.1, c.2, h z' _ H' st hm' (.int n)⟩
            · have h : PostE A W z H (if 0 ≤ n ∧ n < 2 ^ 63 then R.ok (.int n) m' else .no) Q := h3
              rw [if_neg c] at h
              exact h.elim
          | _ => exact h3.elim
        | ex x m' => rw [eg] at h3; exact h3.elim
        | no => rw [eg] at h3; exact h3.elim
    · exact h.elim
  · exact h.elim
end DL

/-! the head with own facts of the written part -/
namespace DL
open PySem PySem.Spec PyProof.Rows L2
def hookX (n : Nat) (ex : PySem.W.Frag → Bool) (fa : List He.Fa) (fn : List He.DefD) : PySem.W.Hook where
  α := AlX
  obs := fun s => obsXG n ex fa fn s.heap.get?
  val := fun _ => (true, He.valD fn)
  says := fun _ h => ∃ K : PySem.W.Frag, K.In h ∧ SaysX ex fa fn K
  of := fun _ _ e => ⟨_, He.frG_in, congrArg Prod.fst e, congrArg Prod.snd e⟩
  keeps := fun _ _ _ ⟨K, hK, c⟩ k => ⟨K, PySem.W.Frag.In.keeps hK k, c⟩
theorem obsXG_eq {n : Nat} {ex : PySem.W.Frag → Bool} {fa : List He.Fa} {fn : List He.DefD} {g : Addr → Option Obj} {s : Shared} (h : ∀ a, g a = s.heap.get? a) : obsXG n ex fa fn g = (hookX n ex fa fn).obs s := by
  have e : g = s.heap.get? := funext h
  rw [e] <;> rfl
section
variable {P : Program} {w : World} {K : PySem.W.Frag} {mg : Str → Option Value} {base : Heap} {k : Nat} {f : Addr} {fd : FuncData} {ps : List Str} {sp : Sp}
/-- where nothing is wished of errors, none comes out -/
theorem fnOk_cx0 (F : FnOk P w K mg base (L2.CX P w) k f fd ps sp) : FnOk P w K mg base CX0 k f fd ps (fun vs H Q _ => sp vs H Q fun _ _ _ => False) :=
  ⟨fun vs H Q E h => F.len vs H Q _ h, fun A outer s H args us vs Q E hr e b r h => codeAny_mono (F.run A outer s H args us vs Q _ hr e b r h) fun r s' q => by
    cases r with
    | ok fl => cases fl <;> exact q
    | error e =>
      obtain ⟨_, _, _, _, _, _, _, _, _, _, _, _, z⟩ := q
      exact z.elim⟩
theorem law_spK {g : Amb → List D → M → R D} (ht : ∀ (sa : Addr) (ns : List Int), ns.length ≤ 63 → ∃ m', g ⟨K, sa, ns⟩ [.scr] [] = .ok (.bl true) m') {H : Hp} {a : Addr} {ns : List Int} (hl : ns.length ≤ 63) (hS : SqL K H a (ns.map V.int)) :
    ∃ q : Addr × List Int, spD ⟨K, q.1, q.2⟩ 1 (g ⟨K, q.1, q.2⟩) [.ref a] H (fun v _ => v = .bl true) fun _ _ _ => False := by
  obtain ⟨m', e⟩ := ht a ns hl
  refine ⟨(a, ns), rfl, ⟨[], []⟩, [], [.scr], ⟨rfl, .nil, by simp, by simp, by simp⟩, .cons (.scr ?_) .nil, ?_⟩
  · rcases hS with h | h
    · exact .inl ⟨h, by simp [Z.im], by simp [Z.im]⟩
    · exact .inr h
  · rw [e]
    intro z' v H' _ _ hv
    cases hv
    rfl
end
/-! ### facts of classes -/
theorem errVB_ok {K : PySem.W.Frag} {mg : Str → Option Value} {x : Str} (h : errVB K x = true) (hm : mg x = some (.ref (He.ga K x))) : ErrV K mg x (He.ga K x) := by
  unfold errVB at h
  simp only [Bool.and_eq_true, decide_eq_true_eq] at h
  obtain ⟨a, b, c, d, e⟩ := h
  exact ⟨hm, a, b, c, d, e⟩
/-- whether an error of the class x is one of class y | of the built-in type y -/
def exmB (K : PySem.W.Frag) (x y : Str) (b : Bool) : Bool := decide (PySem.W.exmOne K (.ref (He.ga K x)) (.ref (He.ga K y)) = some b)
end DL

/-! own exceptions with an __init__: the facts of their classes, their raise -/
namespace DL
open PySem PySem.Spec PyProof.Rows L2
theorem passes_no {P : Program} {w : World} {X : Cx} : Passes (L2.CX P w) X (fun _ _ _ => False) := fun pins σ H s e s1 I q => by
  obtain ⟨_, _, _, _, _, _, _, _, _, _, _, _, z⟩ := q
  exact z.elim
theorem oexB_ok {K : PySem.W.Frag} {C : Addr} {newId : String} {bm : List Value} (h : oexB K C newId bm = true) : OexB K C newId bm := by
  unfold oexB at h
  simp only [Bool.and_eq_true, decide_eq_true_eq] at h
  obtain ⟨h0, h1, h2, h3, h4⟩ := h
  refine ⟨?_, h1, h2, h3, h4⟩
  split at h0
  · rename_i dd cd sl ho
    split at h0
    · rename_i k0 k1 k2 k3 n k5 hs
      simp only [Bool.and_eq_true, beq_iff_eq, Bool.not_eq_true'] at h0
      obtain ⟨rfl, hm, hd, hx⟩ := h0
      obtain ⟨nm, bs, mro, ns, qn, hdct, sn, sub, ab, col, del⟩ := cd
      dsimp only at hm hd hx
      subst hm; subst hd; subst hx
      have e : sl = #[k0, k1, k2, k3, some (.builtin n), k5] := by
        obtain ⟨l⟩ := sl
        simp only at hs
        rw [hs]
      subst e
      exact ⟨nm, qn, ns, bs, sn, sub, ab, col, dd, k0, k1, k2, k3, k5, ho⟩
    · cases h0
  · cases h0
/-- the default of the trail: an empty tuple of the written part -/
theorem trB_ok {K : PySem.W.Frag} {T : Addr} (h : trB K T = true) : WrT K T [] := by
  unfold trB at h
  split at h
  · rename_i o ho
    simp only [Bool.and_eq_true, decide_eq_true_eq] at h
    obtain ⟨h1, h2⟩ := h
    split at h2
    · rename_i its n hd
      have e : its = #[] := by simpa using h2
      subst e
      exact ⟨o, #[], n, ho, h1, hd, Nat.zero_le _, .nil⟩
    · cases h2
  · cases h
/-- the init and the trail of a class -/
structure IniX (P : Program) (w : World) (A : Amb) (mg : Str → Option Value) (base : Heap) (x f : Str) (newId : String) (bm : List Value) (pre : Str) (T : Addr) (fI : Addr) (fd : FuncData) : Prop where
  m : mg x = some (.ref (He.ga A.K x))
  O : OexB A.K (He.ga A.K x) newId bm
  n1 : PySem.W.findIn A.K (.ref (He.ga A.K x)) f = some none
  n2 : PySem.W.findIn A.K (.ref (He.ga A.K x)) "trail" = some none
  iC : PySem.W.findIn A.K (.ref (He.ga A.K x)) "__init__" = some (some (.ref fI))
  tI : PySem.W.typeIn A.K (.ref fI) = some (.type "function")
  F : FnOk P w A.K mg base (L2.CX P w) 1 fI fd ["self", f, "trail"] (spI A.K newId bm pre f)
  kb : KBp A.K fd ["self", f, "trail"] 2 [] [0, 1, 2] [.ref T]
  tT : WrT A.K T []
theorem binds_kb {K : PySem.W.Frag} {fd : FuncData} {p1 p2 p3 : Str} {dv : V} (h : KBp K fd [p1, p2, p3] 2 [] [0, 1, 2] [dv]) : ∃ u, Binds K fd [p1, p2, p3] [u] ∧ RelV dv u := by
  obtain ⟨mv, hb⟩ := h
  have v := hb.rel (vs := [.non, .non]) (us := [.none, .none]) (zs := []) (ws := []) (.cons rfl (.cons rfl .nil)) .nil
  cases mv with
  | nil =>
    have := v.length
    simp [pick] at this
  | cons u rest =>
    refine ⟨u, fun s us kin len => ?_, ?_⟩
    · have l2 : us.length = 2 := by simp at len; omega
      match us, l2 with
      | [a, b], _ => exact hb.to s [a, b] [] kin rfl rfl
    · cases v with
      | cons _ v => cases v with
        | cons _ v => cases v with
          | cons v _ => exact v
theorem small_str {x : Str} (h : x.length ≤ 1000) : x.length ≤ sizeLine := by rw [sizeLine_eq]; omega
theorem binds1_kb {K : PySem.W.Frag} {fd : FuncData} {p1 : Str} (h : KBp K fd [p1] 1 [] [0] []) : Binds K fd [p1] [] := by
  obtain ⟨mv, hb⟩ := h
  intro s us kin len
  have l1 : us.length = 1 := by simpa using len
  match us, l1 with
  | [a], _ => exact hb.to s [a] [] kin rfl rfl
/-- the default of the trail -/
theorem baseB_ok {K : PySem.W.Frag} {B initId : String} (h : baseB K B initId = true) : PySem.W.findCls K (.type B) (.type "type") "__init__" = some (.val (.builtin initId)) := by
  unfold baseB at h
  split at h
  · rename_i v e
    rw [e, beq_iff_eq.mp h]
  · cases h
theorem bn_VE {K : PySem.W.Frag} {mg : Str → Option Value} (h : baseB K "ValueError" "ValueError.__init__" = true) (hg : mg "ValueError" = none) : BaseN K mg "ValueError" "ValueError" "ValueError.__init__" :=
  ⟨PyProof.Rows.Boot.«ValueError», by decide, by decide, by kernel_rfl, by decide +kernel, by decide +kernel, baseB_ok h, hg⟩
theorem bn_LE {K : PySem.W.Frag} {mg : Str → Option Value} (h : baseB K "LookupError" "LookupError.__init__" = true) (hg : mg "LookupError" = none) : BaseN K mg "LookupError" "LookupError" "LookupError.__init__" :=
  ⟨PyProof.Rows.Boot.«LookupError», by decide, by decide, by kernel_rfl, by decide +kernel, by decide +kernel, baseB_ok h, hg⟩
theorem bn_AE {K : PySem.W.Frag} {mg : Str → Option Value} (h : baseB K "ArithmeticError" "ArithmeticError.__init__" = true) (hg : mg "ArithmeticError" = none) : BaseN K mg "ArithmeticError" "ArithmeticError" "ArithmeticError.__init__" :=
  ⟨PyProof.Rows.Boot.«ArithmeticError», by decide, by decide, by kernel_rfl, by decide +kernel, by decide +kernel, baseB_ok h, hg⟩
theorem iniX_ok {P : Program} {w : World} {K : PySem.W.Frag} {sa : Addr} {ns : List Int} {mg : Str → Option Value} {base : Heap} {x f : Str} {newId : String} {bm : List Value} {pre : Str} {fd : FuncData} (h : iniB K x f newId bm (trA K x) = true) (hm : mg x = some (.ref (He.ga K x)))
    (F : FnOk P w K mg base (L2.CX P w) 1 (iniA K x) fd ["self", f, "trail"] (spI K newId bm pre f)) (kb : KBp K fd ["self", f, "trail"] 2 [] [0, 1, 2] [.ref (trA K x)]) : IniX P w ⟨K, sa, ns⟩ mg base x f newId bm pre (trA K x) (iniA K x) fd := by
  unfold iniB at h
  simp only [Bool.and_eq_true, decide_eq_true_eq] at h
  obtain ⟨h1, h2, h3, h4, h5, h6⟩ := h
  exact ⟨hm, oexB_ok h1, h2, h3, h4, h5, F, kb, trB_ok h6⟩
section
variable {P : Program} {w : World} {A : Amb} {mg : Str → Option Value} {base : Heap} {x f : Str} {B newId initId : String} {bm : List Value} {pre : Str} {T fI : Addr} {fd : FuncData} {X : Cx} {W : WX} {e : Expr} {te : TE} {p pos pos2 : Pos}
/-- raise x(e) -/
theorem ps_raiseI (Bk : BaseOk B newId initId bm) (hX : X.K = A.K ∧ X.mg = mg ∧ X.prog = P ∧ X.w = w ∧ X.base = base) (R : IniX P w A mg base x f newId bm pre T fI fd) (hg : Gl X x) (hr : Room 2 X.A) (hc : X.calm = true) (tk : Takes X W) (he : PE X e te)
    (n2 : (x == ("__debug__" : Str)) = false := by decide) (h1 : starEach [e] X.env = (false, eval e X.env) :: starEach [] X.env := by rfl) :
    PS X (.Raise (some (.Call (.Name x p) [e] [] pos)) none pos2) (fun _ σ H => tMkO (He.ga A.K x) (spI A.K newId bm pre f) [.ref T] (tCons te tNil) σ H fun cls d H1 => W cls d σ H1) := by
  obtain ⟨h2, h3, h4, h5, h6⟩ := hX
  subst h3; subst h4; subst h5; subst h6
  obtain ⟨u, hb, rv⟩ := binds_kb R.kb
  exact ps_raise hc tk (pmk_ini Bk (by rw [h2]; exact R.O) (by rw [h2]; exact R.iC) (by rw [h2]; exact R.tI) hr (by rw [h2]; exact R.F) (by rw [h2]; exact hb) (.cons rv .nil) passes_no hg R.m (pa_cons he pa_nil h1) n2 h1)
theorem dens_raiseR {fe : Env → M → R D} (R : IniX P w A mg base x f newId bm pre T fI fd) (he : Den A (WE W) te fe) : DenS A (WE W) (fun _ σ H => tMkO (He.ga A.K x) (spI A.K newId bm pre f) [.ref T] (tCons te tNil) σ H fun cls d H1 => W cls d σ H1) (sRaiseI (He.ga A.K x) pre f fe) :=
  dens_raiseI he R.O R.n1 R.n2 R.tT
end
end DL

/-! DM: sundry constructs -/
namespace DL
open PySem PySem.Spec PyProof.Rows L2
/-! ### len(set(xs)) -/
def tLenSetU (K : PySem.W.Frag) (ta : TE) : TE := fun σ H Q => ta σ H fun x H1 => ∃ l, ∃ xs : List Str, x = .ref l ∧ (SqL K H1 l (xs.map V.str) ∨ SqT K H1 l (xs.map V.str)) ∧ xs.length + 1 < scanBound ∧ Q (.int (cntS xs xs.length)) H1
theorem pe_lenSetU {X : Cx} {K : PySem.W.Frag} {a : Expr} {ta : TE} {p p2 q pos : Pos} (hK : X.K = K) (hc : X.calm = true) (hg : Gl X "len") (hm : X.mg "len" = none) (hg2 : Gl X "set") (hm2 : X.mg "set" = none) (ha : PE X a ta)
    (na : starEach [a] X.env = (false, eval a X.env) :: starEach [] X.env := by rfl) : PE X (.Call (.Name "len" p) [.Call (.Name "set" p2) [a] [] q] [] pos) (tLenSetU K ta) := by
  subst hK
  refine ⟨fun pins s σ H Q I h => ?_⟩
  refine Call_ (ld_blt I hg hm boot_len (PyProof.Rows.callWith_builtin1 (PyProof.Rows.args_cons ?_ rfl) rfl rfl))
  refine Call_ (ld_blt I hg2 hm2 boot_set ?_)
  refine PyProof.Rows.callWith_type1 (PyProof.Rows.args_cons (thn (ha.run pins s σ H _ I h) fun v s1 w => PyProof.Rows.args_nil ?_) na) na rfl
  obtain ⟨x, H1, I1, r1, l, xs, rfl, hq, hb, q1⟩ := w
  cases r1
  have last : ∀ h2 tk, MadeSet X.prog X.w s1 xs h2 →
      wpAny (model X.prog X.w) X.A (spliced (backTo pos (starEach [] X.env))) (fun vs s₂ => wpAny (model X.prog X.w) X.A (call (.builtin "len") (Value.ref s1.heap.objs.size :: vs)) (EP X pins σ Q) X.xe s₂) X.xe { s1 with heap := h2, toks := tk } := by
    intro h2 tk md
    obtain ⟨⟨o, es, ep, t, ho, hex, hd, _, _, _, hf, hn⟩, hk⟩ := md
    have I2 : Inv X pins σ H1 { s1 with heap := h2, toks := tk } := I1.kept fun b o e => hk b o (Heap.lt_size e) e
    have := cntS_le xs xs.length
    refine PyProof.Rows.args_nil (call_len_set ho hex hd hf (by rw [hn]; unfold scanBound at hb; omega) ⟨.int (cntS xs xs.length), H1, I2.tok _, ⟨_, by rw [hn]⟩, q1⟩)
  rcases hq with hq | hq
  · obtain ⟨its, r, pl, hz⟩ := I1.list hq
    exact set_of_list (I1.ok.hd hc) pl.isList (by simpa using strsAre_of r) hb last
  · obtain ⟨its, r, pl, hz⟩ := I1.tuple hq
    exact set_of_tuple (I1.ok.hd hc) pl (by simpa using strsAre_of r) hb last
def lenSetD (d : D) (m : M) : R D := match (itemsOf d m).bind txsOf with
  | some ys => if ys.length + 1 < scanBound then .ok (.int (cntS ys ys.length)) m else .no
  | none => .no
section
variable {A : Amb} {W : L2.St → XK} {ta tb tv te : TE} {fa fb fv fe fo : Env → M → R D}
theorem den_lenSet (ha : Den A W ta fa) : Den A W (tLenSetU A.K ta) (eUn lenSetD fa) := by
  intro z H σ env m Q hm hs h
  refine ha z H σ env m _ hm hs (post_bind h fun z1 H1 d m1 v s1 hm1 hv h1 => ?_)
  unfold lenSetD at h1
  split at h1
  · rename_i ys e
    obtain ⟨c, h1⟩ := post_if h1
    obtain ⟨ds, e1, e2⟩ := Option.bind_eq_some_iff.mp e
    obtain ⟨a, vs, rfl, hq, r⟩ := itemsOf_ok hm1 hv e1
    have := txsOf_ok r e2
    subst this
    exact ⟨a, ys, rfl, hq, c, h1.ok_at hm1 (.int _)⟩
  · exact h1.elim
/-! ### x in xs, data of any depth -/
def rInP (K : PySem.W.Frag) (neg : Bool) : R2 := fun x y H Q => ∃ d ds c, (c = PyData.list ds ∨ c = PyData.tuple ds) ∧ Dp K H x d ∧ Dp K H y c ∧ SeqAt.shaped d = true ∧ SeqAt.shaped c = true ∧ Q (.bl (neg ^^ ds.any fun z => PyData.eqv z d)) H
theorem op_inP {X : Cx} {K : PySem.W.Frag} (hK : X.K = K) (hu : X.A.units + 65 < cLine) : OpR X (compareOp .In) (rInP K false) := by
  subst hK
  intro pins s σ H x y v u Q I rx ry h
  obtain ⟨d, ds, c, hc, hd, he, sd, se, q⟩ := h
  obtain ⟨as, r1⟩ := Dp.reads I d x v hd rx
  obtain ⟨bs, r2⟩ := Dp.reads I c y u he ry
  rw [Bool.false_xor] at q
  rcases hc with rfl | rfl
  · exact SeqAt.in_list_reads r2 r1 (SeqAt.canLay_of_shaped se) (SeqAt.canLay_of_shaped sd) (room_in_shaped sd hu) ⟨.bl _, H, I, rfl, q⟩
  · exact SeqAt.in_tuple_reads r2 r1 (SeqAt.canLay_of_shaped se) (SeqAt.canLay_of_shaped sd) (room_in_shaped sd hu) ⟨.bl _, H, I, rfl, q⟩
theorem op_notInP {X : Cx} {K : PySem.W.Frag} (hK : X.K = K) (hu : X.A.units + 65 < cLine) : OpR X (compareOp .NotIn) (rInP K true) := by
  subst hK
  intro pins s σ H x y v u Q I rx ry h
  obtain ⟨d, ds, c, hc, hd, he, sd, se, q⟩ := h
  obtain ⟨as, r1⟩ := Dp.reads I d x v hd rx
  obtain ⟨bs, r2⟩ := Dp.reads I c y u he ry
  rw [Bool.true_xor] at q
  rcases hc with rfl | rfl
  · exact SeqAt.notIn_list_reads r2 r1 (SeqAt.canLay_of_shaped se) (SeqAt.canLay_of_shaped sd) (room_in_shaped sd hu) ⟨.bl _, H, I, rfl, q⟩
  · exact SeqAt.notIn_tuple_reads r2 r1 (SeqAt.canLay_of_shaped se) (SeqAt.canLay_of_shaped sd) (room_in_shaped sd hu) ⟨.bl _, H, I, rfl, q⟩
def itemsP : PyData → Option (List PyData)
  | .list ds => some ds
  | .tuple ds => some ds
  | _ => none
def inPD (neg : Bool) (x y : D) (m : M) : R D := match toPm x m, toPm y m with
  | some p, some c => (match itemsP c with
    | some ds => if SeqAt.shaped p = true ∧ SeqAt.shaped c = true then .ok (.bl (neg ^^ ds.any fun z => PyData.eqv z p)) m else .no
    | none => .no)
  | _, _ => .no
theorem opd_inP {neg : Bool} : OpD A (rInP A.K neg) (inPD neg) := by
  intro z H m x y dx dy W Q hm hx hy h
  unfold inPD at h
  split at h
  · rename_i p c e1 e2
    split at h
    · rename_i ds e3
      obtain ⟨s, h⟩ := post_if h
      refine ⟨p, ds, c, ?_, toPm_ok hm hx e1, toPm_ok hm hy e2, s.1, s.2, h.ok_at hm (.bl _)⟩
      cases c <;> first | (cases e3; exact .inl rfl) | (cases e3; exact .inr rfl) | cases e3
    · exact h.elim
  · exact h.elim
/-! ### is, of truths -/
def isBD (neg : Bool) (x y : D) (m : M) : R D := match x, y with
  | .bl a, .bl b => .ok (.bl (neg ^^ decide (a = b))) m
  | _, _ => .no
theorem opd_isB : OpD A rIsB (isBD false) := by
  intro z H m x y dx dy W Q hm hx hy h
  unfold isBD at h
  split at h
  · cases hx; cases hy
    exact ⟨_, _, rfl, rfl, h.ok_at hm (by rw [Bool.false_xor]; exact .bl _)⟩
  · exact h.elim
theorem opd_notB : OpD A rNotB (isBD true) := by
  intro z H m x y dx dy W Q hm hx hy h
  unfold isBD at h
  split at h
  · cases hx; cases hy
    exact ⟨_, _, rfl, rfl, h.ok_at hm (by rw [Bool.true_xor]; exact .bl _)⟩
  · exact h.elim
/-! ### methods of texts -/
def ask1D (f : Str → Str → Bool) : D → List D → M → R D
  | .str a, [.str b], m => .ok (.bl (f a b)) m
  | _, _, _ => .no
theorem mtd_ask1 {f : Str → Str → Bool} : MtD A (fun x xs H Q => ∃ a b, x = .str a ∧ xs = [.str b] ∧ Q (.bl (f a b)) H) (ask1D f) := by
  intro z H m x xs d ds W Q hm hx hxs h
  unfold ask1D at h
  split at h
  · cases hx
    cases hxs with
    | cons h1 h2 =>
      cases h2; cases h1
      exact ⟨_, _, rfl, rfl, h.ok_at hm (.bl _)⟩
  · exact h.elim
/-! ### sorted(texts) -/
def sortedTD : List D → M → R D
  | [d], m => match (seqOf d m).bind txsOf with
    | some ys => if ys.length < 64 then .ok (.lst (txs (sortT ys))) m else .no
    | none => .no
  | _, _ => .no
theorem cr_sortedTA {X : Cx} {K : PySem.W.Frag} (hK : X.K = K) : CallR X (.builtin "sorted") (rSortedS K) := by subst hK; exact cr_sortedS
theorem calld_sortedT : CallD A (rSortedS A.K) sortedTD := by
  intro z H m xs ds W Q hm hx h
  unfold sortedTD at h
  split at h
  · cases hx with
    | cons h1 h2 =>
      cases h2
      split at h
      · rename_i ys e
        obtain ⟨c, h⟩ := post_if h
        obtain ⟨ds', e1, e2⟩ := Option.bind_eq_some_iff.mp e
        obtain ⟨a, vs, rfl, hq, r⟩ := seqOf_ok hm h1 e1
        have := txsOf_ok r e2
        subst this
        refine ⟨a, ys, rfl, SqL.of hq, c, fun zs p hp hs np => ?_⟩
        have := sortT_eq hp hs
        subst this
        exact lay_lst hm (repL_txs _) h p np
      · exact h.elim
  · exact h.elim
/-! ### several names -/
def gN : List Nat → TGs
  | [] => gNil
  | i :: is => gCons (gName i) (gN is)
def setAll : List Nat → List D → Env → Env
  | i :: is, d :: ds, env => setAll is ds (env.set i (some d))
  | _, _, env => env
def partsT : D → Option (List D)
  | .tup ds => some ds
  | .tk ks => some (ks.map keyD)
  | _ => none
theorem repL_keys {z : Z} {H : Hp} : ∀ ks : List Key, RepL A z H (ks.map kV) (ks.map keyD)
  | [] => .nil
  | k :: ks => .cons (by cases k <;> first | exact .int _ | exact .str _) (repL_keys ks)
theorem partsT_ok {z : Z} {H : Hp} {v : V} {d : D} {ds : List D} (h : Rep A z H v d) (e : partsT d = some ds) : ∃ a vs, v = .ref a ∧ SqT A.K H a vs ∧ RepL A z H vs ds := by
  cases h with
  | tup h r => cases e; exact ⟨_, _, rfl, h.sq, r⟩
  | tk h i => cases e; exact ⟨_, _, rfl, .inl (.inl h), repL_keys _⟩
  | _ => cases e
theorem gN_ok {z : Z} {H : Hp} : ∀ {is : List Nat} {vs : List V} {ds : List D} {σ : L2.St} {env : Env} {Q : L2.St → Hp → Prop}, RepL A z H vs ds → is.length = ds.length → Sl A z H σ env →
    (∀ σ', Sl A z H σ' (setAll is ds env) → σ'.length = σ.length → (∀ i, i ∉ is → σ'[i]? = σ[i]?) → Q σ' H) → gN is vs σ H Q
  | [], _, _, σ, env, Q, .nil, _, hs, q => ⟨rfl, q σ hs rfl fun _ _ => rfl⟩
  | i :: is, _, _, σ, env, Q, .cons (v := v) (d := d) h r, hl, hs, q => by
    refine ⟨v, _, rfl, ?_⟩
    refine gN_ok r (Nat.succ.inj hl) (hs.set h) fun σ' s1 s2 s3 => q σ' s1 (s2.trans (List.length_set ..)) fun j hj => ?_
    rw [s3 j fun e => hj (List.mem_cons_of_mem _ e)]
    exact List.getElem?_set_ne fun e => hj (by rw [← e]; exact List.mem_cons_self)
def sUnpN (is : List Nat) (fe : Env → M → R D) : Env → M → S := fun env m => (fe env m).to env fun d m => match partsT d with
  | some ds => if is.length = ds.length then .nx (setAll is ds env) m else .no
  | none => .no
theorem dens_unpN {n : Nat} {is : List Nat} (he : Den A W te fe) (hn : is.length = n) : DenS A W (tAsg te (gTup A.K n (gN is))) (sUnpN is fe) := by
  intro z H σ env m E hm hs h
  refine he z H σ env m _ hm hs (post_to hs h fun z1 H1 d m1 v s1 hm1 hs1 hv h1 => ?_)
  split at h1
  · rename_i ds e
    split at h1
    · rename_i c
      obtain ⟨a, vs, rfl, hl, r⟩ := partsT_ok hv e
      refine ⟨a, vs, rfl, hl, by rw [r.length, ← c, hn], gN_ok r c hs1 fun σ' q1 q2 q3 => h1 z1 σ' H1 Step.refl hm1 q1⟩
    · exact h1.elim
  · exact h1.elim
def gPutN (is : List Nat) : D → Env → M → Option Env := fun d env _ => match partsT d with
  | some ds => if is.length = ds.length then some (setAll is ds env) else none
  | none => none
theorem deng_unpN {n : Nat} {is : List Nat} (hn : is.length = n) : DenG A is (gTup A.K n (gN is)) (gPutN is) := by
  intro z H σ env m v d env' Q hm hs hv e q
  unfold gPutN at e
  split at e
  · rename_i ds e1
    split at e
    · rename_i c
      cases e
      obtain ⟨a, vs, rfl, hl, r⟩ := partsT_ok hv e1
      exact ⟨a, vs, rfl, hl, by rw [r.length, ← c, hn], gN_ok r c hs fun σ' q1 q2 q3 => q σ' q1 q2 q3⟩
    · cases e
  · cases e
/-! ### o.f += i -/
def addI (x y : D) (m : M) : R D := match x, y with
  | .int i, .int j => .ok (.int (i + j)) m
  | _, _ => .no
def sFldAugD (K : PySem.W.Frag) (nm : Str) (fo fv : Env → M → R D) : Env → M → S := fun env m => (fo env m).to env fun o m => match objOf o m with
  | some (C, fs) => if clsB K C nm = true then (match fs.lookup nm with
    | some (.int i) => (fv env m).to env fun y m => (match o, y with
      | .cell k, .int j => (match m[k]? with
        | some (.ins C' fs') => if C' = C ∧ fs'.length + 1 < 1000 then .nx env (m.set k (.ins C' (putD nm (.int (i + j)) fs'))) else .no
        | _ => .no)
      | _, _ => .no)
    | _ => .no) else .no
  | none => .no
theorem putF_len {nm : Str} {v : V} : ∀ fs : List (Str × V), (putF nm v fs).length ≤ fs.length + 1
  | [] => Nat.le_refl _
  | (k, w) :: fs => by
    have ih := putF_len (nm := nm) (v := v) fs
    show (if k = nm then (k, v) :: fs else (k, w) :: putF nm v fs).length ≤ _
    split
    · simp
    · simp only [List.length_cons]; omega
theorem dens_fldAug {nm : Str} {to : TE} (ho : Den A W to fo) (hv : Den A W tv fv) : DenS A W (sFldAug A.K to tv rAdd nm) (sFldAugD A.K nm fo fv) := by
  intro z H σ env m E hm hs h
  refine ho z H σ env m _ hm hs (post_to hs h fun z1 H1 o m1 x s1 hm1 hs1 hx h1 => ?_)
  split at h1
  · rename_i C fs e
    split at h1
    · rename_i c
      obtain ⟨a, dx, vf, rfl, ha, rf⟩ := objOf_ok hm1 hx e
      split at h1
      · rename_i i el
        obtain ⟨v, l, r⟩ := rf.lookup.2 _ el
        refine ⟨a, C, dx, vf, v, rfl, ha, (clsB_ok c).1, (clsB_ok c).2, l, ?_⟩
        refine hv z1 H1 σ env m1 _ hm1 hs1 (post_to hs1 h1 fun z2 H2 y m2 w s2 hm2 hs2 hw h2 => ?_)
        split at h2
        · rename_i k j
          split at h2
          · rename_i C' fs' q
            split at h2
            · rename_i c2
              obtain ⟨rfl, cl⟩ := c2
              cases r
              cases hw
              have hx2 := hx.step s2
              cases hx2 with
              | cell hk =>
                obtain ⟨dx2, vs2, e1, r1⟩ := hm2.at_ k _ _ hk q
                refine ⟨i, j, rfl, rfl, dx2, vs2, e1, by rw [r1.length]; omega, ?_⟩
                have st : Step z2 H2 z2 (upd H2 a (.ins C' dx2 (putF nm (.int (i + j)) vs2))) := Step.put hm2 hk (nofr e1)
                exact h2 z2 σ _ st (hm2.put hk ⟨dx2, _, upd_same, (r1.put (.int _)).step st⟩ (nofr e1)) (hs2.step st)
            · exact h2.elim
          · exact h2.elim
        · exact h2.elim
      · exact h1.elim
    · exact h1.elim
  · exact h1.elim
/-! ### a written tuple of texts -/
theorem strsB_ok : ∀ {xs : List Str} {vs : List Value}, strsB vs xs = true → Vals (xs.map V.str) vs
  | [], [], _ => .nil
  | [], v :: vs, h => by
    have h : strsB (v :: vs) [] = true := h
    unfold strsB at h
    split at h
    · rename_i e _; cases e
    · rename_i e; cases e
    · cases h
  | x :: xs, [], h => by
    have h : strsB [] (x :: xs) = true := h
    unfold strsB at h
    cases h
  | x :: xs, v :: vs, h => by
    have h : strsB (v :: vs) (x :: xs) = true := h
    unfold strsB at h
    split at h
    · rename_i e _; cases e
    · rename_i y t vs' x' xs' e1 e2
      cases e1; cases e2
      obtain ⟨h1, h2⟩ := Bool.and_eq_true_iff.mp h
      have := of_decide_eq_true h1
      subst this
      exact .cons ⟨t, rfl⟩ (strsB_ok h2)
    · cases h
theorem tupB_ok {K : PySem.W.Frag} {a : Addr} {xs : List Str} (h : tupB K a xs = true) : WrT K a (xs.map V.str) := by
  unfold tupB at h
  split at h
  · rename_i o e
    obtain ⟨h1, h2⟩ := Bool.and_eq_true_iff.mp h
    split at h2
    · rename_i its n e2
      obtain ⟨h3, h4⟩ := Bool.and_eq_true_iff.mp h2
      exact ⟨o, its, n, e, of_decide_eq_true h1, e2, of_decide_eq_true h3, strsB_ok h4⟩
    · cases h2
  · cases h
theorem den_wtup {a : Addr} {xs : List Str} (h : WrT A.K a (xs.map V.str)) : Den A W (tC (.ref a)) (eC (.tup (txs xs))) := fun z H σ env m Q hm hs q => q.ok_at hm (.tup (.inr h) (repL_txs _))
end
end DL
namespace DL
open PySem PySem.Spec PyProof.Rows L2
section
variable {A : Amb}
def sortedTC : List D → M → R D
  | [d], m => match (seqOf d m).bind txsOf with
    | some ys => if ys.length < 64 then .ok (.cell m.length) (m ++ [.lst (txs (sortT ys))]) else .no
    | none => .no
  | _, _ => .no
theorem calld_sortedTC : CallD A (rSortedS A.K) sortedTC := by
  intro z H m xs ds W Q hm hx h
  unfold sortedTC at h
  split at h
  · cases hx with
    | cons h1 h2 =>
      cases h2
      split at h
      · rename_i ys e
        obtain ⟨c, h⟩ := post_if h
        obtain ⟨ds', e1, e2⟩ := Option.bind_eq_some_iff.mp e
        obtain ⟨a, vs, rfl, hq, r⟩ := seqOf_ok hm h1 e1
        have := txsOf_ok r e2
        subst this
        refine ⟨a, ys, rfl, SqL.of hq, c, fun zs p hp hs np => ?_⟩
        have := sortT_eq hp hs
        subst this
        exact lay_cell hm (repL_txs _) h p np
      · exact h.elim
  · exact h.elim
def rMax2 : List V → Hp → VK → Prop := fun xs H Q => ∃ i j, xs = [.int i, .int j] ∧ Q (.int (if j > i then j else i)) H
def maxD : List D → M → R D
  | [.int i, .int j], m => .ok (.int (if j > i then j else i)) m
  | _, _ => .no
theorem calld_max2 : CallD A rMax2 maxD := by
  intro z H m xs ds W Q hm hx h
  unfold maxD at h
  split at h
  · cases hx with
    | cons h1 h2 =>
      cases h2 with
      | cons h2 h3 =>
        cases h3; cases h1; cases h2
        exact ⟨_, _, rfl, h.ok_at hm (.int _)⟩
  · exact h.elim
end
end DL
namespace DL
open PySem PySem.Spec PyProof.Rows L2
theorem ps_fldaugA {X : Cx} {K : PySem.W.Frag} {o value : Expr} {f : Str} {pos tpos : Pos} {ta tv : TE} (hK : X.K = K) (ha : PE X o ta) (hv : PE X value tv) : PS X (.AugAssign (.Attribute o f tpos) .Add value pos) (sFldAug K ta tv rAdd f) := by
  subst hK
  exact ps_fldaug ha hv in_add
end DL

/-! DM: equations -/
namespace DL
open PySem PySem.Spec PyProof.Rows L2
section
variable (env : Env) (m : M) (f g h fd fy fv fo fx : Env → M → R D) (K : PySem.W.Frag) (fa fk : Env → M → R (List D))
theorem eTNew_ap : eTNew env m = .ok (.cell m.length) (m ++ [.dT []]) := rfl
theorem eRGet_ap : eRGet fd fy env m = (fd env m).bind fun x m => (fy env m).bind fun y m => match getR x y m with
  | some (some d) => .ok d m
  | _ => .no := rfl
theorem eRIn_ap (neg : Bool) : eRIn neg fy fd env m = (fy env m).bind fun y m => (fd env m).bind fun x m => match getR x y m with
  | some o => .ok (.bl (neg ^^ o.isSome)) m
  | _ => .no := rfl
theorem eRGet1_ap : eRGet1 fd fy env m = (fd env m).bind fun x m => if isDR x m = true then (fy env m).bind fun y m => (match getR x y m with
    | some o => .ok (o.getD .non) m
    | none => .no) else .no := rfl
theorem eRGet2_ap : eRGet2 fd fy fx env m = (fd env m).bind fun x m => if isDR x m = true then (fy env m).bind fun y m => (fx env m).bind fun e m => (match getR x y m with
    | some o => .ok (o.getD e) m
    | none => .no) else .no := rfl
theorem sTPutD_ap : sTPutD fd fy fv env m = (fv env m).to env fun v m => (fd env m).to env fun x m => (fy env m).to env fun y m => match kvtOf x m, tkOf y with
  | some (j, kvs), some k => if kvs.length < sizeLine then .nx env (m.set j (.dT (putKD kvs k v))) else .no
  | _, _ => .no := rfl
theorem sTDelD_ap : sTDelD fd fy env m = (fd env m).to env fun x m => (fy env m).to env fun y m => match kvtOf x m, tkOf y with
  | some (j, kvs), some k => if (valK kvs k).isSome = true then .nx env (m.set j (.dT (dropKD kvs k))) else .no
  | _, _ => .no := rfl
theorem sUnpN_ap (is : List Nat) : sUnpN is f env m = (f env m).to env fun d m => match partsT d with
  | some ds => if is.length = ds.length then .nx (setAll is ds env) m else .no
  | none => .no := rfl
theorem sFldAugD_ap (nm : Str) : sFldAugD K nm fo fv env m = (fo env m).to env fun o m => match objOf o m with
  | some (C, fs) => if clsB K C nm = true then (match fs.lookup nm with
    | some (.int i) => (fv env m).to env fun y m => (match o, y with
      | .cell k, .int j => (match m[k]? with
        | some (.ins C' fs') => if C' = C ∧ fs'.length + 1 < 1000 then .nx env (m.set k (.ins C' (putD nm (.int (i + j)) fs'))) else .no
        | _ => .no)
      | _, _ => .no)
    | _ => .no) else .no
  | none => .no := rfl
@[simp] theorem partsT_tup (ds : List D) : partsT (.tup ds) = some ds := rfl
@[simp] theorem partsT_tk (ks : List Key) : partsT (.tk ks) = some (ks.map keyD) := rfl
@[simp] theorem keyD_inr (x : Str) : keyD (.inr x) = .str x := rfl
@[simp] theorem keyD_inl (x : Int) : keyD (.inl x) = .int x := rfl
@[simp] theorem tkOf_tk (ks : List Key) : tkOf (.tk ks) = some ks := rfl
theorem getR_tk (x : D) (k : List Key) : getR x (.tk k) m = (kvtR x m).map fun kvs => valK kvs k := rfl
theorem getR_str (x : D) (k : Str) : getR x (.str k) m = (kvsR x m).map fun kvs => valK kvs (.inr k) := rfl
theorem kvtR_cell (k : Nat) : kvtR (.cell k) m = match m[k]? with
    | some (.dT kvs) => some kvs
    | some (.frT kvs) => some kvs
    | _ => none := rfl
theorem kvsR_cell (k : Nat) : kvsR (.cell k) m = match m[k]? with
    | some (.dK kvs) => some kvs
    | some (.frK kvs) => some kvs
    | _ => none := rfl
theorem kvtOf_cell (k : Nat) : kvtOf (.cell k) m = match m[k]? with
    | some (.dT kvs) => some (k, kvs)
    | _ => none := rfl
theorem mkK_2 (x y : Str) : mkK [.str x, .str y] m = .ok (.tk [.inr x, .inr y]) m := by
  have : ([D.str x, .str y] : List D).length ≤ sizeLine := by rw [sizeLine_eq]; show 2 ≤ 16777216; omega
  unfold mkK
  rw [if_pos this]
  rfl
theorem lenTD_cell (k : Nat) : lenTD [.cell k] m = match kvtOf (.cell k) m with
    | some (_, kvs) => .ok (.int kvs.length) m
    | none => .no := rfl
theorem sTryL_ex {hs : List HD} {Fb : Env → M → S} {env1 : Env} {m1 : M} {x : X} (e : Fb env m = .ex x env1 m1) : sTryL hs Fb env m = sHands hs x env1 m1 := by unfold sTryL; rw [e]
theorem sTryL_nx {hs : List HD} {Fb : Env → M → S} {env1 : Env} {m1 : M} (e : Fb env m = .nx env1 m1) : sTryL hs Fb env m = .nx env1 m1 := by unfold sTryL; rw [e]
theorem sHands_cons (hd : HD) (hs : List HD) (x : X) : sHands (hd :: hs) x env m = match hd.dec x.C with
    | some true => suiteS hd.nm hd.F x env m
    | some false => sHands hs x env m
    | none => .no := rfl
theorem inPD_ap (neg : Bool) (x y : D) : inPD neg x y m = match toPm x m, toPm y m with
  | some p, some c => (match itemsP c with
    | some ds => if SeqAt.shaped p = true ∧ SeqAt.shaped c = true then .ok (.bl (neg ^^ ds.any fun z => PyData.eqv z p)) m else .no
    | none => .no)
  | _, _ => .no := rfl
end
end DL
namespace DL
open PySem PySem.Spec PyProof.Rows L2
section
variable {env : Env} {m m0 m1 m2 : M} {f fo : Env → M → R D} {fa fk fr : Env → M → R (List D)}
theorem sDrop_ok {d : D} (h : f env m = .ok d m1) : sDrop f env m = .nx env m1 := by rw [sDrop_ap, h]; rfl
theorem sSet_ok {i : Nat} {d : D} (h : f env m = .ok d m1) : sSet i f env m = .nx (env.set i (some d)) m1 := by rw [sSet_ap, h]; rfl
theorem aCons_ok {d : D} {ds : List D} (h : f env m = .ok d m1) (h2 : fr env m1 = .ok ds m2) : aCons f fr env m = .ok (d :: ds) m2 := by rw [aCons_ap, h, R.bind_ok, h2]; rfl
theorem eCall_ok {ds : List D} {r : R D} {g : List D → M → R D} (h : fr env m = .ok ds m1) (h2 : g ds m1 = r) : eCall g fr env m = r := by rw [eCall_ap, h, R.bind_ok, h2]
theorem eMtP_ok {C : Addr} {nm : Str} {n k np : Nat} {is : List Nat} {dd : List D} {g : List D → M → R D} {o : D} {fs : List (Str × D)} {ds es : List D} {r : R D} (ho : fo env m = .ok o m0) (hO : objOf o m0 = some (C, fs)) (hl : fs.lookup nm = none) (ha : fa env m0 = .ok ds m1) (hk : fk env m1 = .ok es m2)
    (h : ds.length = n ∧ es.length = k ∧ (pick is ((o :: ds) ++ (es ++ dd))).length = np) (hg : g (pick is ((o :: ds) ++ (es ++ dd))) m2 = r) : eMtP C nm n k np is dd g fo fa fk env m = r := by
  rw [eMtP_ap, ho, R.bind_ok, hO]
  show (if C = C ∧ fs.lookup nm = none then _ else _) = _
  rw [if_pos ⟨rfl, hl⟩, ha, R.bind_ok, hk, R.bind_ok, if_pos h, hg]
theorem eMkP_ok {C : Addr} {n k np : Nat} {is : List Nat} {dd : List D} {g : List D → M → R D} {ds es : List D} {r : R D} (ha : fa env m = .ok ds m1) (hk : fk env m1 = .ok es m2)
    (h : ds.length = n ∧ es.length = k ∧ (pick is ((D.non :: ds) ++ (es ++ dd))).length = np) (hg : mkObj C g (fun o => pick is ((o :: ds) ++ (es ++ dd))) m2 = r) : eMkP C n k np is dd g fa fk env m = r := by
  rw [eMkP_ap, ha, R.bind_ok, hk, R.bind_ok, if_pos h, hg]
end
end DL

/-! DM: dict comprehensions; methods of a thing whose class is one of several -/
namespace DL
open PySem PySem.Spec L2
def dcompD (put : D → Env → M → Option Env) (c : Env → M → R Bool) (ek ev : Env → M → R D) (env : Env) : List D → List (Key × D) → M → R (List (Key × D))
  | [], acc, m => .ok acc m
  | d :: ds, acc, m => putR (put d env m) fun env1 => (c env1 m).bindS fun b m => if b = true then ((ek env1 m).bindS fun k m => (ev env1 m).bindS fun v m => match keyOf k with
    | some q => if acc.length < sizeLine then dcompD put c ek ev env ds (putKD acc q v) m else .no
    | none => .no) else dcompD put c ek ev env ds acc m
def mkDk : List (Key × D) → M → R D := fun kvs m => .ok (.cell m.length) (m ++ [.dK kvs])
def eDComp (vs : List Nat) (it : Env → M → R (List D)) (put : D → Env → M → Option Env) (c : Env → M → R Bool) (ek ev : Env → M → R D) : Env → M → R D :=
  fun env m => (it env m).bind fun ds m => (dcompD put c ek ev (wipeD env vs) ds [] m).bindS mkDk
section
variable {A : Amb} {W W' : L2.St → XK} {tk tv : TE} {tt : TT} {fk fv : Env → M → R D} {ft : Env → M → R Bool}
theorem den_dcomp {js vs : List Nat} {wi : TI} {g : TG} {put : D → Env → M → Option Env} {fi : Env → M → R (List D)} (hj : ∀ i ∈ js, i ∈ vs)
    (hi : DenI A W wi fi) (hg : DenG A js g put) (hc : DenT A W' tt ft) (hk : Den A W' tk fk) (he : Den A W' tv fv) : Den A W (tDc wi g tt tk tv vs) (eDComp vs fi put ft fk fv) := by
  intro z H σ env m Q hm hs h
  refine hi z H σ env m _ hm hs (post_bind h fun z1 H1 ds m1 J s1 hm1 hJ h1 => ?_)
  intro p hp
  have hs1 := hs.step s1
  have hw : Sl A (z1.hide p) (upd H1 p (.dK [])) (L2.wipe σ vs) (wipeD env vs) := ((hs1.wipe vs).hide hp).step (step_hide (o := .dK []) hm1 hp)
  refine ⟨fun i n H' => n = ds.length - i ∧ i ≤ ds.length ∧ ∃ z' xs acc m', Step z1 H1 z' H' ∧ MOk A (z'.hide p) H' m' ∧ Sl A (z'.hide p) H' (L2.wipe σ vs) (wipeD env vs) ∧ H' p = some (.dK xs) ∧ RepF A (z'.hide p) H' xs acc ∧
    PostE A (W σ) z1 H1 ((dcompD put ft fk fv (wipeD env vs) (ds.drop i) acc m').bindS mkDk) Q,
    ⟨ds.length, by simp, Nat.zero_le _, z1, [], [], m1, step_from hp Step.refl, mok_hide hm1 hp, hw, upd_same, .nil, h1⟩, ?_⟩
  rintro i n H' ⟨rfl, hi', z', xs, acc, m', s', hm', hs', hp', hr', h'⟩
  obtain ⟨hstop, hgo, hy⟩ := hJ (z'.hide p) H' m' (stepH_hide hp s') hm'
  by_cases hlt : i < ds.length
  · refine .inr ⟨hgo i hlt, fun H2 => ∃ z' xs acc m', Step z1 H1 z' H2 ∧ MOk A (z'.hide p) H2 m' ∧ Sl A (z'.hide p) H2 (L2.wipe σ vs) (wipeD env vs) ∧ H2 p = some (.dK xs) ∧ RepF A (z'.hide p) H2 xs acc ∧
      PostE A (W σ) z1 H1 ((dcompD put ft fk fv (wipeD env vs) (ds.drop (i + 1)) acc m').bindS mkDk) Q, fun H2 q => ⟨ds.length - (i + 1), by omega, rfl, hlt, q⟩, fun x H2 y => ?_⟩
    obtain ⟨s2, hm2, d, e, rd⟩ := hy i x H2 hlt y
    have ed : ds.drop i = d :: ds.drop (i + 1) := by
      rw [List.drop_eq_getElem_cons hlt]
      rw [List.getElem?_eq_getElem hlt] at e
      rw [Option.some.inj e]
    rw [ed] at h'
    have h2 : PostE A (W σ) z1 H1 ((putR (put d (wipeD env vs) m') fun env1 => (ft env1 m').bindS fun b m => if b = true then ((fk env1 m).bindS fun k m => (fv env1 m).bindS fun v m => match keyOf k with
      | some q => if acc.length < sizeLine then dcompD put ft fk fv (wipeD env vs) (ds.drop (i + 1)) (putKD acc q v) m else .no
      | none => .no) else dcompD put ft fk fv (wipeD env vs) (ds.drop (i + 1)) acc m).bindS mkDk) Q := h'
    cases ep : put d (wipeD env vs) m' with
    | none => rw [ep] at h2; exact h2.elim
    | some env1 =>
      rw [ep] at h2
      rw [putR_some] at h2
      have hs2 := hs'.step s2
      have p2 := s2.kp p _ hp' fun q => hm'.apart p q List.mem_cons_self
      have r2 := hr'.step s2
      refine hg (z'.hide p) H2 (L2.wipe σ vs) (wipeD env vs) m' x d env1 _ hm2 hs2 rd ep fun σ3 hs3 hl3 hk3 => ⟨wipe_same hj hl3 hk3, ?_⟩
      refine hc (z'.hide p) H2 σ3 env1 m' _ hm2 hs3 ?_
      cases ec : ft env1 m' with
      | no => rw [ec] at h2; exact h2.elim
      | ex x m => rw [ec] at h2; exact h2.elim
      | ok b m3 =>
        rw [ec, R.bindS_ok] at h2
        intro z3 b' H3 s3 hm3 eb
        subst eb
        have p3 := s3.kp p _ p2 fun q => hm2.apart p q List.mem_cons_self
        have r3 := r2.step s3
        obtain ⟨z4, rfl, s34⟩ := (s2.trans s3).unhide
        cases b' with
        | false => exact ⟨z4, xs, acc, m3, s'.trans s34, hm3, hs2.step s3, p3, r3, h2⟩
        | true =>
          show tk σ3 H3 fun y H4 => _
          refine hk (z4.hide p) H3 σ3 env1 m3 _ hm3 (hs3.step s3) ?_
          rw [if_pos rfl] at h2
          cases ek : fk env1 m3 with
          | no => rw [ek] at h2; exact h2.elim
          | ex x m => rw [ek] at h2; exact h2.elim
          | ok k4 m4 =>
            rw [ek, R.bindS_ok] at h2
            intro z5 y H4 s5 hm5 ry
            have p5 := s5.kp p _ p3 fun q => hm3.apart p q List.mem_cons_self
            have r5 := r3.step s5
            show tv σ3 H4 fun z H5 => _
            refine he z5 H4 σ3 env1 m4 _ hm5 ((hs3.step s3).step s5) ?_
            cases ev : fv env1 m4 with
            | no => rw [ev] at h2; exact h2.elim
            | ex x m => rw [ev] at h2; exact h2.elim
            | ok v6 m6 =>
              rw [ev, R.bindS_ok] at h2
              intro z7 w H5 s7 hm7 rw7
              have p7 := s7.kp p _ p5 fun q => hm5.apart p q (by rw [s5.hs]; exact List.mem_cons_self)
              have r7 := r5.step s7
              obtain ⟨z6, rfl, s67⟩ := (s5.trans s7).unhide
              cases eq : keyOf k4 with
              | none => simp only [eq] at h2; exact h2.elim
              | some q =>
                simp only [eq] at h2
                have := keyOf_ok ry eq
                subst this
                by_cases hl : acc.length < sizeLine
                · rw [if_pos hl] at h2
                  refine ⟨xs, q, rfl, p7, by rw [r7.length]; exact hl, z6, _, putKD acc q v6, m6, ?_, mok_grow hm7, sl_grow (((hs2.step s3).step s5).step s7), upd_same, (r7.putK rw7).map k_grow fun _ _ h => h, h2⟩
                  exact step_from hp ((s'.trans s34).trans s67)
                · rw [if_neg hl] at h2; exact h2.elim
  · have e : i = ds.length := by omega
    subst e
    rw [List.drop_length] at h'
    refine .inl ⟨hstop _ (Nat.le_refl _), ?_⟩
    have h' : PostE A (W σ) z1 H1 (.ok (.cell m'.length) (m' ++ [.dK acc])) Q := h'
    have hz : p ∉ z'.as := fun q => hm'.apart p q List.mem_cons_self
    have um := hm'.unhide
    have hh : p ∉ z'.hs := by rw [s'.hs]; exact (hm1.fresh hp).2
    have k1 : ∀ a u, H' a = some u → (z'.hide p).im a → H' a = some u ∧ (Z.mk (z'.as ++ [p]) z'.hs).im a := fun a u h i => ⟨h, fun q => by
      rcases List.mem_append.mp q with q | q
      · exact i.1 q
      · rw [List.mem_singleton.mp q] at i; exact i.2 List.mem_cons_self, (Z.im_unhide i).2⟩
    have c1 : ∀ (k : Nat) a, (z'.hide p).as[k]? = some a → (Z.mk (z'.as ++ [p]) z'.hs).as[k]? = some a := fun k a h => by
      have h : z'.as[k]? = some a := h
      show (z'.as ++ [p])[k]? = some a
      rw [List.getElem?_append_left (List.getElem?_eq_some_iff.mp h).1]; exact h
    refine h' ⟨z'.as ++ [p], z'.hs⟩ _ H' ?_ ⟨?_, ?_, um.hid, ?_, ?_⟩ (.cell ?_)
    · obtain ⟨n, en, hn'⟩ := s'.new
      refine ⟨s'.hs, ⟨n ++ [p], by rw [en, List.append_assoc], fun b hb => ?_⟩, s'.kp, s'.al, s'.fz⟩
      rcases List.mem_append.mp hb with hb | hb
      · exact hn' b hb
      · rw [List.mem_singleton.mp hb]; exact hp
    · simp [um.len]
    · rw [List.nodup_append]
      refine ⟨um.nd, by simp, fun a ha b hb => ?_⟩
      rw [List.mem_singleton.mp hb]
      rintro rfl
      exact hz ha
    · intro b hb
      rcases List.mem_append.mp hb with hb | hb
      · exact um.apart b hb
      · rw [List.mem_singleton.mp hb]; exact hh
    · intro k a o e1 e2
      by_cases hk : k < z'.as.length
      · have e1 : (z'.as ++ [p])[k]? = some a := e1
        rw [List.getElem?_append_left hk] at e1
        rw [List.getElem?_append_left (by rw [← um.len]; exact hk)] at e2
        exact (hm'.at_ k a o e1 e2).map k1 c1 fun _ h => h
      · have e1 : (z'.as ++ [p])[k]? = some a := e1
        have hk1 : k = z'.as.length := by
          have := (List.getElem?_eq_some_iff.mp e1).1
          simp at this
          omega
        subst hk1
        have ea : a = p := by simp at e1; exact e1.symm
        have eo : o = .dK acc := by
          rw [um.len] at e2
          simp at e2; exact e2.symm
        subst ea eo
        exact ⟨xs, hp', hr'.map k1 c1⟩
    · show (z'.as ++ [p])[m'.length]? = some p
      rw [← um.len]
      simp
end
end DL

/-! DM: methods of a thing whose class is one of several -/
namespace DL
open PySem PySem.Spec L2
def tEi (t1 t2 : TE) : TE := fun σ H Q => t1 σ H Q ∨ t2 σ H Q
theorem pe_ei {X : Cx} {e : Expr} {t1 t2 : TE} (h1 : PE X e t1) (h2 : PE X e t2) : PE X e (tEi t1 t2) :=
  ⟨fun pins s σ H Q I h => h.elim (h1.run pins s σ H Q I) (h2.run pins s σ H Q I)⟩
def isC (C : Addr) (fo : Env → M → R D) (env : Env) (m : M) : Bool := match fo env m with
  | .ok o m' => (match objOf o m' with
    | some (C', _) => decide (C' = C)
    | none => false)
  | _ => false
def eEi (c : Env → M → Bool) (f1 f2 : Env → M → R D) : Env → M → R D := fun env m => if c env m = true then f1 env m else f2 env m
theorem den_ei {A : Amb} {W : L2.St → XK} {t1 t2 : TE} {f1 f2 : Env → M → R D} {c : Env → M → Bool} (h1 : Den A W t1 f1) (h2 : Den A W t2 f2) : Den A W (tEi t1 t2) (eEi c f1 f2) := by
  intro z H σ env m Q hm hs h
  have h : PostE A (W σ) z H (if c env m = true then f1 env m else f2 env m) Q := h
  by_cases e : c env m = true
  · rw [if_pos e] at h; exact .inl (h1 z H σ env m Q hm hs h)
  · rw [if_neg e] at h; exact .inr (h2 z H σ env m Q hm hs h)
theorem eEi_t {c : Env → M → Bool} {f1 f2 : Env → M → R D} {env : Env} {m : M} (e : c env m = true) : eEi c f1 f2 env m = f1 env m := if_pos e
theorem eEi_f {c : Env → M → Bool} {f1 f2 : Env → M → R D} {env : Env} {m : M} (e : c env m = false) : eEi c f1 f2 env m = f2 env m := if_neg (by rw [e]; decide)
theorem isC_ok {C C' : Addr} {fo : Env → M → R D} {env : Env} {m m' : M} {o : D} {fs : List (Str × D)} (h : fo env m = .ok o m') (h2 : objOf o m' = some (C', fs)) : isC C fo env m = decide (C' = C) := by
  unfold isC
  rw [h]
  simp only [h2]
theorem eDComp_ap (vs : List Nat) (it : Env → M → R (List D)) (put : D → Env → M → Option Env) (c : Env → M → R Bool) (ek ev : Env → M → R D) (env : Env) (m : M) : eDComp vs it put c ek ev env m = (it env m).bind fun ds m => (dcompD put c ek ev (wipeD env vs) ds [] m).bindS mkDk := rfl
end DL
namespace DL
open PySem PySem.Spec L2
end DL

/-! DM: for x in a list that may change -/
namespace DL
open PySem PySem.Spec L2
/-- at most n turns, from the i-th item on; the list is looked at anew ahead of each -/
def forC (k : Nat) (put : D → Env → M → Option Env) (body : Env → M → S) : Nat → Nat → Env → M → S
  | 0, _, _, _ => .no
  | n + 1, i, env, m => match m[k]? with
    | some (.lst ds) => (match ds[i]? with
      | some d => putS (put d env m) fun env1 => (body env1 m).turn (forC k put body n (i + 1))
      | none => .nx env m)
    | _ => .no
def sForC (n : Nat) (fe : Env → M → R D) (put : D → Env → M → Option Env) (body : Env → M → S) : Env → M → S := fun env m => (fe env m).to env fun d m => match d with
  | .cell k => forC k put body n 0 env m
  | .lst ds => loopD put body ds env m
  | _ => .no
theorem cell_list {A : Amb} {z : Z} {H : Hp} {m : M} {k : Nat} {a : Addr} {ds : List D} (hm : MOk A z H m) (hk : z.as[k]? = some a) (e : m[k]? = some (.lst ds)) : ∃ vs, H a = some (.lst vs) ∧ RepL A z H vs ds := hm.at_ k a _ hk e
section
variable {A : Amb} {W : L2.St → XK} {te : TE} {fe : Env → M → R D} {ts : TS} {F : Env → M → S}
theorem dens_forC {n : Nat} {js : List Nat} {g : TG} {put : D → Env → M → Option Env} (he : Den A W te fe) (hg : DenG A js g put) (hb : DenS A W ts F) : DenS A W (tFor (iList A.K te) g ts) (sForC n fe put F) := by
  intro z H σ env m E hm hs h
  refine he z H σ env m _ hm hs (post_to hs h fun z1 H1 d m1 v s1 hm1 hs1 hv h1 => ?_)
  cases hv with
  | @lst a vs ds e i r =>
    have h1 : PostS A W z1 H1 (loopD put F ds env m1) E := h1
    have hJ := itok_list (A := A) e i r
    refine ⟨_, rfl, ⟨_, SqL.of e⟩, ?_⟩
    refine ⟨fun i n σ' H' => n = ds.length - i ∧ i ≤ ds.length ∧ ∃ z' env' m', Step z1 H1 z' H' ∧ MOk A z' H' m' ∧ Sl A z' H' σ' env' ∧ PostS A W z' H' (loopD put F (ds.drop i) env' m') E,
      ⟨ds.length, by simp, Nat.zero_le _, z1, env, m1, Step.refl, hm1, hs1, h1⟩, ?_⟩
    rintro i n σ' H' ⟨rfl, hi', z', env', m', s', hm', hs', h'⟩
    obtain ⟨hstop, hgo, hy⟩ := hJ z' H' m' s'.h hm'
    by_cases hlt : i < ds.length
    · refine .inr ⟨hgo i hlt, fun σ2 H2 => ∃ z2 env2 m2, Step z1 H1 z2 H2 ∧ MOk A z2 H2 m2 ∧ Sl A z2 H2 σ2 env2 ∧ PostS A W z2 H2 (loopD put F (ds.drop (i + 1)) env2 m2) E, fun σ2 H2 q => ⟨ds.length - (i + 1), by omega, rfl, hlt, q⟩, fun x H2 y => ?_⟩
      obtain ⟨s2, hm2, d, e, rd⟩ := hy i x H2 hlt y
      have ed : ds.drop i = d :: ds.drop (i + 1) := by
        rw [List.drop_eq_getElem_cons hlt]
        rw [List.getElem?_eq_getElem hlt] at e
        rw [Option.some.inj e]
      rw [ed] at h'
      have h2 := PostS.step s2 h'
      have h2 : PostS A W z' H2 (putS (put d env' m') fun env1 => (F env1 m').turn (loopD put F (ds.drop (i + 1)))) E := h2
      cases ep : put d env' m' with
      | none => rw [ep] at h2; exact h2.elim
      | some env1 =>
        rw [ep] at h2
        refine hg z' H2 σ' env' m' x d env1 _ hm2 (hs'.step s2) rd ep fun σ3 hs3 _ _ => ?_
        refine hb z' H2 σ3 env1 m' _ hm2 hs3 ?_
        have s12 := s'.trans s2
        exact post_turn h2 fun z3 σ4 H4 env2 m2 s4 hm4 hs4 q => ⟨z3, env2, m2, s12.trans s4, hm4, hs4, q⟩
    · have e : i = ds.length := by omega
      subst e
      rw [List.drop_length] at h'
      exact .inl ⟨hstop _ (Nat.le_refl _), h' z' σ' H' Step.refl hm' hs'⟩
  | @cell a k e =>
    have h1 : PostS A W z1 H1 (forC k put F n 0 env m1) E := h1
    cases n with
    | zero => exact h1.elim
    | succ n =>
      have h1' := h1
      unfold forC at h1'
      split at h1'
      · rename_i ds ed
        obtain ⟨vs, ev, rv⟩ := cell_list hm1 e ed
        refine ⟨a, rfl, ⟨vs, SqL.of ev⟩, ?_⟩
        refine ⟨fun i n σ' H' => ∃ z' env' m', Step z1 H1 z' H' ∧ MOk A z' H' m' ∧ Sl A z' H' σ' env' ∧ PostS A W z' H' (forC k put F n i env' m') E,
          ⟨n + 1, z1, env, m1, Step.refl, hm1, hs1, h1⟩, ?_⟩
        rintro i n σ' H' ⟨z', env', m', s', hm', hs', h'⟩
        cases n with
        | zero => exact h'.elim
        | succ n =>
          unfold forC at h'
          split at h'
          · rename_i ds' ed'
            obtain ⟨vs', ev', rv'⟩ := cell_list hm' (s'.cell e) ed'
            have hl := rv'.length
            cases eq : ds'[i]? with
            | none =>
              simp only [eq] at h'
              have : ds'.length ≤ i := by
                rcases Nat.lt_or_ge i ds'.length with q | q
                · rw [List.getElem?_eq_getElem q] at eq; cases eq
                · exact q
              exact .inl ⟨⟨vs', SqL.of ev', by omega⟩, h' z' σ' H' Step.refl hm' hs'⟩
            | some d =>
              simp only [eq] at h'
              have hlt : i < ds'.length := (List.getElem?_eq_some_iff.mp eq).1
              refine .inr ⟨⟨vs', vs'[i]'(by omega), SqL.of ev', List.getElem?_eq_getElem _⟩, fun σ2 H2 => ∃ z2 env2 m2, Step z1 H1 z2 H2 ∧ MOk A z2 H2 m2 ∧ Sl A z2 H2 σ2 env2 ∧ PostS A W z2 H2 (forC k put F n (i + 1) env2 m2) E, fun σ2 H2 q => ⟨n, Nat.lt_succ_self n, q⟩, fun x H2 y => ?_⟩
              obtain ⟨rfl, y⟩ := y
              obtain ⟨d', eq', rd⟩ := rv'.get (y vs' (SqL.of ev'))
              rw [eq] at eq'
              cases eq'
              cases ep : put d env' m' with
              | none => rw [ep] at h'; exact h'.elim
              | some env1 =>
                rw [ep] at h'
                refine hg z' _ σ' env' m' x d env1 _ hm' hs' rd ep fun σ3 hs3 _ _ => ?_
                refine hb z' _ σ3 env1 m' _ hm' hs3 ?_
                exact post_turn h' fun z3 σ4 H4 env2 m2 s4 hm4 hs4 q => ⟨z3, env2, m2, s'.trans s4, hm4, hs4, q⟩
          · exact h'.elim
      · exact h1'.elim
  | _ => exact h1.elim
/-- a list that stays as it is meanwhile -/
theorem forC_stay {k : Nat} {ds : List D} {put : D → Env → M → Option Env} {body : Env → M → S} {m : M} (hk : m[k]? = some (.lst ds)) {P : Env → Prop} : ∀ (n i : Nat) (env : Env), P env → ds.length + 1 ≤ n + i → i ≤ ds.length →
    (∀ d ∈ ds, ∀ env, P env → ∃ env1 env2, put d env m = some env1 ∧ body env1 m = .nx env2 m ∧ P env2) → ∃ env2, forC k put body n i env m = .nx env2 m ∧ P env2
  | 0, i, env, h0, hn, hi, h => absurd hn (by omega)
  | n + 1, i, env, h0, hn, hi, h => by
    unfold forC
    rw [hk]
    simp only
    cases e : ds[i]? with
    | none => exact ⟨env, rfl, h0⟩
    | some d =>
      have hi := (List.getElem?_eq_some_iff.mp e).1
      obtain ⟨env1, env2, e1, e2, h2⟩ := h d (List.mem_of_getElem? e) env h0
      simp only [e1, putS_some, e2]
      exact forC_stay hk n (i + 1) env2 h2 (by omega) (by omega) h
end
end DL

/-! EXy: t[::-1] of a tuple -/
namespace HT
open PySem PySem.Spec PyProof.Rows L2
section
variable {prog : Program} {w : World} {A : Around} {E : Value → Shared → Prop} {s : Shared}
theorem fm_congr {α β : Type} {f g : α → Option β} : ∀ {l : List α}, (∀ m ∈ l, f m = g m) → l.filterMap f = l.filterMap g
  | [], _ => rfl
  | x :: l, h => by rw [List.filterMap_cons, List.filterMap_cons, h x List.mem_cons_self, fm_congr fun m hm => h m (List.mem_cons_of_mem _ hm)]
theorem back_places (n : Nat) : Builtin.Slice.slicePlaces ((n : Int) - 1) (-1) (-1) = n := by
  unfold Builtin.Slice.slicePlaces
  rw [if_neg (show ¬ ((-1 : Int) > 0) by omega)]
  rw [show (- -1 : Int) = 1 by decide, Int.ediv_one]
  split <;> omega
theorem back_pick (xs : Array Value) : ((List.range xs.size).filterMap fun (m : Nat) => xs[(((xs.size : Int) - 1) + (m : Int) * (-1)).toNat]?).toArray = xs.toList.reverse.toArray := by
  have e : (List.range xs.size).filterMap (fun (m : Nat) => xs[(((xs.size : Int) - 1) + (m : Int) * (-1)).toNat]?) = ((List.range xs.size).map fun k => xs.size - 1 - k).filterMap (xs[·]?) := by
    rw [List.filterMap_map]
    refine fm_congr fun m hm => ?_
    have := List.mem_range.mp hm
    have q : (((xs.size : Int) - 1) + (m : Int) * (-1)).toNat = xs.size - 1 - m := by omega
    rw [q]
    rfl
  rw [e, PySem.W.krv_range, List.filterMap_reverse, PySem.W.krv_all]
theorem back_applied {sl : Addr} {n : Nat} {t : Tok} {Q : Int × Int × Nat → Shared → Prop} (hs : s.heap.IsSliceOf sl .none .none (.int (-1) t))
    (h : Q (((n : Int) - 1), -1, n) s) : wpAny (model prog w) A (Builtin.Slice.sliceApplied (.ref sl) (pure (n : Int))) Q E s := by
  obtain ⟨os, hos, hcs, hds⟩ := id hs
  unfold Builtin.Slice.sliceApplied Builtin.Slice.sliceFields
  refine wpAny_bind (wpAny_bind (wpAny_field hos hds (x := .none) rfl (wpAny_bind (wpAny_field hos hds (x := .none) rfl (wpAny_bind (wpAny_field hos hds (x := .int (-1) t) rfl (wpAny_pure ?_)))))))
  refine wpAny_bind (slicePart_ (.int (-1) t) ?_)
  show wpAny _ _ (if ((-1 : Int) == 0) = true then _ else _) _ _ s
  rw [if_neg (by decide)]
  refine wpAny_bind (slicePart_ .none (wpAny_bind (slicePart_ .none (wpAny_bind (wpAny_pure ?_)))))
  show wpAny _ _ (pure (((n : Int) - 1), (-1 : Int), Builtin.Slice.slicePlaces ((n : Int) - 1) (-1) (-1))) _ _ s
  rw [back_places]
  exact wpAny_pure h
theorem getItem_tuple_back {t sl : Addr} {items : Array Value} {k : Tok} {Q : Value → Shared → Prop} (ht : IsTup s.heap t items) (hs : s.heap.IsSliceOf sl .none .none (.int (-1) k))
    (h : Q (.ref s.heap.objs.size) { s with heap := s.heap.push { cls := .type "tuple", data := .seq items.toList.reverse.toArray } }) (hsz : items.size ≤ sizeLine) : wpAny (model prog w) A (getItem (.ref t) (.ref sl)) Q E s := by
  have htake : sizeOk (.seq items.toList.reverse.toArray) := by
    show items.toList.reverse.toArray.size ≤ sizeLine
    simpa using hsz
  obtain ⟨os, hos, hcs, hds⟩ := id hs
  have hTs : s.TypeIs (.ref sl) "slice" := ⟨os, hos, hcs⟩
  unfold getItem
  try with_reducible refine wpAny_holding ?_
  first | refine wpAny_bind (wpAny_pure ?_) | skip
  refine wpAny_bind (wpAny_sequenceKey ht.typeIs (by decide) ?_)
  refine wpAny_bind (wpAny_callSpecial?_slot (name := Str.ofString "__getitem__") ht.typeIs PyProof.Rows.slot_tuple_getitem
    (wpAny_call_entry PyProof.Rows.slot_tuple_getitem ht.typeIs entry_tuple_getitem ?_ (args_tuple_getitem _ _)))
  show wpAny _ _ (Builtin.Tuple.tupleItemsOf (.ref t) >>= _) _ _ s
  refine wpAny_bind (tupleItemsOf_ ht ?_)
  refine wpAny_bind (wpAny_typeOf hTs ?_)
  rw [if_pos (by decide)]
  refine wpAny_bind (back_applied hs ?_)
  have hno : ¬ ((((items.size : Int) - 1) == 0 && (-1 : Int) == 1 && items.size == items.size) = true) := by
    intro q
    rw [Bool.and_eq_true, Bool.and_eq_true] at q
    exact absurd q.1.2 (by decide)
  show wpAny _ _ (if (((items.size : Int) - 1) == 0 && (-1 : Int) == 1 && items.size == items.size) = true then _ else _) _ _ s
  rw [if_neg hno, back_pick]
  first
    | exact wpAny_bind (m := Builtin.Tuple.tupleExact _) (wpAny_newObj_type (wpAny_pure ⟨_, rfl, wpAny_pure h⟩) htake)
    | exact wpAny_bind (m := Builtin.Tuple.tupleExact _) (wpAny_newObj_type (wpAny_bind (wpAny_pure (wpAny_pure ⟨_, rfl, wpAny_pure h⟩))) htake)
    | exact wpAny_bind (wpAny_bind (m := Builtin.Tuple.tupleExact _) (wpAny_newObj_type (wpAny_pure (wpAny_pure ⟨_, rfl, wpAny_pure h⟩)) htake))
    | exact wpAny_bind (wpAny_bind (m := Builtin.Tuple.tupleExact _) (wpAny_newObj_type (wpAny_pure ⟨_, rfl, wpAny_pure h⟩) htake))
end
end HT
namespace L2
open PySem PySem.Spec PyProof.Rows HT
section
variable {X : Cx}
def tRevT (K : PySem.W.Frag) (te : TE) : TE := fun σ H Q => te σ H fun x H1 => ∃ a xs, x = .ref a ∧ SqT K H1 a xs ∧ ∀ p, H1 p = none → Q (.ref p) (upd H1 p (.tup xs.reverse))
theorem pe_revT {e : Expr} {te : TE} {k : Nat} {p1 p2 p3 pos : Pos} (he : PE X e te) : PE X (.Subscript e (.Slice none none (some (.UnaryOp .USub (.Constant (.int 1) k p1) p2)) p3) pos) (tRevT X.K te) := by
  refine ⟨fun pins s σ H Q I h => ?_⟩
  refine Subscript_ (thn (he.run pins s σ H _ I h) fun v s1 ⟨x, H1, I1, r1, q1⟩ => ?_)
  obtain ⟨a, xs, ex, hx, q⟩ := q1
  subst ex
  cases r1
  have hst : PO X (some (.UnaryOp .USub (.Constant (.int 1) k p1) p2)) (tPart (tUn (rU fun i => .int (-i)) (tC (.int 1)))) := po_some (pe_un un_neg pe_int)
  refine wpAny_Slice (thn (po_none.run pins s1 σ H1 (fun o H2 => o = none ∧ H2 = H1) I1 ⟨rfl, rfl⟩) fun vl s2 ⟨l, H2, I2, pl, el, e2⟩ => ?_)
  subst el e2
  refine thn (po_none.run pins s2 σ H2 (fun o H3 => o = none ∧ H3 = H2) I2 ⟨rfl, rfl⟩) fun vu s3 ⟨u, H3, I3, pu, eu, e3⟩ => ?_
  subst eu e3
  refine thn (hst.run pins s3 σ H3 (fun o H4 => o = some (-1) ∧ H4 = H3) I3 ⟨1, rfl, -1, rfl, rfl, rfl⟩) fun vs s4 ⟨o, H4, I4, ps, eo, e4⟩ => ?_
  subst eo e4
  cases pl
  cases pu
  cases ps with
  | int _ tk =>
    have I5 : Inv X pins σ H4 { s4 with heap := s4.heap.push { cls := .type "slice", data := .fields #[.none, .none, .int (-1) tk] } } := I4.kept (t' := s4.toks) fun b ob q => Heap.get?_push_of_some _ q
    obtain ⟨its, r, ht, hz⟩ := I5.tuple hx
    have hlen : its.toArray.size = xs.length := by rw [List.size_toArray]; exact r.length.symm
    show wpAny (model X.prog X.w) X.A (subscriptTail e (.Slice none none (some (.UnaryOp .USub (.Constant (.int 1) k p1) p2)) p3) (.ref a) (.ref s4.heap.objs.size)) (EP X pins σ Q) X.xe { s4 with heap := s4.heap.push { cls := .type "slice", data := .fields #[.none, .none, .int (-1) tk] } }
    refine tail_any (ops := [.ref a, .ref s4.heap.objs.size]) ht.typeIs (PyProof.Rows.slot_tuple_getitem.lookup) ?_ (by with_unfolding_all rfl)
    refine getItem_tuple_back ht (Heap.IsSliceOf.new _ .none .none (.int (-1) tk)) ?_ (by rw [hlen]; exact hz)
    refine ⟨.ref _, _, I5.laid (t' := s4.toks) (o := .tup xs.reverse) (fun b ob q => Heap.get?_push_of_some _ q) (Nat.le_refl _) ?_, rfl, q _ (I5.hok.fresh (Nat.le_refl _))⟩
    exact ⟨by rw [List.length_reverse]; exact hz, _, r.reverse, IsTup.new _ _⟩
end
end L2

/-! DM: tuples turned about, the whole of a tuple cut -/
namespace DL
open PySem PySem.Spec L2
def revTD : D → M → R D
  | .tup ds, m => .ok (.tup ds.reverse) m
  | _, _ => .no
section
variable {A : Amb} {W : L2.St → XK} {te : TE} {fe : Env → M → R D}
theorem RepL.rev {z : Z} {H : Hp} : ∀ {vs : List V} {ds : List D}, RepL A z H vs ds → RepL A z H vs.reverse ds.reverse
  | _, _, .nil => .nil
  | _, _, .cons h r => by
    rw [List.reverse_cons, List.reverse_cons]
    exact (RepL.rev r).append (.cons h .nil)
theorem den_revT (he : Den A W te fe) : Den A W (tRevT A.K te) (eUn revTD fe) := by
  intro z H σ env m Q hm hs h
  refine he z H σ env m _ hm hs (post_bind h fun z1 H1 d m1 v s1 hm1 hv h1 => ?_)
  cases hv with
  | tup h2 r => exact ⟨_, _, rfl, h2.sq, lay_tup hm1 (RepL.rev r) h1⟩
  | _ => exact h1.elim
theorem pe_revTA {X : Cx} {K : PySem.W.Frag} (hK : X.K = K) {e : Expr} {k : Nat} {p1 p2 p3 pos : Pos} (he : PE X e te) : PE X (.Subscript e (.Slice none none (some (.UnaryOp .USub (.Constant (.int 1) k p1) p2)) p3) pos) (tRevT K te) := by
  subst hK
  exact pe_revT he
/-- t[lo:hi] of a tuple, the whole of it too -/
def slTD (x : D) (lo hi : Option Int) (m : M) : R D := match x with
  | .tup ds => .ok (.tup (cutL ds lo hi)) m
  | _ => .no
theorem cut_whole {ds : List D} {lo hi : Option Int} (h : HT.sIx ds.length 0 lo = 0 ∧ HT.sIx ds.length ds.length hi = ds.length) : cutL ds lo hi = ds := by
  unfold cutL
  rw [h.1, h.2, List.drop_zero, Nat.sub_zero, List.take_length]
theorem sld_T : SlD A (rSlA A.K) slTD := by
  intro z H m x lo hi dx W Q hm hx h
  unfold slTD at h
  split at h
  · cases hx with
    | tup h1 r =>
      refine ⟨_, _, rfl, h1.sq, fun q => ?_, fun _ => lay_tup hm (r.cut lo hi) h⟩
      rw [r.length] at q
      rw [cut_whole q] at h
      exact h.ok_at hm (.tup h1 r)
  · exact h.elim
theorem sl_TA {X : Cx} {K : PySem.W.Frag} (hK : X.K = K) : SlR X (rSlA K) := by subst hK; exact sl_tupA
end
end DL

/-! DL: sorted(d) of pair keys, d.pop(k, x) and d.pop(k) of tuple keys -/
namespace DL
open PySem PySem.Spec PyProof.Rows L2
def rSortTk : List V → Hp → VK → Prop := fun xs H Q => ∃ (a : Addr) (kvs : List (List Key × V)) (ps : List (Str × Str)), xs = [.ref a] ∧ H a = some (.dT kvs) ∧ kvs.map (·.1) = ps.map pairK ∧ ps.length < 1000 ∧
    ∀ (bs : List (Addr × Str × Str)) p, bs.map (·.2) = sortP ps → (∀ b ∈ bs, H b.1 = some (.tup [.str b.2.1, .str b.2.2])) → H p = none → Q (.ref p) (upd H p (.lst (bs.map fun b => V.ref b.1)))
theorem call_sortTk {X : Cx} (hc : X.calm = true) (hu : X.A.units + 70 < cLine) : CallR X (.builtin "sorted") rSortTk := cr_sortedTk hc hu
def pairsK : List (List Key × D) → Option (List (Str × Str))
  | [] => some []
  | ([.inr x, .inr y], _) :: r => (pairsK r).map ((x, y) :: ·)
  | _ :: _ => none
theorem pairsK_ok : ∀ {kvs : List (List Key × D)} {ps : List (Str × Str)}, pairsK kvs = some ps → kvs.map (·.1) = ps.map pairK
  | [], ps, h => by cases h; rfl
  | (k, d) :: r, ps, h => by
    match k, h with
    | [.inr x, .inr y], h =>
      obtain ⟨qs, e, rfl⟩ := Option.map_eq_some_iff.mp (show (pairsK r).map ((x, y) :: ·) = some ps from h)
      rw [List.map_cons, List.map_cons, pairsK_ok e]
      rfl
def pairD (p : Str × Str) : D := .tup [.str p.1, .str p.2]
def sortedTk : List D → M → R D
  | [d], m => match kvtOf d m with
    | some (_, kvs) => (match pairsK kvs with
      | some ps => if ps.length < 1000 then .ok (.lst ((sortP ps).map pairD)) m else .no
      | none => .no)
    | none => .no
  | _, _ => .no
section
variable {A : Amb} {W : L2.St → XK} {td ty : TE} {fd fy : Env → M → R D}
theorem repF_keys {κ : Type} {z : Z} {H : Hp} : ∀ {vs : List (κ × V)} {ds : List (κ × D)}, RepF A z H vs ds → vs.map (·.1) = ds.map (·.1)
  | _, _, .nil => rfl
  | _, _, .cons _ r => by rw [List.map_cons, List.map_cons, repF_keys r]
theorem calld_sortTk : CallD A rSortTk sortedTk := by
  intro z H m xs ds W Q hm hx h
  unfold sortedTk at h
  split at h
  · cases hx with
    | cons h1 h2 =>
      cases h2
      split at h
      · rename_i k kvs e
        split at h
        · rename_i ps e2
          obtain ⟨c, h⟩ := post_if h
          obtain ⟨a, vs, _, rfl, _, ha, r⟩ := kvtOf_ok hm h1 e
          refine ⟨a, vs, ps, rfl, ha, (repF_keys r).trans (pairsK_ok e2), c, fun bs p h1 h2 hp => ?_⟩
          have rl : RepL A z H (bs.map fun b => V.ref b.1) ((sortP ps).map pairD) := by
            rw [← h1, List.map_map]
            clear h1
            induction bs with
            | nil => exact .nil
            | cons b bs ih =>
              have hb := h2 b List.mem_cons_self
              exact .cons (.tup (.inl ⟨hb, hm.tupIm hb⟩) (.cons (.str _) (.cons (.str _) .nil))) (ih fun c hc => h2 c (List.mem_cons_of_mem _ hc))
          exact lay_lst hm rl h p hp
        · exact h.elim
      · exact h.elim
  · exact h.elim
/-! pop -/
def isDctT (d : D) (m : M) : Bool := (kvtOf d m).isSome
theorem tyd_dctT : TyD A "dict" isDctT := by
  intro z H m x d hm hx e
  unfold isDctT at e
  obtain ⟨p, e⟩ := Option.isSome_iff_exists.mp e
  obtain ⟨a, vs, _, rfl, _, ha, r⟩ := kvtOf_ok (k := p.1) (kvs := p.2) hm hx e
  exact .inr (.inr (.inl ⟨rfl, .inr ⟨vs, ha⟩⟩))
def popTD : D → List D → M → R D
  | d, [y, x], m => match kvtOf d m, tkOf y with
    | some (j, kvs), some q => (match valK kvs q with
      | some v => .ok v (m.set j (.dT (dropKD kvs q)))
      | none => .ok x m)
    | _, _ => .no
  | _, _, _ => .no
theorem mtd_popTD : MtD A L2.DX.rPopT popTD := by
  intro z H m x xs d ds W Q hm hx hxs h
  unfold popTD at h
  split at h
  · rename_i y e0
    cases hxs with
    | cons r1 hxs =>
      cases hxs with
      | cons r2 hxs =>
        cases hxs
        split at h
        · rename_i j kvs q e1 e2
          obtain ⟨a, vs, _, rfl, hj, ha, r⟩ := kvtOf_ok hm hx e1
          obtain ⟨b, rfl, hb⟩ := tk_ok r1 e2
          have st : Step z H z (upd H a (.dT (L2.dropK vs q))) := Step.put hm hj (nofr ha)
          refine ⟨a, vs, q, b, _, rfl, rfl, ha, hb, fun v hv => ?_, fun hv => ?_⟩
          · obtain ⟨n1, n2⟩ := RepF.val (k := q) r
            cases e3 : valK kvs q with
            | none => rw [n1 e3] at hv; cases hv
            | some dd =>
              obtain ⟨v', ev, rv⟩ := n2 dd e3
              rw [hv] at ev
              cases ev
              have h' : PostE A W z H (match valK kvs q with | some v => .ok v (m.set j (.dT (dropKD kvs q))) | none => .ok _ m) Q := h
              rw [e3] at h'
              exact h' z _ _ st (hm.put hj ⟨_, upd_same, r.dropK.step st⟩ (nofr ha)) (rv.step st)
          · obtain ⟨n1, n2⟩ := RepF.val (k := q) r
            cases e3 : valK kvs q with
            | none =>
              have h' : PostE A W z H (match valK kvs q with | some v => .ok v (m.set j (.dT (dropKD kvs q))) | none => .ok _ m) Q := h
              rw [e3] at h'
              exact h'.ok_at hm r2
            | some dd =>
              obtain ⟨v', ev, rv⟩ := n2 dd e3
              rw [hv] at ev
              cases ev
        · exact h.elim
  · exact h.elim
theorem mt_popTA {X : Cx} (hu : X.A.units + 1 < cLine) : MtR X "dict.pop" L2.DX.rPopT := L2.DX.mt_popT hu
/-- d.pop(k), k there -/
def rPopT1 : V → List V → Hp → VK → Prop := fun x xs H Q => ∃ (a : Addr) (kvs : List (List Key × V)) (k : List Key) (b : Addr), x = .ref a ∧ xs = [.ref b] ∧ H a = some (.dT kvs) ∧ H b = some (.tup (k.map kV)) ∧ ∃ v, valV kvs k = some v ∧ Q v (upd H a (.dT (dropK kvs k)))
section
variable {prog : Program} {w : World} {Kk : Type} [DecidableEq Kk] {knd : HeapKind prog w Kk}
theorem meetsPop1 {d b : Addr} {k : Kk} (hd : (d == sysModules) = false) :
    MeetsIn prog w (Builtin.«dict.pop» ⟨[.ref d, .ref b], []⟩) (fun A R s => ∃ xs p, knd.room A.in1 ∧ knd.is s.heap k b ∧ s.heap.DictOfH knd d xs ∧ xs.length ≤ sizeLine ∧ atKey xs k = some p ∧
      ∀ h' tk, h'.DictOfH knd d (DT.dropH xs k) → Heap.SameBut d s.heap h' → R (.ok (.ret p.2)) { s with heap := h', toks := tk }) :=
  .of_wp fun A R s ⟨xs, p, hu, hkey, hm, hsz, hp, hsome⟩ => by
    obtain ⟨o, es, ep, ho, hc, hdat, he, his, hn⟩ := id hm
    have hes : es.size = xs.length := size_of_entries he
    have hpart : (keyPart (Value.ref b)).isSome = false := rfl
    unfold Builtin.«dict.pop»
    refine wpAny_bind ?_
    unfold Builtin.Dict.keyAndDefault
    refine wpAny_bind (wpAny_notOrdered_dict hm.typeIs ?_)
    show wpAny _ _ (pure (d, Value.ref b, none)) _ _ s
    refine wpAny_pure ?_
    simp only [hpart, Bool.false_eq_true, if_false]
    refine wpAny_bind (wpAny_dictEntries ho hdat (wpAny_bind (wpAny_pure ?_)))
    cases hem : es.isEmpty with
    | true =>
      have h0 : xs = [] := by
        have z : es.size = 0 := by simpa using hem
        exact List.length_eq_zero_iff.mp (by omega)
      rw [h0] at hp
      cases hp
    | false =>
      simp only [Bool.false_eq_true, if_false]
      refine wpAny_bind (DT.takeH hu hkey hm hsz (fun hno => by rw [hno] at hp; cases hp) fun p' e hp' hev h' hm' hs' => ?_)
      rw [hp] at hp'
      cases hp'
      simp only [Option.isNone_some, Bool.false_eq_true, if_false]
      exact wpAny_bind (wpAny_letGo (wpAny_pure ⟨e.val, rfl, by rw [hev]; exact hsome h' _ hm' hs'⟩))
end
theorem mt_popT1 {X : Cx} (hu : X.A.units + 1 < cLine) : MtR X "dict.pop" rPopT1 := by
  intro pins s σ H x xs v us Q I rx rxs h
  obtain ⟨a, kvs, k, b, rfl, rfl, ha, hb, v0, ev, q⟩ := h
  cases rx
  obtain ⟨u1, rfl, r1⟩ := vals1 rxs
  cases r1
  obtain ⟨z, hd, xs', rel, dd⟩ := dt_of I.hok ha
  have hz : xs'.length ≤ sizeLine := by rw [← Paired.length rel]; exact z
  have r := rel.val k
  rw [ev] at r
  obtain ⟨p, hp, rv⟩ : ∃ p, atKey xs' k = some p ∧ RelV v0 p.2 := by
    cases e : atKey xs' k with
    | none => rw [e] at r; exact (show False from r).elim
    | some p => rw [e] at r; exact ⟨p, rfl, r⟩
  refine call_meetsIn PySem.F.slot_dict_pop dd.typeIs PySem.F.entry_dict_pop (PySem.F.args_dict_pop_2 _ _) (meetsPop1 (knd := tupleKind (mixKind X.prog X.w)) (k := k) hd)
    ⟨xs', p, tupleKind_room_in1 hu, key_of I.hok hb, dd, hz, hp, fun h' tk dd' hs => ?_⟩
  obtain ⟨o, es, ep, hq, h2, h3, h4, _, h5⟩ := dd'
  have I2 : Inv X pins σ (upd H a (.dT (dropK kvs k))) { s with heap := h', toks := tk } :=
    d_write I (by rw [ha]; exact True.intro) hs ⟨o, hq⟩ ⟨Nat.le_trans (dropK_le kvs k) z, hd, _, (L2.DX.KT_drop k rel).keeps (fun c ys ec => (by rw [upd_ne (ne_of ec ha (fun z => nomatch z))]; exact ec)), o, es, ep, hq, h2, h3, h4, h5⟩
  show EP X pins σ Q p.2 _
  exact ⟨v0, _, I2, rv, q⟩
def popTD1 : D → List D → M → R D
  | d, [y], m => match kvtOf d m, tkOf y with
    | some (j, kvs), some q => (match valK kvs q with
      | some v => .ok v (m.set j (.dT (dropKD kvs q)))
      | none => .no)
    | _, _ => .no
  | _, _, _ => .no
theorem mtd_popTD1 : MtD A rPopT1 popTD1 := by
  intro z H m x xs d ds W Q hm hx hxs h
  unfold popTD1 at h
  split at h
  · rename_i y e0
    cases hxs with
    | cons r1 hxs =>
      cases hxs
      split at h
      · rename_i j kvs q e1 e2
        obtain ⟨a, vs, _, rfl, hj, ha, r⟩ := kvtOf_ok hm hx e1
        obtain ⟨b, rfl, hb⟩ := tk_ok r1 e2
        have st : Step z H z (upd H a (.dT (L2.dropK vs q))) := Step.put hm hj (nofr ha)
        obtain ⟨n1, n2⟩ := RepF.val (k := q) r
        cases e3 : valK kvs q with
        | none => rw [e3] at h; exact h.elim
        | some dd =>
          obtain ⟨v', ev, rv⟩ := n2 dd e3
          rw [e3] at h
          exact ⟨a, vs, q, b, rfl, rfl, ha, hb, v', ev, h z _ _ st (hm.put hj ⟨_, upd_same, r.dropK.step st⟩ (nofr ha)) (rv.step st)⟩
      · exact h.elim
  · exact h.elim
end
/-! equations -/
section
variable {m : M}
theorem sortedTk_cell (k : Nat) : sortedTk [.cell k] m = match kvtOf (.cell k) m with
    | some (_, kvs) => (match pairsK kvs with
      | some ps => if ps.length < 1000 then .ok (.lst ((sortP ps).map pairD)) m else .no
      | none => .no)
    | none => .no := rfl
end
/-! the order -/
theorem leP_iff (p q : Str × Str) : leP p q = decide (p.1.cps.toList < q.1.cps.toList ∨ (p.1 = q.1 ∧ p.2.cps.toList ≤ q.2.cps.toList)) := by
  show (!PySem.W.dataLt (.tuple [.str q.1, .str q.2]) (.tuple [.str p.1, .str p.2])) = _
  rw [PySem.W.dataLt_pair (by simp [PySem.W.alike]) (by simp [PySem.W.alike]), PySem.W.dataLt_str, PySem.W.dataLt_str]
  have tl : ∀ x y : Str, x ≠ y → ¬ x.cps.toList < y.cps.toList → y.cps.toList < x.cps.toList := fun x y h1 h2 => by
    refine Decidable.byContradiction fun h3 => h1 (TL.ext_tl ?_)
    exact List.le_antisymm (List.not_lt.mp h3) (List.not_lt.mp h2)
  by_cases h1 : q.1 = p.1
  · have e1 : PyData.eqv (.str q.1) (.str p.1) = true := by simp [PyData.eqv, h1]
    have n1 : ¬ p.1.cps.toList < q.1.cps.toList := by rw [h1]; exact List.lt_irrefl _
    rw [if_pos e1]
    by_cases h2 : q.2 = p.2
    · have e2 : PyData.eqv (.str q.2) (.str p.2) = true := by simp [PyData.eqv, h2]
      rw [if_pos e2]
      have : p.2.cps.toList ≤ q.2.cps.toList := by rw [h2]; exact List.le_refl _
      simp [n1, h1, this]
    · have e2 : ¬ PyData.eqv (.str q.2) (.str p.2) = true := by simp [PyData.eqv, h2]
      rw [if_neg e2, PySem.W.not_lt_str]
      congr 1
      rw [eq_iff_iff]
      exact ⟨fun h => .inr ⟨h1.symm, h⟩, fun h => by rcases h with h | h; exact absurd h n1; exact h.2⟩
  · have e1 : ¬ PyData.eqv (.str q.1) (.str p.1) = true := by simp [PyData.eqv, h1]
    rw [if_neg e1]
    have h1' : p.1 ≠ q.1 := fun e => h1 e.symm
    by_cases h2 : q.1.cps.toList < p.1.cps.toList
    · have : ¬ p.1.cps.toList < q.1.cps.toList := fun h => List.lt_irrefl _ (List.lt_trans h h2)
      simp [h2, h1', this]
    · have := tl _ _ h1 h2
      simp [h2, this]
theorem units70 {k : Nat} {Ar : Around} (r : Room k Ar) : Ar.units + 70 < cLine := by have := r.un; omega
end DL

/-! sets of texts that can be walked; sorted(set(texts)) -/
namespace DL
open PySem PySem.Spec PyProof.Rows L2
/-- the text of a row of the table -/
def rowT (e : Int × Value) : Str := match e.2 with
  | .str x _ => x
  | _ => Str.empty
def RowS (w : World) (e : Int × Value) : Prop := ∃ x tk, e = (hashStr w x, Value.str x tk)
structure TabOk (w : World) (t : SetTable) : Prop where
  up : Ris t.place.toList
  led : w.params.followText "set-order" = true ∨ t.led = true
structure TS (w : World) (h : Heap) (a : Addr) (S : Str → Bool) (n : Nat) (o : Obj) (es : Array (Int × Value)) (ep : Nat) (t : SetTable) : Prop where
  at_ : h.get? a = some o
  ex : o.ExactSet
  dat : o.data = .set es ep t
  row : ∀ e ∈ es.toList, RowS w e
  nd : (es.toList.map rowT).Nodup
  mem : ∀ k, S k = true ↔ k ∈ es.toList.map rowT
  few : es.size < scanBound
  fit : t.fits es.size = true
  num : es.size = n
  tab : TabOk w t
def SetS (w : World) (h : Heap) (a : Addr) (S : Str → Bool) (n : Nat) : Prop := ∃ o es ep t, TS w h a S n o es ep t
section
variable {P : Program} {w : World} {h h' : Heap} {a : Addr} {S : Str → Bool} {n : Nat}
theorem SetS.carry (R : SetS w h a S n) (k : ∀ o, h.get? a = some o → h'.get? a = some o) : SetS w h' a S n := by
  obtain ⟨o, es, ep, t, r⟩ := R
  exact ⟨o, es, ep, t, { r with at_ := k o r.at_ }⟩
theorem rows_elems {l : List (Int × Value)} (g : ∀ e ∈ l, RowS w e) : ElemsOf (PySem.strKind P w) l := fun e he => by
  obtain ⟨x, tk, rfl⟩ := g e he
  exact ⟨⟨x, strKind_is P w x tk, rfl⟩, rfl⟩
theorem row_is {e : Int × Value} (g : RowS w e) (k : Str) : (PySem.strKind P w).is k e.2 = true ↔ rowT e = k := by
  obtain ⟨x, tk, rfl⟩ := g
  constructor
  · intro q
    have q : Value.isStrOf k (Value.str x tk) = true := q
    obtain ⟨u, hu⟩ := Value.isStrOf_shape q
    injection hu with hu
  · rintro rfl
    exact strKind_is P w _ tk
theorem rows_mem {l : List (Int × Value)} (g : ∀ e ∈ l, RowS w e) (k : Str) : k ∈ l.map rowT ↔ ∃ e ∈ l, (PySem.strKind P w).is k e.2 = true := by
  rw [List.mem_map]
  exact ⟨fun ⟨e, he, q⟩ => ⟨e, he, (row_is (P := P) (g e he) k).mpr q⟩, fun ⟨e, he, q⟩ => ⟨e, he, (row_is (P := P) (g e he) k).mp q⟩⟩
end
section
variable {prog : Program} {w : World} {A : Around} {E : Value → Shared → Prop} {s : Shared} {a : Addr} {S : Str → Bool} {n : Nat}
/-- the rows are laid; where the table is full it is laid anew -/
theorem setS_lay {give : Bool → Sem Unit} (hg : ∀ (b : Bool) (s1 : Shared) (Q1 : Unit → Shared → Prop), Q1 () s1 → wpAny (model prog w) A (give b) Q1 E s1)
    {o : Obj} {es es1 : Array (Int × Value)} {ep : Nat} {t t1 : SetTable} {S1 : Str → Bool} (ho : s.heap.get? a = some o) (hex : o.ExactSet) (hd : o.data = .set es ep t)
    (hrow : ∀ e ∈ es1.toList, RowS w e) (hnd : (es1.toList.map rowT).Nodup) (hmem : ∀ k, S1 k = true ↔ k ∈ es1.toList.map rowT) (hfew : es1.size < scanBound) (hfit : t1.fits es1.size = true) (htab : TabOk w t1) {dm : Bool} {Z : Option Bool → Shared → Prop}
    (fin : ∀ h1, Heap.SameBut a s.heap h1 → SetS w h1 a S1 es1.size → Z (some true) { s with heap := h1 }) :
    wpAny (model prog w) A (storeSet a es1 t1 >>= fun _ => if (!dm && t1.tooFull) = true then
        (give (relayAll t1 es1 (SetTable.grown es1.size)).2.2 >>= fun _ => storeSet a (relayAll t1 es1 (SetTable.grown es1.size)).1 (relayAll t1 es1 (SetTable.grown es1.size)).2.1 >>= fun _ => pure (some true))
      else pure (some true)) Z E s := by
  have z1 := fits_of_scanBound hfew
  have at1 := store_at (es' := es1) (t' := t1) ho hd
  have same1 := Heap.SameBut.update s.heap a (Obj.putSet es1 t1)
  refine wpAny_bind (wpAny_storeSet_of ho hd ?_ z1)
  by_cases full : (!dm && t1.tooFull) = true
  · rw [if_pos full]
    have pm := relayAll_perm t1 es1 (SetTable.grown es1.size)
    have f2 := relayAll_fits t1 es1 (SetTable.grown es1.size)
    have r2 := relayAll_ris t1 es1 (SetTable.grown es1.size)
    have l2 := relayAll_led t1 es1 (SetTable.grown es1.size)
    generalize relayAll t1 es1 (SetTable.grown es1.size) = Y at pm f2 r2 l2 ⊢
    obtain ⟨es2, t2, gave⟩ := Y
    simp only at pm f2 r2 l2 ⊢
    have hz : es2.size = es1.size := by
      have := pm.length_eq
      simpa using this
    have few2 : es2.size < scanBound := by omega
    have at2 := store_at (es' := es2) (t' := t2) at1 rfl
    refine wpAny_bind (hg _ _ _ (wpAny_bind (wpAny_storeSet_of at1 rfl (wpAny_pure (fin _ (same1.trans (Heap.SameBut.update _ a _)) ?_)) (fits_of_scanBound few2))))
    refine ⟨_, es2, _, t2, { at_ := at2, ex := hex, dat := rfl, row := fun e he => hrow e (pm.mem_iff.mp he), nd := (pm.map rowT).nodup_iff.mpr hnd, mem := fun k => (hmem k).trans (pm.map rowT).mem_iff.symm, few := few2, fit := f2, num := hz, tab := ⟨r2, ?_⟩ }⟩
    rw [l2]
    exact htab.led
  · rw [if_neg full]
    exact wpAny_pure (fin _ same1 ⟨_, es1, _, t1, { at_ := at1, ex := hex, dat := rfl, row := hrow, nd := hnd, mem := hmem, few := hfew, fit := hfit, num := rfl, tab := htab }⟩)
theorem setS_add {x : Str} {tk : Tok} {Q : Bool → Shared → Prop} (R : SetS w s.heap a S n) (room : n + 1 < scanBound)
    (fin : ∀ h1, Heap.SameBut a s.heap h1 → SetS w h1 a (fun q => S q || decide (q = x)) (if S x = true then n else n + 1) → Q (!S x) { s with heap := h1 }) :
    wpAny (model prog w) A (setAddHashed a (.str x tk) ((PySem.strKind prog w).hash x)) Q E s := by
  obtain ⟨o, es, ep, t, r⟩ := R
  have isx := strKind_is prog w x tk
  have scn : (Value.str x tk).scannable = true := rfl
  have el : ElemsOf (PySem.strKind prog w) es.toList := rows_elems r.row
  unfold setAddHashed setAddHashedIn
  refine wpAny_holding (wpAny_bind (wpAny_setState_of r.at_ r.dat r.fit ?_))
  simp only [byScan_of scn r.few el, if_true]
  unfold setAddByScan
  refine wpAny_bind (wpAny_bind (wpAny_rule (wpAny_bind (wpAny_setScan_of isx r.at_ r.dat r.fit el ?_))))
  cases hf : List.findIdx? (fun e => (PySem.strKind prog w).is x e.2) es.toList with
  | some j =>
    simp only
    obtain ⟨hj, pj, _⟩ := List.findIdx?_eq_some_iff_getElem.mp hf
    have hx : S x = true := (r.mem x).mpr ((rows_mem (P := prog) r.row x).mpr ⟨_, List.getElem_mem hj, pj⟩)
    have q := fin s.heap (Heap.SameBut.refl a s.heap) ⟨o, es, ep, t, { r with mem := fun k => ?_, num := by rw [if_pos hx]; exact r.num }⟩
    · rw [hx] at q
      exact wpAny_pure (wpAny_pure q)
    · rw [Bool.or_eq_true, decide_eq_true_eq, ← r.mem k]
      exact ⟨fun z => z.elim id fun e => e ▸ hx, .inl⟩
  | none =>
    simp only
    have new : x ∉ es.toList.map rowT := fun z => by
      obtain ⟨e, he, q⟩ := (rows_mem (P := prog) r.row x).mp z
      rw [List.findIdx?_eq_none_iff.mp hf e he] at q
      cases q
    have hx : S x = false := Bool.eq_false_iff.mpr fun q => new ((r.mem x).mp q)
    have pm := layNew_perm t es ((PySem.strKind prog w).hash x) (.str x tk)
    have f1 := layNew_fits t es ((PySem.strKind prog w).hash x) (.str x tk)
    have r1 := layNew_ris t es ((PySem.strKind prog w).hash x) (.str x tk) r.tab.up
    have l1 := layNew_led t es ((PySem.strKind prog w).hash x) (.str x tk)
    generalize layNew t es ((PySem.strKind prog w).hash x) (.str x tk) = Y at pm f1 r1 l1 ⊢
    obtain ⟨es1, t1, dm, gave⟩ := Y
    simp only at pm f1 r1 l1 ⊢
    rw [Array.toList_push] at pm
    have pc := pm.trans (List.perm_append_singleton ((PySem.strKind prog w).hash x, Value.str x tk) es.toList)
    have pk : (es1.toList.map rowT).Perm (x :: es.toList.map rowT) := pc.map rowT
    have hsz : es1.size = n + 1 := by
      have := pc.length_eq
      have := r.num
      simp at *
      omega
    have done : ∀ h1, Heap.SameBut a s.heap h1 → SetS w h1 a (fun q => S q || decide (q = x)) es1.size → Q true { s with heap := h1 } := fun h1 sb y => by
      have q := fin h1 sb
      rw [hx] at q
      rw [hsz] at y
      exact q y
    have row1 : ∀ e ∈ es1.toList, RowS w e := fun e he => by
      rcases List.mem_cons.mp (pc.mem_iff.mp he) with rfl | he
      · exact ⟨x, tk, rfl⟩
      · exact r.row e he
    have mem1 : ∀ k, (S k || decide (k = x)) = true ↔ k ∈ es1.toList.map rowT := fun k => by
      rw [pk.mem_iff, List.mem_cons, Bool.or_eq_true, decide_eq_true_eq, r.mem k]
      exact Or.comm
    have nd1 := pk.nodup_iff.mpr (List.nodup_cons.mpr ⟨new, r.nd⟩)
    have tab1 : TabOk w t1 := ⟨r1, by rw [l1]; exact r.tab.led⟩
    have say : ∀ (b : Bool) (s1 : Shared) (Q1 : Unit → Shared → Prop), Q1 () s1 → wpAny (model prog w) A (match b with | true => rule "set.scan.the-table-gave-way" | false => pure ()) Q1 E s1 := fun b s1 Q1 q => by
      cases b
      · exact wpAny_pure q
      · exact wpAny_rule q
    refine wpAny_bind (say _ _ _ ?_)
    split
    · refine wpAny_bind ?_
      rw [hashByValue_scannable 8 scn]
      refine wpAny_pure (setS_lay ?_ r.at_ r.ex r.dat row1 nd1 mem1 (by omega) ?_ ?_ ?_)
      · intro b s1 Q1 q
        cases b
        · exact wpAny_pure q
        · exact wpAny_rule q
      · first | (split <;> first | exact f1 | exact SetTable.fits_plain_off f1) | exact f1
      · first | (split <;> first | exact tab1 | exact ⟨tab1.up, tab1.led⟩) | exact tab1
      · intro h1 sb y
        exact wpAny_pure (done h1 sb y)
    · refine wpAny_bind (wpAny_pure ?_)
      simp only [if_true]
      refine setS_lay ?_ r.at_ r.ex r.dat row1 nd1 mem1 (by omega) f1 tab1 ?_
      · intro b s1 Q1 q
        cases b
        · exact wpAny_pure q
        · exact wpAny_rule q
      · intro h1 sb y
        exact wpAny_pure (done h1 sb y)
end
end DL
namespace DL
open PySem PySem.Spec PyProof.Rows L2
section
variable {prog : Program} {w : World} {A : Around} {R : Result → Shared → Prop} {I D : Addr} {fp wr : List Addr} {G : Array GenState → Array GenState → Prop} {n : Nat} {P : Nat → Value → Prop} {St : Nat → Shared → Prop}
/-- all that the walk gives is put in -/
theorem fill_walk (W : WalksS prog w A.in1 I fp wr G n P St) (far : D ∉ fp) {xs : List Str} (len : xs.length = n) (fits : n + 1 < scanBound) (val : ∀ i v, P i v → ∃ t, v = .str (xs.getD i Str.empty) t) :
    ∀ (left i : Nat) (s : Shared), left = n - i → i ≤ n → St i s → SetS w s.heap D (inFirst xs i) (cntS xs i) →
      (∀ s', Moved (D :: wr) G s s' → SetS w s'.heap D (inFirst xs n) (cntS xs n) → R (.ok (.ret .none)) s') →
      codeAny (model prog w) A (.builtin "set.update.loop" ⟨[.ref D, .ref I], []⟩) R s
  | 0, i, s, el, hi, st, hS, fin => by
    obtain rfl : i = n := by omega
    refine codeAny_builtin PyProof.Rows.F.entry_set_update_loop ?_
    rw [Around.under_plainId PyProof.Rows.F.plain_set_update_loop _]
    refine wpAny_bind (m := pyNext (.ref I)) (W.done s _ _ st fun s' mv => wpAny_pure (fin s' (mv.mono fun b hb => List.mem_cons_of_mem _ hb) ?_))
    exact hS.carry fun o e => mv.heap D _ (fun q => far (W.sub _ q)) e
  | left + 1, i, s, el, hi, st, hS, fin => by
    have lt : i < n := by omega
    have up : ∀ b ∈ wr, b ∈ D :: wr := fun b hb => List.mem_cons_of_mem _ hb
    refine codeAny_builtin PyProof.Rows.F.entry_set_update_loop ?_
    rw [Around.under_plainId PyProof.Rows.F.plain_set_update_loop _]
    refine wpAny_bind (m := pyNext (.ref I)) (W.item i s _ _ lt st fun v s1 pv st1 mv => ?_)
    obtain ⟨tk, rfl⟩ := val i v pv
    have hS1 := hS.carry fun o e => mv.heap D _ (fun q => far (W.sub _ q)) e
    have nx : ∀ q, (inFirst xs i q || decide (q = xs.getD i Str.empty)) = inFirst xs (i + 1) q := inFirst_succ (by omega)
    have cs : cntS xs (i + 1) = (if inFirst xs i (xs.getD i Str.empty) = true then cntS xs i else cntS xs i + 1) := rfl
    generalize xs.getD i Str.empty = x at *
    show wpAny _ A.in1 (holding [Value.str x tk] (setAdd D (.str x tk)) >>= _) _ _ s1
    refine wpAny_bind (wpAny_holding ?_)
    unfold setAdd
    refine wpAny_holding (wpAny_bind ((PySem.strKind prog w).pyHash (k := x) (strKind_is _ _ _ _) ?_))
    have room : cntS xs i + 1 < scanBound := by have := cntS_le xs i; omega
    refine setS_add (s := { s1 with toks := s1.toks + 1 }) hS1 room fun h2 same hS2 => ?_
    have hS3 : SetS w h2 D (inFirst xs (i + 1)) (cntS xs (i + 1)) := by
      rw [cs, ← funext nx]
      exact hS2
    have st2 := W.frame _ s1 h2 (s1.toks + 1) st1 (Nat.le_succ _) fun b hb o e => (same.2 b fun q => far (by rw [← q]; exact hb)).trans e
    refine wpAny_pure ⟨plainId_quiet PyProof.Rows.F.plain_set_update_loop _, fill_walk W far len fits val left (i + 1) _ (by omega) lt st2 hS3 fun s3 mv3 hS4 => ?_⟩
    refine fin s3 (Moved.trans W.gtrans ((mv.mono up).then_heap (Nat.le_succ _) fun b o hb e => ?_) mv3) hS4
    exact (same.2 b fun q => hb (by rw [q]; exact List.mem_cons_self)).trans e
end
end DL

/-! sorted(set(texts)) -/
namespace DL
open PySem PySem.Spec PyProof.Rows L2
section
variable {prog : Program} {w : World} {A : Around} {E : Value → Shared → Prop} {s : Shared}
def MadeSetS (w : World) (s : Shared) (xs : List Str) (h2 : Heap) : Prop :=
  SetS w h2 s.heap.objs.size (inFirst xs xs.length) (cntS xs xs.length) ∧ ∀ b o, b < s.heap.objs.size → s.heap.get? b = some o → h2.get? b = some o
abbrev freshSet (w : World) : Obj := emptySet (!w.params.followText "set-order")
theorem setS_fresh {h : Heap} {D : Addr} (ho : h.get? D = some (freshSet w)) : SetS w h D (fun _ => false) 0 := by
  refine ⟨_, #[], 0, _, { at_ := ho, ex := ⟨rfl, rfl, rfl⟩, dat := rfl, row := fun e he => by simp at he, nd := by simp, mem := fun k => by simp, few := by decide, fit := by rfl, num := rfl, tab := ⟨List.Pairwise.nil, ?_⟩ }⟩
  show _ ∨ (!w.params.followText "set-order") = true
  by_cases z : w.params.followText "set-order" = true
  · exact .inl z
  · exact .inr (by simp [z])
theorem setS_of_list {l : Addr} {items : Array Value} {xs : List Str} {Q : Value → Shared → Prop} (calm : A.handled = none) (hl : s.heap.IsList l items) (hi : PyProof.Rows.StrsAre items.toList xs) (fits : xs.length + 1 < scanBound)
    (fin : ∀ h2 tk, MadeSetS w s xs h2 → Q (.ref s.heap.objs.size) { s with heap := h2, toks := tk }) : wpAny (model prog w) A (call (.type "set") [.ref l]) Q E s := by
  obtain ⟨c, tl, hmro⟩ := PySem.F.called_set.mro
  have x1 := PySem.F.called_set.made
  have x2 := PySem.F.called_set.sub
  have x3 := PySem.F.called_set.notType
  have x4 := PySem.F.called_set.canCreate
  have x5 := PySem.F.typeCall_set_1 (.ref l)
  refine wpAny_call (codeAny_of_tree ?_)
  show wpAny _ _ (callAny (.type "set") _) _ _ _
  refine wpAny_pure ⟨Code.quiet_builtin _ (by decide +kernel), codeAny_builtin PySem.F.entry_type_call ?_⟩
  rw [Around.under_plain (weight_type_call_type "set" [.ref l] []) rfl]
  repeat (any_goals (first | assumption | wp_step))
  refine codeAny_mono (code_set_led1 (.ref l) (E := E) (Q₁ := fun v s1 => v = .ref s.heap.objs.size ∧ s1 = { s with heap := s.heap.push (freshSet w) }) ⟨rfl, rfl⟩) fun r s1 hr => ?_
  rcases r with e | fl
  · exact hr
  · cases fl with
    | ret v =>
      obtain ⟨rfl, rfl⟩ := hr
      have at0 : (s.heap.push (freshSet w)).get? s.heap.objs.size = some (freshSet w) := Heap.get?_push_size _ rfl
      have ty0 : Shared.TypeIs { s with heap := s.heap.push (freshSet w) } (.ref s.heap.objs.size) "set" := ⟨_, at0, rfl⟩
      have x6 := PySem.F.called_set.init.lookup
      have x7 := PySem.F.called_set.init.bind (.ref s.heap.objs.size)
      repeat (any_goals (first | assumption | wp_step))
      refine codeAny_mono (codeAny_call_builtin (R := wants (fun v s2 => v = .none ∧ ∃ h2 tk, s2 = { s with heap := h2, toks := tk } ∧ MadeSetS w s xs h2) E) PySem.F.called_set.init.plain PySem.F.entry_set_init (check_set_init_1 ty0 ?_)) fun r2 s2 hr2 => ?_
      · obtain ⟨⟨cls, dd, dt, sl⟩, ho, hc, k, hd⟩ := hl
        simp only at hc hd
        subst hc; subst hd
        have lo : l < s.heap.objs.size := Heap.lt_size ho
        have y0 : (s.heap.push (freshSet w)).get? l = some { cls := .type "list", dict := dd, data := .seq items k, slots := sl } := Heap.get?_push_of_some _ ho
        have y1 : (s.heap.push (freshSet w)).IsList l items := ⟨_, y0, rfl, k, rfl⟩
        have y2 := PySem.F.sub_list_set
        have y3 := PySem.F.sub_list_frozenset
        have y4 : (Value.type "list" == Value.type "dict") = false := by decide
        unfold Builtin.«set.__init__» noKeywords Builtin.Frozenset.updateFrom
        generalize pit : pyIter = PI
        wp_walk
        subst pit
        refine wpAny_pyIter_list y1 (wpAny_bind (wpAny_runValue ?_))
        have far1 : l ≠ (s.heap.push (freshSet w)).objs.size := by
          rw [Heap.size_push]
          exact Nat.ne_of_lt (Nat.lt_succ_of_lt lo)
        have far2 : s.heap.objs.size ∉ [(s.heap.push (freshSet w)).objs.size, l] := by
          rw [Heap.size_push]
          simp only [List.mem_cons, List.not_mem_nil, or_false, not_or]
          exact And.intro (Nat.ne_of_lt (Nat.lt_succ_self _)) (Nat.ne_of_gt lo)
        have len : xs.length = items.size := (StrsAre.len_eq hi).symm
        have texts : ∀ (i : Nat) (v : Value), items[i]? = some v → ∃ t, v = .str (xs.getD i Str.empty) t := fun i v hv => SS.strs_at hi i v (by rw [Array.getElem?_toList]; exact hv)
        refine fill_walk ((Walks.list (by simp [calm]) _ l far1 items).toS) far2 len (by omega) texts (items.size - 0) 0 _ rfl (Nat.zero_le _) ⟨⟨_, Heap.get?_push_size _ rfl, rfl, rfl⟩, y1.push _⟩ ?_ fun s3 mv hS => ?_
        · exact setS_fresh (Heap.get?_push_of_some _ at0)
        · obtain ⟨h3, g3, d3, t3, o3⟩ := s3
          cases (show g3 = s.gens from mv.gens)
          cases (show d3 = s.drawn from mv.drawn)
          cases (show o3 = s.os from mv.os)
          show wpAny _ _ _ _ _ _
          refine wpAny_pure ?_
          show wpAny _ _ (ret Value.none) _ _ _
          refine wpAny_pure ⟨rfl, h3, t3, rfl, by rw [len]; exact hS, fun b o hb e => ?_⟩
          refine mv.heap b o ?_ (Heap.get?_push_of_some _ (Heap.get?_push_of_some _ e))
          rw [Heap.size_push]
          simp only [List.mem_cons, List.not_mem_nil, or_false, not_or]
          exact And.intro (Nat.ne_of_lt hb) (Nat.ne_of_lt (Nat.lt_succ_of_lt hb))
      · rcases r2 with e | fl2
        · exact hr2
        · cases fl2 with
          | ret v2 =>
            obtain ⟨rfl, h2, tk, rfl, hm⟩ := hr2
            repeat (any_goals (first | assumption | wp_step))
            exact fin h2 tk hm
          | _ => exact hr2.elim
    | _ => exact hr.elim
theorem strs_rows {w : World} : ∀ {l : List (Int × Value)}, (∀ e ∈ l, RowS w e) → StrsAre (l.map (·.2)) (l.map rowT)
  | [], _ => .nil
  | e :: l, h => by
    obtain ⟨x, tk, rfl⟩ := h _ List.mem_cons_self
    exact .cons x tk (strs_rows fun e he => h e (List.mem_cons_of_mem _ he))
/-- the texts of values -/
def valT (v : Value) : Str := match v with
  | .str x _ => x
  | _ => Str.empty
theorem strs_valT : ∀ {vs : List Value}, (∀ v ∈ vs, ∃ x t, v = Value.str x t) → StrsAre vs (vs.map valT)
  | [], _ => .nil
  | v :: vs, h => by
    obtain ⟨x, t, rfl⟩ := h _ List.mem_cons_self
    exact .cons x t (strs_valT fun u hu => h u (List.mem_cons_of_mem _ hu))
theorem sorted_setS {a : Addr} {S : Str → Bool} {n : Nat} {Q : Value → Shared → Prop} (R : SetS w s.heap a S n) (hh : A.handled = none) (h64 : n < 64)
    (fin : ∀ s' p (out : Array Value) (c : Nat) (ys : List Str), (∀ b o, s.heap.get? b = some o → s'.heap.get? b = some o) → s'.gens = s.gens → s'.os = s.os → s.heap.objs.size ≤ p →
      s'.heap.get? p = some (seqObj "list" out c) → StrsAre out.toList ys → sortedS ys = true → ys.Nodup → (∀ k, k ∈ ys ↔ S k = true) → ys.length = n → Q (.ref p) s') :
    wpAny (model prog w) A (call (.builtin "sorted") [.ref a]) Q E s := by
  obtain ⟨o, es, ep, t, r⟩ := R
  refine Calls.call_function_entry PyProof.Rows.kind_sorted PyProof.Rows.plain_sorted PyProof.Rows.entry_sorted (PyProof.Rows.args_sorted1 _) ?_
  unfold Builtin.«sorted»
  refine wpAny_bind (m := checkCount "sorted" 1 1 _) (wpAny_pure (wpAny_bind (collect_set (A := A.in1) hh ⟨o, r.at_, r.ex.1, r.dat⟩ r.fit r.few r.tab.up r.tab.led fun s1 vs k1 z1 g1 o1 pm => ?_)))
  have lv : vs.length = n := by
    have := pm.length_eq
    have := r.num
    simp at *
    omega
  have all : ∀ v ∈ vs, ∃ x tk, v = Value.str x tk := fun v hv => by
    obtain ⟨e, he, q⟩ := List.mem_map.mp (pm.mem_iff.mp hv)
    obtain ⟨x, tk, rfl⟩ := r.row e he
    exact ⟨x, tk, q.symm⟩
  have hS := strs_valT all
  have pk : (vs.map valT).Perm (es.toList.map rowT) := by
    have q := pm.map valT
    rw [List.map_map] at q
    exact q
  refine wpAny_bind (wpAny_newList ?_ (by rw [lv, sizeLine_eq]; omega))
  have oL : (s1.heap.push (seqObj "list" vs.toArray 0)).get? s1.heap.objs.size = some (seqObj "list" vs.toArray 0) := Heap.get?_push_size _ rfl
  refine wpAny_bind (wpAny_holding (wpAny_call_entry PyProof.Rows.slot_list_sort ⟨_, oL, rfl⟩ PyProof.Rows.entry_list_sort
    (list_sort_treeK strKind_oneLt (s := { s1 with heap := s1.heap.push (seqObj "list" vs.toArray 0) }) oL hS.keysOf (fun u1 u2 rest e => keyKind_strs (by rw [← e]; exact hS)) (by rw [lv]; exact h64) fun st' hp hs => ⟨_, rfl, ?_⟩) (PyProof.Rows.args_list_sort _)))
  obtain ⟨ys, y1, y2, y3⟩ := sorted_out_str hS hp hs
  obtain ⟨c, hc⟩ := PyProof.Rows.sortedHeap_at (vs := vs) (out := (arrOf st').map (·.2)) oL
  have py : ys.Perm (es.toList.map rowT) := y2.trans pk
  refine wpAny_pure ⟨_, rfl, fin _ s1.heap.objs.size _ c ys (fun b u e => ?_) g1 o1 z1 hc y1 y3 (py.nodup_iff.mpr r.nd) (fun k => by rw [py.mem_iff, ← r.mem k]) ?_⟩
  · have q := k1 b u e
    have lb := Heap.lt_size q
    rw [PyProof.Rows.sortedHeap_old (Nat.ne_of_lt lb) (by rw [size_push']; exact Nat.lt_succ_of_lt lb)]
    exact Heap.get?_push_of_some _ q
  · have := py.length_eq
    have := r.num
    simp at *
    omega
end
end DL

/-! DL: sorted(set(texts)) -/
namespace DL
open PySem PySem.Spec PyProof.Rows L2
def tSortSet (K : PySem.W.Frag) (ta : TE) : TE := fun σ H Q => ta σ H fun x H1 => ∃ l, ∃ xs : List Str, x = .ref l ∧ SqL K H1 l (xs.map V.str) ∧ xs.length < 64 ∧
  ∀ (ys : List Str) p, ys.Nodup → (∀ k, k ∈ ys ↔ k ∈ xs) → sortedS ys = true → H1 p = none → Q (.ref p) (upd H1 p (.lst (ys.map V.str)))
theorem inFirst_all (xs : List Str) (k : Str) : inFirst xs xs.length k = true ↔ k ∈ xs := by
  unfold inFirst
  rw [List.take_of_length_le (Nat.le_refl _), List.any_eq_true]
  exact ⟨fun ⟨x, hx, e⟩ => by rw [← eq_of_beq e]; exact hx, fun h => ⟨k, h, beq_self_eq_true k⟩⟩
theorem pe_sortSet {X : Cx} {K : PySem.W.Frag} {a : Expr} {ta : TE} {p p2 q pos : Pos} (hK : X.K = K) (hc : X.calm = true) (hg : Gl X "sorted") (hm : X.mg "sorted" = none) (hg2 : Gl X "set") (hm2 : X.mg "set" = none) (ha : PE X a ta)
    (na : starEach [a] X.env = (false, eval a X.env) :: starEach [] X.env := by rfl) : PE X (.Call (.Name "sorted" p) [.Call (.Name "set" p2) [a] [] q] [] pos) (tSortSet K ta) := by
  subst hK
  refine ⟨fun pins s σ H Q I h => ?_⟩
  refine Call_ (ld_blt I hg hm boot_sorted (PyProof.Rows.callWith_builtin1 (PyProof.Rows.args_cons ?_ rfl) rfl rfl))
  refine Call_ (ld_blt I hg2 hm2 boot_set ?_)
  refine PyProof.Rows.callWith_type1 (PyProof.Rows.args_cons (thn (ha.run pins s σ H _ I h) fun v s1 w => PyProof.Rows.args_nil ?_) na) na rfl
  obtain ⟨x, H1, I1, r1, l, xs, rfl, hq, h64, q1⟩ := w
  cases r1
  obtain ⟨its, r, pl, hz⟩ := I1.list hq
  refine setS_of_list (I1.ok.hd hc) pl.isList (by simpa using strsAre_of r) (by unfold scanBound; omega) fun h2 tk md => ?_
  obtain ⟨md, hk⟩ := md
  have I2 : Inv X pins σ H1 { s1 with heap := h2, toks := tk } := I1.kept fun b o e => hk b o (Heap.lt_size e) e
  have cl := cntS_le xs xs.length
  refine PyProof.Rows.args_nil (sorted_setS md (I1.ok.hd hc) (by omega) fun s' pp out c ys k g o hp hg3 hi hs nd hm3 hl => ?_)
  have hlen : (ys.map V.str).length ≤ sizeLine := by rw [List.length_map, hl, sizeLine_eq]; omega
  have hn : H1 pp = none := I2.hok.fresh hp
  have J : Inv X pins σ (upd H1 pp (.lst (ys.map V.str))) { ({ s1 with heap := h2, toks := tk } : Shared) with heap := s'.heap, gens := s'.gens, drawn := s'.drawn, toks := s'.toks } :=
    I2.call (ch := []) (Un.laid k hp hn) (I2.hok.laid k hp ⟨hlen, out.toList, c, vals_of_strs hi, hg3⟩) (by rw [g]; exact I2.bare) (fun _ z => nomatch z)
  have e : s' = { ({ s1 with heap := h2, toks := tk } : Shared) with heap := s'.heap, gens := s'.gens, drawn := s'.drawn, toks := s'.toks } := by
    cases s'
    cases s1
    cases o
    rfl
  rw [e]
  exact ⟨.ref pp, _, J, rfl, q1 ys pp nd (fun k => (hm3 k).trans (inFirst_all xs k)) hs hn⟩
/-- each once -/
def onceT : List Str → List Str
  | [] => []
  | x :: r => if x ∈ r then onceT r else x :: onceT r
theorem once_mem : ∀ (xs : List Str) (k : Str), k ∈ onceT xs ↔ k ∈ xs
  | [], k => Iff.rfl
  | x :: r, k => by
    unfold onceT
    by_cases h : x ∈ r
    · rw [if_pos h, once_mem r k, List.mem_cons]
      exact ⟨.inr, fun z => z.elim (fun e => e ▸ h) id⟩
    · rw [if_neg h, List.mem_cons, List.mem_cons, once_mem r k]
theorem once_nodup : ∀ xs : List Str, (onceT xs).Nodup
  | [] => List.nodup_nil
  | x :: r => by
    unfold onceT
    by_cases h : x ∈ r
    · rw [if_pos h]; exact once_nodup r
    · rw [if_neg h]; exact List.nodup_cons.mpr ⟨fun z => h ((once_mem r x).mp z), once_nodup r⟩
def sortSetD (d : D) (m : M) : R D := match (seqOf d m).bind txsOf with
  | some xs => if xs.length < 64 then .ok (.lst (txs (sortT (onceT xs)))) m else .no
  | none => .no
section
variable {A : Amb} {W : L2.St → XK} {ta : TE} {fa : Env → M → R D}
theorem den_sortSet (ha : Den A W ta fa) : Den A W (tSortSet A.K ta) (eUn sortSetD fa) := by
  intro z H σ env m Q hm hs h
  refine ha z H σ env m _ hm hs (post_bind h fun z1 H1 d m1 v s1 hm1 hv h1 => ?_)
  unfold sortSetD at h1
  split at h1
  · rename_i xs e
    obtain ⟨c, h1⟩ := post_if h1
    obtain ⟨ds, e1, e2⟩ := Option.bind_eq_some_iff.mp e
    obtain ⟨a, vs, rfl, hq, r⟩ := seqOf_ok hm1 hv e1
    have := txsOf_ok r e2
    subst this
    refine ⟨a, xs, rfl, SqL.of hq, c, fun ys p nd me so np => ?_⟩
    have pm : ys.Perm (onceT xs) := (List.perm_ext_iff_of_nodup nd (once_nodup xs)).mpr fun k => (me k).trans (once_mem xs k).symm
    have := sortT_eq pm so
    subst this
    exact lay_lst hm1 (repL_txs _) h1 p np
  · exact h1.elim
end
end DL

/-! DL: enumerate of a list; str(i) -/
namespace DL
open PySem PySem.Spec PyProof.Rows L2
def itE (d : D) : Src := fun m i => match seqOf d m with
  | some xs => some (match xs[i]? with
    | some x => some (.tup [.int (i : Int), x])
    | none => none)
  | none => none
def srcE (fr : Env → M → R (List D)) : Env → M → R (Nat × Src) := fun env m => (fr env m).bind fun ds m => match ds with
  | [d] => (match seqOf d m with
    | some xs => .ok (xs.length + 1, itE d) m
    | none => .no)
  | _ => .no
section
variable {A : Amb} {W : L2.St → XK} {ta : TA} {fr : Env → M → R (List D)}
theorem itokM_enum {z : Z} {H : Hp} {a : Addr} {d : D} (r1 : Rep A z H (.ref a) d) : ItOkM A z H (Ite A.K a) (itE d) := by
  intro z' H' m st hm i
  have r1 := r1.map st.k st.c
  have key : ∀ o, itE d m i = some o → ∃ us es, H' a = some (.lst us) ∧ RepL A z' H' us es ∧ o = (match es[i]? with | some x => some (.tup [.int (i : Int), x]) | none => none) := fun o q => by
    unfold itE at q
    split at q
    · rename_i xs e1
      obtain ⟨a', us, ha, hl1, hr1⟩ := seqOf_ok hm r1 e1
      cases ha
      exact ⟨us, xs, hl1, hr1, (Option.some.inj q).symm⟩
    · cases q
  refine ⟨fun q => ?_, fun d q => ?_⟩
  · obtain ⟨us, es, h1, h2, e⟩ := key _ q
    refine ⟨us, SqL.of h1, ?_⟩
    rw [h2.length]
    by_cases c1 : i < es.length
    · rw [List.getElem?_eq_getElem c1] at e
      cases e
    · exact Nat.le_of_not_lt c1
  · obtain ⟨us, es, h1, h2, e⟩ := key _ q
    split at e
    · rename_i x e1
      cases e
      obtain ⟨u, hu, ru⟩ := h2.getD e1
      refine ⟨⟨us, u, SqL.of h1, hu⟩, fun w H2 y => ?_⟩
      obtain ⟨T, x', rfl, hT, rfl, q1⟩ := y
      have := q1 us (SqL.of h1)
      rw [hu] at this
      cases this
      have s := Step.lay (o := .tup [.int (i : Nat), u]) hm hT
      exact ⟨s, hm.lay hT, .tup (.inl ⟨upd_same, hm.fresh hT⟩) (.cons (.int _) (.cons (ru.step s) .nil))⟩
    · cases e
theorem denim_enum (ha : DenA A W ta fr) : DenIM A W (iEnum A.K ta) (srcE fr) := by
  intro z H σ env m Q hm hs h
  refine ha z H σ env m _ hm hs (post_bind h fun z1 H1 ds m1 vs s1 hm1 hv h1 => ?_)
  split at h1
  · rename_i d1
    split at h1
    · rename_i xs e1
      cases hv with
      | cons r1 hv =>
        cases hv
        obtain ⟨a, us, rfl, hl1, _⟩ := seqOf_ok hm1 r1 e1
        exact ⟨a, us, rfl, SqL.of hl1, h1.ok_at hm1 (itokM_enum r1)⟩
    · exact h1.elim
  · exact h1.elim
end
theorem pi_enumK {X : Cx} {K : PySem.W.Frag} {e : Expr} {ta : TA} {p pos tpos : Pos} {elts : List Expr} {kk : Nat} (hK : X.K = K) (hg : Gl X "enumerate") (hm : X.mg "enumerate" = none) (ha : PA X [e] ta) (hs : starEach [e] X.env = [(false, eval e X.env)] := by rfl) :
    PI X (.Tuple elts kk tpos) (.Call (.Name "enumerate" p) [e] [] pos) (iEnum K ta) := by subst hK; exact pi_enum hg hm ha hs
/-! str(i) -/
def strID : List D → M → R D
  | [.int i], m => if i.natAbs.log2 < 1920 then .ok (.str (toString i)) m else .no
  | _, _ => .no
theorem calld_strI {A : Amb} : CallD A (fun xs H Q => ∃ i : Int, xs = [.int i] ∧ i.natAbs.log2 < 1920 ∧ Q (.str (toString i)) H) strID := by
  intro z H m xs ds W Q hm hx h
  unfold strID at h
  split at h
  · cases hx with
    | cons h1 h2 =>
      cases h2; cases h1
      obtain ⟨c, h⟩ := post_if h
      exact ⟨_, rfl, c, h.ok_at hm (.str _)⟩
  · exact h.elim
end DL

/-! DL: calls by place and name where places have defaults; classes made with defaults that are tuples; isinstance of own objects -/
namespace DL
open PySem PySem.Spec PyProof.Rows L2
section
variable {K : PySem.W.Frag} {x qual : Str} {params : Arguments} {body : List Stmt} {scope : Scope} {dvs : List V} {f : Addr} {fd : FuncData} {ps : List Str}
theorem kb_pos (F : FunD K x qual params body scope dvs [] f fd) (hd : dvs ≠ []) (n : Nat) (ks : List Str) (is : List Nat) (j : Nat)
    (h : ∀ (T : Addr) (kV doc pm : Value) (an : Option Addr) (cdv ct : Value) (us ws its : List Value), us.length = n → ws.length = ks.length → its.length = dvs.length →
      ∃ k, bindArgs (PySem.W.fnOf x qual params body scope (.ref T) kV doc pm an cdv ct) ⟨us, ks.zip ws⟩ = seqItems? (.ref T) >>= k ∧ k (some its.toArray) = pure (ps.zip (pick is (us ++ (ws ++ its.drop j))))) : KBp K fd ps n ks is (dvs.drop j) := by
  obtain ⟨oc, od, dV, kV, doc, pm, an, cdv, ct, osl, rfl, lk, hcd, hD, hK⟩ := F.ex
  rcases hD with ⟨e, _⟩ | ⟨_, T, o, its, m, rfl, lT, oT, rT⟩
  · exact absurd e hd
  · refine ⟨its.drop j, fun s us ws X l1 l2 => ?_, fun r1 r2 => vals_pick (r1.append (r2.append (rT.drop j))) is⟩
    obtain ⟨k, e1, e2⟩ := h T kV doc pm an cdv ct us ws its l1 l2 rT.length.symm
    refine L2.BindsTo.of_looks fun M => ?_
    rw [e1]
    exact looks_items X lT oT (.of_pure e2)
end
section
variable {A : Amb} {W : L2.St → XK} {ta tk : TA} {fa fk : Env → M → R (List D)} {n k np : Nat} {is : List Nat} {dv : List V} {dd : List D} {g : List D → M → R D} {C : Addr}
theorem den_mkR (hd : ∀ (z : Z) (H : Hp), RepL A z H dv dd) (ha : DenA A W ta fa) (hk : DenA A W tk fk) : Den A W (tMkP C n k (spD A np g) (fun vs zs => pick is (vs ++ (zs ++ dv))) W ta tk) (eMkP C n k np is dd g fa fk) := by
  intro z H σ env m Q hm hs h
  refine ha z H σ env m _ hm hs (post_bind h fun z1 H1 ds m1 vs s1 hm1 hv h1 => ?_)
  refine hk z1 H1 σ env m1 _ hm1 (hs.step s1) (post_bind h1 fun z2 H2 es m2 zs s2 hm2 hz h2 => ?_)
  obtain ⟨⟨c1, c2, c3⟩, h2⟩ := post_if h2
  refine ⟨hv.length.trans c1, hz.length.trans c2, fun x dx nx ndx ne => ?_⟩
  have hm3 : MOk A z2 (upd H2 dx (.own x)) m2 := hm2.lay ndx
  have st3 : Step z2 H2 z2 (upd H2 dx (.own x)) := Step.lay hm2 ndx
  have nx3 : (upd H2 dx (.own x)) x = none := by rw [upd_ne (Ne.symm ne)]; exact nx
  have st4 : Step z2 (upd H2 dx (.own x)) ⟨z2.as ++ [x], z2.hs⟩ (upd (upd H2 dx (.own x)) x (.ins C dx [])) := Step.newCell hm3 nx3
  have hm4 : MOk A ⟨z2.as ++ [x], z2.hs⟩ (upd (upd H2 dx (.own x)) x (.ins C dx [])) (m2 ++ [.ins C []]) := hm3.newCell nx3 ⟨dx, [], upd_same, .nil⟩
  have st := st3.trans st4
  have hcell : (z2.as ++ [x])[m2.length]? = some x := by
    rw [← hm2.len, List.getElem?_append_right (Nat.le_refl _)]
    simp
  have r4 : RepL A ⟨z2.as ++ [x], z2.hs⟩ (upd (upd H2 dx (.own x)) x (.ins C dx [])) ((.ref x :: vs) ++ (zs ++ dv)) ((.cell m2.length :: ds) ++ (es ++ dd)) := .cons (.cell hcell) (((hv.step s2).step st).append ((hz.step st).append (hd _ _)))
  refine ⟨?_, ⟨z2.as ++ [x], z2.hs⟩, m2 ++ [.ins C []], _, hm4, repL_pick r4 is, ?_⟩
  · rw [(repL_pick r4 is).length]
    exact (pick_len (by simp) is).trans c3
  · have h2 : PostE A (W σ) z2 H2 (mkObj C g (fun o => pick is ((o :: ds) ++ (es ++ dd))) m2) Q := h2
    unfold mkObj at h2
    cases e : g (pick is ((.cell m2.length :: ds) ++ (es ++ dd))) (m2 ++ [.ins C []]) with
    | no => simp only [e] at h2; exact h2.elim
    | ex x5 m5 =>
      simp only [e] at h2
      exact fun z' d H' s' hm' hx' => h2 z' d H' (st.trans s') hm' hx'
    | ok d m5 =>
      simp only [e] at h2
      cases d with
      | non =>
        intro z' v H' s' hm' hv'
        cases hv'
        exact ⟨rfl, h2 z' (.ref x) H' (st.trans s') hm' (.cell (s'.cell hcell))⟩
      | _ => exact h2.elim
/-- a tuple of texts that stands as a default -/
theorem rep_wt {a : Addr} {xs : List Str} (h : WrT A.K a (xs.map V.str)) (z : Z) (H : Hp) : Rep A z H (.ref a) (.tup (txs xs)) := .tup (.inr h) (repL_txs _)
theorem rep_wt0 {a : Addr} (h : WrT A.K a []) (z : Z) (H : Hp) : Rep A z H (.ref a) (.tup []) := rep_wt (xs := []) h z H
end
/-! isinstance(x, C), x an own object -/
def isiO (K : PySem.W.Frag) : List D → M → R D
  | [d, .ob c], m => match clsV c with
    | none => .no
    | some u => match objOf d m with
      | some (C, _) => if isoB K C = true then (match PySem.W.kitOne K (.ref C) u with | some b => .ok (.bl b) m | none => .no) else .no
      | none => .no
  | _, _ => .no
theorem isoB_ok {K : PySem.W.Frag} {C : Addr} (h : isoB K C = true) : Cls K C ∧ PySem.W.findIn K (.ref C) "__class__" = some (some (.builtin "object.__class__")) ∧ PySem.W.specialIn K (.builtin "object.__class__") "__get__" = some (some (.builtin "getset_descriptor.__get__")) ∧ PySem.W.takesIn K (.builtin "object.__class__") = some true ∧ PySem.W.mroIn K C (.type "object") = some true := by
  unfold isoB at h
  simp only [Bool.and_eq_true, decide_eq_true_eq] at h
  obtain ⟨a, b, c, d, e, f, g, i⟩ := h
  exact ⟨⟨a, b, c, d⟩, e, f, g, i⟩
theorem calld_isiO {A : Amb} : CallD A (rIsi A.K) (isiO A.K) := by
  intro z H m xs ds W Q hm hx h
  unfold isiO at h
  split at h
  · cases hx with
    | cons h1 h2 =>
      cases h2 with
      | cons h2 h3 =>
        cases h3
        cases h2
        split at h
        · exact h.elim
        · rename_i u hu
          split at h
          · rename_i C fs e
            obtain ⟨hC, h⟩ := post_if h
            split at h
            · rename_i b e2
              obtain ⟨a, dx, vf, rfl, ha0, rf⟩ := objOf_ok hm h1 e
              obtain ⟨c1, c2, c3, c4, c5⟩ := isoB_ok hC
              exact ⟨_, _, _, _, b, rfl, clsV_ok hu, .base (.ins ha0 c1 c2 c3 c4 c5), e2, h.ok_at hm (.bl _)⟩
            · exact h.elim
          · exact h.elim
  · exact h.elim
end DL

namespace K21
open PySem PySem.Spec L2 DL
def topS (i : Nat) : Stmt := PySem.Challenge.pw_loadhall_k21_halls_and_their_stores.main.body.getD i (.Pass ⟨0, 0, 0, 0⟩)
def clsS (i j : Nat) : Stmt := match topS i with
  | .ClassDef _ _ _ body _ _ _ _ _ _ _ => body.getD j (.Pass ⟨0, 0, 0, 0⟩)
  | s => s
structure Txt (K : PySem.W.Frag) (mg : Str → Option Value) : Prop where
  n_LookupError : mg "LookupError" = none
  n_ValueError : mg "ValueError" = none
  n_all : mg "all" = none
  n_bool : mg "bool" = none
  n_int : mg "int" = none
  n_isinstance : mg "isinstance" = none
  n_len : mg "len" = none
  n_range : mg "range" = none
  n_set : mg "set" = none
  n_sorted : mg "sorted" = none
  n_str : mg "str" = none
  n_tuple : mg "tuple" = none
  g_MOST_LETTERS : ∃ t, mg "MOST_LETTERS" = some (.int 8 t)
  g_MOST_PARTS : ∃ t, mg "MOST_PARTS" = some (.int 4 t)
  w_Hall_path : WrT K (dfA K "Hall" "path") []
  t_CHECKS : mg "CHECKS" = some (.ref (He.ga K "CHECKS"))
  w_CHECKS : WrT K (He.ga K "CHECKS") ((["stamp", "sum"] : List Str).map V.str)
  c_NoLine : mg "NoLine" = some (.ref (He.ga K "NoLine"))
  c_NoName : mg "NoName" = some (.ref (He.ga K "NoName"))
  c_NoStore : mg "NoStore" = some (.ref (He.ga K "NoStore"))
  c_Store : mg "Store" = some (.ref (He.ga K "Store"))
  e_NoLine : ErrV K mg "NoLine" (He.ga K "NoLine")
  e_NoName : ErrV K mg "NoName" (He.ga K "NoName")
  e_NoStore : ErrV K mg "NoStore" (He.ga K "NoStore")
  b_LookupError : BaseN K mg "LookupError" "LookupError" "LookupError.__init__"
  b_ValueError : BaseN K mg "ValueError" "ValueError" "ValueError.__init__"
section
variable {A : Amb} {P : Program} {w : World} {mg : Str → Option Value} {base : Heap}
abbrev s_is_part : Stmt := topS 18
theorem sc_is_part : FnScope ["thing"] ["thing"] (defScope s_is_part) := ⟨rfl, rfl, rfl, by decide +kernel, rfl, by decide +kernel, by decide +kernel⟩
def F_is_part (A : Amb) : DL.Env → M → S :=
  (sSeq (sIf (bOr (bNot (eTest asTru (eCall isiD (aCons (eVar 0) (aCons (eC (.ob (.ty "str"))) aNil))))) (eTest asBl (eOp (cmpD fun i j => decide (j < i)) (eCall (lenD A) (aCons (eVar 0) aNil)) (eC (.int 8))))) (sRet (eC (.bl false))) sNext)
    (sRet (eAnd (eMt isStr (askD Txt.isascii) (eVar 0) aNil) (eAnd (eMt isStr (askD Txt.isalpha) (eVar 0) aNil) (eMt isStr (askD Txt.islower) (eVar 0) aNil)))))
def G_is_part (A : Amb) : List D → M → R D := bodyD 1 (F_is_part A)
theorem ok_is_part {f_is_part : Addr} {fd_is_part : FuncData} (T : Txt A.K mg) (hF : FunD A.K "is_part" "is_part" (defArgs s_is_part) (defBody s_is_part) (defScope s_is_part) [] [] f_is_part fd_is_part) : FnOk P w A.K mg base (L2.CX P w) 1 f_is_part fd_is_part ["thing"] (spD A 1 (G_is_part A)) := by
  refine fn_denX hF sc_is_part (by decide) fun cdv Ar outer s H E hr => ⟨_, (pss_cons (ps_if (PW.pt (pw_or (pt_not (pt_truA (K := A.K) (by rfl) (pe_callB (call_isiA (K := A.K) (by rfl)) rfl T.n_isinstance (by decide +kernel) (pa_cons (pv 0) (pa_cons (pe_bltn (v := .ty "str") rfl T.n_str (by decide +kernel) rfl) pa_nil))) (fun _ => rfl))) (pw_or1 (pt_cmpR op_gt (pe_callB (call_lenA (K := A.K) (by rfl)) rfl T.n_len (by decide +kernel) (pa_cons (pv 0) pa_nil)) (pe_glob (v := .int 8) rfl T.g_MOST_LETTERS.choose_spec ⟨_, rfl⟩) (nomark _))))) (pss_one (ps_ret pe_bl)) pss_nil)
    (pss_one (ps_ret (pe_andA (K := A.K) (by rfl) (pe_bmA0 (K := A.K) (by rfl) PySem.F.plainAttrs_str PySem.F.slot_str_isascii PySem.F.type_str_isascii mt_isascii (pv 0)) (pe_andA (K := A.K) (by rfl) (pe_bmA0 (K := A.K) (by rfl) PySem.F.plainAttrs_str PySem.F.slot_str_isalpha PySem.F.type_str_isalpha mt_isalpha (pv 0)) (pe_one (pe_bmA0 (K := A.K) (by rfl) PySem.F.plainAttrs_str PySem.F.slot_str_islower PySem.F.type_str_islower mt_islower (pv 0)))))))), ?_⟩
  exact (dens_seq (dens_if (dent_or (dent_not (dent_truU (den_cb calld_isi (dena_cons den_var (dena_cons den_ob dena_nil))))) (dent_test (den_op opd_cmp (den_cb calld_lenU (dena_cons den_var dena_nil)) den_int))) (dens_ret den_bl) dens_next)
    (dens_ret (den_and (den_bm0 tyd_str mtd_ask den_var) (den_and (den_bm0 tyd_str mtd_ask den_var) (den_bm0 tyd_str mtd_ask den_var)))))

abbrev s_check_path : Stmt := topS 132
theorem sc_check_path : FnScope ["path", "part"] ["path"] (defScope s_check_path) := ⟨rfl, rfl, rfl, by decide +kernel, rfl, by decide +kernel, by decide +kernel⟩
def F_check_path (A : Amb) : DL.Env → M → S :=
  (sSeq (sIf (bOr (bNot (eTest asTru (eCall isiD (aCons (eVar 0) (aCons (eC (.ob (.ty "tuple"))) aNil))))) (bNot (eTest asTru (eCall (quantD fun bs => bs.all id) (aCons (eComp okL [1] (iIt asTup (eVar 0)) (gSet 1) bYes (eCall (fun ds m => if ds.length = 1 then G_is_part A ds m else .no) (aCons (eVar 1) aNil))) aNil))))) (sRaise (.ref (He.ga A.K "NoStore")) (eC (.str "no tuple of parts"))) sNext)
    (sIf (eTest asBl (eOp (eqD true) (eUn lenSetD (eVar 0)) (eCall (lenD A) (aCons (eVar 0) aNil)))) (sRaise (.ref (He.ga A.K "NoStore")) (eC (.str "a part twice in a path"))) sNext))
def G_check_path (A : Amb) : List D → M → R D := bodyD 2 (F_check_path A)
theorem ok_check_path {f_check_path f_is_part : Addr} {fd_check_path fd_is_part : FuncData} (T : Txt A.K mg) (hF : FunD A.K "check_path" "check_path" (defArgs s_check_path) (defBody s_check_path) (defScope s_check_path) [] [] f_check_path fd_check_path) (ok_is_part : OwnX P w A mg base "is_part" ["thing"] 1 (G_is_part A) f_is_part fd_is_part) : FnOk P w A.K mg base (L2.CX P w) 2 f_check_path fd_check_path ["path"] (spD A 1 (G_check_path A)) := by
  refine fn_denX hF sc_check_path (by decide) fun cdv Ar outer s H E hr => ⟨_, (pss_cons (ps_if (PW.pt (pw_or (pt_not (pt_truA (K := A.K) (by rfl) (pe_callB (call_isiA (K := A.K) (by rfl)) rfl T.n_isinstance (by decide +kernel) (pa_cons (pv 0) (pa_cons (pe_bltn (v := .ty "tuple") rfl T.n_tuple (by decide +kernel) rfl) pa_nil))) (fun _ => rfl))) (pw_or1 (pt_not (pt_truA (K := A.K) (by rfl) (pe_callB (cr_allA (K := A.K) (by rfl) rfl) rfl T.n_all (by decide +kernel) (pa_cons (pe_lc (own := [("part", 1)]) rfl sc_check_path.nd (pi_tupA (K := A.K) (by rfl) (pv 0)) (blkOk_by (N := ["path", "part"]) (sc := defScope s_check_path) (by decide +kernel)) (fun _ _ _ _ _ => by exact (pg_name (i := 1) sc_check_path.nd rfl (by first | exact Or.inl rfl | exact Or.inr rfl))) (fun _ _ _ _ _ => by exact pts_nil) (fun _ _ _ _ _ => by exact (pe_callS (E := WF) ok_is_part.F (hr.mono (by decide)) rfl ok_is_part.m ok_is_part.k ok_is_part.b (fun _ => passF) (pa_cons (pv 1) pa_nil)))) pa_nil)) (fun _ => rfl)))))) (pss_one (ps_raiseV T.e_NoStore rfl rfl tk_cx pe_str)) pss_nil)
    (pss_one (ps_if (pt_cmpR (op_neA (K := A.K) (by rfl) (hr.units)) (pe_lenSetU (K := A.K) (by rfl) rfl rfl T.n_len rfl T.n_set (pv 0)) (pe_callB (call_lenA (K := A.K) (by rfl)) rfl T.n_len (by decide +kernel) (pa_cons (pv 0) pa_nil)) (nomark _)) (pss_one (ps_raiseV T.e_NoStore rfl rfl tk_cx pe_str)) pss_nil))), ?_⟩
  exact (dens_seq (dens_if (dent_or (dent_not (dent_truU (den_cb calld_isi (dena_cons den_var (dena_cons den_ob dena_nil))))) (dent_not (dent_truU (den_cb calld_all (dena_cons (den_compX (vs := [1]) (by decide) (deni_tup den_var) (deng_name (i := 1)) dent_yes (den_call (dena_cons den_var dena_nil))) dena_nil))))) (dens_raise den_str) dens_next)
    (dens_if (dent_test (den_op opd_ne (den_lenSet den_var) (den_cb calld_lenU (dena_cons den_var dena_nil)))) (dens_raise den_str) dens_next))

abbrev s_Lists_init : Stmt := clsS 57 0
theorem sc_Lists_init : FnScope ["self"] ["self"] (defScope s_Lists_init) := ⟨rfl, rfl, rfl, by decide +kernel, rfl, by decide +kernel, by decide +kernel⟩
def F_Lists_init (A : Amb) : DL.Env → M → S :=
  (sFldD A.K "by_store" (eVar 0) eDNew)
def G_Lists_init (A : Amb) : List D → M → R D := bodyD 1 (F_Lists_init A)
theorem ok_Lists_init {f_Lists_init : Addr} {fd_Lists_init : FuncData} (T : Txt A.K mg) (hF : FunD A.K "__init__" "Lists.__init__" (defArgs s_Lists_init) (defBody s_Lists_init) (defScope s_Lists_init) [] [] f_Lists_init fd_Lists_init) : FnOk P w A.K mg base (L2.CX P w) 1 f_Lists_init fd_Lists_init ["self"] (spD A 1 (G_Lists_init A)) := by
  refine fn_denM hF sc_Lists_init (by decide) fun cdv Ar outer s H E hr => ⟨_, (pss_one (ps_fld (pv 0) pe_dnewK (by rfl))), ?_⟩
  exact (dens_fld den_dnew den_var)

abbrev s_Forms_init : Stmt := clsS 47 0
theorem sc_Forms_init : FnScope ["self", "check"] ["self", "check"] (defScope s_Forms_init) := ⟨rfl, rfl, rfl, by decide +kernel, rfl, by decide +kernel, by decide +kernel⟩
def F_Forms_init (A : Amb) : DL.Env → M → S :=
  (sSeq (sIf (eTest asBl (eOp (inPD true) (eVar 1) (eC (.tup (txs ["stamp", "sum"]))))) (sRaise (.ref (He.ga A.K "NoLine")) (eC (.str "no way to check kept forms"))) sNext)
    (sSeq (sFldD A.K "check" (eVar 0) (eVar 1))
    (sSeq (sFldD A.K "made" (eVar 0) (eC (.int 0)))
    (sSeq (sFldD A.K "kept" (eVar 0) (eC (.int 0)))
    (sFldD A.K "by_place" (eVar 0) eDNew)))))
def G_Forms_init (A : Amb) : List D → M → R D := bodyD 2 (F_Forms_init A)
theorem ok_Forms_init {f_Forms_init : Addr} {fd_Forms_init : FuncData} (T : Txt A.K mg) (hF : FunD A.K "__init__" "Forms.__init__" (defArgs s_Forms_init) (defBody s_Forms_init) (defScope s_Forms_init) [] [("check", .str "stamp")] f_Forms_init fd_Forms_init) : FnOk P w A.K mg base (L2.CX P w) 1 f_Forms_init fd_Forms_init ["self", "check"] (spD A 2 (G_Forms_init A)) := by
  refine fn_denM hF sc_Forms_init (by decide) fun cdv Ar outer s H E hr => ⟨_, (pss_cons (ps_if (pt_cmpR (op_notInP (K := A.K) (by rfl) (units65 hr)) (pv 1) (pe_glob (v := .ref (He.ga A.K "CHECKS")) rfl T.t_CHECKS rfl) rfl) (pss_one (ps_raiseV T.e_NoLine rfl rfl tk_cx pe_str)) pss_nil)
    (pss_cons (ps_fld (pv 0) (pv 1) (by rfl))
    (pss_cons (ps_fld (pv 0) pe_int (by rfl))
    (pss_cons (ps_fld (pv 0) pe_int (by rfl))
    (pss_one (ps_fld (pv 0) pe_dnewK (by rfl))))))), ?_⟩
  exact (dens_seq (dens_if (dent_test (den_op opd_inP den_var (den_wtup T.w_CHECKS))) (dens_raise den_str) dens_next)
    (dens_seq (dens_fld den_var den_var)
    (dens_seq (dens_fld den_int den_var)
    (dens_seq (dens_fld den_int den_var)
    (dens_fld den_dnew den_var)))))

abbrev s_Along_init : Stmt := clsS 42 0
theorem sc_Along_init : FnScope ["self"] ["self"] (defScope s_Along_init) := ⟨rfl, rfl, rfl, by decide +kernel, rfl, by decide +kernel, by decide +kernel⟩
def F_Along_init (A : Amb) : DL.Env → M → S :=
  (sFldD A.K "word" (eVar 0) (eC (.str "along")))
def G_Along_init (A : Amb) : List D → M → R D := bodyD 1 (F_Along_init A)
theorem ok_Along_init {f_Along_init : Addr} {fd_Along_init : FuncData} (T : Txt A.K mg) (hF : FunD A.K "__init__" "Along.__init__" (defArgs s_Along_init) (defBody s_Along_init) (defScope s_Along_init) [] [] f_Along_init fd_Along_init) : FnOk P w A.K mg base (L2.CX P w) 1 f_Along_init fd_Along_init ["self"] (spD A 1 (G_Along_init A)) := by
  refine fn_denM hF sc_Along_init (by decide) fun cdv Ar outer s H E hr => ⟨_, (pss_one (ps_fld (pv 0) pe_str (by rfl))), ?_⟩
  exact (dens_fld den_str den_var)

abbrev s_Store_init : Stmt := clsS 56 0
theorem sc_Store_init : FnScope ["self", "name"] ["self", "name"] (defScope s_Store_init) := ⟨rfl, rfl, rfl, by decide +kernel, rfl, by decide +kernel, by decide +kernel⟩
def F_Store_init (A : Amb) : DL.Env → M → S :=
  (sSeq (sIf (bNot (eTest asTru (eCall (fun ds m => if ds.length = 1 then G_is_part A ds m else .no) (aCons (eVar 1) aNil)))) (sRaise (.ref (He.ga A.K "NoStore")) (eC (.str "no part to name a store by"))) sNext)
    (sSeq (sFldD A.K "name" (eVar 0) (eVar 1))
    (sSeq (sFldD A.K "changed" (eVar 0) (eC (.int 0)))
    (sFldD A.K "entries" (eVar 0) eDNew))))
def G_Store_init (A : Amb) : List D → M → R D := bodyD 2 (F_Store_init A)
theorem ok_Store_init {f_Store_init f_is_part : Addr} {fd_Store_init fd_is_part : FuncData} (T : Txt A.K mg) (hF : FunD A.K "__init__" "Store.__init__" (defArgs s_Store_init) (defBody s_Store_init) (defScope s_Store_init) [] [] f_Store_init fd_Store_init) (ok_is_part : OwnX P w A mg base "is_part" ["thing"] 1 (G_is_part A) f_is_part fd_is_part) : FnOk P w A.K mg base (L2.CX P w) 2 f_Store_init fd_Store_init ["self", "name"] (spD A 2 (G_Store_init A)) := by
  refine fn_denM hF sc_Store_init (by decide) fun cdv Ar outer s H E hr => ⟨_, (pss_cons (ps_if (pt_not (pt_truA (K := A.K) (by rfl) (pe_callS (E := WE (fun cls d _ H => E cls d H)) ok_is_part.F (hr.mono (by decide)) rfl ok_is_part.m ok_is_part.k ok_is_part.b (fun σ => passAt tk_cx σ) (pa_cons (pv 1) pa_nil)) (fun _ => rfl))) (pss_one (ps_raiseV T.e_NoStore rfl rfl tk_cx pe_str)) pss_nil)
    (pss_cons (ps_fld (pv 0) (pv 1) (by rfl))
    (pss_cons (ps_fld (pv 0) pe_int (by rfl))
    (pss_one (ps_fld (pv 0) pe_dnewK (by rfl)))))), ?_⟩
  exact (dens_seq (dens_if (dent_not (dent_truU (den_call (dena_cons den_var dena_nil)))) (dens_raise den_str) dens_next)
    (dens_seq (dens_fld den_var den_var)
    (dens_seq (dens_fld den_int den_var)
    (dens_fld den_dnew den_var))))

abbrev s_Hall_init : Stmt := clsS 133 0
theorem sc_Hall_init : FnScope ["self", "path", "check", "part"] ["self", "path", "check"] (defScope s_Hall_init) := ⟨rfl, rfl, rfl, by decide +kernel, rfl, by decide +kernel, by decide +kernel⟩
def F_Hall_init (A : Amb) : DL.Env → M → S :=
  (sSeq (sDrop (eCall (fun ds m => if ds.length = 1 then G_check_path A ds m else .no) (aCons (eVar 1) aNil)))
    (sSeq (sFldD A.K "clock" (eVar 0) (eC (.int 0)))
    (sSeq (sFldD A.K "lists" (eVar 0) (eMkP (He.ga A.K "Lists") 0 0 1 [0] [] (G_Lists_init A) aNil aNil))
    (sSeq (sFldD A.K "forms" (eVar 0) (eMkP (He.ga A.K "Forms") 0 1 2 [0, 1] [] (G_Forms_init A) aNil (aCons (eVar 2) aNil)))
    (sSeq (sFldD A.K "finders" (eVar 0) (eCall mkT (aCons (eMkP (He.ga A.K "Along") 0 0 1 [0] [] (G_Along_init A) aNil aNil) aNil)))
    (sSeq (sFldD A.K "path" (eVar 0) (eVar 1))
    (sSeq (sFldD A.K "log" (eVar 0) (eCall mkT aNil))
    (sSeq (sFldD A.K "stores" (eVar 0) (eDComp [3] (iIt asTup (eVar 1)) (gSet 3) bYes (eVar 3) (eMkP (He.ga A.K "Store") 1 0 2 [0, 1] [] (G_Store_init A) (aCons (eVar 3) aNil) aNil)))
    (sSeq (sFldD A.K "table" (eVar 0) eDNew)
    (sSeq (sFldD A.K "by_hand" (eVar 0) eDNew)
    (sSeq (sFldD A.K "marks" (eVar 0) (eCall mkL aNil))
    (sFldD A.K "texts" (eVar 0) (eCall mkL aNil)))))))))))))
def G_Hall_init (A : Amb) : List D → M → R D := bodyD 4 (F_Hall_init A)
theorem ok_Hall_init {f_Hall_init f_check_path f_Lists_init f_Forms_init f_Along_init f_Store_init : Addr} {fd_Hall_init fd_check_path fd_Lists_init fd_Forms_init fd_Along_init fd_Store_init : FuncData} (T : Txt A.K mg) (hF : FunD A.K "__init__" "Hall.__init__" (defArgs s_Hall_init) (defBody s_Hall_init) (defScope s_Hall_init) [] [("path", .ref (dfA A.K "Hall" "path")), ("check", .str "stamp")] f_Hall_init fd_Hall_init) (ok_check_path : OwnX P w A mg base "check_path" ["path"] 2 (G_check_path A) f_check_path fd_check_path) (ok_Lists_init : OwnI P w A mg base "Lists" ["self"] 1 (G_Lists_init A) f_Lists_init fd_Lists_init) (ok_Forms_init : OwnI P w A mg base "Forms" ["self", "check"] 1 (G_Forms_init A) f_Forms_init fd_Forms_init) (ok_Along_init : OwnI P w A mg base "Along" ["self"] 1 (G_Along_init A) f_Along_init fd_Along_init) (ok_Store_init : OwnI P w A mg base "Store" ["self", "name"] 2 (G_Store_init A) f_Store_init fd_Store_init) (kb_Lists_init_1_ : KBp A.K fd_Lists_init ["self"] 1 [] [0] []) (kb_Forms_init_1_check : KBp A.K fd_Forms_init ["self", "check"] 1 ["check"] [0, 1] []) (kb_Along_init_1_ : KBp A.K fd_Along_init ["self"] 1 [] [0] []) (kb_Store_init_2_ : KBp A.K fd_Store_init ["self", "name"] 2 [] [0, 1] []) : FnOk P w A.K mg base (L2.CX P w) 4 f_Hall_init fd_Hall_init ["self", "path", "check"] (spD A 3 (G_Hall_init A)) := by
  refine fn_denM hF sc_Hall_init (by decide) fun cdv Ar outer s H E hr => ⟨_, (pss_cons (ps_expr (pe_callS (E := WE (fun cls d _ H => E cls d H)) ok_check_path.F (hr.mono (by decide)) rfl ok_check_path.m ok_check_path.k ok_check_path.b (fun σ => passAt tk_cx σ) (pa_cons (pv 1) pa_nil)))
    (pss_cons (ps_fld (pv 0) pe_int (by rfl))
    (pss_cons (ps_fld (pv 0) (pe_mkP0 (E := WE (fun cls d _ H => E cls d H)) ok_Lists_init.ini ok_Lists_init.F (hr.mono (by decide)) rfl ok_Lists_init.m kb_Lists_init_1_ (fun σ => passAt tk_cx σ) ) (by rfl))
    (pss_cons (ps_fld (pv 0) (pe_mkPK0 (E := WE (fun cls d _ H => E cls d H)) ok_Forms_init.ini ok_Forms_init.F (hr.mono (by decide)) rfl ok_Forms_init.m kb_Forms_init_1_check (fun σ => passAt tk_cx σ) (pk_cons (pv 2) pk_nil)) (by rfl))
    (pss_cons (ps_fld (pv 0) (pe_tup (pa_cons (pe_mkP0 (E := WE (fun cls d _ H => E cls d H)) ok_Along_init.ini ok_Along_init.F (hr.mono (by decide)) rfl ok_Along_init.m kb_Along_init_1_ (fun σ => passAt tk_cx σ) ) pa_nil)) (by rfl))
    (pss_cons (ps_fld (pv 0) (pv 1) (by rfl))
    (pss_cons (ps_fld (pv 0) (pe_tup pa_nil) (by rfl))
    (pss_cons (ps_fld (pv 0) (pe_dc (own := [("part", 3)]) rfl sc_Hall_init.nd (pi_tupA (K := A.K) (by rfl) (pv 1)) (blkOk_by (N := ["self", "path", "check", "part"]) (sc := defScope s_Hall_init) (by decide +kernel)) (fun _ _ _ _ _ => by exact (pg_name (i := 3) sc_Hall_init.nd rfl (by first | exact Or.inl rfl | exact Or.inr rfl))) (fun _ _ _ _ _ => by exact pts_nil) (fun _ _ _ _ _ => by exact (pv 3)) (fun _ _ _ _ _ => by exact (pe_mkP (E := WF) ok_Store_init.ini ok_Store_init.F (hr.mono (by decide)) rfl ok_Store_init.m kb_Store_init_2_ (fun _ => passF) (pa_cons (pv 3) pa_nil)))) (by rfl))
    (pss_cons (ps_fld (pv 0) pe_dnewK (by rfl))
    (pss_cons (ps_fld (pv 0) pe_dnewK (by rfl))
    (pss_cons (ps_fld (pv 0) (pe_lst pa_nil) (by rfl))
    (pss_one (ps_fld (pv 0) (pe_lst pa_nil) (by rfl)))))))))))))), ?_⟩
  exact (dens_seq (dens_drop (den_call (dena_cons den_var dena_nil)))
    (dens_seq (dens_fld den_int den_var)
    (dens_seq (dens_fld (den_mkP rfl dena_nil dena_nil) den_var)
    (dens_seq (dens_fld (den_mkP rfl dena_nil (dena_cons den_var dena_nil)) den_var)
    (dens_seq (dens_fld (den_tup (dena_cons (den_mkP rfl dena_nil dena_nil) dena_nil)) den_var)
    (dens_seq (dens_fld den_var den_var)
    (dens_seq (dens_fld (den_tup dena_nil) den_var)
    (dens_seq (dens_fld (den_dcomp (vs := [3]) (by decide) (deni_tup den_var) (deng_name (i := 3)) dent_yes den_var (den_mkP rfl (dena_cons den_var dena_nil) dena_nil)) den_var)
    (dens_seq (dens_fld den_dnew den_var)
    (dens_seq (dens_fld den_dnew den_var)
    (dens_seq (dens_fld (den_lst dena_nil) den_var)
    (dens_fld (den_lst dena_nil) den_var))))))))))))

abbrev s_l_mixed : Stmt := topS 135
theorem sc_l_mixed : FnScope ["_law_cell_here", "_law_k", "_law_number"] ["_law_cell_here", "_law_k"] (defScope s_l_mixed) := ⟨rfl, rfl, rfl, by decide +kernel, rfl, by decide +kernel, by decide +kernel⟩
def F_l_mixed (A : Amb) : DL.Env → M → S :=
  (sSeq (sSet 2 (eOp modD (eOp addD (eOp addD (eOp mulD (eOp modD (eVar 0) (eC (.int 2147483647))) (eC (.int 48271))) (eOp mulD (eVar 1) (eC (.int 69621)))) (eC (.int 1048583))) (eC (.int 2147483629))))
    (sSeq (sSet 2 (eOp modD (eOp mulD (eVar 2) (eVar 2)) (eC (.int 2147483587))))
    (sRet (eOp modD (eOp mulD (eVar 2) (eOp addD (eVar 2) (eC (.int 2)))) (eC (.int 2147483579))))))
def G_l_mixed (A : Amb) : List D → M → R D := bodyD 3 (F_l_mixed A)
theorem ok_l_mixed {f_l_mixed : Addr} {fd_l_mixed : FuncData} (T : Txt A.K mg) (hF : FunD A.K "_law_mixed" "_law_mixed" (defArgs s_l_mixed) (defBody s_l_mixed) (defScope s_l_mixed) [] [] f_l_mixed fd_l_mixed) : FnOk P w A.K mg base (L2.CX P w) 1 f_l_mixed fd_l_mixed ["_law_cell_here", "_law_k"] (spD A 2 (G_l_mixed A)) := by
  refine fn_denX hF sc_l_mixed (by decide) fun cdv Ar outer s H E hr => ⟨_, (pss_cons (ps_set (i := 2) sc_l_mixed.nd rfl (by first | exact Or.inl rfl | exact Or.inr rfl) (pe_op op_mod (pe_op op_addU (pe_op op_addU (pe_op op_mulU (pe_op op_mod (pv 0) pe_int) pe_int) (pe_op op_mulU (pv 1) pe_int)) pe_int) pe_int))
    (pss_cons (ps_set (i := 2) sc_l_mixed.nd rfl (by first | exact Or.inl rfl | exact Or.inr rfl) (pe_op op_mod (pe_op op_mulU (pv 2) (pv 2)) pe_int))
    (pss_one (ps_ret (pe_op op_mod (pe_op op_mulU (pv 2) (pe_op op_addU (pv 2) pe_int)) pe_int))))), ?_⟩
  exact (dens_seq (dens_set (i := 2) (den_op opd_mod (den_op opd_add (den_op opd_add (den_op opd_mul (den_op opd_mod den_var den_int) den_int) (den_op opd_mul den_var den_int)) den_int) den_int))
    (dens_seq (dens_set (i := 2) (den_op opd_mod (den_op opd_mul den_var den_var) den_int))
    (dens_ret (den_op opd_mod (den_op opd_mul den_var (den_op opd_add den_var den_int)) den_int))))

abbrev s_l_cell : Stmt := topS 136
theorem sc_l_cell : FnScope ["_law_script", "_law_k", "_law_cell_here", "_law_found", "_law_j"] ["_law_script", "_law_k"] (defScope s_l_cell) := ⟨rfl, rfl, rfl, by decide +kernel, rfl, by decide +kernel, by decide +kernel⟩
def F_l_cell (A : Amb) : DL.Env → M → S :=
  (sSeq (sSet 2 (eC (.int 0)))
    (sSeq (sIf (eTest asBl (eOp (cmpD fun i j => decide (i < j)) (eVar 1) (eCall (lenD A) (aCons (eVar 0) aNil)))) (sSet 2 (eOp (ixScr A) (eVar 0) (eVar 1))) sNext)
    (sSeq (sIf (eTest asBl (eOp (cmpD fun i j => decide (j ≤ i)) (eVar 2) (eOp powD (eC (.int 10)) (eC (.int 18))))) (sRet (eOp modD (eOp subD (eVar 2) (eOp powD (eC (.int 10)) (eC (.int 18)))) (eOp mulD (eOp mulD (eOp mulD (eOp powD (eC (.int 10)) (eC (.int 60))) (eOp powD (eC (.int 10)) (eC (.int 60)))) (eOp powD (eC (.int 10)) (eC (.int 60)))) (eOp powD (eC (.int 10)) (eC (.int 60)))))) sNext)
    (sSeq (sSet 3 (eC (.int 0)))
    (sSeq (sFor (iArgs rng1 (aCons (eC (.int 24)) aNil)) (gSet 4) (sSet 3 (eOp addD (eOp mulD (eVar 3) (eC (.int 2147483579))) (eCall (fun ds m => if ds.length = 2 then G_l_mixed A ds m else .no) (aCons (eVar 2) (aCons (eOp addD (eOp addD (eOp mulD (eC (.int 7)) (eVar 1)) (eOp mulD (eC (.int 100)) (eVar 4))) (eOp mulD (eVar 4) (eVar 4))) aNil))))))
    (sRet (eVar 3)))))))
def G_l_cell (A : Amb) : List D → M → R D := bodyD 5 (F_l_cell A)
theorem ok_l_cell {f_l_cell f_l_mixed : Addr} {fd_l_cell fd_l_mixed : FuncData} (T : Txt A.K mg) (hF : FunD A.K "_law_cell" "_law_cell" (defArgs s_l_cell) (defBody s_l_cell) (defScope s_l_cell) [] [] f_l_cell fd_l_cell) (ok_l_mixed : OwnX P w A mg base "_law_mixed" ["_law_cell_here", "_law_k"] 1 (G_l_mixed A) f_l_mixed fd_l_mixed) : FnOk P w A.K mg base (L2.CX P w) 2 f_l_cell fd_l_cell ["_law_script", "_law_k"] (spD A 2 (G_l_cell A)) := by
  refine fn_denX hF sc_l_cell (by decide) fun cdv Ar outer s H E hr => ⟨_, (pss_cons (ps_set (i := 2) sc_l_cell.nd rfl (by first | exact Or.inl rfl | exact Or.inr rfl) pe_int)
    (pss_cons (ps_if (pt_cmpR op_lt (pv 1) (pe_callB (call_lenA (K := A.K) (by rfl)) rfl T.n_len (by decide +kernel) (pa_cons (pv 0) pa_nil)) (nomark _)) (pss_one (ps_set (i := 2) sc_l_cell.nd rfl (by first | exact Or.inl rfl | exact Or.inr rfl) (pe_ix (ix_listA (K := A.K) (by rfl)) (pv 0) (pv 1) (fun _ _ => rfl)))) pss_nil)
    (pss_cons (ps_if (pt_cmpR op_ge (pv 2) (pe_op op_pow pe_int pe_int) (nomark _)) (pss_one (ps_ret (pe_op op_mod (pe_op op_sub (pv 2) (pe_op op_pow pe_int pe_int)) (pe_op op_mulU (pe_op op_mulU (pe_op op_mulU (pe_op op_pow pe_int pe_int) (pe_op op_pow pe_int pe_int)) (pe_op op_pow pe_int pe_int)) (pe_op op_pow pe_int pe_int))))) pss_nil)
    (pss_cons (ps_set (i := 3) sc_l_cell.nd rfl (by first | exact Or.inl rfl | exact Or.inr rfl) pe_int)
    (pss_cons (ps_for po_cx rfl (pi_range1 rfl T.n_range (pa_cons pe_int pa_nil)) (pg_name (i := 4) sc_l_cell.nd rfl (by first | exact Or.inl rfl | exact Or.inr rfl)) (pss_one (ps_set (i := 3) sc_l_cell.nd rfl (by first | exact Or.inl rfl | exact Or.inr rfl) (pe_op op_addU (pe_op op_mulU (pv 3) pe_int) (pe_callS (E := WE (fun cls d _ H => E cls d H)) ok_l_mixed.F (hr.mono (by decide)) rfl ok_l_mixed.m ok_l_mixed.k ok_l_mixed.b (fun σ => passAt tk_cx σ) (pa_cons (pv 2) (pa_cons (pe_op op_addU (pe_op op_addU (pe_op op_mulU pe_int (pv 1)) (pe_op op_mulU pe_int (pv 4))) (pe_op op_mulU (pv 4) (pv 4))) pa_nil)))))))
    (pss_one (ps_ret (pv 3)))))))), ?_⟩
  exact (dens_seq (dens_set (i := 2) den_int)
    (dens_seq (dens_if (dent_test (den_op opd_cmp den_var (den_cb calld_lenU (dena_cons den_var dena_nil)))) (dens_set (i := 2) (den_op opd_ixScr den_var den_var)) dens_next)
    (dens_seq (dens_if (dent_test (den_op opd_cmp den_var (den_op opd_pow den_int den_int))) (dens_ret (den_op opd_mod (den_op opd_sub den_var (den_op opd_pow den_int den_int)) (den_op opd_mul (den_op opd_mul (den_op opd_mul (den_op opd_pow den_int den_int) (den_op opd_pow den_int den_int)) (den_op opd_pow den_int den_int)) (den_op opd_pow den_int den_int)))) dens_next)
    (dens_seq (dens_set (i := 3) den_int)
    (dens_seq (dens_for (deni_rng1 (dena_cons den_int dena_nil)) (deng_name (i := 4)) (dens_set (i := 3) (den_op opd_add (den_op opd_mul den_var den_int) (den_call (dena_cons den_var (dena_cons (den_op opd_add (den_op opd_add (den_op opd_mul den_int den_var) (den_op opd_mul den_int den_var)) (den_op opd_mul den_var den_var)) dena_nil))))))
    (dens_ret den_var))))))

abbrev s_l_take : Stmt := topS 137
theorem sc_l_take : FnScope ["_law_pile", "_law_size", "_law_digit"] ["_law_pile", "_law_size"] (defScope s_l_take) := ⟨rfl, rfl, rfl, by decide +kernel, rfl, by decide +kernel, by decide +kernel⟩
def F_l_take (A : Amb) : DL.Env → M → S :=
  (sSeq (sSet 2 (eOp modD (eOp ixD (eVar 0) (eC (.int 0))) (eVar 1)))
    (sSeq (sSetIx (eOp divD (eOp ixD (eVar 0) (eC (.int 0))) (eVar 1)) (eVar 0) (eC (.int 0)))
    (sRet (eVar 2))))
def G_l_take (A : Amb) : List D → M → R D := bodyD 3 (F_l_take A)
theorem ok_l_take {f_l_take : Addr} {fd_l_take : FuncData} (T : Txt A.K mg) (hF : FunD A.K "_law_take" "_law_take" (defArgs s_l_take) (defBody s_l_take) (defScope s_l_take) [] [] f_l_take fd_l_take) : FnOk P w A.K mg base (L2.CX P w) 1 f_l_take fd_l_take ["_law_pile", "_law_size"] (spD A 2 (G_l_take A)) := by
  refine fn_denX hF sc_l_take (by decide) fun cdv Ar outer s H E hr => ⟨_, (pss_cons (ps_set (i := 2) sc_l_take.nd rfl (by first | exact Or.inl rfl | exact Or.inr rfl) (pe_op op_mod (pe_ix (ix_allA (K := A.K) (by rfl)) (pv 0) pe_int (fun _ _ => rfl)) (pv 1)))
    (pss_cons (ps_asg (pe_op op_fdivW (pe_ix (ix_allA (K := A.K) (by rfl)) (pv 0) pe_int (fun _ _ => rfl)) (pv 1)) (pg_sub (pv 0) pe_int set_list))
    (pss_one (ps_ret (pv 2))))), ?_⟩
  exact (dens_seq (dens_set (i := 2) (den_op opd_mod (den_op opd_ixU den_var den_int) den_var))
    (dens_seq (dens_setIx (den_op opd_div (den_op opd_ixU den_var den_int) den_var) den_var den_int)
    (dens_ret den_var)))

abbrev s_Hall_store_or_new : Stmt := clsS 133 2
theorem sc_Hall_store_or_new : FnScope ["self", "part"] ["self", "part"] (defScope s_Hall_store_or_new) := ⟨rfl, rfl, rfl, by decide +kernel, rfl, by decide +kernel, by decide +kernel⟩
def F_Hall_store_or_new (A : Amb) : DL.Env → M → S :=
  (sRet (eIf (bAnd (eTest asTru (eCall (fun ds m => if ds.length = 1 then G_is_part A ds m else .no) (aCons (eVar 1) aNil))) (eTest asBl (eDIn false (eVar 1) (eFld A.K "stores" (eVar 0))))) (eDGet (eFld A.K "stores" (eVar 0)) (eVar 1)) (eMkP (He.ga A.K "Store") 1 0 2 [0, 1] [] (G_Store_init A) (aCons (eVar 1) aNil) aNil)))
def G_Hall_store_or_new (A : Amb) : List D → M → R D := bodyD 2 (F_Hall_store_or_new A)
theorem ok_Hall_store_or_new {f_Hall_store_or_new f_is_part f_Store_init : Addr} {fd_Hall_store_or_new fd_is_part fd_Store_init : FuncData} (T : Txt A.K mg) (hF : FunD A.K "store_or_new" "Hall.store_or_new" (defArgs s_Hall_store_or_new) (defBody s_Hall_store_or_new) (defScope s_Hall_store_or_new) [] [] f_Hall_store_or_new fd_Hall_store_or_new) (ok_is_part : OwnX P w A mg base "is_part" ["thing"] 1 (G_is_part A) f_is_part fd_is_part) (ok_Store_init : OwnI P w A mg base "Store" ["self", "name"] 2 (G_Store_init A) f_Store_init fd_Store_init) (kb_Store_init_2_ : KBp A.K fd_Store_init ["self", "name"] 2 [] [0, 1] []) : FnOk P w A.K mg base (L2.CX P w) 4 f_Hall_store_or_new fd_Hall_store_or_new ["self", "part"] (spD A 2 (G_Hall_store_or_new A)) := by
  refine fn_denM hF sc_Hall_store_or_new (by decide) fun cdv Ar outer s H E hr => ⟨_, (pss_one (ps_ret (pe_ifExp (PW.pt (pw_and (pt_truA (K := A.K) (by rfl) (pe_callS (E := WE (fun cls d _ H => E cls d H)) ok_is_part.F (hr.mono (by decide)) rfl ok_is_part.m ok_is_part.k ok_is_part.b (fun σ => passAt tk_cx σ) (pa_cons (pv 1) pa_nil)) (fun _ => rfl)) (pw_and1 (pt_cmp (pc_din (unitsD hr) (pv 1) (pe_fldA (K := A.K) (by rfl) (pv 0))) (by rfl))))) (pe_dget (unitsD hr) (pe_fldA (K := A.K) (by rfl) (pv 0)) (pv 1) (fun _ _ => rfl)) (pe_mkP (E := WE (fun cls d _ H => E cls d H)) ok_Store_init.ini ok_Store_init.F (hr.mono (by decide)) rfl ok_Store_init.m kb_Store_init_2_ (fun σ => passAt tk_cx σ) (pa_cons (pv 1) pa_nil))))), ?_⟩
  exact (dens_ret (den_ifE (dent_and (dent_truU (den_call (dena_cons den_var dena_nil))) (dent_B (den_din den_var (den_fld den_var)))) (den_dget (den_fld den_var) den_var) (den_mkP rfl (dena_cons den_var dena_nil) dena_nil)))

abbrev s_Hall_store : Stmt := clsS 133 3
theorem sc_Hall_store : FnScope ["self", "part", "found"] ["self", "part"] (defScope s_Hall_store) := ⟨rfl, rfl, rfl, by decide +kernel, rfl, by decide +kernel, by decide +kernel⟩
def F_Hall_store (A : Amb) : DL.Env → M → S :=
  (sSeq (sSet 2 (eMtP (He.ga A.K "Hall") "store_or_new" 1 0 2 [0, 1] [] (G_Hall_store_or_new A) (eVar 0) (aCons (eVar 1) aNil) aNil))
    (sSeq (sDPutD (eFld A.K "stores" (eVar 0)) (eVar 1) (eVar 2))
    (sRet (eVar 2))))
def G_Hall_store (A : Amb) : List D → M → R D := bodyD 3 (F_Hall_store A)
theorem ok_Hall_store {f_Hall_store f_Hall_store_or_new : Addr} {fd_Hall_store fd_Hall_store_or_new : FuncData} (T : Txt A.K mg) (hF : FunD A.K "store" "Hall.store" (defArgs s_Hall_store) (defBody s_Hall_store) (defScope s_Hall_store) [] [] f_Hall_store fd_Hall_store) (ok_Hall_store_or_new : OwnM P w A mg base "Hall" "store_or_new" ["self", "part"] 4 (G_Hall_store_or_new A) f_Hall_store_or_new fd_Hall_store_or_new) (kb_Hall_store_or_new_2_ : KBp A.K fd_Hall_store_or_new ["self", "part"] 2 [] [0, 1] []) : FnOk P w A.K mg base (L2.CX P w) 5 f_Hall_store fd_Hall_store ["self", "part"] (spD A 2 (G_Hall_store A)) := by
  refine fn_denM hF sc_Hall_store (by decide) fun cdv Ar outer s H E hr => ⟨_, (pss_cons (ps_set (i := 2) sc_Hall_store.nd rfl (by first | exact Or.inl rfl | exact Or.inr rfl) (pe_mtP (E := WE (fun cls d _ H => E cls d H)) (pv 0) ok_Hall_store_or_new.c ok_Hall_store_or_new.mt ok_Hall_store_or_new.F (hr.mono (by decide)) kb_Hall_store_or_new_2_ (fun σ => passAt tk_cx σ) (pa_cons (pv 1) pa_nil)))
    (pss_cons (ps_dput (unitsD hr) (pe_fldA (K := A.K) (by rfl) (pv 0)) (pv 1) (pv 2) (by rfl))
    (pss_one (ps_ret (pv 2))))), ?_⟩
  exact (dens_seq (dens_set (i := 2) (den_mtP rfl den_var (dena_cons den_var dena_nil) dena_nil))
    (dens_seq (dens_dput (den_fld den_var) den_var den_var)
    (dens_ret den_var)))

abbrev s_Store_names : Stmt := clsS 56 5
theorem sc_Store_names : FnScope ["self"] ["self"] (defScope s_Store_names) := ⟨rfl, rfl, rfl, by decide +kernel, rfl, by decide +kernel, by decide +kernel⟩
def F_Store_names (A : Amb) : DL.Env → M → S :=
  (sRet (eCall sortedD (aCons (eFld A.K "entries" (eVar 0)) aNil)))
def G_Store_names (A : Amb) : List D → M → R D := bodyD 1 (F_Store_names A)
theorem ok_Store_names {f_Store_names : Addr} {fd_Store_names : FuncData} (T : Txt A.K mg) (hF : FunD A.K "names" "Store.names" (defArgs s_Store_names) (defBody s_Store_names) (defScope s_Store_names) [] [] f_Store_names fd_Store_names) : FnOk P w A.K mg base (L2.CX P w) 1 f_Store_names fd_Store_names ["self"] (spD A 1 (G_Store_names A)) := by
  refine fn_denM hF sc_Store_names (by decide) fun cdv Ar outer s H E hr => ⟨_, (pss_one (ps_ret (pe_callB (call_sortedU rfl) rfl T.n_sorted (by decide +kernel) (pa_cons (pe_fldA (K := A.K) (by rfl) (pv 0)) pa_nil)))), ?_⟩
  exact (dens_ret (den_cb calld_sorted (dena_cons (den_fld den_var) dena_nil)))

abbrev s_Hall_told : Stmt := clsS 133 13
theorem sc_Hall_told : FnScope ["self", "name"] ["self"] (defScope s_Hall_told) := ⟨rfl, rfl, rfl, by decide +kernel, rfl, by decide +kernel, by decide +kernel⟩
def F_Hall_told (A : Amb) : DL.Env → M → S :=
  (sRet (eComp okL [1] (iIt asLst (eCall sortedD (aCons (eFld A.K "table" (eVar 0)) aNil))) (gSet 1) bYes (eJs [(eUn fmtD (eVar 1)), (eC (.str " ")), (eUn fmtD (eFld A.K "state" (eDGet (eFld A.K "table" (eVar 0)) (eVar 1))))] Str.empty)))
def G_Hall_told (A : Amb) : List D → M → R D := bodyD 2 (F_Hall_told A)
theorem ok_Hall_told {f_Hall_told : Addr} {fd_Hall_told : FuncData} (T : Txt A.K mg) (hF : FunD A.K "told" "Hall.told" (defArgs s_Hall_told) (defBody s_Hall_told) (defScope s_Hall_told) [] [] f_Hall_told fd_Hall_told) : FnOk P w A.K mg base (L2.CX P w) 1 f_Hall_told fd_Hall_told ["self"] (spD A 1 (G_Hall_told A)) := by
  refine fn_denM hF sc_Hall_told (by decide) fun cdv Ar outer s H E hr => ⟨_, (pss_one (ps_ret (pe_lc (own := [("name", 1)]) rfl sc_Hall_told.nd (pi_listA (K := A.K) (by rfl) (pe_callB (call_sortedU rfl) rfl T.n_sorted (by decide +kernel) (pa_cons (pe_fldA (K := A.K) (by rfl) (pv 0)) pa_nil))) (blkOk_by (N := ["self", "name"]) (sc := defScope s_Hall_told) (by decide +kernel)) (fun _ _ _ _ _ => by exact (pg_name (i := 1) sc_Hall_told.nd rfl (by first | exact Or.inl rfl | exact Or.inr rfl))) (fun _ _ _ _ _ => by exact pts_nil) (fun _ _ _ _ _ => by exact (pe_joined (PJ.cons (pe_fmt (pv 1)) (PJ.cons pe_str (PJ.cons (pe_fmt (pe_fldA (K := A.K) (by rfl) (pe_dget (unitsD hr) (pe_fldA (K := A.K) (by rfl) (pv 0)) (pv 1) (fun _ _ => rfl)))) PJ.nil)))))))), ?_⟩
  exact (dens_ret (den_compX (vs := [1]) (by decide) (deni_list (den_cb calld_sorted (dena_cons (den_fld den_var) dena_nil))) (deng_name (i := 1)) dent_yes (den_joined (DenJ.cons (den_fmt den_var) (DenJ.cons den_str (DenJ.cons (den_fmt (den_fld (den_dget (den_fld den_var) den_var))) DenJ.nil))))))

abbrev s_Hall_hands : Stmt := clsS 133 18
theorem sc_Hall_hands : FnScope ["self", "name"] ["self"] (defScope s_Hall_hands) := ⟨rfl, rfl, rfl, by decide +kernel, rfl, by decide +kernel, by decide +kernel⟩
def F_Hall_hands (A : Amb) : DL.Env → M → S :=
  (sRet (eComp okL [1] (iIt asLst (eCall sortedD (aCons (eFld A.K "by_hand" (eVar 0)) aNil))) (gSet 1) (eTest asTru (eFld A.K "tasks" (eDGet (eFld A.K "by_hand" (eVar 0)) (eVar 1)))) (eVar 1)))
def G_Hall_hands (A : Amb) : List D → M → R D := bodyD 2 (F_Hall_hands A)
theorem ok_Hall_hands {f_Hall_hands : Addr} {fd_Hall_hands : FuncData} (T : Txt A.K mg) (hF : FunD A.K "hands" "Hall.hands" (defArgs s_Hall_hands) (defBody s_Hall_hands) (defScope s_Hall_hands) [] [] f_Hall_hands fd_Hall_hands) : FnOk P w A.K mg base (L2.CX P w) 1 f_Hall_hands fd_Hall_hands ["self"] (spD A 1 (G_Hall_hands A)) := by
  refine fn_denM hF sc_Hall_hands (by decide) fun cdv Ar outer s H E hr => ⟨_, (pss_one (ps_ret (pe_lc (own := [("name", 1)]) rfl sc_Hall_hands.nd (pi_listA (K := A.K) (by rfl) (pe_callB (call_sortedU rfl) rfl T.n_sorted (by decide +kernel) (pa_cons (pe_fldA (K := A.K) (by rfl) (pv 0)) pa_nil))) (blkOk_by (N := ["self", "name"]) (sc := defScope s_Hall_hands) (by decide +kernel)) (fun _ _ _ _ _ => by exact (pg_name (i := 1) sc_Hall_hands.nd rfl (by first | exact Or.inl rfl | exact Or.inr rfl))) (fun _ _ _ _ _ => by exact (pts_one (pt_truA (K := A.K) (by rfl) (pe_fldA (K := A.K) (by rfl) (pe_dget (unitsD hr) (pe_fldA (K := A.K) (by rfl) (pv 0)) (pv 1) (fun _ _ => rfl))) (fun _ => rfl)))) (fun _ _ _ _ _ => by exact (pv 1))))), ?_⟩
  exact (dens_ret (den_compX (vs := [1]) (by decide) (deni_list (den_cb calld_sorted (dena_cons (den_fld den_var) dena_nil))) (deng_name (i := 1)) (dent_truU (den_fld (den_dget (den_fld den_var) den_var))) den_var))

abbrev s_is_name : Stmt := topS 19
theorem sc_is_name : FnScope ["thing", "parts", "part"] ["thing"] (defScope s_is_name) := ⟨rfl, rfl, rfl, by decide +kernel, rfl, by decide +kernel, by decide +kernel⟩
def F_is_name (A : Amb) : DL.Env → M → S :=
  (sSeq (sIf (bNot (eTest asTru (eCall isiD (aCons (eVar 0) (aCons (eC (.ob (.ty "str"))) aNil))))) (sRet (eC (.bl false))) sNext)
    (sSeq (sSet 1 (eMt isStr splitD (eVar 0) (aCons (eC (.str ".")) aNil)))
    (sRet (eAnd (eOp (cmpD fun i j => decide (i ≤ j)) (eCall (lenD A) (aCons (eVar 1) aNil)) (eC (.int 4))) (eCall (quantD fun bs => bs.all id) (aCons (eComp okL [2] (iIt asLst (eVar 1)) (gSet 2) bYes (eCall (fun ds m => if ds.length = 1 then G_is_part A ds m else .no) (aCons (eVar 2) aNil))) aNil))))))
def G_is_name (A : Amb) : List D → M → R D := bodyD 3 (F_is_name A)
theorem ok_is_name {f_is_name f_is_part : Addr} {fd_is_name fd_is_part : FuncData} (T : Txt A.K mg) (hF : FunD A.K "is_name" "is_name" (defArgs s_is_name) (defBody s_is_name) (defScope s_is_name) [] [] f_is_name fd_is_name) (ok_is_part : OwnX P w A mg base "is_part" ["thing"] 1 (G_is_part A) f_is_part fd_is_part) : FnOk P w A.K mg base (L2.CX P w) 2 f_is_name fd_is_name ["thing"] (spD A 1 (G_is_name A)) := by
  refine fn_denX hF sc_is_name (by decide) fun cdv Ar outer s H E hr => ⟨_, (pss_cons (ps_if (pt_not (pt_truA (K := A.K) (by rfl) (pe_callB (call_isiA (K := A.K) (by rfl)) rfl T.n_isinstance (by decide +kernel) (pa_cons (pv 0) (pa_cons (pe_bltn (v := .ty "str") rfl T.n_str (by decide +kernel) rfl) pa_nil))) (fun _ => rfl))) (pss_one (ps_ret pe_bl)) pss_nil)
    (pss_cons (ps_set (i := 1) sc_is_name.nd rfl (by first | exact Or.inl rfl | exact Or.inr rfl) (pe_bmA (K := A.K) (by rfl) PySem.F.plainAttrs_str PySem.F.slot_str_split PySem.F.type_str_split mt_split (pv 0) (pa_cons pe_str pa_nil)))
    (pss_one (ps_ret (pe_andA (K := A.K) (by rfl) (pe_cmpR op_le (pe_callB (call_lenA (K := A.K) (by rfl)) rfl T.n_len (by decide +kernel) (pa_cons (pv 1) pa_nil)) (pe_glob (v := .int 4) rfl T.g_MOST_PARTS.choose_spec ⟨_, rfl⟩) (nomark _)) (pe_one (pe_callB (cr_allA (K := A.K) (by rfl) rfl) rfl T.n_all (by decide +kernel) (pa_cons (pe_lc (own := [("part", 2)]) rfl sc_is_name.nd (pi_listA (K := A.K) (by rfl) (pv 1)) (blkOk_by (N := ["thing", "parts", "part"]) (sc := defScope s_is_name) (by decide +kernel)) (fun _ _ _ _ _ => by exact (pg_name (i := 2) sc_is_name.nd rfl (by first | exact Or.inl rfl | exact Or.inr rfl))) (fun _ _ _ _ _ => by exact pts_nil) (fun _ _ _ _ _ => by exact (pe_callS (E := WF) ok_is_part.F (hr.mono (by decide)) rfl ok_is_part.m ok_is_part.k ok_is_part.b (fun _ => passF) (pa_cons (pv 2) pa_nil)))) pa_nil)))))))), ?_⟩
  exact (dens_seq (dens_if (dent_not (dent_truU (den_cb calld_isi (dena_cons den_var (dena_cons den_ob dena_nil))))) (dens_ret den_bl) dens_next)
    (dens_seq (dens_set (i := 1) (den_bm tyd_str mtd_split den_var (dena_cons den_str dena_nil)))
    (dens_ret (den_and (den_op opd_cmp (den_cb calld_lenU (dena_cons den_var dena_nil)) den_int) (den_cb calld_all (dena_cons (den_compX (vs := [2]) (by decide) (deni_list den_var) (deng_name (i := 2)) dent_yes (den_call (dena_cons den_var dena_nil))) dena_nil))))))

abbrev s_check_name : Stmt := topS 55
theorem sc_check_name : FnScope ["name"] ["name"] (defScope s_check_name) := ⟨rfl, rfl, rfl, by decide +kernel, rfl, by decide +kernel, by decide +kernel⟩
def F_check_name (A : Amb) : DL.Env → M → S :=
  (sIf (bNot (eTest asTru (eCall (fun ds m => if ds.length = 1 then G_is_name A ds m else .no) (aCons (eVar 0) aNil)))) (sRaise (.ref (He.ga A.K "NoName")) (eC (.str "no name for a body to lie under"))) sNext)
def G_check_name (A : Amb) : List D → M → R D := bodyD 1 (F_check_name A)
theorem ok_check_name {f_check_name f_is_name : Addr} {fd_check_name fd_is_name : FuncData} (T : Txt A.K mg) (hF : FunD A.K "check_name" "check_name" (defArgs s_check_name) (defBody s_check_name) (defScope s_check_name) [] [] f_check_name fd_check_name) (ok_is_name : OwnX P w A mg base "is_name" ["thing"] 2 (G_is_name A) f_is_name fd_is_name) : FnOk P w A.K mg base (L2.CX P w) 3 f_check_name fd_check_name ["name"] (spD A 1 (G_check_name A)) := by
  refine fn_denX hF sc_check_name (by decide) fun cdv Ar outer s H E hr => ⟨_, (pss_one (ps_if (pt_not (pt_truA (K := A.K) (by rfl) (pe_callS (E := WE (fun cls d _ H => E cls d H)) ok_is_name.F (hr.mono (by decide)) rfl ok_is_name.m ok_is_name.k ok_is_name.b (fun σ => passAt tk_cx σ) (pa_cons (pv 0) pa_nil)) (fun _ => rfl))) (pss_one (ps_raiseV T.e_NoName rfl rfl tk_cx pe_str)) pss_nil)), ?_⟩
  exact (dens_if (dent_not (dent_truU (den_call (dena_cons den_var dena_nil)))) (dens_raise den_str) dens_next)

abbrev s_Store_entry : Stmt := clsS 56 4
theorem sc_Store_entry : FnScope ["self", "name"] ["self", "name"] (defScope s_Store_entry) := ⟨rfl, rfl, rfl, by decide +kernel, rfl, by decide +kernel, by decide +kernel⟩
def F_Store_entry (A : Amb) : DL.Env → M → S :=
  (sSeq (sDrop (eCall (fun ds m => if ds.length = 1 then G_check_name A ds m else .no) (aCons (eVar 1) aNil)))
    (sRet (eDGet1 (eFld A.K "entries" (eVar 0)) (eVar 1))))
def G_Store_entry (A : Amb) : List D → M → R D := bodyD 2 (F_Store_entry A)
theorem ok_Store_entry {f_Store_entry f_check_name : Addr} {fd_Store_entry fd_check_name : FuncData} (T : Txt A.K mg) (hF : FunD A.K "entry" "Store.entry" (defArgs s_Store_entry) (defBody s_Store_entry) (defScope s_Store_entry) [] [] f_Store_entry fd_Store_entry) (ok_check_name : OwnX P w A mg base "check_name" ["name"] 3 (G_check_name A) f_check_name fd_check_name) : FnOk P w A.K mg base (L2.CX P w) 4 f_Store_entry fd_Store_entry ["self", "name"] (spD A 2 (G_Store_entry A)) := by
  refine fn_denM hF sc_Store_entry (by decide) fun cdv Ar outer s H E hr => ⟨_, (pss_cons (ps_expr (pe_callS (E := WE (fun cls d _ H => E cls d H)) ok_check_name.F (hr.mono (by decide)) rfl ok_check_name.m ok_check_name.k ok_check_name.b (fun σ => passAt tk_cx σ) (pa_cons (pv 1) pa_nil)))
    (pss_one (ps_ret (pe_dget1 (unitsD hr) (pe_fldA (K := A.K) (by rfl) (pv 0)) (pv 1) ⟨rfl, rfl, rfl, rfl⟩)))), ?_⟩
  exact (dens_seq (dens_drop (den_call (dena_cons den_var dena_nil)))
    (dens_ret (den_dget1 (den_fld den_var) den_var)))

abbrev s_l_stands : Stmt := topS 141
theorem sc_l_stands : FnScope ["_law_hall", "_law_lies", "_law_clock", "_law_path_told", "_law_place", "_law_store", "_law_name_told", "_law_here"] ["_law_hall", "_law_lies", "_law_clock", "_law_path_told"] (defScope s_l_stands) := ⟨rfl, rfl, rfl, by decide +kernel, rfl, by decide +kernel, by decide +kernel⟩
def S_l_stands_0 (A : Amb) : DL.Env → M → S :=
  (sIf (bOr (eTest asBl (eOp (eqD true) (eFld A.K "clock" (eVar 0)) (eVar 2))) (bOr (eTest asBl (eOp (eqD true) (eFld A.K "path" (eVar 0)) (eVar 3))) (bNot (eTest asTru (eCall isiD (aCons (eFld A.K "path" (eVar 0)) (aCons (eC (.ob (.ty "tuple"))) aNil))))))) (sRet (eC (.bl false))) sNext)
def S_l_stands_1 (A : Amb) : DL.Env → M → S :=
  (sSet 5 (eMtP (He.ga A.K "Hall") "store" 1 0 2 [0, 1] [] (G_Hall_store A) (eVar 0) (aCons (eVar 4) aNil) aNil))
def S_l_stands_2 (A : Amb) : DL.Env → M → S :=
  (sIf (bOr (bNot (eTest asTru (eCall (isiO A.K) (aCons (eVar 5) (aCons (eC (.ob (.ref (He.ga A.K "Store")))) aNil))))) (bOr (eTest asBl (eOp (eqD true) (eFld A.K "name" (eVar 5)) (eVar 4))) (eTest asBl (eOp (eqD true) (eMtP (He.ga A.K "Store") "names" 0 0 1 [0] [] (G_Store_names A) (eMtP (He.ga A.K "Hall") "store" 0 1 2 [0, 1] [] (G_Hall_store A) (eVar 0) aNil (aCons (eVar 4) aNil)) aNil aNil) (eMtP (He.ga A.K "Store") "names" 0 0 1 [0] [] (G_Store_names A) (eVar 5) aNil aNil))))) (sRet (eC (.bl false))) sNext)
def S_l_stands_3 (A : Amb) : DL.Env → M → S :=
  (sIf (eTest asBl (eOp (eqD true) (eMtP (He.ga A.K "Store") "names" 0 0 1 [0] [] (G_Store_names A) (eVar 5) aNil aNil) (eCall sortedTD (aCons (eLockD (eVar 1) (eComp okL [7, 6] (iKeysD (eVar 1)) (gPutN [7, 6]) (eTest asBl (eOp (eqD false) (eVar 7) (eVar 4))) (eVar 6))) aNil)))) (sRet (eC (.bl false))) sNext)
def S_l_stands_4 (A : Amb) : DL.Env → M → S :=
  (sIf (eTest asBl (eOp (eqD true) (eMtP (He.ga A.K "Store") "entry" 1 0 2 [0, 1] [] (G_Store_entry A) (eVar 5) (aCons (eVar 6) aNil) aNil) (eRGet (eVar 1) (eCall mkK (aCons (eVar 4) (aCons (eVar 6) aNil)))))) (sRet (eC (.bl false))) sNext)
def S_l_stands_5 (A : Amb) : DL.Env → M → S :=
  (sFor (iIt asLst (eMtP (He.ga A.K "Store") "names" 0 0 1 [0] [] (G_Store_names A) (eVar 5) aNil aNil)) (gSet 6) (S_l_stands_4 A))
def S_l_stands_6 (A : Amb) : DL.Env → M → S :=
  (sFor (iIt asLst (eCall mkL (aVals [(.str "one"), (.str "two"), (.str "three"), (.str "four")]))) (gSet 4) (sSeq (S_l_stands_1 A)
    (sSeq (S_l_stands_2 A)
    (sSeq (S_l_stands_3 A)
    (S_l_stands_5 A)))))
def F_l_stands (A : Amb) : DL.Env → M → S :=
  (sSeq (S_l_stands_0 A)
    (sSeq (S_l_stands_6 A)
    (sRet (eAnd (eOp (eqD false) (eMtP (He.ga A.K "Hall") "told" 0 0 1 [0] [] (G_Hall_told A) (eVar 0) aNil aNil) (eCall mkL aNil)) (eAnd (eOp (eqD false) (eCall (lenD A) (aCons (eFld A.K "log" (eVar 0)) aNil)) (eC (.int 0))) (eOp (eqD false) (eMtP (He.ga A.K "Hall") "hands" 0 0 1 [0] [] (G_Hall_hands A) (eVar 0) aNil aNil) (eCall mkL aNil)))))))
def G_l_stands (A : Amb) : List D → M → R D := bodyD 8 (F_l_stands A)
theorem ok_l_stands {f_l_stands f_Hall_store f_Store_names f_Store_entry f_Hall_told f_Hall_hands : Addr} {fd_l_stands fd_Hall_store fd_Store_names fd_Store_entry fd_Hall_told fd_Hall_hands : FuncData} (T : Txt A.K mg) (hF : FunD A.K "_law_stands" "_law_stands" (defArgs s_l_stands) (defBody s_l_stands) (defScope s_l_stands) [] [] f_l_stands fd_l_stands) (ok_Hall_store : OwnM P w A mg base "Hall" "store" ["self", "part"] 5 (G_Hall_store A) f_Hall_store fd_Hall_store) (ok_Store_names : OwnM P w A mg base "Store" "names" ["self"] 1 (G_Store_names A) f_Store_names fd_Store_names) (ok_Store_entry : OwnM P w A mg base "Store" "entry" ["self", "name"] 4 (G_Store_entry A) f_Store_entry fd_Store_entry) (ok_Hall_told : OwnM P w A mg base "Hall" "told" ["self"] 1 (G_Hall_told A) f_Hall_told fd_Hall_told) (ok_Hall_hands : OwnM P w A mg base "Hall" "hands" ["self"] 1 (G_Hall_hands A) f_Hall_hands fd_Hall_hands) (kb_Hall_store_2_ : KBp A.K fd_Hall_store ["self", "part"] 2 [] [0, 1] []) (kb_Store_names_1_ : KBp A.K fd_Store_names ["self"] 1 [] [0] []) (kb_Hall_store_1_part : KBp A.K fd_Hall_store ["self", "part"] 1 ["part"] [0, 1] []) (kb_Store_entry_2_ : KBp A.K fd_Store_entry ["self", "name"] 2 [] [0, 1] []) (kb_Hall_told_1_ : KBp A.K fd_Hall_told ["self"] 1 [] [0] []) (kb_Hall_hands_1_ : KBp A.K fd_Hall_hands ["self"] 1 [] [0] []) : FnOk P w A.K mg base (L2.CX P w) 6 f_l_stands fd_l_stands ["_law_hall", "_law_lies", "_law_clock", "_law_path_told"] (spD A 4 (G_l_stands A)) := by
  refine fn_denX hF sc_l_stands (by decide) fun cdv Ar outer s H E hr => ⟨_, (pss_cons (ps_if (PW.pt (pw_or (pt_cmpR (op_neA (K := A.K) (by rfl) (hr.units)) (pe_fldA (K := A.K) (by rfl) (pv 0)) (pv 2) (nomark _)) (pw_or (pt_cmpR (op_neA (K := A.K) (by rfl) (hr.units)) (pe_fldA (K := A.K) (by rfl) (pv 0)) (pv 3) (nomark _)) (pw_or1 (pt_not (pt_truA (K := A.K) (by rfl) (pe_callB (call_isiA (K := A.K) (by rfl)) rfl T.n_isinstance (by decide +kernel) (pa_cons (pe_fldA (K := A.K) (by rfl) (pv 0)) (pa_cons (pe_bltn (v := .ty "tuple") rfl T.n_tuple (by decide +kernel) rfl) pa_nil))) (fun _ => rfl))))))) (pss_one (ps_ret pe_bl)) pss_nil)
    (pss_cons (ps_for po_cx rfl (pi_listA (K := A.K) (by rfl) (pe_lst (pa_cst (vs := [(.str "one"), (.str "two"), (.str "three"), (.str "four")]) rfl))) (pg_name (i := 4) sc_l_stands.nd rfl (by first | exact Or.inl rfl | exact Or.inr rfl)) (pss_cons (ps_set (i := 5) sc_l_stands.nd rfl (by first | exact Or.inl rfl | exact Or.inr rfl) (pe_mtP (E := WE (fun cls d _ H => E cls d H)) (pv 0) ok_Hall_store.c ok_Hall_store.mt ok_Hall_store.F (hr.mono (by decide)) kb_Hall_store_2_ (fun σ => passAt tk_cx σ) (pa_cons (pv 4) pa_nil)))
    (pss_cons (ps_if (PW.pt (pw_or (pt_not (pt_truA (K := A.K) (by rfl) (pe_callB (call_isiA (K := A.K) (by rfl)) rfl T.n_isinstance (by decide +kernel) (pa_cons (pv 5) (pa_cons (pe_glob (v := .ref (He.ga A.K "Store")) rfl T.c_Store rfl) pa_nil))) (fun _ => rfl))) (pw_or (pt_cmpR (op_neA (K := A.K) (by rfl) (hr.units)) (pe_fldA (K := A.K) (by rfl) (pv 5)) (pv 4) (nomark _)) (pw_or1 (pt_cmpR (op_neA (K := A.K) (by rfl) (hr.units)) (pe_mtP0 (E := WE (fun cls d _ H => E cls d H)) (pe_mtPK0 (E := WE (fun cls d _ H => E cls d H)) (pv 0) ok_Hall_store.c ok_Hall_store.mt ok_Hall_store.F (hr.mono (by decide)) kb_Hall_store_1_part (fun σ => passAt tk_cx σ) (pk_cons (pv 4) pk_nil)) ok_Store_names.c ok_Store_names.mt ok_Store_names.F (hr.mono (by decide)) kb_Store_names_1_ (fun σ => passAt tk_cx σ) ) (pe_mtP0 (E := WE (fun cls d _ H => E cls d H)) (pv 5) ok_Store_names.c ok_Store_names.mt ok_Store_names.F (hr.mono (by decide)) kb_Store_names_1_ (fun σ => passAt tk_cx σ) ) (nomark _)))))) (pss_one (ps_ret pe_bl)) pss_nil)
    (pss_cons (ps_if (pt_cmpR (op_neA (K := A.K) (by rfl) (hr.units)) (pe_mtP0 (E := WE (fun cls d _ H => E cls d H)) (pv 5) ok_Store_names.c ok_Store_names.mt ok_Store_names.F (hr.mono (by decide)) kb_Store_names_1_ (fun σ => passAt tk_cx σ) ) (pe_callB (cr_sortedTA (K := A.K) (by rfl)) rfl T.n_sorted (by decide +kernel) (pa_cons (pe_lock (pe_lc (own := [("_law_here", 7), ("_law_name_told", 6)]) rfl sc_l_stands.nd (pi_keys (pv 1)) (blkOk_by (N := ["_law_hall", "_law_lies", "_law_clock", "_law_path_told", "_law_place", "_law_store", "_law_name_told", "_law_here"]) (sc := defScope s_l_stands) (by decide +kernel)) (fun _ _ _ _ _ => by exact (pg_tupA (K := A.K) (n := 2) (by rfl) rfl (pgs_cons (pg_name (i := 7) sc_l_stands.nd rfl (by first | exact Or.inl rfl | exact Or.inr rfl)) (pgs_cons (pg_name (i := 6) sc_l_stands.nd rfl (by first | exact Or.inl rfl | exact Or.inr rfl)) pgs_nil)))) (fun _ _ _ _ _ => by exact (pts_one (pt_cmpR (op_eqA (K := A.K) (by rfl) (hr.units)) (pv 7) (pv 4) (nomark _)))) (fun _ _ _ _ _ => by exact (pv 6)))) pa_nil)) (nomark _)) (pss_one (ps_ret pe_bl)) pss_nil)
    (pss_one (ps_for po_cx rfl (pi_listA (K := A.K) (by rfl) (pe_mtP0 (E := WE (fun cls d _ H => E cls d H)) (pv 5) ok_Store_names.c ok_Store_names.mt ok_Store_names.F (hr.mono (by decide)) kb_Store_names_1_ (fun σ => passAt tk_cx σ) )) (pg_name (i := 6) sc_l_stands.nd rfl (by first | exact Or.inl rfl | exact Or.inr rfl)) (pss_one (ps_if (pt_cmpR (op_neA (K := A.K) (by rfl) (hr.units)) (pe_mtP (E := WE (fun cls d _ H => E cls d H)) (pv 5) ok_Store_entry.c ok_Store_entry.mt ok_Store_entry.F (hr.mono (by decide)) kb_Store_entry_2_ (fun σ => passAt tk_cx σ) (pa_cons (pv 6) pa_nil)) (pe_dget (unitsD hr) (pv 1) (pe_tup (pa_cons (pv 4) (pa_cons (pv 6) pa_nil))) (fun _ _ => rfl)) (nomark _)) (pss_one (ps_ret pe_bl)) pss_nil))))))))
    (pss_one (ps_ret (pe_andA (K := A.K) (by rfl) (pe_cmpR (op_eqA (K := A.K) (by rfl) (hr.units)) (pe_mtP0 (E := WE (fun cls d _ H => E cls d H)) (pv 0) ok_Hall_told.c ok_Hall_told.mt ok_Hall_told.F (hr.mono (by decide)) kb_Hall_told_1_ (fun σ => passAt tk_cx σ) ) (pe_lst pa_nil) (nomark _)) (pe_andA (K := A.K) (by rfl) (pe_cmpR (op_eqA (K := A.K) (by rfl) (hr.units)) (pe_callB (call_lenA (K := A.K) (by rfl)) rfl T.n_len (by decide +kernel) (pa_cons (pe_fldA (K := A.K) (by rfl) (pv 0)) pa_nil)) pe_int (nomark _)) (pe_one (pe_cmpR (op_eqA (K := A.K) (by rfl) (hr.units)) (pe_mtP0 (E := WE (fun cls d _ H => E cls d H)) (pv 0) ok_Hall_hands.c ok_Hall_hands.mt ok_Hall_hands.F (hr.mono (by decide)) kb_Hall_hands_1_ (fun σ => passAt tk_cx σ) ) (pe_lst pa_nil) (nomark _))))))))), ?_⟩
  exact (dens_seq (dens_if (dent_or (dent_test (den_op opd_ne (den_fld den_var) den_var)) (dent_or (dent_test (den_op opd_ne (den_fld den_var) den_var)) (dent_not (dent_truU (den_cb calld_isi (dena_cons (den_fld den_var) (dena_cons den_ob dena_nil))))))) (dens_ret den_bl) dens_next)
    (dens_seq (dens_for (deni_list (den_lst (dena_cst (vs := [(.str "one"), (.str "two"), (.str "three"), (.str "four")]) (ds := [(.str "one"), (.str "two"), (.str "three"), (.str "four")]) rfl))) (deng_name (i := 4)) (dens_seq (dens_set (i := 5) (den_mtP rfl den_var (dena_cons den_var dena_nil) dena_nil))
    (dens_seq (dens_if (dent_or (dent_not (dent_truU (den_cb calld_isiO (dena_cons den_var (dena_cons den_ob dena_nil))))) (dent_or (dent_test (den_op opd_ne (den_fld den_var) den_var)) (dent_test (den_op opd_ne (den_mtP rfl (den_mtP rfl den_var dena_nil (dena_cons den_var dena_nil)) dena_nil dena_nil) (den_mtP rfl den_var dena_nil dena_nil))))) (dens_ret den_bl) dens_next)
    (dens_seq (dens_if (dent_test (den_op opd_ne (den_mtP rfl den_var dena_nil dena_nil) (den_cb calld_sortedT (dena_cons (den_lockE (fd := (eVar 1)) (den_compX (vs := [7, 6]) (by decide) (deni_keys den_var) (deng_unpN (is := [7, 6]) rfl) (dent_test (den_op opd_eq den_var den_var)) den_var)) dena_nil)))) (dens_ret den_bl) dens_next)
    (dens_for (deni_list (den_mtP rfl den_var dena_nil dena_nil)) (deng_name (i := 6)) (dens_if (dent_test (den_op opd_ne (den_mtP rfl den_var (dena_cons den_var dena_nil) dena_nil) (den_rget den_var (den_mkK (dena_cons den_var (dena_cons den_var dena_nil)))))) (dens_ret den_bl) dens_next))))))
    (dens_ret (den_and (den_op opd_eq (den_mtP rfl den_var dena_nil dena_nil) (den_lst dena_nil)) (den_and (den_op opd_eq (den_cb calld_lenU (dena_cons (den_fld den_var) dena_nil)) den_int) (den_op opd_eq (den_mtP rfl den_var dena_nil dena_nil) (den_lst dena_nil)))))))

abbrev s_l_text_drawn : Stmt := topS 140
theorem sc_l_text_drawn : FnScope ["_law_pile", "_law_some"] ["_law_pile"] (defScope s_l_text_drawn) := ⟨rfl, rfl, rfl, by decide +kernel, rfl, by decide +kernel, by decide +kernel⟩
def F_l_text_drawn (A : Amb) : DL.Env → M → S :=
  (sSeq (sSet 1 (eCall mkL (aVals [(.str ""), (.str "set a 1"), (.str "set a 2"), (.str "set b 1"), (.str "note 7"), (.str "set"), (.str "x y"), (.str "load a")])))
    (sSeq (sSet 1 (eOp addD (eVar 1) (eCall mkL (aCons (eC (.str "set a 1\nnote a")) (aCons (eC (.str "fail now")) (aCons (eC (.str "set a 12")) aNil))))))
    (sRet (eOp ixD (eVar 1) (eCall (fun ds m => if ds.length = 2 then G_l_take A ds m else .no) (aCons (eVar 0) (aCons (eC (.int 11)) aNil)))))))
def G_l_text_drawn (A : Amb) : List D → M → R D := bodyD 2 (F_l_text_drawn A)
theorem ok_l_text_drawn {f_l_text_drawn f_l_take : Addr} {fd_l_text_drawn fd_l_take : FuncData} (T : Txt A.K mg) (hF : FunD A.K "_law_text_drawn" "_law_text_drawn" (defArgs s_l_text_drawn) (defBody s_l_text_drawn) (defScope s_l_text_drawn) [] [] f_l_text_drawn fd_l_text_drawn) (ok_l_take : OwnX P w A mg base "_law_take" ["_law_pile", "_law_size"] 1 (G_l_take A) f_l_take fd_l_take) : FnOk P w A.K mg base (L2.CX P w) 2 f_l_text_drawn fd_l_text_drawn ["_law_pile"] (spD A 1 (G_l_text_drawn A)) := by
  refine fn_denX hF sc_l_text_drawn (by decide) fun cdv Ar outer s H E hr => ⟨_, (pss_cons (ps_set (i := 1) sc_l_text_drawn.nd rfl (by first | exact Or.inl rfl | exact Or.inr rfl) (pe_lst (pa_cst (vs := [(.str ""), (.str "set a 1"), (.str "set a 2"), (.str "set b 1"), (.str "note 7"), (.str "set"), (.str "x y"), (.str "load a")]) rfl)))
    (pss_cons (ps_set (i := 1) sc_l_text_drawn.nd rfl (by first | exact Or.inl rfl | exact Or.inr rfl) (pe_op op_addU (pv 1) (pe_lst (pa_cons pe_str (pa_cons pe_str (pa_cons pe_str pa_nil))))))
    (pss_one (ps_ret (pe_ix (ix_allA (K := A.K) (by rfl)) (pv 1) (pe_callS (E := WE (fun cls d _ H => E cls d H)) ok_l_take.F (hr.mono (by decide)) rfl ok_l_take.m ok_l_take.k ok_l_take.b (fun σ => passAt tk_cx σ) (pa_cons (pv 0) (pa_cons pe_int pa_nil))) (fun _ _ => rfl)))))), ?_⟩
  exact (dens_seq (dens_set (i := 1) (den_lst (dena_cst (vs := [(.str ""), (.str "set a 1"), (.str "set a 2"), (.str "set b 1"), (.str "note 7"), (.str "set"), (.str "x y"), (.str "load a")]) (ds := [(.str ""), (.str "set a 1"), (.str "set a 2"), (.str "set b 1"), (.str "note 7"), (.str "set"), (.str "x y"), (.str "load a")]) rfl)))
    (dens_seq (dens_set (i := 1) (den_op opd_add den_var (den_lst (dena_cons den_str (dena_cons den_str (dena_cons den_str dena_nil))))))
    (dens_ret (den_op opd_ixU den_var (den_call (dena_cons den_var (dena_cons den_int dena_nil)))))))

abbrev s_NoBody_init : Stmt := clsS 6 0
theorem sc_NoBody_init : FnScope ["self", "row", "trail"] ["self", "row", "trail"] (defScope s_NoBody_init) := ⟨rfl, rfl, rfl, by decide +kernel, rfl, by decide +kernel, by decide +kernel⟩
theorem ok_NoBody_init {f_NoBody_init : Addr} {fd_NoBody_init : FuncData} (T : Txt A.K mg) (hF : FunD A.K "__init__" "NoBody.__init__" (defArgs s_NoBody_init) (defBody s_NoBody_init) (defScope s_NoBody_init) [] [("trail", .ref (trA A.K "NoBody"))] f_NoBody_init fd_NoBody_init) : FnOk P w A.K mg base (L2.CX P w) 1 f_NoBody_init fd_NoBody_init ["self", "row", "trail"] (spI A.K "ValueError.__new__" bmVE "no body, for row " "row") := by
  refine hF.ok sc_NoBody_init (fun vs H Q E h => by obtain ⟨a, C, y, t, rfl, _⟩ := h; rfl) fun cdv Ar outer s H vs Q E hr h => ⟨_, (pss_cons (ps_expr (pe_ini base_VE T.b_ValueError rfl (pa_cons (pv 0) (pa_cons (pe_joined (PJ.cons pe_str (PJ.cons (pe_fmtN (pv 1)) PJ.nil))) pa_nil)))) (pss_cons (ps_fldX base_VE (pv 0) (pv 1)) (pss_one (ps_fldX base_VE (pv 0) (pv 2))))), ini_post (small_str (by decide +kernel)) h⟩

abbrev s_Store_put : Stmt := clsS 56 2
theorem sc_Store_put : FnScope ["self", "name", "text", "pack", "at"] ["self", "name", "text", "pack", "at"] (defScope s_Store_put) := ⟨rfl, rfl, rfl, by decide +kernel, rfl, by decide +kernel, by decide +kernel⟩
def F_Store_put (A : Amb) : DL.Env → M → S :=
  (sSeq (sDrop (eCall (fun ds m => if ds.length = 1 then G_check_name A ds m else .no) (aCons (eVar 1) aNil)))
    (sSeq (sIf (bNot (eTest asTru (eCall isiD (aCons (eVar 2) (aCons (eC (.ob (.ty "str"))) aNil))))) (sRaiseI (He.ga A.K "NoBody") "no body, for row " "row" (eC .non)) sNext)
    (sSeq (sDPutD (eFld A.K "entries" (eVar 0)) (eVar 1) (eCall mkT (aCons (eVar 2) (aCons (eVar 3) (aCons (eVar 4) aNil)))))
    (sFldD A.K "changed" (eVar 0) (eVar 4)))))
def G_Store_put (A : Amb) : List D → M → R D := bodyD 5 (F_Store_put A)
theorem ok_Store_put {f_Store_put f_check_name f_NoBody_init : Addr} {fd_Store_put fd_check_name fd_NoBody_init : FuncData} (T : Txt A.K mg) (hF : FunD A.K "put" "Store.put" (defArgs s_Store_put) (defBody s_Store_put) (defScope s_Store_put) [] [("pack", .bl false), ("at", .int 0)] f_Store_put fd_Store_put) (ok_check_name : OwnX P w A mg base "check_name" ["name"] 3 (G_check_name A) f_check_name fd_check_name) (ini_NoBody : IniX P w A mg base "NoBody" "row" "ValueError.__new__" bmVE "no body, for row " (trA A.K "NoBody") f_NoBody_init fd_NoBody_init) : FnOk P w A.K mg base (L2.CX P w) 4 f_Store_put fd_Store_put ["self", "name", "text", "pack", "at"] (spD A 5 (G_Store_put A)) := by
  refine fn_denM hF sc_Store_put (by decide) fun cdv Ar outer s H E hr => ⟨_, (pss_cons (ps_expr (pe_callS (E := WE (fun cls d _ H => E cls d H)) ok_check_name.F (hr.mono (by decide)) rfl ok_check_name.m ok_check_name.k ok_check_name.b (fun σ => passAt tk_cx σ) (pa_cons (pv 1) pa_nil)))
    (pss_cons (ps_if (pt_not (pt_truA (K := A.K) (by rfl) (pe_callB (call_isiA (K := A.K) (by rfl)) rfl T.n_isinstance (by decide +kernel) (pa_cons (pv 2) (pa_cons (pe_bltn (v := .ty "str") rfl T.n_str (by decide +kernel) rfl) pa_nil))) (fun _ => rfl))) (pss_one (ps_raiseI base_VE ⟨rfl, rfl, rfl, rfl, rfl⟩ ini_NoBody rfl (hr.mono (by decide)) rfl tk_cx pe_non)) pss_nil)
    (pss_cons (ps_dput (unitsD hr) (pe_fldA (K := A.K) (by rfl) (pv 0)) (pv 1) (pe_tup (pa_cons (pv 2) (pa_cons (pv 3) (pa_cons (pv 4) pa_nil)))) (by rfl))
    (pss_one (ps_fld (pv 0) (pv 4) (by rfl)))))), ?_⟩
  exact (dens_seq (dens_drop (den_call (dena_cons den_var dena_nil)))
    (dens_seq (dens_if (dent_not (dent_truU (den_cb calld_isi (dena_cons den_var (dena_cons den_ob dena_nil))))) (dens_raiseR ini_NoBody den_non) dens_next)
    (dens_seq (dens_dput (den_fld den_var) den_var (den_tup (dena_cons den_var (dena_cons den_var (dena_cons den_var dena_nil)))))
    (dens_fld den_var den_var))))

abbrev s_Hall_put : Stmt := clsS 133 4
theorem sc_Hall_put : FnScope ["self", "part", "name", "text", "pack", "found"] ["self", "part", "name", "text", "pack"] (defScope s_Hall_put) := ⟨rfl, rfl, rfl, by decide +kernel, rfl, by decide +kernel, by decide +kernel⟩
def F_Hall_put (A : Amb) : DL.Env → M → S :=
  (sSeq (sSet 5 (eMtP (He.ga A.K "Hall") "store_or_new" 1 0 2 [0, 1] [] (G_Hall_store_or_new A) (eVar 0) (aCons (eVar 1) aNil) aNil))
    (sSeq (sDrop (eMtP (He.ga A.K "Store") "put" 2 2 5 [0, 1, 2, 3, 4] [] (G_Store_put A) (eVar 5) (aCons (eVar 2) (aCons (eVar 3) aNil)) (aCons (eVar 4) (aCons (eFld A.K "clock" (eVar 0)) aNil))))
    (sDPutD (eFld A.K "stores" (eVar 0)) (eVar 1) (eVar 5))))
def G_Hall_put (A : Amb) : List D → M → R D := bodyD 6 (F_Hall_put A)
theorem ok_Hall_put {f_Hall_put f_Hall_store_or_new f_Store_put : Addr} {fd_Hall_put fd_Hall_store_or_new fd_Store_put : FuncData} (T : Txt A.K mg) (hF : FunD A.K "put" "Hall.put" (defArgs s_Hall_put) (defBody s_Hall_put) (defScope s_Hall_put) [] [("pack", .bl false)] f_Hall_put fd_Hall_put) (ok_Hall_store_or_new : OwnM P w A mg base "Hall" "store_or_new" ["self", "part"] 4 (G_Hall_store_or_new A) f_Hall_store_or_new fd_Hall_store_or_new) (ok_Store_put : OwnM P w A mg base "Store" "put" ["self", "name", "text", "pack", "at"] 4 (G_Store_put A) f_Store_put fd_Store_put) (kb_Hall_store_or_new_2_ : KBp A.K fd_Hall_store_or_new ["self", "part"] 2 [] [0, 1] []) (kb_Store_put_3_pack_at : KBp A.K fd_Store_put ["self", "name", "text", "pack", "at"] 3 ["pack", "at"] [0, 1, 2, 3, 4] []) : FnOk P w A.K mg base (L2.CX P w) 5 f_Hall_put fd_Hall_put ["self", "part", "name", "text", "pack"] (spD A 5 (G_Hall_put A)) := by
  refine fn_denM hF sc_Hall_put (by decide) fun cdv Ar outer s H E hr => ⟨_, (pss_cons (ps_set (i := 5) sc_Hall_put.nd rfl (by first | exact Or.inl rfl | exact Or.inr rfl) (pe_mtP (E := WE (fun cls d _ H => E cls d H)) (pv 0) ok_Hall_store_or_new.c ok_Hall_store_or_new.mt ok_Hall_store_or_new.F (hr.mono (by decide)) kb_Hall_store_or_new_2_ (fun σ => passAt tk_cx σ) (pa_cons (pv 1) pa_nil)))
    (pss_cons (ps_expr (pe_mtPK (E := WE (fun cls d _ H => E cls d H)) (pv 5) ok_Store_put.c ok_Store_put.mt ok_Store_put.F (hr.mono (by decide)) kb_Store_put_3_pack_at (fun σ => passAt tk_cx σ) (pa_cons (pv 2) (pa_cons (pv 3) pa_nil)) (pk_cons (pv 4) (pk_cons (pe_fldA (K := A.K) (by rfl) (pv 0)) pk_nil))))
    (pss_one (ps_dput (unitsD hr) (pe_fldA (K := A.K) (by rfl) (pv 0)) (pv 1) (pv 5) (by rfl))))), ?_⟩
  exact (dens_seq (dens_set (i := 5) (den_mtP rfl den_var (dena_cons den_var dena_nil) dena_nil))
    (dens_seq (dens_drop (den_mtP rfl den_var (dena_cons den_var (dena_cons den_var dena_nil)) (dena_cons den_var (dena_cons (den_fld den_var) dena_nil))))
    (dens_dput (den_fld den_var) den_var den_var)))

abbrev s_l_part_drawn : Stmt := topS 138
theorem sc_l_part_drawn : FnScope ["_law_pile", "_law_way", "_law_many", "_law_k"] ["_law_pile"] (defScope s_l_part_drawn) := ⟨rfl, rfl, rfl, by decide +kernel, rfl, by decide +kernel, by decide +kernel⟩
def F_l_part_drawn (A : Amb) : DL.Env → M → S :=
  (sSeq (sSet 1 (eCall (fun ds m => if ds.length = 2 then G_l_take A ds m else .no) (aCons (eVar 0) (aCons (eC (.int 5)) aNil))))
    (sSeq (sIf (eTest asBl (eOp (cmpD fun i j => decide (i < j)) (eVar 1) (eC (.int 3)))) (sRet (eOp ixD (eCall mkL (aCons (eC (.str "a")) (aCons (eC (.str "b")) (aCons (eC (.str "ab")) aNil)))) (eVar 1))) sNext)
    (sSeq (sSet 2 (eOp addD (eC (.int 1)) (eCall (fun ds m => if ds.length = 2 then G_l_take A ds m else .no) (aCons (eVar 0) (aCons (eC (.int 8)) aNil)))))
    (sRet (eMt isStr joinD (eC (.str "")) (aCons (eComp okL [3] (iArgs rng1 (aCons (eVar 2) aNil)) (gSet 3) bYes (eOp ixD (eC (.str "abcdefghijklmnopqrstuvwxyz")) (eCall (fun ds m => if ds.length = 2 then G_l_take A ds m else .no) (aCons (eVar 0) (aCons (eC (.int 26)) aNil))))) aNil))))))
def G_l_part_drawn (A : Amb) : List D → M → R D := bodyD 4 (F_l_part_drawn A)
theorem ok_l_part_drawn {f_l_part_drawn f_l_take : Addr} {fd_l_part_drawn fd_l_take : FuncData} (T : Txt A.K mg) (hF : FunD A.K "_law_part_drawn" "_law_part_drawn" (defArgs s_l_part_drawn) (defBody s_l_part_drawn) (defScope s_l_part_drawn) [] [] f_l_part_drawn fd_l_part_drawn) (ok_l_take : OwnX P w A mg base "_law_take" ["_law_pile", "_law_size"] 1 (G_l_take A) f_l_take fd_l_take) : FnOk P w A.K mg base (L2.CX P w) 2 f_l_part_drawn fd_l_part_drawn ["_law_pile"] (spD A 1 (G_l_part_drawn A)) := by
  refine fn_denX hF sc_l_part_drawn (by decide) fun cdv Ar outer s H E hr => ⟨_, (pss_cons (ps_set (i := 1) sc_l_part_drawn.nd rfl (by first | exact Or.inl rfl | exact Or.inr rfl) (pe_callS (E := WE (fun cls d _ H => E cls d H)) ok_l_take.F (hr.mono (by decide)) rfl ok_l_take.m ok_l_take.k ok_l_take.b (fun σ => passAt tk_cx σ) (pa_cons (pv 0) (pa_cons pe_int pa_nil))))
    (pss_cons (ps_if (pt_cmpR op_lt (pv 1) pe_int (nomark _)) (pss_one (ps_ret (pe_ix (ix_allA (K := A.K) (by rfl)) (pe_lst (pa_cons pe_str (pa_cons pe_str (pa_cons pe_str pa_nil)))) (pv 1) (fun _ _ => rfl)))) pss_nil)
    (pss_cons (ps_set (i := 2) sc_l_part_drawn.nd rfl (by first | exact Or.inl rfl | exact Or.inr rfl) (pe_op op_addU pe_int (pe_callS (E := WE (fun cls d _ H => E cls d H)) ok_l_take.F (hr.mono (by decide)) rfl ok_l_take.m ok_l_take.k ok_l_take.b (fun σ => passAt tk_cx σ) (pa_cons (pv 0) (pa_cons pe_int pa_nil)))))
    (pss_one (ps_ret (pe_bmA (K := A.K) (by rfl) PySem.F.plainAttrs_str PySem.F.slot_str_join PySem.F.type_str_join (mt_joinA (K := A.K) (by rfl)) pe_str (pa_cons (pe_lc (own := [("_law_k", 3)]) rfl sc_l_part_drawn.nd (pi_range1 rfl T.n_range (pa_cons (pv 2) pa_nil)) (blkOk_by (N := ["_law_pile", "_law_way", "_law_many", "_law_k"]) (sc := defScope s_l_part_drawn) (by decide +kernel)) (fun _ _ _ _ _ => by exact (pg_name (i := 3) sc_l_part_drawn.nd rfl (by first | exact Or.inl rfl | exact Or.inr rfl))) (fun _ _ _ _ _ => by exact pts_nil) (fun _ _ _ _ _ => by exact (pe_ix (ix_allA (K := A.K) (by rfl)) pe_str (pe_callS (E := WF) ok_l_take.F (hr.mono (by decide)) rfl ok_l_take.m ok_l_take.k ok_l_take.b (fun _ => passF) (pa_cons (pv 0) (pa_cons pe_int pa_nil))) (fun _ _ => rfl)))) pa_nil))))))), ?_⟩
  exact (dens_seq (dens_set (i := 1) (den_call (dena_cons den_var (dena_cons den_int dena_nil))))
    (dens_seq (dens_if (dent_test (den_op opd_cmp den_var den_int)) (dens_ret (den_op opd_ixU (den_lst (dena_cons den_str (dena_cons den_str (dena_cons den_str dena_nil)))) den_var)) dens_next)
    (dens_seq (dens_set (i := 2) (den_op opd_add den_int (den_call (dena_cons den_var (dena_cons den_int dena_nil)))))
    (dens_ret (den_bm tyd_str mtd_joinU den_str (dena_cons (den_compX (vs := [3]) (by decide) (deni_rng1 (dena_cons den_var dena_nil)) (deng_name (i := 3)) dent_yes (den_op opd_ixU den_str (den_call (dena_cons den_var (dena_cons den_int dena_nil))))) dena_nil))))))

abbrev s_l_name_drawn : Stmt := topS 139
theorem sc_l_name_drawn : FnScope ["_law_pile", "_law_most", "_law_k"] ["_law_pile", "_law_most"] (defScope s_l_name_drawn) := ⟨rfl, rfl, rfl, by decide +kernel, rfl, by decide +kernel, by decide +kernel⟩
def F_l_name_drawn (A : Amb) : DL.Env → M → S :=
  (sRet (eMt isStr joinD (eC (.str ".")) (aCons (eComp okL [2] (iArgs rng1 (aCons (eOp addD (eC (.int 1)) (eCall (fun ds m => if ds.length = 2 then G_l_take A ds m else .no) (aCons (eVar 0) (aCons (eVar 1) aNil)))) aNil)) (gSet 2) bYes (eCall (fun ds m => if ds.length = 1 then G_l_part_drawn A ds m else .no) (aCons (eVar 0) aNil))) aNil)))
def G_l_name_drawn (A : Amb) : List D → M → R D := bodyD 3 (F_l_name_drawn A)
theorem ok_l_name_drawn {f_l_name_drawn f_l_take f_l_part_drawn : Addr} {fd_l_name_drawn fd_l_take fd_l_part_drawn : FuncData} (T : Txt A.K mg) (hF : FunD A.K "_law_name_drawn" "_law_name_drawn" (defArgs s_l_name_drawn) (defBody s_l_name_drawn) (defScope s_l_name_drawn) [] [] f_l_name_drawn fd_l_name_drawn) (ok_l_take : OwnX P w A mg base "_law_take" ["_law_pile", "_law_size"] 1 (G_l_take A) f_l_take fd_l_take) (ok_l_part_drawn : OwnX P w A mg base "_law_part_drawn" ["_law_pile"] 2 (G_l_part_drawn A) f_l_part_drawn fd_l_part_drawn) : FnOk P w A.K mg base (L2.CX P w) 3 f_l_name_drawn fd_l_name_drawn ["_law_pile", "_law_most"] (spD A 2 (G_l_name_drawn A)) := by
  refine fn_denX hF sc_l_name_drawn (by decide) fun cdv Ar outer s H E hr => ⟨_, (pss_one (ps_ret (pe_bmA (K := A.K) (by rfl) PySem.F.plainAttrs_str PySem.F.slot_str_join PySem.F.type_str_join (mt_joinA (K := A.K) (by rfl)) pe_str (pa_cons (pe_lc (own := [("_law_k", 2)]) rfl sc_l_name_drawn.nd (pi_range1 rfl T.n_range (pa_cons (pe_op op_addU pe_int (pe_callS (E := WE (fun cls d _ H => E cls d H)) ok_l_take.F (hr.mono (by decide)) rfl ok_l_take.m ok_l_take.k ok_l_take.b (fun σ => passAt tk_cx σ) (pa_cons (pv 0) (pa_cons (pv 1) pa_nil)))) pa_nil)) (blkOk_by (N := ["_law_pile", "_law_most", "_law_k"]) (sc := defScope s_l_name_drawn) (by decide +kernel)) (fun _ _ _ _ _ => by exact (pg_name (i := 2) sc_l_name_drawn.nd rfl (by first | exact Or.inl rfl | exact Or.inr rfl))) (fun _ _ _ _ _ => by exact pts_nil) (fun _ _ _ _ _ => by exact (pe_callS (E := WF) ok_l_part_drawn.F (hr.mono (by decide)) rfl ok_l_part_drawn.m ok_l_part_drawn.k ok_l_part_drawn.b (fun _ => passF) (pa_cons (pv 0) pa_nil)))) pa_nil)))), ?_⟩
  exact (dens_ret (den_bm tyd_str mtd_joinU den_str (dena_cons (den_compX (vs := [2]) (by decide) (deni_rng1 (dena_cons (den_op opd_add den_int (den_call (dena_cons den_var (dena_cons den_var dena_nil)))) dena_nil)) (deng_name (i := 2)) dent_yes (den_call (dena_cons den_var dena_nil))) dena_nil)))

abbrev s_is_number_from : Stmt := topS 40
theorem sc_is_number_from : FnScope ["thing", "least"] ["thing", "least"] (defScope s_is_number_from) := ⟨rfl, rfl, rfl, by decide +kernel, rfl, by decide +kernel, by decide +kernel⟩
def F_is_number_from (A : Amb) : DL.Env → M → S :=
  (sRet (eAnd (eCall isiD (aCons (eVar 0) (aCons (eC (.ob (.ty "int"))) aNil))) (eAnd (eNot (eCall isiD (aCons (eVar 0) (aCons (eC (.ob (.ty "bool"))) aNil)))) (eOp (cmpD fun i j => decide (j ≤ i)) (eVar 0) (eVar 1)))))
def G_is_number_from (A : Amb) : List D → M → R D := bodyD 2 (F_is_number_from A)
theorem ok_is_number_from {f_is_number_from : Addr} {fd_is_number_from : FuncData} (T : Txt A.K mg) (hF : FunD A.K "is_number_from" "is_number_from" (defArgs s_is_number_from) (defBody s_is_number_from) (defScope s_is_number_from) [] [] f_is_number_from fd_is_number_from) : FnOk P w A.K mg base (L2.CX P w) 1 f_is_number_from fd_is_number_from ["thing", "least"] (spD A 2 (G_is_number_from A)) := by
  refine fn_denX hF sc_is_number_from (by decide) fun cdv Ar outer s H E hr => ⟨_, (pss_one (ps_ret (pe_andA (K := A.K) (by rfl) (pe_callB (call_isiA (K := A.K) (by rfl)) rfl T.n_isinstance (by decide +kernel) (pa_cons (pv 0) (pa_cons (pe_bltn (v := .ty "int") rfl T.n_int (by decide +kernel) rfl) pa_nil))) (pe_andA (K := A.K) (by rfl) (pe_notA (K := A.K) (by rfl) (pe_callB (call_isiA (K := A.K) (by rfl)) rfl T.n_isinstance (by decide +kernel) (pa_cons (pv 0) (pa_cons (pe_bltn (v := .ty "bool") rfl T.n_bool (by decide +kernel) rfl) pa_nil)))) (pe_one (pe_cmpR op_ge (pv 0) (pv 1) (nomark _))))))), ?_⟩
  exact (dens_ret (den_and (den_cb calld_isi (dena_cons den_var (dena_cons den_ob dena_nil))) (den_and (den_not (den_cb calld_isi (dena_cons den_var (dena_cons den_ob dena_nil)))) (den_op opd_cmp den_var den_var))))

abbrev s_Hall_tick : Stmt := clsS 133 1
theorem sc_Hall_tick : FnScope ["self", "by"] ["self", "by"] (defScope s_Hall_tick) := ⟨rfl, rfl, rfl, by decide +kernel, rfl, by decide +kernel, by decide +kernel⟩
def F_Hall_tick (A : Amb) : DL.Env → M → S :=
  (sSeq (sIf (bNot (eTest asTru (eCall (fun ds m => if ds.length = 2 then G_is_number_from A ds m else .no) (aCons (eVar 1) (aCons (eC (.int 1)) aNil))))) (sRaise (.ref (He.ga A.K "NoLine")) (eC (.str "no whole number from 1 on"))) sNext)
    (sSeq (sFldAugD A.K "clock" (eVar 0) (eVar 1))
    (sRet (eFld A.K "clock" (eVar 0)))))
def G_Hall_tick (A : Amb) : List D → M → R D := bodyD 2 (F_Hall_tick A)
theorem ok_Hall_tick {f_Hall_tick f_is_number_from : Addr} {fd_Hall_tick fd_is_number_from : FuncData} (T : Txt A.K mg) (hF : FunD A.K "tick" "Hall.tick" (defArgs s_Hall_tick) (defBody s_Hall_tick) (defScope s_Hall_tick) [(.int 1)] [] f_Hall_tick fd_Hall_tick) (ok_is_number_from : OwnX P w A mg base "is_number_from" ["thing", "least"] 1 (G_is_number_from A) f_is_number_from fd_is_number_from) : FnOk P w A.K mg base (L2.CX P w) 2 f_Hall_tick fd_Hall_tick ["self", "by"] (spD A 2 (G_Hall_tick A)) := by
  refine fn_denM hF sc_Hall_tick (by decide) fun cdv Ar outer s H E hr => ⟨_, (pss_cons (ps_if (pt_not (pt_truA (K := A.K) (by rfl) (pe_callS (E := WE (fun cls d _ H => E cls d H)) ok_is_number_from.F (hr.mono (by decide)) rfl ok_is_number_from.m ok_is_number_from.k ok_is_number_from.b (fun σ => passAt tk_cx σ) (pa_cons (pv 1) (pa_cons pe_int pa_nil))) (fun _ => rfl))) (pss_one (ps_raiseV T.e_NoLine rfl rfl tk_cx pe_str)) pss_nil)
    (pss_cons (ps_fldaugA (K := A.K) (by rfl) (pv 0) (pv 1))
    (pss_one (ps_ret (pe_fldA (K := A.K) (by rfl) (pv 0)))))), ?_⟩
  exact (dens_seq (dens_if (dent_not (dent_truU (den_call (dena_cons den_var (dena_cons den_int dena_nil))))) (dens_raise den_str) dens_next)
    (dens_seq (dens_fldAug den_var den_var)
    (dens_ret (den_fld den_var))))

abbrev s_Hall_set_path : Stmt := clsS 133 8
theorem sc_Hall_set_path : FnScope ["self", "path", "part"] ["self", "path"] (defScope s_Hall_set_path) := ⟨rfl, rfl, rfl, by decide +kernel, rfl, by decide +kernel, by decide +kernel⟩
def F_Hall_set_path (A : Amb) : DL.Env → M → S :=
  (sSeq (sDrop (eCall (fun ds m => if ds.length = 1 then G_check_path A ds m else .no) (aCons (eVar 1) aNil)))
    (sSeq (sFldD A.K "path" (eVar 0) (eVar 1))
    (sFor (iIt asTup (eVar 1)) (gSet 2) (sDrop (eMtP (He.ga A.K "Hall") "store" 1 0 2 [0, 1] [] (G_Hall_store A) (eVar 0) (aCons (eVar 2) aNil) aNil)))))
def G_Hall_set_path (A : Amb) : List D → M → R D := bodyD 3 (F_Hall_set_path A)
theorem ok_Hall_set_path {f_Hall_set_path f_check_path f_Hall_store : Addr} {fd_Hall_set_path fd_check_path fd_Hall_store : FuncData} (T : Txt A.K mg) (hF : FunD A.K "set_path" "Hall.set_path" (defArgs s_Hall_set_path) (defBody s_Hall_set_path) (defScope s_Hall_set_path) [] [] f_Hall_set_path fd_Hall_set_path) (ok_check_path : OwnX P w A mg base "check_path" ["path"] 2 (G_check_path A) f_check_path fd_check_path) (ok_Hall_store : OwnM P w A mg base "Hall" "store" ["self", "part"] 5 (G_Hall_store A) f_Hall_store fd_Hall_store) (kb_Hall_store_2_ : KBp A.K fd_Hall_store ["self", "part"] 2 [] [0, 1] []) : FnOk P w A.K mg base (L2.CX P w) 6 f_Hall_set_path fd_Hall_set_path ["self", "path"] (spD A 2 (G_Hall_set_path A)) := by
  refine fn_denM hF sc_Hall_set_path (by decide) fun cdv Ar outer s H E hr => ⟨_, (pss_cons (ps_expr (pe_callS (E := WE (fun cls d _ H => E cls d H)) ok_check_path.F (hr.mono (by decide)) rfl ok_check_path.m ok_check_path.k ok_check_path.b (fun σ => passAt tk_cx σ) (pa_cons (pv 1) pa_nil)))
    (pss_cons (ps_fld (pv 0) (pv 1) (by rfl))
    (pss_one (ps_for po_cx rfl (pi_tupA (K := A.K) (by rfl) (pv 1)) (pg_name (i := 2) sc_Hall_set_path.nd rfl (by first | exact Or.inl rfl | exact Or.inr rfl)) (pss_one (ps_expr (pe_mtP (E := WE (fun cls d _ H => E cls d H)) (pv 0) ok_Hall_store.c ok_Hall_store.mt ok_Hall_store.F (hr.mono (by decide)) kb_Hall_store_2_ (fun σ => passAt tk_cx σ) (pa_cons (pv 2) pa_nil)))))))), ?_⟩
  exact (dens_seq (dens_drop (den_call (dena_cons den_var dena_nil)))
    (dens_seq (dens_fld den_var den_var)
    (dens_for (deni_tup den_var) (deng_name (i := 2)) (dens_drop (den_mtP rfl den_var (dena_cons den_var dena_nil) dena_nil)))))

abbrev s_NotFound_init : Stmt := clsS 7 0
theorem sc_NotFound_init : FnScope ["self", "name", "trail"] ["self", "name", "trail"] (defScope s_NotFound_init) := ⟨rfl, rfl, rfl, by decide +kernel, rfl, by decide +kernel, by decide +kernel⟩
theorem ok_NotFound_init {f_NotFound_init : Addr} {fd_NotFound_init : FuncData} (T : Txt A.K mg) (hF : FunD A.K "__init__" "NotFound.__init__" (defArgs s_NotFound_init) (defBody s_NotFound_init) (defScope s_NotFound_init) [] [("trail", .ref (trA A.K "NotFound"))] f_NotFound_init fd_NotFound_init) : FnOk P w A.K mg base (L2.CX P w) 1 f_NotFound_init fd_NotFound_init ["self", "name", "trail"] (spI A.K "LookupError.__new__" bmLE "nothing found for " "name") := by
  refine hF.ok sc_NotFound_init (fun vs H Q E h => by obtain ⟨a, C, y, t, rfl, _⟩ := h; rfl) fun cdv Ar outer s H vs Q E hr h => ⟨_, (pss_cons (ps_expr (pe_ini base_LE T.b_LookupError rfl (pa_cons (pv 0) (pa_cons (pe_joined (PJ.cons pe_str (PJ.cons (pe_fmtN (pv 1)) PJ.nil))) pa_nil)))) (pss_cons (ps_fldX base_LE (pv 0) (pv 1)) (pss_one (ps_fldX base_LE (pv 0) (pv 2))))), ini_post (small_str (by decide +kernel)) h⟩

abbrev s_Store_take : Stmt := clsS 56 3
theorem sc_Store_take : FnScope ["self", "name", "at", "text"] ["self", "name", "at"] (defScope s_Store_take) := ⟨rfl, rfl, rfl, by decide +kernel, rfl, by decide +kernel, by decide +kernel⟩
def F_Store_take (A : Amb) : DL.Env → M → S :=
  (sSeq (sDrop (eCall (fun ds m => if ds.length = 1 then G_check_name A ds m else .no) (aCons (eVar 1) aNil)))
    (sSeq (sIf (eTest asBl (eDIn true (eVar 1) (eFld A.K "entries" (eVar 0)))) (sRaiseI (He.ga A.K "NotFound") "nothing found for " "name" (eVar 1)) sNext)
    (sSeq (sSet 3 (eOp ixD (eDGet (eFld A.K "entries" (eVar 0)) (eVar 1)) (eC (.int 0))))
    (sSeq (sDDelD (eFld A.K "entries" (eVar 0)) (eVar 1))
    (sSeq (sFldD A.K "changed" (eVar 0) (eVar 2))
    (sRet (eVar 3)))))))
def G_Store_take (A : Amb) : List D → M → R D := bodyD 4 (F_Store_take A)
theorem ok_Store_take {f_Store_take f_check_name f_NotFound_init : Addr} {fd_Store_take fd_check_name fd_NotFound_init : FuncData} (T : Txt A.K mg) (hF : FunD A.K "take" "Store.take" (defArgs s_Store_take) (defBody s_Store_take) (defScope s_Store_take) [] [("at", .int 0)] f_Store_take fd_Store_take) (ok_check_name : OwnX P w A mg base "check_name" ["name"] 3 (G_check_name A) f_check_name fd_check_name) (ini_NotFound : IniX P w A mg base "NotFound" "name" "LookupError.__new__" bmLE "nothing found for " (trA A.K "NotFound") f_NotFound_init fd_NotFound_init) : FnOk P w A.K mg base (L2.CX P w) 4 f_Store_take fd_Store_take ["self", "name", "at"] (spD A 3 (G_Store_take A)) := by
  refine fn_denM hF sc_Store_take (by decide) fun cdv Ar outer s H E hr => ⟨_, (pss_cons (ps_expr (pe_callS (E := WE (fun cls d _ H => E cls d H)) ok_check_name.F (hr.mono (by decide)) rfl ok_check_name.m ok_check_name.k ok_check_name.b (fun σ => passAt tk_cx σ) (pa_cons (pv 1) pa_nil)))
    (pss_cons (ps_if (pt_cmp (pc_dnotin (unitsD hr) (pv 1) (pe_fldA (K := A.K) (by rfl) (pv 0))) (by rfl)) (pss_one (ps_raiseI base_LE ⟨rfl, rfl, rfl, rfl, rfl⟩ ini_NotFound rfl (hr.mono (by decide)) rfl tk_cx (pv 1))) pss_nil)
    (pss_cons (ps_set (i := 3) sc_Store_take.nd rfl (by first | exact Or.inl rfl | exact Or.inr rfl) (pe_ix (ix_allA (K := A.K) (by rfl)) (pe_dget (unitsD hr) (pe_fldA (K := A.K) (by rfl) (pv 0)) (pv 1) (fun _ _ => rfl)) pe_int (fun _ _ => rfl)))
    (pss_cons (ps_ddel (pe_fldA (K := A.K) (by rfl) (pv 0)) (pv 1))
    (pss_cons (ps_fld (pv 0) (pv 2) (by rfl))
    (pss_one (ps_ret (pv 3)))))))), ?_⟩
  exact (dens_seq (dens_drop (den_call (dena_cons den_var dena_nil)))
    (dens_seq (dens_if (dent_B (den_dnotin den_var (den_fld den_var))) (dens_raiseR ini_NotFound den_var) dens_next)
    (dens_seq (dens_set (i := 3) (den_op opd_ixU (den_dget (den_fld den_var) den_var) den_int))
    (dens_seq (dens_ddel (den_fld den_var) den_var)
    (dens_seq (dens_fld den_var den_var)
    (dens_ret den_var))))))

abbrev s_Hall_take : Stmt := clsS 133 5
theorem sc_Hall_take : FnScope ["self", "part", "name"] ["self", "part", "name"] (defScope s_Hall_take) := ⟨rfl, rfl, rfl, by decide +kernel, rfl, by decide +kernel, by decide +kernel⟩
def F_Hall_take (A : Amb) : DL.Env → M → S :=
  (sRet (eMtP (He.ga A.K "Store") "take" 1 1 3 [0, 1, 2] [] (G_Store_take A) (eMtP (He.ga A.K "Hall") "store_or_new" 1 0 2 [0, 1] [] (G_Hall_store_or_new A) (eVar 0) (aCons (eVar 1) aNil) aNil) (aCons (eVar 2) aNil) (aCons (eFld A.K "clock" (eVar 0)) aNil)))
def G_Hall_take (A : Amb) : List D → M → R D := bodyD 3 (F_Hall_take A)
theorem ok_Hall_take {f_Hall_take f_Store_take f_Hall_store_or_new : Addr} {fd_Hall_take fd_Store_take fd_Hall_store_or_new : FuncData} (T : Txt A.K mg) (hF : FunD A.K "take" "Hall.take" (defArgs s_Hall_take) (defBody s_Hall_take) (defScope s_Hall_take) [] [] f_Hall_take fd_Hall_take) (ok_Store_take : OwnM P w A mg base "Store" "take" ["self", "name", "at"] 4 (G_Store_take A) f_Store_take fd_Store_take) (ok_Hall_store_or_new : OwnM P w A mg base "Hall" "store_or_new" ["self", "part"] 4 (G_Hall_store_or_new A) f_Hall_store_or_new fd_Hall_store_or_new) (kb_Store_take_2_at : KBp A.K fd_Store_take ["self", "name", "at"] 2 ["at"] [0, 1, 2] []) (kb_Hall_store_or_new_2_ : KBp A.K fd_Hall_store_or_new ["self", "part"] 2 [] [0, 1] []) : FnOk P w A.K mg base (L2.CX P w) 5 f_Hall_take fd_Hall_take ["self", "part", "name"] (spD A 3 (G_Hall_take A)) := by
  refine fn_denM hF sc_Hall_take (by decide) fun cdv Ar outer s H E hr => ⟨_, (pss_one (ps_ret (pe_mtPK (E := WE (fun cls d _ H => E cls d H)) (pe_mtP (E := WE (fun cls d _ H => E cls d H)) (pv 0) ok_Hall_store_or_new.c ok_Hall_store_or_new.mt ok_Hall_store_or_new.F (hr.mono (by decide)) kb_Hall_store_or_new_2_ (fun σ => passAt tk_cx σ) (pa_cons (pv 1) pa_nil)) ok_Store_take.c ok_Store_take.mt ok_Store_take.F (hr.mono (by decide)) kb_Store_take_2_at (fun σ => passAt tk_cx σ) (pa_cons (pv 2) pa_nil) (pk_cons (pe_fldA (K := A.K) (by rfl) (pv 0)) pk_nil)))), ?_⟩
  exact (dens_ret (den_mtP rfl (den_mtP rfl den_var (dena_cons den_var dena_nil) dena_nil) (dena_cons den_var dena_nil) (dena_cons (den_fld den_var) dena_nil)))

abbrev s_l_deed : Stmt := topS 142
theorem sc_l_deed : FnScope ["_law_pile", "_law_hall", "_law_lies", "_law_state", "_law_place", "_law_name_told", "_law_way", "_law_text_told", "_law_by", "_law_here", "_law_due"] ["_law_pile", "_law_hall", "_law_lies", "_law_state"] (defScope s_l_deed) := ⟨rfl, rfl, rfl, by decide +kernel, rfl, by decide +kernel, by decide +kernel⟩
def S_l_deed_0 (A : Amb) : DL.Env → M → S :=
  (sSet 4 (eOp ixD (eCall mkL (aVals [(.str "one"), (.str "two"), (.str "three"), (.str "four")])) (eCall (fun ds m => if ds.length = 2 then G_l_take A ds m else .no) (aCons (eVar 0) (aCons (eC (.int 4)) aNil)))))
def S_l_deed_1 (A : Amb) : DL.Env → M → S :=
  (sSet 5 (eOp ixD (eCall mkL (aCons (eC (.str "a")) (aCons (eC (.str "b")) (aCons (eC (.str "a.b")) (aCons (eCall (fun ds m => if ds.length = 2 then G_l_name_drawn A ds m else .no) (aCons (eVar 0) (aCons (eC (.int 3)) aNil))) aNil))))) (eCall (fun ds m => if ds.length = 2 then G_l_take A ds m else .no) (aCons (eVar 0) (aCons (eC (.int 4)) aNil)))))
def S_l_deed_2 (A : Amb) : DL.Env → M → S :=
  (sSet 6 (eCall (fun ds m => if ds.length = 2 then G_l_take A ds m else .no) (aCons (eVar 0) (aCons (eC (.int 8)) aNil))))
def S_l_deed_3 (A : Amb) : DL.Env → M → S :=
  (sSet 7 (eCall (fun ds m => if ds.length = 1 then G_l_text_drawn A ds m else .no) (aCons (eVar 0) aNil)))
def S_l_deed_4 (A : Amb) : DL.Env → M → S :=
  (sSet 8 (eOp ixD (eCall mkL (aCons (eC (.int 1)) (aCons (eOp addD (eC (.int 1)) (eCall (fun ds m => if ds.length = 2 then G_l_take A ds m else .no) (aCons (eVar 0) (aCons (eC (.int 9)) aNil)))) (aCons (eOp powD (eC (.int 10)) (eC (.int 6))) aNil)))) (eCall (fun ds m => if ds.length = 2 then G_l_take A ds m else .no) (aCons (eVar 0) (aCons (eC (.int 3)) aNil)))))
def S_l_deed_5 (A : Amb) : DL.Env → M → S :=
  (sSetIx (eOp addD (eOp ixD (eVar 3) (eC (.int 0))) (eVar 8)) (eVar 3) (eC (.int 0)))
def S_l_deed_6 (A : Amb) : DL.Env → M → S :=
  (sIf (eTest asBl (eOp (eqD false) (eVar 8) (eC (.int 1)))) (sRet (eOp (eqD false) (eMtP (He.ga A.K "Hall") "tick" 0 0 2 [0, 1] [(.int 1)] (G_Hall_tick A) (eVar 1) aNil aNil) (eOp ixD (eVar 3) (eC (.int 0))))) sNext)
def S_l_deed_7 (A : Amb) : DL.Env → M → S :=
  (sIf (eTest asBl (eOp (cmpD fun i j => decide (i < j)) (eVar 6) (eC (.int 2)))) (sSeq (S_l_deed_4 A)
    (sSeq (S_l_deed_5 A)
    (sSeq (S_l_deed_6 A)
    (sRet (eOp (eqD false) (eCall mkL (aCons (eMtP (He.ga A.K "Hall") "tick" 1 0 2 [0, 1] [] (G_Hall_tick A) (eVar 1) (aCons (eVar 8) aNil) aNil) (aCons (eFld A.K "clock" (eVar 1)) aNil))) (eOp mulD (eCall mkL (aCons (eOp ixD (eVar 3) (eC (.int 0))) aNil)) (eC (.int 2)))))))) sNext)
def S_l_deed_8 (A : Amb) : DL.Env → M → S :=
  (sDrop (eMtP (He.ga A.K "Hall") "put" 3 0 5 [0, 1, 2, 3, 4] [(.bl false)] (G_Hall_put A) (eVar 1) (aCons (eVar 4) (aCons (eVar 5) (aCons (eVar 7) aNil))) aNil))
def S_l_deed_9 (A : Amb) : DL.Env → M → S :=
  (sTPutD (eVar 2) (eCall mkK (aCons (eVar 4) (aCons (eVar 5) aNil))) (eCall mkT (aCons (eVar 7) (aCons (eC (.bl false)) (aCons (eOp ixD (eVar 3) (eC (.int 0))) aNil)))))
def S_l_deed_10 (A : Amb) : DL.Env → M → S :=
  (sDrop (eMtP (He.ga A.K "Hall") "put" 0 4 5 [0, 2, 4, 1, 3] [] (G_Hall_put A) (eVar 1) aNil (aCons (eVar 7) (aCons (eVar 4) (aCons (eC (.bl true)) (aCons (eVar 5) aNil))))))
def S_l_deed_11 (A : Amb) : DL.Env → M → S :=
  (sTPutD (eVar 2) (eCall mkK (aCons (eVar 4) (aCons (eVar 5) aNil))) (eCall mkT (aCons (eVar 7) (aCons (eC (.bl true)) (aCons (eOp ixD (eVar 3) (eC (.int 0))) aNil)))))
def S_l_deed_12 (A : Amb) : DL.Env → M → S :=
  (sDrop (eMtP (He.ga A.K "Store") "put" 2 1 5 [0, 1, 2, 4, 3] [(.bl false)] (G_Store_put A) (eMtP (He.ga A.K "Hall") "store" 1 0 2 [0, 1] [] (G_Hall_store A) (eVar 1) (aCons (eVar 4) aNil) aNil) (aCons (eVar 5) (aCons (eVar 7) aNil)) (aCons (eC (.int 7)) aNil)))
def S_l_deed_13 (A : Amb) : DL.Env → M → S :=
  (sTPutD (eVar 2) (eCall mkK (aCons (eVar 4) (aCons (eVar 5) aNil))) (eCall mkT (aCons (eVar 7) (aCons (eC (.bl false)) (aCons (eC (.int 7)) aNil)))))
def S_l_deed_14 (A : Amb) : DL.Env → M → S :=
  (sSet 9 (eCall sortedTk (aCons (eVar 2) aNil)))
def S_l_deed_15 (A : Amb) : DL.Env → M → S :=
  (sUnpT 4 5 (eOp ixD (eVar 9) (eCall (fun ds m => if ds.length = 2 then G_l_take A ds m else .no) (aCons (eVar 0) (aCons (eCall (lenD A) (aCons (eVar 9) aNil)) aNil)))))
def S_l_deed_16 (A : Amb) : DL.Env → M → S :=
  (sSet 10 (eOp ixD (eMt isDctT popTD1 (eVar 2) (aCons (eCall mkK (aCons (eVar 4) (aCons (eVar 5) aNil))) aNil)) (eC (.int 0))))
def S_l_deed_17 (A : Amb) : DL.Env → M → S :=
  (sIf (eTest asBl (eOp (eqD true) (eVar 9) (eCall mkL aNil))) (sSeq (S_l_deed_15 A)
    (sSeq (S_l_deed_16 A)
    (sRet (eAnd (eOp (eqD false) (eMtP (He.ga A.K "Hall") "take" 0 2 3 [0, 2, 1] [] (G_Hall_take A) (eVar 1) aNil (aCons (eVar 5) (aCons (eVar 4) aNil))) (eVar 10)) (eOp (eqD false) (eFld A.K "changed" (eMtP (He.ga A.K "Hall") "store" 1 0 2 [0, 1] [] (G_Hall_store A) (eVar 1) (aCons (eVar 4) aNil) aNil)) (eOp ixD (eVar 3) (eC (.int 0)))))))) sNext)
def S_l_deed_18 (A : Amb) : DL.Env → M → S :=
  (sSetIx (eOp ixD (eCall mkL (aCons (eCall mkT aNil) (aCons (eCall mkT (aCons (eC (.str "one")) aNil)) (aCons (eCall mkT (aCons (eC (.str "two")) (aCons (eC (.str "one")) aNil))) (aCons (eCall mkT (aCons (eC (.str "four")) (aCons (eC (.str "three")) (aCons (eC (.str "two")) aNil)))) aNil))))) (eCall (fun ds m => if ds.length = 2 then G_l_take A ds m else .no) (aCons (eVar 0) (aCons (eC (.int 4)) aNil)))) (eVar 3) (eC (.int 1)))
def S_l_deed_19 (A : Amb) : DL.Env → M → S :=
  (sDrop (eMtP (He.ga A.K "Hall") "set_path" 0 1 2 [0, 1] [] (G_Hall_set_path A) (eVar 1) aNil (aCons (eOp ixD (eVar 3) (eC (.int 1))) aNil)))
def S_l_deed_20 (A : Amb) : DL.Env → M → S :=
  (sIf (eTest asBl (eOp (cmpD fun i j => decide (i < j)) (eVar 6) (eC (.int 7)))) (sSeq (S_l_deed_14 A)
    (S_l_deed_17 A)) (sSeq (S_l_deed_18 A)
    (S_l_deed_19 A)))
def S_l_deed_21 (A : Amb) : DL.Env → M → S :=
  (sIf (eTest asBl (eOp (eqD false) (eVar 6) (eC (.int 4)))) (sSeq (S_l_deed_12 A)
    (S_l_deed_13 A)) (S_l_deed_20 A))
def S_l_deed_22 (A : Amb) : DL.Env → M → S :=
  (sIf (eTest asBl (eOp (eqD false) (eVar 6) (eC (.int 3)))) (sSeq (S_l_deed_10 A)
    (S_l_deed_11 A)) (S_l_deed_21 A))
def S_l_deed_23 (A : Amb) : DL.Env → M → S :=
  (sIf (eTest asBl (eOp (eqD false) (eVar 6) (eC (.int 2)))) (sSeq (S_l_deed_8 A)
    (S_l_deed_9 A)) (S_l_deed_22 A))
def F_l_deed (A : Amb) : DL.Env → M → S :=
  (sSeq (S_l_deed_0 A)
    (sSeq (S_l_deed_1 A)
    (sSeq (S_l_deed_2 A)
    (sSeq (S_l_deed_3 A)
    (sSeq (S_l_deed_7 A)
    (sSeq (S_l_deed_23 A)
    (sRet (eC (.bl true)))))))))
def G_l_deed (A : Amb) : List D → M → R D := bodyD 11 (F_l_deed A)
theorem ok_l_deed {f_l_deed f_l_take f_l_name_drawn f_l_text_drawn f_Hall_tick f_Hall_put f_Store_put f_Hall_store f_Hall_take f_Hall_set_path : Addr} {fd_l_deed fd_l_take fd_l_name_drawn fd_l_text_drawn fd_Hall_tick fd_Hall_put fd_Store_put fd_Hall_store fd_Hall_take fd_Hall_set_path : FuncData} (T : Txt A.K mg) (hF : FunD A.K "_law_deed" "_law_deed" (defArgs s_l_deed) (defBody s_l_deed) (defScope s_l_deed) [] [] f_l_deed fd_l_deed) (ok_l_take : OwnX P w A mg base "_law_take" ["_law_pile", "_law_size"] 1 (G_l_take A) f_l_take fd_l_take) (ok_l_name_drawn : OwnX P w A mg base "_law_name_drawn" ["_law_pile", "_law_most"] 3 (G_l_name_drawn A) f_l_name_drawn fd_l_name_drawn) (ok_l_text_drawn : OwnX P w A mg base "_law_text_drawn" ["_law_pile"] 2 (G_l_text_drawn A) f_l_text_drawn fd_l_text_drawn) (ok_Hall_tick : OwnM P w A mg base "Hall" "tick" ["self", "by"] 2 (G_Hall_tick A) f_Hall_tick fd_Hall_tick) (ok_Hall_put : OwnM P w A mg base "Hall" "put" ["self", "part", "name", "text", "pack"] 5 (G_Hall_put A) f_Hall_put fd_Hall_put) (ok_Store_put : OwnM P w A mg base "Store" "put" ["self", "name", "text", "pack", "at"] 4 (G_Store_put A) f_Store_put fd_Store_put) (ok_Hall_store : OwnM P w A mg base "Hall" "store" ["self", "part"] 5 (G_Hall_store A) f_Hall_store fd_Hall_store) (ok_Hall_take : OwnM P w A mg base "Hall" "take" ["self", "part", "name"] 5 (G_Hall_take A) f_Hall_take fd_Hall_take) (ok_Hall_set_path : OwnM P w A mg base "Hall" "set_path" ["self", "path"] 6 (G_Hall_set_path A) f_Hall_set_path fd_Hall_set_path) (kb_Hall_tick_1_ : KBp A.K fd_Hall_tick ["self", "by"] 1 [] [0, 1] [(.int 1)]) (kb_Hall_tick_2_ : KBp A.K fd_Hall_tick ["self", "by"] 2 [] [0, 1] []) (kb_Hall_put_4_ : KBp A.K fd_Hall_put ["self", "part", "name", "text", "pack"] 4 [] [0, 1, 2, 3, 4] [(.bl false)]) (kb_Hall_put_1_text_part_pack_name : KBp A.K fd_Hall_put ["self", "part", "name", "text", "pack"] 1 ["text", "part", "pack", "name"] [0, 2, 4, 1, 3] []) (kb_Store_put_3_at : KBp A.K fd_Store_put ["self", "name", "text", "pack", "at"] 3 ["at"] [0, 1, 2, 4, 3] [(.bl false)]) (kb_Hall_store_2_ : KBp A.K fd_Hall_store ["self", "part"] 2 [] [0, 1] []) (kb_Hall_take_1_name_part : KBp A.K fd_Hall_take ["self", "part", "name"] 1 ["name", "part"] [0, 2, 1] []) (kb_Hall_set_path_1_path : KBp A.K fd_Hall_set_path ["self", "path"] 1 ["path"] [0, 1] []) : FnOk P w A.K mg base (L2.CX P w) 7 f_l_deed fd_l_deed ["_law_pile", "_law_hall", "_law_lies", "_law_state"] (spD A 4 (G_l_deed A)) := by
  refine fn_denX hF sc_l_deed (by decide) fun cdv Ar outer s H E hr => ⟨_, (pss_cons (ps_set (i := 4) sc_l_deed.nd rfl (by first | exact Or.inl rfl | exact Or.inr rfl) (pe_ix (ix_allA (K := A.K) (by rfl)) (pe_lst (pa_cst (vs := [(.str "one"), (.str "two"), (.str "three"), (.str "four")]) rfl)) (pe_callS (E := WE (fun cls d _ H => E cls d H)) ok_l_take.F (hr.mono (by decide)) rfl ok_l_take.m ok_l_take.k ok_l_take.b (fun σ => passAt tk_cx σ) (pa_cons (pv 0) (pa_cons pe_int pa_nil))) (fun _ _ => rfl)))
    (pss_cons (ps_set (i := 5) sc_l_deed.nd rfl (by first | exact Or.inl rfl | exact Or.inr rfl) (pe_ix (ix_allA (K := A.K) (by rfl)) (pe_lst (pa_cons pe_str (pa_cons pe_str (pa_cons pe_str (pa_cons (pe_callS (E := WE (fun cls d _ H => E cls d H)) ok_l_name_drawn.F (hr.mono (by decide)) rfl ok_l_name_drawn.m ok_l_name_drawn.k ok_l_name_drawn.b (fun σ => passAt tk_cx σ) (pa_cons (pv 0) (pa_cons pe_int pa_nil))) pa_nil))))) (pe_callS (E := WE (fun cls d _ H => E cls d H)) ok_l_take.F (hr.mono (by decide)) rfl ok_l_take.m ok_l_take.k ok_l_take.b (fun σ => passAt tk_cx σ) (pa_cons (pv 0) (pa_cons pe_int pa_nil))) (fun _ _ => rfl)))
    (pss_cons (ps_set (i := 6) sc_l_deed.nd rfl (by first | exact Or.inl rfl | exact Or.inr rfl) (pe_callS (E := WE (fun cls d _ H => E cls d H)) ok_l_take.F (hr.mono (by decide)) rfl ok_l_take.m ok_l_take.k ok_l_take.b (fun σ => passAt tk_cx σ) (pa_cons (pv 0) (pa_cons pe_int pa_nil))))
    (pss_cons (ps_set (i := 7) sc_l_deed.nd rfl (by first | exact Or.inl rfl | exact Or.inr rfl) (pe_callS (E := WE (fun cls d _ H => E cls d H)) ok_l_text_drawn.F (hr.mono (by decide)) rfl ok_l_text_drawn.m ok_l_text_drawn.k ok_l_text_drawn.b (fun σ => passAt tk_cx σ) (pa_cons (pv 0) pa_nil)))
    (pss_cons (ps_if (pt_cmpR op_lt (pv 6) pe_int (nomark _)) (pss_cons (ps_set (i := 8) sc_l_deed.nd rfl (by first | exact Or.inl rfl | exact Or.inr rfl) (pe_ix (ix_allA (K := A.K) (by rfl)) (pe_lst (pa_cons pe_int (pa_cons (pe_op op_addU pe_int (pe_callS (E := WE (fun cls d _ H => E cls d H)) ok_l_take.F (hr.mono (by decide)) rfl ok_l_take.m ok_l_take.k ok_l_take.b (fun σ => passAt tk_cx σ) (pa_cons (pv 0) (pa_cons pe_int pa_nil)))) (pa_cons (pe_op op_pow pe_int pe_int) pa_nil)))) (pe_callS (E := WE (fun cls d _ H => E cls d H)) ok_l_take.F (hr.mono (by decide)) rfl ok_l_take.m ok_l_take.k ok_l_take.b (fun σ => passAt tk_cx σ) (pa_cons (pv 0) (pa_cons pe_int pa_nil))) (fun _ _ => rfl)))
    (pss_cons (ps_asg (pe_op op_addU (pe_ix (ix_allA (K := A.K) (by rfl)) (pv 3) pe_int (fun _ _ => rfl)) (pv 8)) (pg_sub (pv 3) pe_int set_list))
    (pss_cons (ps_if (pt_cmpR (op_eqA (K := A.K) (by rfl) (hr.units)) (pv 8) pe_int (nomark _)) (pss_one (ps_ret (pe_cmpR (op_eqA (K := A.K) (by rfl) (hr.units)) (pe_mtP0 (E := WE (fun cls d _ H => E cls d H)) (pv 1) ok_Hall_tick.c ok_Hall_tick.mt ok_Hall_tick.F (hr.mono (by decide)) kb_Hall_tick_1_ (fun σ => passAt tk_cx σ) ) (pe_ix (ix_allA (K := A.K) (by rfl)) (pv 3) pe_int (fun _ _ => rfl)) (nomark _)))) pss_nil)
    (pss_one (ps_ret (pe_cmpR (op_eqA (K := A.K) (by rfl) (hr.units)) (pe_lst (pa_cons (pe_mtP (E := WE (fun cls d _ H => E cls d H)) (pv 1) ok_Hall_tick.c ok_Hall_tick.mt ok_Hall_tick.F (hr.mono (by decide)) kb_Hall_tick_2_ (fun σ => passAt tk_cx σ) (pa_cons (pv 8) pa_nil)) (pa_cons (pe_fldA (K := A.K) (by rfl) (pv 1)) pa_nil))) (pe_op op_mulU (pe_lst (pa_cons (pe_ix (ix_allA (K := A.K) (by rfl)) (pv 3) pe_int (fun _ _ => rfl)) pa_nil)) pe_int) (nomark _))))))) pss_nil)
    (pss_cons (ps_if (pt_cmpR (op_eqA (K := A.K) (by rfl) (hr.units)) (pv 6) pe_int (nomark _)) (pss_cons (ps_expr (pe_mtP (E := WE (fun cls d _ H => E cls d H)) (pv 1) ok_Hall_put.c ok_Hall_put.mt ok_Hall_put.F (hr.mono (by decide)) kb_Hall_put_4_ (fun σ => passAt tk_cx σ) (pa_cons (pv 4) (pa_cons (pv 5) (pa_cons (pv 7) pa_nil)))))
    (pss_one (ps_dput (unitsD hr) (pv 2) (pe_tup (pa_cons (pv 4) (pa_cons (pv 5) pa_nil))) (pe_tup (pa_cons (pv 7) (pa_cons pe_bl (pa_cons (pe_ix (ix_allA (K := A.K) (by rfl)) (pv 3) pe_int (fun _ _ => rfl)) pa_nil)))) (by rfl)))) (pss_one (ps_if (pt_cmpR (op_eqA (K := A.K) (by rfl) (hr.units)) (pv 6) pe_int (nomark _)) (pss_cons (ps_expr (pe_mtPK0 (E := WE (fun cls d _ H => E cls d H)) (pv 1) ok_Hall_put.c ok_Hall_put.mt ok_Hall_put.F (hr.mono (by decide)) kb_Hall_put_1_text_part_pack_name (fun σ => passAt tk_cx σ) (pk_cons (pv 7) (pk_cons (pv 4) (pk_cons pe_bl (pk_cons (pv 5) pk_nil))))))
    (pss_one (ps_dput (unitsD hr) (pv 2) (pe_tup (pa_cons (pv 4) (pa_cons (pv 5) pa_nil))) (pe_tup (pa_cons (pv 7) (pa_cons pe_bl (pa_cons (pe_ix (ix_allA (K := A.K) (by rfl)) (pv 3) pe_int (fun _ _ => rfl)) pa_nil)))) (by rfl)))) (pss_one (ps_if (pt_cmpR (op_eqA (K := A.K) (by rfl) (hr.units)) (pv 6) pe_int (nomark _)) (pss_cons (ps_expr (pe_mtPK (E := WE (fun cls d _ H => E cls d H)) (pe_mtP (E := WE (fun cls d _ H => E cls d H)) (pv 1) ok_Hall_store.c ok_Hall_store.mt ok_Hall_store.F (hr.mono (by decide)) kb_Hall_store_2_ (fun σ => passAt tk_cx σ) (pa_cons (pv 4) pa_nil)) ok_Store_put.c ok_Store_put.mt ok_Store_put.F (hr.mono (by decide)) kb_Store_put_3_at (fun σ => passAt tk_cx σ) (pa_cons (pv 5) (pa_cons (pv 7) pa_nil)) (pk_cons pe_int pk_nil)))
    (pss_one (ps_dput (unitsD hr) (pv 2) (pe_tup (pa_cons (pv 4) (pa_cons (pv 5) pa_nil))) (pe_tup (pa_cons (pv 7) (pa_cons pe_bl (pa_cons pe_int pa_nil)))) (by rfl)))) (pss_one (ps_if (pt_cmpR op_lt (pv 6) pe_int (nomark _)) (pss_cons (ps_set (i := 9) sc_l_deed.nd rfl (by first | exact Or.inl rfl | exact Or.inr rfl) (pe_callB (call_sortTk rfl (units70 hr)) rfl T.n_sorted (by decide +kernel) (pa_cons (pv 2) pa_nil)))
    (pss_one (ps_if (pt_cmpR (op_neA (K := A.K) (by rfl) (hr.units)) (pv 9) (pe_lst pa_nil) (nomark _)) (pss_cons (ps_asg (pe_ix (ix_allA (K := A.K) (by rfl)) (pv 9) (pe_callS (E := WE (fun cls d _ H => E cls d H)) ok_l_take.F (hr.mono (by decide)) rfl ok_l_take.m ok_l_take.k ok_l_take.b (fun σ => passAt tk_cx σ) (pa_cons (pv 0) (pa_cons (pe_callB (call_lenA (K := A.K) (by rfl)) rfl T.n_len (by decide +kernel) (pa_cons (pv 9) pa_nil)) pa_nil))) (fun _ _ => rfl)) (pg_tupA (K := A.K) (n := 2) (by rfl) rfl (pgs_cons (pg_name (i := 4) sc_l_deed.nd rfl (by first | exact Or.inl rfl | exact Or.inr rfl)) (pgs_cons (pg_name (i := 5) sc_l_deed.nd rfl (by first | exact Or.inl rfl | exact Or.inr rfl)) pgs_nil))))
    (pss_cons (ps_set (i := 10) sc_l_deed.nd rfl (by first | exact Or.inl rfl | exact Or.inr rfl) (pe_ix (ix_allA (K := A.K) (by rfl)) (pe_bmA (K := A.K) (by rfl) PySem.F.plainAttrs_dict PySem.F.slot_dict_pop PySem.F.type_dict_pop (mt_popT1 (unitsD hr)) (pv 2) (pa_cons (pe_tup (pa_cons (pv 4) (pa_cons (pv 5) pa_nil))) pa_nil)) pe_int (fun _ _ => rfl)))
    (pss_one (ps_ret (pe_andA (K := A.K) (by rfl) (pe_cmpR (op_eqA (K := A.K) (by rfl) (hr.units)) (pe_mtPK0 (E := WE (fun cls d _ H => E cls d H)) (pv 1) ok_Hall_take.c ok_Hall_take.mt ok_Hall_take.F (hr.mono (by decide)) kb_Hall_take_1_name_part (fun σ => passAt tk_cx σ) (pk_cons (pv 5) (pk_cons (pv 4) pk_nil))) (pv 10) (nomark _)) (pe_one (pe_cmpR (op_eqA (K := A.K) (by rfl) (hr.units)) (pe_fldA (K := A.K) (by rfl) (pe_mtP (E := WE (fun cls d _ H => E cls d H)) (pv 1) ok_Hall_store.c ok_Hall_store.mt ok_Hall_store.F (hr.mono (by decide)) kb_Hall_store_2_ (fun σ => passAt tk_cx σ) (pa_cons (pv 4) pa_nil))) (pe_ix (ix_allA (K := A.K) (by rfl)) (pv 3) pe_int (fun _ _ => rfl)) (nomark _)))))))) pss_nil))) (pss_cons (ps_asg (pe_ix (ix_allA (K := A.K) (by rfl)) (pe_lst (pa_cons (pe_tup pa_nil) (pa_cons (pe_tup (pa_cons pe_str pa_nil)) (pa_cons (pe_tup (pa_cons pe_str (pa_cons pe_str pa_nil))) (pa_cons (pe_tup (pa_cons pe_str (pa_cons pe_str (pa_cons pe_str pa_nil)))) pa_nil))))) (pe_callS (E := WE (fun cls d _ H => E cls d H)) ok_l_take.F (hr.mono (by decide)) rfl ok_l_take.m ok_l_take.k ok_l_take.b (fun σ => passAt tk_cx σ) (pa_cons (pv 0) (pa_cons pe_int pa_nil))) (fun _ _ => rfl)) (pg_sub (pv 3) pe_int set_list))
    (pss_one (ps_expr (pe_mtPK0 (E := WE (fun cls d _ H => E cls d H)) (pv 1) ok_Hall_set_path.c ok_Hall_set_path.mt ok_Hall_set_path.F (hr.mono (by decide)) kb_Hall_set_path_1_path (fun σ => passAt tk_cx σ) (pk_cons (pe_ix (ix_allA (K := A.K) (by rfl)) (pv 3) pe_int (fun _ _ => rfl)) pk_nil))))))))))))
    (pss_one (ps_ret pe_bl)))))))), ?_⟩
  exact (dens_seq (dens_set (i := 4) (den_op opd_ixU (den_lst (dena_cst (vs := [(.str "one"), (.str "two"), (.str "three"), (.str "four")]) (ds := [(.str "one"), (.str "two"), (.str "three"), (.str "four")]) rfl)) (den_call (dena_cons den_var (dena_cons den_int dena_nil)))))
    (dens_seq (dens_set (i := 5) (den_op opd_ixU (den_lst (dena_cons den_str (dena_cons den_str (dena_cons den_str (dena_cons (den_call (dena_cons den_var (dena_cons den_int dena_nil))) dena_nil))))) (den_call (dena_cons den_var (dena_cons den_int dena_nil)))))
    (dens_seq (dens_set (i := 6) (den_call (dena_cons den_var (dena_cons den_int dena_nil))))
    (dens_seq (dens_set (i := 7) (den_call (dena_cons den_var dena_nil)))
    (dens_seq (dens_if (dent_test (den_op opd_cmp den_var den_int)) (dens_seq (dens_set (i := 8) (den_op opd_ixU (den_lst (dena_cons den_int (dena_cons (den_op opd_add den_int (den_call (dena_cons den_var (dena_cons den_int dena_nil)))) (dena_cons (den_op opd_pow den_int den_int) dena_nil)))) (den_call (dena_cons den_var (dena_cons den_int dena_nil)))))
    (dens_seq (dens_setIx (den_op opd_add (den_op opd_ixU den_var den_int) den_var) den_var den_int)
    (dens_seq (dens_if (dent_test (den_op opd_eq den_var den_int)) (dens_ret (den_op opd_eq (den_mtP rfl den_var dena_nil dena_nil) (den_op opd_ixU den_var den_int))) dens_next)
    (dens_ret (den_op opd_eq (den_lst (dena_cons (den_mtP rfl den_var (dena_cons den_var dena_nil) dena_nil) (dena_cons (den_fld den_var) dena_nil))) (den_op opd_mul (den_lst (dena_cons (den_op opd_ixU den_var den_int) dena_nil)) den_int)))))) dens_next)
    (dens_seq (dens_if (dent_test (den_op opd_eq den_var den_int)) (dens_seq (dens_drop (den_mtP rfl den_var (dena_cons den_var (dena_cons den_var (dena_cons den_var dena_nil))) dena_nil))
    (dens_tput den_var (den_mkK (dena_cons den_var (dena_cons den_var dena_nil))) (den_tup (dena_cons den_var (dena_cons den_bl (dena_cons (den_op opd_ixU den_var den_int) dena_nil)))))) (dens_if (dent_test (den_op opd_eq den_var den_int)) (dens_seq (dens_drop (den_mtP rfl den_var dena_nil (dena_cons den_var (dena_cons den_var (dena_cons den_bl (dena_cons den_var dena_nil))))))
    (dens_tput den_var (den_mkK (dena_cons den_var (dena_cons den_var dena_nil))) (den_tup (dena_cons den_var (dena_cons den_bl (dena_cons (den_op opd_ixU den_var den_int) dena_nil)))))) (dens_if (dent_test (den_op opd_eq den_var den_int)) (dens_seq (dens_drop (den_mtP rfl (den_mtP rfl den_var (dena_cons den_var dena_nil) dena_nil) (dena_cons den_var (dena_cons den_var dena_nil)) (dena_cons den_int dena_nil)))
    (dens_tput den_var (den_mkK (dena_cons den_var (dena_cons den_var dena_nil))) (den_tup (dena_cons den_var (dena_cons den_bl (dena_cons den_int dena_nil)))))) (dens_if (dent_test (den_op opd_cmp den_var den_int)) (dens_seq (dens_set (i := 9) (den_cb calld_sortTk (dena_cons den_var dena_nil)))
    (dens_if (dent_test (den_op opd_ne den_var (den_lst dena_nil))) (dens_seq (dens_unpT (den_op opd_ixU den_var (den_call (dena_cons den_var (dena_cons (den_cb calld_lenU (dena_cons den_var dena_nil)) dena_nil)))))
    (dens_seq (dens_set (i := 10) (den_op opd_ixU (den_bm tyd_dctT mtd_popTD1 den_var (dena_cons (den_mkK (dena_cons den_var (dena_cons den_var dena_nil))) dena_nil)) den_int))
    (dens_ret (den_and (den_op opd_eq (den_mtP rfl den_var dena_nil (dena_cons den_var (dena_cons den_var dena_nil))) den_var) (den_op opd_eq (den_fld (den_mtP rfl den_var (dena_cons den_var dena_nil) dena_nil)) (den_op opd_ixU den_var den_int)))))) dens_next)) (dens_seq (dens_setIx (den_op opd_ixU (den_lst (dena_cons (den_tup dena_nil) (dena_cons (den_tup (dena_cons den_str dena_nil)) (dena_cons (den_tup (dena_cons den_str (dena_cons den_str dena_nil))) (dena_cons (den_tup (dena_cons den_str (dena_cons den_str (dena_cons den_str dena_nil)))) dena_nil))))) (den_call (dena_cons den_var (dena_cons den_int dena_nil)))) den_var den_int)
    (dens_drop (den_mtP rfl den_var dena_nil (dena_cons (den_op opd_ixU den_var den_int) dena_nil))))))))
    (dens_ret den_bl)))))))

abbrev s_law : Stmt := topS 143
theorem sc_law : FnScope ["_law_script", "_law_pile", "_law_path_told", "_law_hall", "_law_state", "_law_lies", "_law_k", "_law_finder"] ["_law_script"] (defScope s_law) := ⟨rfl, rfl, rfl, by decide +kernel, rfl, by decide +kernel, by decide +kernel⟩
def S_law_0 (A : Amb) : DL.Env → M → S :=
  (sSet 1 (eCall mkC (aCons (eCall (fun ds m => if ds.length = 2 then G_l_cell A ds m else .no) (aCons (eVar 0) (aCons (eC (.int 0)) aNil))) aNil)))
def S_law_1 (A : Amb) : DL.Env → M → S :=
  (sSet 2 (eOp ixD (eCall mkL (aCons (eCall mkT aNil) (aCons (eCall mkT (aCons (eC (.str "one")) aNil)) (aCons (eCall mkT (aCons (eC (.str "one")) (aCons (eC (.str "two")) aNil))) (aCons (eCall mkT (aCons (eC (.str "three")) (aCons (eC (.str "one")) (aCons (eC (.str "two")) aNil)))) aNil))))) (eCall (fun ds m => if ds.length = 2 then G_l_take A ds m else .no) (aCons (eVar 1) (aCons (eC (.int 4)) aNil)))))
def S_law_2 (A : Amb) : DL.Env → M → S :=
  (sSet 3 (eMkP (He.ga A.K "Hall") 0 1 3 [0, 1, 2] [(.str "stamp")] (G_Hall_init A) aNil (aCons (eVar 2) aNil)))
def S_law_3 (A : Amb) : DL.Env → M → S :=
  (sSet 3 (eMkP (He.ga A.K "Hall") 0 0 3 [0, 1, 2] [.tup [], (.str "stamp")] (G_Hall_init A) aNil aNil))
def S_law_4 (A : Amb) : DL.Env → M → S :=
  (sSet 2 (eCall mkT aNil))
def S_law_5 (A : Amb) : DL.Env → M → S :=
  (sIf (eTest asBl (eOp (eqD false) (eCall (fun ds m => if ds.length = 2 then G_l_take A ds m else .no) (aCons (eVar 1) (aCons (eC (.int 4)) aNil))) (eC (.int 0)))) (sSeq (S_law_3 A)
    (S_law_4 A)) sNext)
def S_law_6 (A : Amb) : DL.Env → M → S :=
  (sSet 4 (eCall mkC (aCons (eC (.int 0)) (aCons (eVar 2) aNil))))
def S_law_7 (A : Amb) : DL.Env → M → S :=
  (sSet 5 eTNew)
def S_law_8 (A : Amb) : DL.Env → M → S :=
  (sIf (bOr (eTest asBl (eOp (eqD true) (eComp okL [7] (iIt asTup (eFld A.K "finders" (eVar 3))) (gSet 7) bYes (eFld A.K "word" (eVar 7))) (eCall mkL (aCons (eC (.str "along")) aNil)))) (eTest asBl (eOp (eqD true) (eFld A.K "check" (eFld A.K "forms" (eVar 3))) (eC (.str "stamp"))))) (sRet (eC (.bl false))) sNext)
def S_law_9 (A : Amb) : DL.Env → M → S :=
  (sIf (bNot (eTest asTru (eCall (fun ds m => if ds.length = 4 then G_l_stands A ds m else .no) (aCons (eVar 3) (aCons (eVar 5) (aCons (eOp ixD (eVar 4) (eC (.int 0))) (aCons (eOp ixD (eVar 4) (eC (.int 1))) aNil))))))) (sRet (eC (.bl false))) sNext)
def S_law_10 (A : Amb) : DL.Env → M → S :=
  (sIf (bNot (eTest asTru (eCall (fun ds m => if ds.length = 4 then G_l_deed A ds m else .no) (aCons (eCall mkC (aCons (eCall (fun ds m => if ds.length = 2 then G_l_cell A ds m else .no) (aCons (eVar 0) (aCons (eOp addD (eC (.int 1)) (eVar 6)) aNil))) aNil)) (aCons (eVar 3) (aCons (eVar 5) (aCons (eVar 4) aNil))))))) (sRet (eC (.bl false))) sNext)
def S_law_11 (A : Amb) : DL.Env → M → S :=
  (sFor (iArgs rng1 (aCons (eOp addD (eC (.int 1)) (eCall (fun ds m => if ds.length = 2 then G_l_take A ds m else .no) (aCons (eVar 1) (aCons (eC (.int 30)) aNil)))) aNil)) (gSet 6) (sSeq (S_law_9 A)
    (S_law_10 A)))
def F_law (A : Amb) : DL.Env → M → S :=
  (sSeq (S_law_0 A)
    (sSeq (S_law_1 A)
    (sSeq (S_law_2 A)
    (sSeq (S_law_5 A)
    (sSeq (S_law_6 A)
    (sSeq (S_law_7 A)
    (sSeq (S_law_8 A)
    (sSeq (S_law_11 A)
    (sRet (eAnd (eCall (fun ds m => if ds.length = 4 then G_l_stands A ds m else .no) (aCons (eVar 3) (aCons (eVar 5) (aCons (eOp ixD (eVar 4) (eC (.int 0))) (aCons (eOp ixD (eVar 4) (eC (.int 1))) aNil))))) (eOp (eqD false) (eFld A.K "check" (eFld A.K "forms" (eMkP (He.ga A.K "Hall") 0 1 3 [0, 2, 1] [.tup []] (G_Hall_init A) aNil (aCons (eC (.str "sum")) aNil)))) (eC (.str "sum")))))))))))))
def G_law (A : Amb) : List D → M → R D := bodyD 8 (F_law A)
theorem ok_law {f_law f_l_cell f_l_take f_l_stands f_l_deed f_Hall_init : Addr} {fd_law fd_l_cell fd_l_take fd_l_stands fd_l_deed fd_Hall_init : FuncData} (T : Txt A.K mg) (hF : FunD A.K "law" "law" (defArgs s_law) (defBody s_law) (defScope s_law) [] [] f_law fd_law) (ok_l_cell : OwnX P w A mg base "_law_cell" ["_law_script", "_law_k"] 2 (G_l_cell A) f_l_cell fd_l_cell) (ok_l_take : OwnX P w A mg base "_law_take" ["_law_pile", "_law_size"] 1 (G_l_take A) f_l_take fd_l_take) (ok_l_stands : OwnX P w A mg base "_law_stands" ["_law_hall", "_law_lies", "_law_clock", "_law_path_told"] 6 (G_l_stands A) f_l_stands fd_l_stands) (ok_l_deed : OwnX P w A mg base "_law_deed" ["_law_pile", "_law_hall", "_law_lies", "_law_state"] 7 (G_l_deed A) f_l_deed fd_l_deed) (ok_Hall_init : OwnI P w A mg base "Hall" ["self", "path", "check"] 4 (G_Hall_init A) f_Hall_init fd_Hall_init) (kb_Hall_init_1_path : KBp A.K fd_Hall_init ["self", "path", "check"] 1 ["path"] [0, 1, 2] [(.str "stamp")]) (kb_Hall_init_1_ : KBp A.K fd_Hall_init ["self", "path", "check"] 1 [] [0, 1, 2] [.ref (dfA A.K "Hall" "path"), (.str "stamp")]) (kb_Hall_init_1_check : KBp A.K fd_Hall_init ["self", "path", "check"] 1 ["check"] [0, 2, 1] [.ref (dfA A.K "Hall" "path")]) : FnOk P w A.K mg base (L2.CX P w) 8 f_law fd_law ["_law_script"] (spD A 1 (G_law A)) := by
  refine fn_denX hF sc_law (by decide) fun cdv Ar outer s H E hr => ⟨_, (pss_cons (ps_set (i := 1) sc_law.nd rfl (by first | exact Or.inl rfl | exact Or.inr rfl) (pe_lst (pa_cons (pe_callS (E := WE (fun cls d _ H => E cls d H)) ok_l_cell.F (hr.mono (by decide)) rfl ok_l_cell.m ok_l_cell.k ok_l_cell.b (fun σ => passAt tk_cx σ) (pa_cons (pv 0) (pa_cons pe_int pa_nil))) pa_nil)))
    (pss_cons (ps_set (i := 2) sc_law.nd rfl (by first | exact Or.inl rfl | exact Or.inr rfl) (pe_ix (ix_allA (K := A.K) (by rfl)) (pe_lst (pa_cons (pe_tup pa_nil) (pa_cons (pe_tup (pa_cons pe_str pa_nil)) (pa_cons (pe_tup (pa_cons pe_str (pa_cons pe_str pa_nil))) (pa_cons (pe_tup (pa_cons pe_str (pa_cons pe_str (pa_cons pe_str pa_nil)))) pa_nil))))) (pe_callS (E := WE (fun cls d _ H => E cls d H)) ok_l_take.F (hr.mono (by decide)) rfl ok_l_take.m ok_l_take.k ok_l_take.b (fun σ => passAt tk_cx σ) (pa_cons (pv 1) (pa_cons pe_int pa_nil))) (fun _ _ => rfl)))
    (pss_cons (ps_set (i := 3) sc_law.nd rfl (by first | exact Or.inl rfl | exact Or.inr rfl) (pe_mkPK0 (E := WE (fun cls d _ H => E cls d H)) ok_Hall_init.ini ok_Hall_init.F (hr.mono (by decide)) rfl ok_Hall_init.m kb_Hall_init_1_path (fun σ => passAt tk_cx σ) (pk_cons (pv 2) pk_nil)))
    (pss_cons (ps_if (pt_cmpR (op_eqA (K := A.K) (by rfl) (hr.units)) (pe_callS (E := WE (fun cls d _ H => E cls d H)) ok_l_take.F (hr.mono (by decide)) rfl ok_l_take.m ok_l_take.k ok_l_take.b (fun σ => passAt tk_cx σ) (pa_cons (pv 1) (pa_cons pe_int pa_nil))) pe_int (nomark _)) (pss_cons (ps_set (i := 3) sc_law.nd rfl (by first | exact Or.inl rfl | exact Or.inr rfl) (pe_mkP0 (E := WE (fun cls d _ H => E cls d H)) ok_Hall_init.ini ok_Hall_init.F (hr.mono (by decide)) rfl ok_Hall_init.m kb_Hall_init_1_ (fun σ => passAt tk_cx σ) ))
    (pss_one (ps_set (i := 2) sc_law.nd rfl (by first | exact Or.inl rfl | exact Or.inr rfl) (pe_tup pa_nil)))) pss_nil)
    (pss_cons (ps_set (i := 4) sc_law.nd rfl (by first | exact Or.inl rfl | exact Or.inr rfl) (pe_lst (pa_cons pe_int (pa_cons (pv 2) pa_nil))))
    (pss_cons (ps_set (i := 5) sc_law.nd rfl (by first | exact Or.inl rfl | exact Or.inr rfl) pe_dnewT)
    (pss_cons (ps_if (PW.pt (pw_or (pt_cmpR (op_neA (K := A.K) (by rfl) (hr.units)) (pe_lc (own := [("_law_finder", 7)]) rfl sc_law.nd (pi_tupA (K := A.K) (by rfl) (pe_fldA (K := A.K) (by rfl) (pv 3))) (blkOk_by (N := ["_law_script", "_law_pile", "_law_path_told", "_law_hall", "_law_state", "_law_lies", "_law_k", "_law_finder"]) (sc := defScope s_law) (by decide +kernel)) (fun _ _ _ _ _ => by exact (pg_name (i := 7) sc_law.nd rfl (by first | exact Or.inl rfl | exact Or.inr rfl))) (fun _ _ _ _ _ => by exact pts_nil) (fun _ _ _ _ _ => by exact (pe_fldA (K := A.K) (by rfl) (pv 7)))) (pe_lst (pa_cons pe_str pa_nil)) (nomark _)) (pw_or1 (pt_cmpR (op_neA (K := A.K) (by rfl) (hr.units)) (pe_fldA (K := A.K) (by rfl) (pe_fldA (K := A.K) (by rfl) (pv 3))) pe_str (nomark _))))) (pss_one (ps_ret pe_bl)) pss_nil)
    (pss_cons (ps_for po_cx rfl (pi_range1 rfl T.n_range (pa_cons (pe_op op_addU pe_int (pe_callS (E := WE (fun cls d _ H => E cls d H)) ok_l_take.F (hr.mono (by decide)) rfl ok_l_take.m ok_l_take.k ok_l_take.b (fun σ => passAt tk_cx σ) (pa_cons (pv 1) (pa_cons pe_int pa_nil)))) pa_nil)) (pg_name (i := 6) sc_law.nd rfl (by first | exact Or.inl rfl | exact Or.inr rfl)) (pss_cons (ps_if (pt_not (pt_truA (K := A.K) (by rfl) (pe_callS (E := WE (fun cls d _ H => E cls d H)) ok_l_stands.F (hr.mono (by decide)) rfl ok_l_stands.m ok_l_stands.k ok_l_stands.b (fun σ => passAt tk_cx σ) (pa_cons (pv 3) (pa_cons (pv 5) (pa_cons (pe_ix (ix_allA (K := A.K) (by rfl)) (pv 4) pe_int (fun _ _ => rfl)) (pa_cons (pe_ix (ix_allA (K := A.K) (by rfl)) (pv 4) pe_int (fun _ _ => rfl)) pa_nil))))) (fun _ => rfl))) (pss_one (ps_ret pe_bl)) pss_nil)
    (pss_one (ps_if (pt_not (pt_truA (K := A.K) (by rfl) (pe_callS (E := WE (fun cls d _ H => E cls d H)) ok_l_deed.F (hr.mono (by decide)) rfl ok_l_deed.m ok_l_deed.k ok_l_deed.b (fun σ => passAt tk_cx σ) (pa_cons (pe_lst (pa_cons (pe_callS (E := WE (fun cls d _ H => E cls d H)) ok_l_cell.F (hr.mono (by decide)) rfl ok_l_cell.m ok_l_cell.k ok_l_cell.b (fun σ => passAt tk_cx σ) (pa_cons (pv 0) (pa_cons (pe_op op_addU pe_int (pv 6)) pa_nil))) pa_nil)) (pa_cons (pv 3) (pa_cons (pv 5) (pa_cons (pv 4) pa_nil))))) (fun _ => rfl))) (pss_one (ps_ret pe_bl)) pss_nil))))
    (pss_one (ps_ret (pe_andA (K := A.K) (by rfl) (pe_callS (E := WE (fun cls d _ H => E cls d H)) ok_l_stands.F (hr.mono (by decide)) rfl ok_l_stands.m ok_l_stands.k ok_l_stands.b (fun σ => passAt tk_cx σ) (pa_cons (pv 3) (pa_cons (pv 5) (pa_cons (pe_ix (ix_allA (K := A.K) (by rfl)) (pv 4) pe_int (fun _ _ => rfl)) (pa_cons (pe_ix (ix_allA (K := A.K) (by rfl)) (pv 4) pe_int (fun _ _ => rfl)) pa_nil))))) (pe_one (pe_cmpR (op_eqA (K := A.K) (by rfl) (hr.units)) (pe_fldA (K := A.K) (by rfl) (pe_fldA (K := A.K) (by rfl) (pe_mkPK0 (E := WE (fun cls d _ H => E cls d H)) ok_Hall_init.ini ok_Hall_init.F (hr.mono (by decide)) rfl ok_Hall_init.m kb_Hall_init_1_check (fun σ => passAt tk_cx σ) (pk_cons pe_str pk_nil)))) pe_str (nomark _)))))))))))))), ?_⟩
  exact (dens_seq (dens_set (i := 1) (den_cel (dena_cons (den_call (dena_cons den_var (dena_cons den_int dena_nil))) dena_nil)))
    (dens_seq (dens_set (i := 2) (den_op opd_ixU (den_lst (dena_cons (den_tup dena_nil) (dena_cons (den_tup (dena_cons den_str dena_nil)) (dena_cons (den_tup (dena_cons den_str (dena_cons den_str dena_nil))) (dena_cons (den_tup (dena_cons den_str (dena_cons den_str (dena_cons den_str dena_nil)))) dena_nil))))) (den_call (dena_cons den_var (dena_cons den_int dena_nil)))))
    (dens_seq (dens_set (i := 3) (den_mkP rfl dena_nil (dena_cons den_var dena_nil)))
    (dens_seq (dens_if (dent_test (den_op opd_eq (den_call (dena_cons den_var (dena_cons den_int dena_nil))) den_int)) (dens_seq (dens_set (i := 3) (den_mkR (fun _ _ => (.cons (rep_wt0 T.w_Hall_path _ _) (.cons (.str _) .nil))) dena_nil dena_nil))
    (dens_set (i := 2) (den_tup dena_nil))) dens_next)
    (dens_seq (dens_set (i := 4) (den_cel (dena_cons den_int (dena_cons den_var dena_nil))))
    (dens_seq (dens_set (i := 5) den_tnew)
    (dens_seq (dens_if (dent_or (dent_test (den_op opd_ne (den_compX (vs := [7]) (by decide) (deni_tup (den_fld den_var)) (deng_name (i := 7)) dent_yes (den_fld den_var)) (den_lst (dena_cons den_str dena_nil)))) (dent_test (den_op opd_ne (den_fld (den_fld den_var)) den_str))) (dens_ret den_bl) dens_next)
    (dens_seq (dens_for (deni_rng1 (dena_cons (den_op opd_add den_int (den_call (dena_cons den_var (dena_cons den_int dena_nil)))) dena_nil)) (deng_name (i := 6)) (dens_seq (dens_if (dent_not (dent_truU (den_call (dena_cons den_var (dena_cons den_var (dena_cons (den_op opd_ixU den_var den_int) (dena_cons (den_op opd_ixU den_var den_int) dena_nil))))))) (dens_ret den_bl) dens_next)
    (dens_if (dent_not (dent_truU (den_call (dena_cons (den_cel (dena_cons (den_call (dena_cons den_var (dena_cons (den_op opd_add den_int den_var) dena_nil))) dena_nil)) (dena_cons den_var (dena_cons den_var (dena_cons den_var dena_nil))))))) (dens_ret den_bl) dens_next)))
    (dens_ret (den_and (den_call (dena_cons den_var (dena_cons den_var (dena_cons (den_op opd_ixU den_var den_int) (dena_cons (den_op opd_ixU den_var den_int) dena_nil))))) (den_op opd_eq (den_fld (den_fld (den_mkR (fun _ _ => (.cons (rep_wt0 T.w_Hall_path _ _) .nil)) dena_nil (dena_cons den_str dena_nil)))) den_str)))))))))))


end
end K21

/-! what the defs do that many laws share: parts, names, drawn numbers -/
namespace PU
section
open PySem PySem.Spec L2 DL
def F_is_part (A : Amb) : DL.Env → M → S :=
  (sSeq (sIf (bOr (bNot (eTest asTru (eCall isiD (aCons (eVar 0) (aCons (eC (.ob (.ty "str"))) aNil))))) (eTest asBl (eOp (cmpD fun i j => decide (j < i)) (eCall (lenD A) (aCons (eVar 0) aNil)) (eC (.int 8))))) (sRet (eC (.bl false))) sNext)
    (sRet (eAnd (eMt isStr (askD Txt.isascii) (eVar 0) aNil) (eAnd (eMt isStr (askD Txt.isalpha) (eVar 0) aNil) (eMt isStr (askD Txt.islower) (eVar 0) aNil)))))
def G_is_part (A : Amb) : List D → M → R D := bodyD 1 (F_is_part A)
def F_is_name (A : Amb) : DL.Env → M → S :=
  (sSeq (sIf (bNot (eTest asTru (eCall isiD (aCons (eVar 0) (aCons (eC (.ob (.ty "str"))) aNil))))) (sRet (eC (.bl false))) sNext)
    (sSeq (sSet 1 (eMt isStr splitD (eVar 0) (aCons (eC (.str ".")) aNil)))
    (sRet (eAnd (eOp (cmpD fun i j => decide (i ≤ j)) (eCall (lenD A) (aCons (eVar 1) aNil)) (eC (.int 4))) (eCall (quantD fun bs => bs.all id) (aCons (eComp okL [2] (iIt asLst (eVar 1)) (gSet 2) bYes (eCall (fun ds m => if ds.length = 1 then G_is_part A ds m else .no) (aCons (eVar 2) aNil))) aNil))))))
def G_is_name (A : Amb) : List D → M → R D := bodyD 3 (F_is_name A)
def F_elder_of (A : Amb) : DL.Env → M → S :=
  (sRet (eOr (eOp ixD (eMt isStr rparD (eVar 0) (aCons (eC (.str ".")) aNil)) (eC (.int 0))) (eC .non)))
def G_elder_of (A : Amb) : List D → M → R D := bodyD 1 (F_elder_of A)
def F_last_of (A : Amb) : DL.Env → M → S :=
  (sRet (eOp ixD (eMt isStr rparD (eVar 0) (aCons (eC (.str ".")) aNil)) (eC (.int 2))))
def G_last_of (A : Amb) : List D → M → R D := bodyD 1 (F_last_of A)
def F_elders (A : Amb) : DL.Env → M → S :=
  (sSeq (sSet 1 (eMt isStr splitD (eVar 0) (aCons (eC (.str ".")) aNil)))
    (sRet (eComp okC [2] (iArgs rng2 (aCons (eC (.int 1)) (aCons (eOp addD (eCall (lenD A) (aCons (eVar 1) aNil)) (eC (.int 1))) aNil))) (gSet 2) bYes (eMt isStr joinD (eC (.str ".")) (aCons (eSl slD (eVar 1) oNone (oSome (eVar 2))) aNil)))))
def G_elders (A : Amb) : List D → M → R D := bodyD 3 (F_elders A)
def F_l_mixed (A : Amb) : DL.Env → M → S :=
  (sSeq (sSet 2 (eOp modD (eOp addD (eOp addD (eOp mulD (eOp modD (eVar 0) (eC (.int 2147483647))) (eC (.int 48271))) (eOp mulD (eVar 1) (eC (.int 69621)))) (eC (.int 1048583))) (eC (.int 2147483629))))
    (sSeq (sSet 2 (eOp modD (eOp mulD (eVar 2) (eVar 2)) (eC (.int 2147483587))))
    (sRet (eOp modD (eOp mulD (eVar 2) (eOp addD (eVar 2) (eC (.int 2)))) (eC (.int 2147483579))))))
def G_l_mixed (A : Amb) : List D → M → R D := bodyD 3 (F_l_mixed A)
def F_l_cell (A : Amb) : DL.Env → M → S :=
  (sSeq (sSet 2 (eC (.int 0)))
    (sSeq (sIf (eTest asBl (eOp (cmpD fun i j => decide (i < j)) (eVar 1) (eCall (lenD A) (aCons (eVar 0) aNil)))) (sSet 2 (eOp (ixScr A) (eVar 0) (eVar 1))) sNext)
    (sSeq (sIf (eTest asBl (eOp (cmpD fun i j => decide (j ≤ i)) (eVar 2) (eOp powD (eC (.int 10)) (eC (.int 18))))) (sRet (eOp modD (eOp subD (eVar 2) (eOp powD (eC (.int 10)) (eC (.int 18)))) (eOp mulD (eOp mulD (eOp mulD (eOp powD (eC (.int 10)) (eC (.int 60))) (eOp powD (eC (.int 10)) (eC (.int 60)))) (eOp powD (eC (.int 10)) (eC (.int 60)))) (eOp powD (eC (.int 10)) (eC (.int 60)))))) sNext)
    (sSeq (sSet 3 (eC (.int 0)))
    (sSeq (sFor (iArgs rng1 (aCons (eC (.int 24)) aNil)) (gSet 4) (sSet 3 (eOp addD (eOp mulD (eVar 3) (eC (.int 2147483579))) (eCall (fun ds m => if ds.length = 2 then G_l_mixed A ds m else .no) (aCons (eVar 2) (aCons (eOp addD (eOp addD (eOp mulD (eC (.int 7)) (eVar 1)) (eOp mulD (eC (.int 100)) (eVar 4))) (eOp mulD (eVar 4) (eVar 4))) aNil))))))
    (sRet (eVar 3)))))))
def G_l_cell (A : Amb) : List D → M → R D := bodyD 5 (F_l_cell A)
def F_l_take (A : Amb) : DL.Env → M → S :=
  (sSeq (sSet 2 (eOp modD (eOp ixD (eVar 0) (eC (.int 0))) (eVar 1)))
    (sSeq (sSetIx (eOp divD (eOp ixD (eVar 0) (eC (.int 0))) (eVar 1)) (eVar 0) (eC (.int 0)))
    (sRet (eVar 2))))
def G_l_take (A : Amb) : List D → M → R D := bodyD 3 (F_l_take A)
def F_l_part_drawn (A : Amb) : DL.Env → M → S :=
  (sSeq (sSet 1 (eCall (fun ds m => if ds.length = 2 then G_l_take A ds m else .no) (aCons (eVar 0) (aCons (eC (.int 5)) aNil))))
    (sSeq (sIf (eTest asBl (eOp (cmpD fun i j => decide (i < j)) (eVar 1) (eC (.int 3)))) (sRet (eOp ixD (eCall mkL (aCons (eC (.str "a")) (aCons (eC (.str "b")) (aCons (eC (.str "ab")) aNil)))) (eVar 1))) sNext)
    (sSeq (sSet 2 (eOp addD (eC (.int 1)) (eCall (fun ds m => if ds.length = 2 then G_l_take A ds m else .no) (aCons (eVar 0) (aCons (eC (.int 8)) aNil)))))
    (sRet (eMt isStr joinD (eC (.str "")) (aCons (eComp okL [3] (iArgs rng1 (aCons (eVar 2) aNil)) (gSet 3) bYes (eOp ixD (eC (.str "abcdefghijklmnopqrstuvwxyz")) (eCall (fun ds m => if ds.length = 2 then G_l_take A ds m else .no) (aCons (eVar 0) (aCons (eC (.int 26)) aNil))))) aNil))))))
def G_l_part_drawn (A : Amb) : List D → M → R D := bodyD 4 (F_l_part_drawn A)
def F_l_name_drawn (A : Amb) : DL.Env → M → S :=
  (sRet (eMt isStr joinD (eC (.str ".")) (aCons (eComp okL [2] (iArgs rng1 (aCons (eOp addD (eC (.int 1)) (eCall (fun ds m => if ds.length = 2 then G_l_take A ds m else .no) (aCons (eVar 0) (aCons (eVar 1) aNil)))) aNil)) (gSet 2) bYes (eCall (fun ds m => if ds.length = 1 then G_l_part_drawn A ds m else .no) (aCons (eVar 0) aNil))) aNil)))
def G_l_name_drawn (A : Amb) : List D → M → R D := bodyD 3 (F_l_name_drawn A)
def F_l_is_part (A : Amb) : DL.Env → M → S :=
  (sSeq (sIf (bOr (bNot (eTest asTru (eCall isiD (aCons (eVar 0) (aCons (eC (.ob (.ty "str"))) aNil))))) (bOr (eTest asBl (eOp (eqD false) (eVar 0) (eC (.str "")))) (eTest asBl (eOp (cmpD fun i j => decide (j < i)) (eCall (lenD A) (aCons (eVar 0) aNil)) (eC (.int 8)))))) (sRet (eC (.bl false))) sNext)
    (sRet (eCall (quantD fun bs => bs.all id) (aCons (eComp okL [1] (iIt asStr (eVar 0)) (gSet 1) bYes (eOp (inDS false) (eVar 1) (eC (.str "abcdefghijklmnopqrstuvwxyz")))) aNil))))
def G_l_is_part (A : Amb) : List D → M → R D := bodyD 2 (F_l_is_part A)
def F_l_is_name (A : Amb) : DL.Env → M → S :=
  (sSeq (sIf (bOr (bNot (eTest asTru (eCall isiD (aCons (eVar 0) (aCons (eC (.ob (.ty "str"))) aNil))))) (eTest asBl (eOp (cmpD fun i j => decide (j < i)) (eMt isStr countD (eVar 0) (aCons (eC (.str ".")) aNil)) (eC (.int 3))))) (sRet (eC (.bl false))) sNext)
    (sRet (eCall (quantD fun bs => bs.all id) (aCons (eComp okL [1] (iIt asLst (eMt isStr splitD (eVar 0) (aCons (eC (.str ".")) aNil))) (gSet 1) bYes (eCall (fun ds m => if ds.length = 1 then G_l_is_part A ds m else .no) (aCons (eVar 1) aNil))) aNil))))
def G_l_is_name (A : Amb) : List D → M → R D := bodyD 2 (F_l_is_name A)
end

open PySem PySem.Spec L2 DL
theorem size_big : (1000000 : Nat) ≤ sizeLine := by rw [sizeLine_eq]; decide
section
variable {A : Amb} {m : M}
/-! is_part -/
theorem is_part_str {x : Str} (h : x.length ≤ 1000) : G_is_part A [.str x] m = .ok (.bl (partB x)) m := by
  have hz : x.length ≤ sizeLine := Nat.le_trans h (Nat.le_trans (by decide) size_big)
  have e := asc3 x
  unfold G_is_part F_is_part
  rw [bodyD_ap]
  simp [lenD_str (m := m) (A := A) hz]
  by_cases h8 : x.length ≤ 8
  · rw [if_neg (show ¬ (8 : Int) < (x.length : Int) by omega)]
    simp
    unfold partB
    rw [decide_eq_true h8, Bool.true_and, ← e]
    cases Txt.isascii x <;> cases Txt.isalpha x <;> cases Txt.islower x <;> simp
  · rw [if_pos (show (8 : Int) < (x.length : Int) by omega)]
    simp
    unfold partB
    rw [decide_eq_false h8]
    simp
/-- what is no text -/
inductive Odd : D → Prop
  | non : Odd .non
  | bl (b : Bool) : Odd (.bl b)
  | int (i : Int) : Odd (.int i)
  | lst (ds : List D) : Odd (.lst ds)
  | tup (ds : List D) : Odd (.tup ds)
theorem is_part_odd {d : D} (h : Odd d) : G_is_part A [d] m = .ok (.bl false) m := by
  unfold G_is_part F_is_part
  rw [bodyD_ap]
  cases h <;> simp
/-! is_name -/
def nameB (x : Str) : Bool := decide ((Txt.split x ".").length ≤ 4) && (Txt.split x ".").all partB
theorem split_sum {x : Str} : ∀ p ∈ Txt.split x ".", p.length ≤ x.length := by
  intro p hp
  have hy : TL.tl ("." : Str) ≠ [] := by rw [tl_dot]; simp
  have e := TL.split_spl x "." hy (TL.kind_ok dot_kind)
  have hm : TL.tl p ∈ (Txt.split x ".").map TL.tl := List.mem_map.mpr ⟨p, hp, rfl⟩
  rw [e] at hm
  have key : ∀ (S : List Nat) (k : Nat) (acc l : List Nat) (q : List Nat), q ∈ TL.spl S k acc l → q.length ≤ acc.length + l.length := by
    intro S k acc l
    induction l generalizing k acc with
    | nil =>
      intro q hq
      rw [TL.spl_nil] at hq
      rw [List.mem_singleton.mp hq]
      simp
    | cons c r ih =>
      intro q hq
      cases k with
      | zero =>
        cases hp : TL.pre S (c :: r) with
        | true =>
          rw [TL.spl_hit hp] at hq
          rcases List.mem_cons.mp hq with e | hq
          · rw [e]; simp
          · have := ih _ _ q hq
            simp at this ⊢
            omega
        | false =>
          rw [TL.spl_miss hp] at hq
          have := ih _ _ q hq
          simp at this ⊢
          omega
      | succ k =>
        have hq : q ∈ TL.spl S k acc r := hq
        have := ih _ _ q hq
        simp at this ⊢
        omega
  have := key _ _ _ _ _ hm
  rw [TL.len_tl, TL.len_tl]
  simpa using this
theorem split_len_le (x : Str) : (Txt.split x ".").length ≤ x.length + 1 := by
  have hy : TL.tl ("." : Str) ≠ [] := by rw [tl_dot]; simp
  have e := congrArg List.length (TL.split_spl x "." hy (TL.kind_ok dot_kind))
  rw [List.length_map] at e
  rw [e, TL.len_tl x]
  have key : ∀ (S : List Nat) (k : Nat) (acc l : List Nat), (TL.spl S k acc l).length ≤ l.length + 1 := by
    intro S k acc l
    induction l generalizing k acc with
    | nil => rw [TL.spl_nil]; simp
    | cons c r ih =>
      cases k with
      | zero =>
        cases hp : TL.pre S (c :: r) with
        | true => rw [TL.spl_hit hp]; have := ih (S.length - 1) []; simp; omega
        | false => rw [TL.spl_miss hp]; have := ih 0 (acc ++ [c]); simp; omega
      | succ k => have := ih k acc; show (TL.spl S k acc r).length ≤ _; simp; omega
  exact key _ _ _ _
theorem fold_bl (ps : List Str) : (txs ps).map (fun d => match d with | .str p => D.bl (partB p) | d => d) = (ps.map partB).map D.bl := by
  induction ps with
  | nil => rfl
  | cons p ps ih => show D.bl (partB p) :: (txs ps).map _ = _; rw [ih]; rfl
theorem all_id (ps : List Str) (f : Str → Bool) : (ps.map f).all id = ps.all f := by
  induction ps with
  | nil => rfl
  | cons p ps ih => simp [List.all_cons, ih]
theorem txs_len (ps : List Str) : (txs ps).length = ps.length := by simp [txs]
theorem mem_txs {ps : List Str} {d : D} (h : d ∈ txs ps) : ∃ p ∈ ps, d = .str p := by
  obtain ⟨p, hp, e⟩ := List.mem_map.mp h
  exact ⟨p, hp, e.symm⟩
theorem is_name_str {x : Str} (h : x.length ≤ 1000) : G_is_name A [.str x] m = .ok (.bl (nameB x)) m := by
  have hz : x.length + 2 ≤ sizeLine := Nat.le_trans (by omega) size_big
  have hs := split_len_le x
  unfold G_is_name F_is_name
  rw [bodyD_ap]
  simp [splitD_ap (m := m) (x := x) (y := ".") ⟨by rw [dot_len]; decide, hz⟩, txs_len]
  unfold nameB
  by_cases h4 : (Txt.split x ".").length ≤ 4
  · rw [decide_eq_true h4]
    simp
    rw [comp_set (k := fun d => match d with | .str p => D.bl (partB p) | d => d) (by rw [txs_len]; exact Nat.le_trans (by omega) size_big) (fun d hd => by
      obtain ⟨p, hp, rfl⟩ := mem_txs hd
      have := split_sum p hp
      simp [is_part_str (A := A) (m := m) (x := p) (by omega)])]
    rw [if_pos (show ((Txt.split x ".").length : Int) ≤ 4 by omega)]
    simp [fold_bl, quantD_comp, all_id]
  · rw [if_neg (show ¬ ((Txt.split x ".").length : Int) ≤ 4 by omega), decide_eq_false h4]
    simp
    omega
theorem is_name_odd {d : D} (h : Odd d) : G_is_name A [d] m = .ok (.bl false) m := by
  unfold G_is_name F_is_name
  rw [bodyD_ap]
  cases h <;> simp
/-! the law's own -/
theorem signs_bl (x : Str) : (signsD x).map (fun d => match d with | .str p => D.bl (match p.cps.toList with | [c] => low c | _ => false) | d => d) = (x.cps.toList.map low).map D.bl := by
  simp [signsD]
theorem all_id' {α : Type} (ps : List α) (f : α → Bool) : (ps.map f).all id = ps.all f := by
  induction ps with
  | nil => rfl
  | cons p ps ih => simp [List.all_cons, ih]
theorem empty_dec {x : Str} : x = ("" : Str) ↔ x.length = 0 := by
  constructor
  · rintro rfl; decide +kernel
  · intro h
    refine TL.ext_tl ?_
    have e : TL.tl ("" : Str) = [] := by decide +kernel
    rw [e]
    exact List.eq_nil_of_length_eq_zero (by rw [← TL.len_tl]; exact h)
theorem l_is_part_str {x : Str} (h : x.length ≤ 1000) : G_l_is_part A [.str x] m = .ok (.bl (partB x)) m := by
  have hz : x.length ≤ sizeLine := Nat.le_trans h (Nat.le_trans (by decide) size_big)
  unfold G_l_is_part F_l_is_part partB
  rw [bodyD_ap]
  by_cases h0 : x.length = 0
  · simp [lenD_str (m := m) (A := A) hz, empty_dec, h0]
  · by_cases h8 : x.length ≤ 8
    · have h8' : ¬ (8 : Int) < (x.length : Int) := by omega
      simp [lenD_str (m := m) (A := A) hz, empty_dec, h0, h8']
      rw [comp_set (k := fun d => match d with | .str p => D.bl (match p.cps.toList with | [c] => low c | _ => false) | d => d) (by simp [signsD, ← len_tl]; exact hz) (fun d hd => by
        obtain ⟨c, hc, rfl⟩ := List.mem_map.mp hd
        have ha := abc_mem c
        simp only [Array.mem_toList_iff] at ha
        simp [inDS, ha])]
      rw [R.bindS_ok, okL_ap, signs_bl]
      simp [quantD_comp, all_id']
      rw [decide_eq_true (show 1 ≤ x.length by omega), decide_eq_true h8]
      simp
    · have h8' : (8 : Int) < (x.length : Int) := by omega
      simp [lenD_str (m := m) (A := A) hz, empty_dec, h0, h8', h8]
theorem l_is_part_odd {d : D} (h : Odd d) : G_l_is_part A [d] m = .ok (.bl false) m := by
  unfold G_l_is_part F_l_is_part
  rw [bodyD_ap]
  cases h <;> simp
theorem l_is_name_str {x : Str} (h : x.length ≤ 1000) : G_l_is_name A [.str x] m = .ok (.bl (nameB x)) m := by
  have hz : x.length + 2 ≤ sizeLine := Nat.le_trans (by omega) size_big
  have hs := split_len_le x
  have hc := split_count (x := x) (y := ".") (by rw [tl_dot]; simp) dot_kind
  unfold G_l_is_name F_l_is_name nameB
  rw [bodyD_ap]
  by_cases h4 : (Txt.split x ".").length ≤ 4
  · have h4' : ¬ (3 : Int) < Txt.count x "." := by omega
    simp [splitD_ap (m := m) (x := x) (y := ".") ⟨by rw [dot_len]; decide, hz⟩, h4', h4]
    rw [comp_set (k := fun d => match d with | .str p => D.bl (partB p) | d => d) (by rw [txs_len]; exact Nat.le_trans (by omega) size_big) (fun d hd => by
      obtain ⟨p, hp, rfl⟩ := mem_txs hd
      have := split_sum p hp
      simp [l_is_part_str (A := A) (m := m) (x := p) (by omega)])]
    simp [fold_bl, quantD_comp, all_id]
  · have h4' : (3 : Int) < Txt.count x "." := by omega
    simp [h4', h4]
theorem l_is_name_odd {d : D} (h : Odd d) : G_l_is_name A [d] m = .ok (.bl false) m := by
  unfold G_l_is_name F_l_is_name
  rw [bodyD_ap]
  cases h <;> simp
/-- a thing of which is told -/
def Thing (d : D) : Prop := (∃ x, d = .str x ∧ x.length ≤ 1000) ∨ Odd d
end

open PySem PySem.Spec L2 DL
section
variable {A : Amb} {m : M}
theorem rng1_ap {j : Int} (h : -(2 ^ 62) ≤ j ∧ j < 2 ^ 62) : rng1 [.int j] m = .ok (intsD 0 j.toNat) m := if_pos h
theorem rng2_ap {i j : Int} (h : -(2 ^ 62) ≤ i ∧ i < 2 ^ 62 ∧ -(2 ^ 62) ≤ j ∧ j < 2 ^ 62) : rng2 [.int i, .int j] m = .ok (intsD i (j - i).toNat) m := if_pos h
/-! numbers -/
theorem lgN {i : Int} {a : Nat} (h0 : 0 < a) (h : i.natAbs < 2 ^ a) : i.natAbs.log2 < a := PySem.Flt.log2_lt_of h0 h
theorem mulZ {i j : Int} {a b : Nat} (ha : i.natAbs < 2 ^ a) (hb : j.natAbs < 2 ^ b) (h0 : 0 < a) (h1 : 0 < b) (h : a + b ≤ 1000000) : mulD (.int i) (.int j) m = .ok (.int (i * j)) m := by
  refine mulD_int m ?_
  have x := lgN h0 ha
  have y := lgN h1 hb
  omega
def P31 : Nat := 2 ^ 31
theorem mixed {c k : Int} (hk : k.natAbs < 2 ^ 60) : ∃ r, G_l_mixed A [.int c, .int k] m = .ok (.int r) m ∧ 0 ≤ r ∧ r < 2 ^ 31 := by
  have a0 : 0 ≤ c % 2147483647 := Int.emod_nonneg _ (by decide)
  have a1 : c % 2147483647 < 2147483647 := Int.emod_lt_of_pos _ (by decide)
  have h1 : (c % 2147483647).natAbs < 2 ^ 31 := by omega
  generalize hn : (c % 2147483647 * 48271 + k * 69621 + 1048583) % 2147483629 = n
  have b0 : 0 ≤ n := by rw [← hn]; exact Int.emod_nonneg _ (by decide)
  have b1 : n < 2147483629 := by rw [← hn]; exact Int.emod_lt_of_pos _ (by decide)
  have h2 : n.natAbs < 2 ^ 31 := by omega
  generalize hq : n * n % 2147483587 = q
  have c0 : 0 ≤ q := by rw [← hq]; exact Int.emod_nonneg _ (by decide)
  have c1 : q < 2147483587 := by rw [← hq]; exact Int.emod_lt_of_pos _ (by decide)
  have h3 : q.natAbs < 2 ^ 31 := by omega
  have h4 : (q + 2).natAbs < 2 ^ 32 := by omega
  refine ⟨q * (q + 2) % 2147483579, ?_, Int.emod_nonneg _ (by decide), by have := Int.emod_lt_of_pos (q * (q + 2)) (show (0 : Int) < 2147483579 by decide); omega⟩
  unfold G_l_mixed F_l_mixed
  rw [bodyD_ap]
  simp [modD_int (m := m) (j := 2147483647) (by decide), modD_int (m := m) (j := 2147483629) (by decide), modD_int (m := m) (j := 2147483587) (by decide), modD_int (m := m) (j := 2147483579) (by decide),
    mulZ (m := m) h1 (show (48271 : Int).natAbs < 2 ^ 16 by decide) (by decide) (by decide) (by decide), mulZ (m := m) hk (show (69621 : Int).natAbs < 2 ^ 17 by decide) (by decide) (by decide) (by decide), hn,
    mulZ (m := m) h2 h2 (by decide) (by decide) (by decide), hq, mulZ (m := m) h3 h4 (by decide) (by decide) (by decide)]
/-! a cell of the script -/
theorem pow18 : powD (.int 10) (.int 18) m = .ok (.int 1000000000000000000) m := powD_int m ⟨by decide, by decide, by decide⟩
theorem pow60 : powD (.int 10) (.int 60) m = .ok (.int 1000000000000000000000000000000000000000000000000000000000000) m := powD_int m ⟨by decide, by decide, by decide⟩
theorem big2 : mulD (.int 1000000000000000000000000000000000000000000000000000000000000) (.int 1000000000000000000000000000000000000000000000000000000000000) m = .ok (.int 1000000000000000000000000000000000000000000000000000000000000000000000000000000000000000000000000000000000000000000000000) m := mulZ (a := 200) (b := 200) (by decide +kernel) (by decide +kernel) (by decide) (by decide) (by decide)
theorem big3 : mulD (.int 1000000000000000000000000000000000000000000000000000000000000000000000000000000000000000000000000000000000000000000000000) (.int 1000000000000000000000000000000000000000000000000000000000000) m = .ok (.int 1000000000000000000000000000000000000000000000000000000000000000000000000000000000000000000000000000000000000000000000000000000000000000000000000000000000000000000000000000000000000) m := mulZ (a := 400) (b := 200) (by decide +kernel) (by decide +kernel) (by decide) (by decide) (by decide)
theorem big4 : mulD (.int 1000000000000000000000000000000000000000000000000000000000000000000000000000000000000000000000000000000000000000000000000000000000000000000000000000000000000000000000000000000000000) (.int 1000000000000000000000000000000000000000000000000000000000000) m = .ok (.int 1000000000000000000000000000000000000000000000000000000000000000000000000000000000000000000000000000000000000000000000000000000000000000000000000000000000000000000000000000000000000000000000000000000000000000000000000000000000000000000000000) m := mulZ (a := 600) (b := 200) (by decide +kernel) (by decide +kernel) (by decide) (by decide) (by decide)
def cellEnv (k c f : Int) (j : Option D) : DL.Env := [some .scr, some (.int k), some (.int c), some (.int f), j]
theorem cell {k : Nat} (hk : k ≤ 100) : ∃ n, G_l_cell A [.scr, .int (k : Int)] m = .ok (.int n) m := by
  obtain ⟨c, hc⟩ : ∃ c : Int, (if (k : Int) < (A.ns.length : Int) then ixScr A .scr (.int k) m else .ok (.int 0) m) = .ok (.int c) m := by
    by_cases h : (k : Int) < (A.ns.length : Int)
    · rw [if_pos h]
      have hl : k < A.ns.length := by omega
      refine ⟨A.ns[k], ?_⟩
      have e : atI A.ns (k : Int) = some A.ns[k] := by
        unfold atI ixN
        rw [if_pos (by omega), if_pos (by omega)]
        simp
      show (match atI A.ns (k : Int) with | some n => R.ok (D.int n) m | none => R.no) = _
      rw [e]
    · rw [if_neg h]; exact ⟨0, rfl⟩
  by_cases hbig : (1000000000000000000 : Int) ≤ c
  · refine ⟨(c - 1000000000000000000) % 1000000000000000000000000000000000000000000000000000000000000000000000000000000000000000000000000000000000000000000000000000000000000000000000000000000000000000000000000000000000000000000000000000000000000000000000000000000000000000000000000, ?_⟩
    unfold G_l_cell F_l_cell
    rw [bodyD_ap]
    by_cases h : (k : Int) < (A.ns.length : Int)
    · rw [if_pos h] at hc
      have h' : k < A.ns.length := by omega
      simp [h, h', hc, pow18, pow60, big2, big3, big4, hbig, modD_int (m := m) (j := 1000000000000000000000000000000000000000000000000000000000000000000000000000000000000000000000000000000000000000000000000000000000000000000000000000000000000000000000000000000000000000000000000000000000000000000000000000000000000000000000000) (by decide +kernel)]
    · rw [if_neg h] at hc
      injection hc with h1
      injection h1 with h1
      rw [← h1] at hbig
      exact absurd hbig (by decide)
  · -- the mixed one
    have hloop : ∃ env2 m2, loopD (gSet 4) (sSet 3 (eOp addD (eOp mulD (eVar 3) (eC (.int 2147483579))) (eCall (fun ds m => if ds.length = 2 then G_l_mixed A ds m else .no) (aCons (eVar 2) (aCons (eOp addD (eOp addD (eOp mulD (eC (.int 7)) (eVar 1)) (eOp mulD (eC (.int 100)) (eVar 4))) (eOp mulD (eVar 4) (eVar 4))) aNil))))) (intsD 0 24) (cellEnv k c 0 none) m = .nx env2 m2 ∧
        ∃ f j, env2 = cellEnv k c f j ∧ 0 ≤ f ∧ f < 2 ^ (32 * (0 + (intsD 0 24).length)) ∧ m2 = m := by
      refine loop_inv (I := fun i env m' => ∃ f j, env = cellEnv k c f j ∧ 0 ≤ f ∧ f < 2 ^ (32 * i) ∧ m' = m) (intsD 0 24) 0 _ m ⟨0, none, rfl, by decide, by decide, rfl⟩ ?_
      rintro j d env m' hj ⟨f, jv, rfl, f0, f1, rfl⟩
      obtain ⟨hjl, hd⟩ := List.getElem?_eq_some_iff.mp hj
      have hjl : j < 24 := by simpa [intsD] using hjl
      have hd : d = .int (j : Int) := by
        rw [← hd]; simp [intsD]
      subst hd
      have e7 : ((7 * (k : Int) + 100 * (j : Int) + (j : Int) * (j : Int))).natAbs < 2 ^ 60 := by
        have h1 : (j : Int) * (j : Int) ≤ 24 * 24 := Int.mul_le_mul (by omega) (by omega) (by omega) (by omega)
        have h2 : (0 : Int) ≤ (j : Int) * (j : Int) := Int.mul_nonneg (by omega) (by omega)
        omega
      obtain ⟨r, hr, r0, r1⟩ := mixed (A := A) (m := m') (c := c) e7
      have f2 : f.natAbs < 2 ^ 768 := by
        have h1 : (2 : Int) ^ (32 * (0 + j)) ≤ 2 ^ 768 := by
          have : (2 : Nat) ^ (32 * (0 + j)) ≤ 2 ^ 768 := Nat.pow_le_pow_right (by decide) (by omega)
          exact_mod_cast this
        have h2 : f < 2 ^ 768 := by omega
        have h3 : ((2 ^ 768 : Nat) : Int) = 2 ^ 768 := by norm_cast
        omega
      have hm1 : mulD (.int f) (.int 2147483579) m' = .ok (.int (f * 2147483579)) m' := mulZ (a := 768) (b := 32) f2 (by decide) (by decide) (by decide) (by decide)
      have hm2 : mulD (.int 7) (.int (k : Int)) m' = .ok (.int (7 * (k : Int))) m' := mulZ (a := 4) (b := 8) (by decide) (by omega) (by decide) (by decide) (by decide)
      have hm3 : mulD (.int 100) (.int (j : Int)) m' = .ok (.int (100 * (j : Int))) m' := mulZ (a := 8) (b := 8) (by decide) (by omega) (by decide) (by decide) (by decide)
      have hm4 : mulD (.int (j : Int)) (.int (j : Int)) m' = .ok (.int ((j : Int) * (j : Int))) m' := mulZ (a := 8) (b := 8) (by omega) (by omega) (by decide) (by decide) (by decide)
      refine ⟨_, _, m', rfl, ?_, f * 2147483579 + r, some (.int (j : Int)), rfl, ?_, ?_, rfl⟩
      · simp [cellEnv, hm1, hm2, hm3, hm4, hr]
      · have := Int.mul_nonneg f0 (show (0 : Int) ≤ 2147483579 by decide)
        omega
      · have e : (2 : Int) ^ (32 * (0 + j + 1)) = 2 ^ (32 * (0 + j)) * 2 ^ 32 := by
          rw [show 32 * (0 + j + 1) = 32 * (0 + j) + 32 by omega, Int.pow_add]
        rw [e]
        generalize (2 : Int) ^ (32 * (0 + j)) = q at f1
        have : (2 : Int) ^ 31 = 2147483648 := by decide
        have : (2 : Int) ^ 32 = 4294967296 := by decide
        omega
    obtain ⟨env2, m2, hl, f, j, rfl, f0, f1, rfl⟩ := hloop
    refine ⟨f, ?_⟩
    unfold G_l_cell F_l_cell
    rw [bodyD_ap]
    have h24 : rng1 [.int 24] m2 = .ok (intsD 0 24) m2 := rng1_ap (j := 24) (by decide)
    by_cases h : (k : Int) < (A.ns.length : Int)
    · rw [if_pos h] at hc
      have h' : k < A.ns.length := by omega
      simp [h, h', hc, pow18, hbig, h24]
      unfold cellEnv at hl
      rw [hl]
      simp
    · rw [if_neg h] at hc
      injection hc with h1
      injection h1 with h1
      subst h1
      have h' : ¬ k < A.ns.length := by omega
      simp [h, h', pow18, h24]
      unfold cellEnv at hl
      rw [hl]
      simp
theorem ixD_cell {k : Nat} {i : Int} {ds : List D} {d : D} (h : seqOf (.cell k) m = some ds) (e : atI ds i = some d) : ixD (.cell k) (.int i) m = .ok d m := by
  show (match seqOf (.cell k) m with | some ds => (match atI ds i with | some d => R.ok d m | none => R.no) | none => R.no) = _
  rw [h]
  show (match atI ds i with | some d => R.ok d m | none => R.no) = _
  rw [e]
theorem ixD_lst {i : Int} {ds : List D} {d : D} (e : atI ds i = some d) : ixD (.lst ds) (.int i) m = .ok d m := by
  show (match atI ds i with | some d => R.ok d m | none => R.no) = _
  rw [e]
theorem ixD_tup {i : Int} {ds : List D} {d : D} (e : atI ds i = some d) : ixD (.tup ds) (.int i) m = .ok d m := by
  show (match atI ds i with | some d => R.ok d m | none => R.no) = _
  rw [e]
theorem ixD_str {i : Int} {x : Str} {c : Nat} (hl : x.length ≤ sizeLine) (e : atI x.cps.toList i = some c) : ixD (.str x) (.int i) m = .ok (.str ⟨#[c]⟩) m := by
  show (if x.length ≤ sizeLine then (match atI x.cps.toList i with | some c => R.ok (D.str ⟨#[c]⟩) m | none => R.no) else R.no) = _
  rw [if_pos hl, e]
theorem atI_nat {α : Type} {xs : List α} {i : Nat} {x : α} (h : xs[i]? = some x) : atI xs (i : Int) = some x := by
  have hl := (List.getElem?_eq_some_iff.mp h).1
  unfold atI ixN
  rw [if_pos (by omega), if_pos (by omega)]
  simpa using h
theorem atI_int {α : Type} {xs : List α} {i : Int} (h0 : 0 ≤ i) (h1 : i < xs.length) : ∃ x, xs[i.toNat]? = some x ∧ atI xs i = some x := by
  have hl : i.toNat < xs.length := by omega
  refine ⟨xs[i.toNat], List.getElem?_eq_getElem hl, ?_⟩
  have := atI_nat (i := i.toNat) (List.getElem?_eq_getElem hl)
  rwa [Int.toNat_of_nonneg h0] at this
/-! the pile -/
def Pl (j : Nat) (m : M) : Prop := ∃ n, m[j]? = some (.lst [.int n])
/-- m' is m but for the pile at j -/
def Ch (j : Nat) (m m' : M) : Prop := ∃ n, m' = m.set j (.lst [.int n])
theorem Pl.lt {j : Nat} {m : M} (h : Pl j m) : j < m.length := by
  obtain ⟨n, h⟩ := h
  exact (List.getElem?_eq_some_iff.mp h).1
theorem Ch.pl {j : Nat} {m m' : M} (h : Ch j m m') (hp : Pl j m) : Pl j m' := by
  obtain ⟨n, rfl⟩ := h
  exact ⟨n, List.getElem?_set_self hp.lt⟩
theorem Ch.trans {j : Nat} {m m1 m2 : M} (a : Ch j m m1) (b : Ch j m1 m2) : Ch j m m2 := by
  obtain ⟨n, rfl⟩ := a
  obtain ⟨n', rfl⟩ := b
  exact ⟨n', by rw [List.set_set]⟩
theorem Ch.refl {j : Nat} {m : M} (h : Pl j m) : Ch j m m := by
  obtain ⟨n, h⟩ := h
  obtain ⟨hl, e⟩ := List.getElem?_eq_some_iff.mp h
  exact ⟨n, by rw [← e, List.set_getElem_self]⟩
theorem take {j : Nat} {s : Int} (hp : Pl j m) (h0 : 0 < s) (h1 : s < 2 ^ 31) : ∃ r m', G_l_take A [.cell j, .int s] m = .ok (.int r) m' ∧ 0 ≤ r ∧ r < s ∧ Ch j m m' := by
  obtain ⟨n, h⟩ := hp
  have hd : 0 < s ∧ s.natAbs.log2 < 9000 := ⟨h0, Nat.lt_trans (lgN (a := 32) (by decide) (by omega)) (by decide)⟩
  refine ⟨n % s, m.set j (.lst [.int (n / s)]), ?_, Int.emod_nonneg _ (by omega), Int.emod_lt_of_pos _ h0, n / s, rfl⟩
  have hs : seqOf (.cell j) m = some [.int n] := by
    show (match m[j]? with | some (.lst ds) => some ds | _ => none) = _
    rw [h]
  have hix : ixD (.cell j) (.int 0) m = .ok (.int n) m := ixD_cell hs rfl
  unfold G_l_take F_l_take
  rw [bodyD_ap]
  simp [hix, modD_int m h0, divD_int m hd, sSetIx, h, ixN]
theorem abc_at {i : Int} (h0 : 0 ≤ i) (h1 : i < 26) : ∃ c, low c = true ∧ ixD (.str "abcdefghijklmnopqrstuvwxyz") (.int i) m = .ok (.str ⟨#[c]⟩) m := by
  have e : ("abcdefghijklmnopqrstuvwxyz" : Str).cps.toList = List.range' 97 26 := by decide +kernel
  have hz : ("abcdefghijklmnopqrstuvwxyz" : Str).length ≤ sizeLine := Nat.le_trans (by decide +kernel) size_big
  obtain ⟨c, hc, ha⟩ := atI_int (xs := List.range' 97 26) h0 (by simpa using h1)
  refine ⟨c, ?_, ixD_str hz (by rw [e]; exact ha)⟩
  have hm := List.mem_of_getElem? hc
  simp [List.mem_range'_1] at hm
  simp [low]
  omega
/-- texts that are all of a kind -/
theorem txs_of {P : Str → Prop} : ∀ {ds : List D}, (∀ d ∈ ds, ∃ p, d = .str p ∧ P p) → ∃ ps : List Str, ds = txs ps ∧ ∀ p ∈ ps, P p
  | [], _ => ⟨[], rfl, by simp⟩
  | d :: ds, h => by
    obtain ⟨p, rfl, hp⟩ := h d List.mem_cons_self
    obtain ⟨ps, e, hps⟩ := txs_of (P := P) fun x hx => h x (List.mem_cons_of_mem _ hx)
    refine ⟨p :: ps, by rw [e]; rfl, fun q hq => ?_⟩
    rcases List.mem_cons.mp hq with rfl | hq
    · exact hp
    · exact hps q hq
theorem tl_nil : TL.tl ("" : Str) = [] := by decide +kernel
theorem nil_len : ("" : Str).length = 0 := by decide +kernel
theorem joinL_nil : ∀ ls : List (List Nat), TL.joinL [] ls = ls.flatten
  | [] => rfl
  | [p] => by simp [TL.joinL]
  | p :: q :: r => by
    have ih := joinL_nil (q :: r)
    show p ++ ([] ++ TL.joinL [] (q :: r)) = _
    rw [ih]
    simp
theorem join_signs {ps : List Str} (h : ∀ p ∈ ps, ∃ c, low c = true ∧ p = ⟨#[c]⟩) : (Txt.join "" ps).length = ps.length ∧ (Txt.join "" ps).cps.toList.all low = true := by
  have e : TL.tl (Txt.join "" ps) = (ps.map TL.tl).flatten := by rw [TL.join_eq, TL.tl_join, tl_nil, joinL_nil]
  have e' : (Txt.join "" ps).cps.toList = (ps.map TL.tl).flatten := e
  rw [TL.len_tl, e, e']
  clear e e'
  induction ps with
  | nil => exact ⟨rfl, rfl⟩
  | cons p ps ih =>
    obtain ⟨c, hc, rfl⟩ := h p List.mem_cons_self
    obtain ⟨h1, h2⟩ := ih fun q hq => h q (List.mem_cons_of_mem _ hq)
    refine ⟨?_, ?_⟩
    · simp [TL.tl] at h1 ⊢
      omega
    · simp only [List.map_cons, List.flatten_cons, List.all_append, h2, Bool.and_true]
      simp [TL.tl, hc]
theorem part_drawn {j : Nat} (hp : Pl j m) : ∃ p m', G_l_part_drawn A [.cell j] m = .ok (.str p) m' ∧ partB p = true ∧ Ch j m m' := by
  obtain ⟨r, m1, e1, r0, r1, c1⟩ := take (A := A) (s := 5) hp (by decide) (by decide)
  have p1 := c1.pl hp
  by_cases h3 : r < 3
  · have hz : [D.str "a", D.str "b", D.str "ab"].length ≤ sizeLine := Nat.le_trans (by decide) size_big
    obtain ⟨d, hd, ha⟩ := atI_int (xs := [D.str "a", D.str "b", D.str "ab"]) r0 (by simpa using h3)
    have hm := List.mem_of_getElem? hd
    obtain ⟨p, rfl, hp⟩ : ∃ p, d = .str p ∧ partB p = true := by
      simp at hm
      rcases hm with rfl | rfl | rfl
      · exact ⟨_, rfl, by decide +kernel⟩
      · exact ⟨_, rfl, by decide +kernel⟩
      · exact ⟨_, rfl, by decide +kernel⟩
    refine ⟨p, m1, ?_, hp, c1⟩
    unfold G_l_part_drawn F_l_part_drawn
    rw [bodyD_ap]
    simp [e1, h3, mkL_ap m1 hz, ixD_lst (m := m1) ha]
  · obtain ⟨q, m2, e2, q0, q1, c2⟩ := take (A := A) (s := 8) p1 (by decide) (by decide)
    have p2 := c2.pl p1
    have hr : rng1 [.int (1 + q)] m2 = .ok (intsD 0 (1 + q).toNat) m2 := rng1_ap (by omega)
    have hlen : (intsD 0 (1 + q).toNat).length = (1 + q).toNat := by simp [intsD]
    obtain ⟨es, m3, k1, k2, k3, k4⟩ := compD_st (put := gSet 3) (el := eOp ixD (eC (.str "abcdefghijklmnopqrstuvwxyz")) (eCall (fun ds m => if ds.length = 2 then G_l_take A ds m else .no) (aCons (eVar 0) (aCons (eC (.int 26)) aNil))))
      (env := [some (.cell j), some (.int r), some (.int (1 + q)), none]) (I := fun m' => Pl j m' ∧ Ch j m m') (Good := fun d => ∃ p, d = .str p ∧ ∃ c, low c = true ∧ p = ⟨#[c]⟩) (intsD 0 (1 + q).toNat) [] m2 (by rw [hlen]; exact Nat.le_trans (by simp; omega) size_big) ⟨p2, c1.trans c2⟩ (fun d _ m' hI => by
        obtain ⟨s, m4, e4, s0, s1, c4⟩ := take (A := A) (s := 26) hI.1 (by decide) (by decide)
        obtain ⟨c, hc, ha⟩ := abc_at (m := m4) s0 s1
        exact ⟨_, .str ⟨#[c]⟩, m4, rfl, by simp [e4, ha], ⟨c4.pl hI.1, hI.2.trans c4⟩, _, rfl, c, hc, rfl⟩)
    obtain ⟨ps, rfl, hps⟩ := txs_of k4
    have hj := join_signs hps
    have hpl : ps.length = (1 + q).toNat := by rw [← hlen, ← k3, txs_len]
    have hsum : (ps.map (·.length)).sum + ps.length * ("" : Str).length ≤ 16777216 := by
      have : (ps.map (·.length)).sum = ps.length := by
        clear hj hpl k1 k3 k4
        induction ps with
        | nil => rfl
        | cons p ps ih =>
          obtain ⟨c, _, rfl⟩ := hps p List.mem_cons_self
          have := ih fun x hx => hps x (List.mem_cons_of_mem _ hx)
          simp at this ⊢
          rw [this]
          have : (⟨#[c]⟩ : Str).length = 1 := rfl
          omega
      rw [nil_len]
      omega
    refine ⟨Txt.join "" ps, m3, ?_, ?_, k2.2⟩
    · unfold G_l_part_drawn F_l_part_drawn
      rw [bodyD_ap]
      simp [e1, h3, e2, hr, k1, joinD_txs m3 hsum]
    · unfold partB
      rw [hj.2, hj.1, decide_eq_true (by omega), decide_eq_true (by omega)]
      rfl
theorem name_drawn {j : Nat} (hp : Pl j m) : ∃ ps m', G_l_name_drawn A [.cell j, .int 4] m = .ok (.str (Txt.join "." ps)) m' ∧ Named ps ∧ Ch j m m' := by
  obtain ⟨q, m2, e2, q0, q1, c2⟩ := take (A := A) (s := 4) hp (by decide) (by decide)
  have p2 := c2.pl hp
  have hr : rng1 [.int (1 + q)] m2 = .ok (intsD 0 (1 + q).toNat) m2 := rng1_ap (by omega)
  have hlen : (intsD 0 (1 + q).toNat).length = (1 + q).toNat := by simp [intsD]
  obtain ⟨es, m3, k1, k2, k3, k4⟩ := compD_st (put := gSet 2) (el := eCall (fun ds m => if ds.length = 1 then G_l_part_drawn A ds m else .no) (aCons (eVar 0) aNil))
      (env := [some (.cell j), some (.int 4), none]) (I := fun m' => Pl j m' ∧ Ch j m m') (Good := fun d => ∃ p, d = .str p ∧ partB p = true) (intsD 0 (1 + q).toNat) [] m2 (by rw [hlen]; exact Nat.le_trans (by simp; omega) size_big) ⟨p2, c2⟩ (fun d _ m' hI => by
        obtain ⟨p, m4, e4, hb, c4⟩ := part_drawn (A := A) hI.1
        exact ⟨_, .str p, m4, rfl, by simp [e4], ⟨c4.pl hI.1, hI.2.trans c4⟩, _, rfl, hb⟩)
  obtain ⟨ps, rfl, hps⟩ := txs_of k4
  have hpl : ps.length = (1 + q).toNat := by rw [← hlen, ← k3, txs_len]
  have hsum : (ps.map (·.length)).sum + ps.length * ("." : Str).length ≤ 16777216 := by
    have : (ps.map (·.length)).sum ≤ 8 * ps.length := by
      clear hpl k1 k3 k4
      induction ps with
      | nil => simp
      | cons p ps ih =>
        have h1 := partB_len (hps p List.mem_cons_self)
        have := ih fun x hx => hps x (List.mem_cons_of_mem _ hx)
        simp at this ⊢
        omega
    rw [dot_len]
    omega
  refine ⟨ps, m3, ?_, ⟨fun e => by subst e; simp at hpl; omega, by omega, hps⟩, k2.2⟩
  unfold G_l_name_drawn F_l_name_drawn
  rw [bodyD_ap]
  simp [e2, hr, k1, joinD_txs m3 hsum]
end

open PySem PySem.Spec L2 DL
section
variable {A : Amb} {m : M}
/-! == of lists of texts -/
theorem toPs_txs : ∀ ys : List Str, toPs (txs ys) = some (ys.map PyData.str)
  | [] => rfl
  | y :: ys => by
    have ih := toPs_txs ys
    show (match toP (D.str y), toPs (txs ys) with | some p, some ps => some (p :: ps) | _, _ => none) = _
    rw [ih]
    rfl
theorem depth_strs : ∀ ys : List Str, PyData.depthAll (ys.map PyData.str) = 0
  | [] => rfl
  | y :: ys => by simp [PyData.depthAll, PyData.depth, depth_strs ys]
theorem lay_strs {ys : List Str} (h : ∀ y ∈ ys, PyData.strOk y = true) : PyData.canLayAll0 (ys.map PyData.str) = true := by
  induction ys with
  | nil => rfl
  | cons y ys ih => simp [PyData.canLayAll0, PyData.canLay0, h y List.mem_cons_self, ih fun z hz => h z (List.mem_cons_of_mem _ hz)]
theorem deep_txs {n : Bool} {x y : D} {ys : List Str} (hx : seqOf x m = some (txs ys)) (hy : seqOf y m = some (txs ys)) (h : ∀ y ∈ ys, PyData.strOk y = true) : eqDeep n x y m = .ok (.bl (n ^^ true)) m := by
  have hl := lay_strs h
  have sh : SeqAt.shaped (.list (ys.map PyData.str)) = true := by
    simp [SeqAt.shaped, PyData.canLay0, PyData.depth, hl, depth_strs]
  have ev : PyData.eqv (.list (ys.map PyData.str)) (.list (ys.map PyData.str)) = true := by
    rw [PyData.eqv]; exact SeqAt.eqvAll_refl _ hl
  unfold eqDeep toPm
  rw [hx, hy]
  simp only [toPs_txs, Option.map_some, sh, ev, and_self, if_true]
/-! names of parts -/
theorem part_ok {p : Str} (h : partB p = true) : PyData.strOk p = true := by
  unfold partB at h
  simp only [Bool.and_eq_true, decide_eq_true_eq, List.all_eq_true] at h
  unfold PyData.strOk
  rw [← Array.all_toList, List.all_eq_true]
  intro c hc
  have := h.2.2 c hc
  simp [low] at this
  simp
  omega
theorem tl_ok {x : Str} (h : ∀ c ∈ TL.tl x, c < 0x110000) : PyData.strOk x = true := by
  unfold PyData.strOk
  rw [← Array.all_toList, List.all_eq_true]
  intro c hc
  simpa using h c hc
theorem joinL_mem {c : Nat} : ∀ {ls : List (List Nat)}, c ∈ TL.joinL [46] ls → c = 46 ∨ ∃ l ∈ ls, c ∈ l
  | [], h => by simp [TL.joinL] at h
  | [l], h => .inr ⟨l, List.mem_cons_self, h⟩
  | l :: k :: r, h => by
    have h : c ∈ l ++ ([46] ++ TL.joinL [46] (k :: r)) := h
    rcases List.mem_append.mp h with h | h
    · exact .inr ⟨l, List.mem_cons_self, h⟩
    · rcases List.mem_append.mp h with h | h
      · exact .inl (List.mem_singleton.mp h)
      · rcases joinL_mem h with h | ⟨l', h1, h2⟩
        · exact .inl h
        · exact .inr ⟨l', List.mem_cons_of_mem _ h1, h2⟩
theorem join_ok {ps : List Str} (h : ∀ p ∈ ps, partB p = true) : PyData.strOk (Txt.join "." ps) = true := by
  refine tl_ok fun c hc => ?_
  rw [tl_joinT] at hc
  rcases joinL_mem hc with rfl | ⟨l, hl, hc⟩
  · decide
  · obtain ⟨p, hp, rfl⟩ := List.mem_map.mp hl
    have := h p hp
    unfold partB at this
    simp only [Bool.and_eq_true, decide_eq_true_eq, List.all_eq_true] at this
    have := this.2.2 c hc
    simp [low] at this
    omega
theorem named_size {ps : List Str} (h : Named ps) : (Txt.join "." ps).length ≤ 36 := by
  have := join_le ps fun p hp => (partB_len (h.all p hp)).2
  have := h.le
  omega
/-- what is told of the beginnings -/
def due (ps : List Str) : List Str := (List.range ps.length).map fun i => Txt.join "." (ps.take (i + 1))
theorem due_len (ps : List Str) : (due ps).length = ps.length := by simp [due]
theorem due_ok {ps : List Str} (h : Named ps) : ∀ y ∈ due ps, PyData.strOk y = true := by
  intro y hy
  obtain ⟨i, _, rfl⟩ := List.mem_map.mp hy
  exact join_ok fun p hp => h.all p (List.mem_of_mem_take hp)
theorem sum_part {ps : List Str} (h : ∀ p ∈ ps, partB p = true) : (ps.map (·.length)).sum ≤ 8 * ps.length := by
  induction ps with
  | nil => simp
  | cons p ps ih =>
    have h1 := partB_len (h p List.mem_cons_self)
    have := ih fun x hx => h x (List.mem_cons_of_mem _ hx)
    simp at this ⊢
    omega
theorem cut_txs (ps : List Str) (k : Nat) : cutL (txs ps) none (some ((k : Nat) : Int)) = txs (ps.take k) := by
  unfold cutL
  rw [HT.sIx_none, HT.sIx_nat]
  rw [List.drop_zero, Nat.sub_zero]
  show List.take _ (ps.map D.str) = (ps.take k).map D.str
  rw [← List.map_take]
  congr 1
  rw [txs_len, List.take_eq_take_iff]
  simp
theorem split_named {ps : List Str} (h : Named ps) : splitD (.str (Txt.join "." ps)) [.str "."] m = .ok (.lst (txs ps)) m := by
  have := named_size h
  rw [splitD_ap m ⟨by rw [dot_len]; decide, Nat.le_trans (by omega) size_big⟩, named_split h]
/-- the list of the beginnings, made part by part -/
theorem comp_due {ps : List Str} (h : Named ps) {i : Nat} {env : DL.Env} {el : DL.Env → M → R D} (hel : ∀ k : Int, el (env.set i (some (.int k))) m = ((slD (.lst (txs ps)) none (some k) m).bind fun x m => .ok [x] m).bind fun ds m => joinD (.str ".") ds m) :
    compD (gSet i) bYes el env (intsD 1 ps.length) [] m = .ok (txs (due ps)) m := by
  have hl := h.le
  rw [comp_set (k := fun d => match d with | .int k => D.str (Txt.join "." (ps.take k.toNat)) | d => d) (by simp [intsD]; exact Nat.le_trans (by omega) size_big) (fun d hd => by
    obtain ⟨k, hk, rfl⟩ := List.mem_map.mp hd
    rw [hel]
    have e : slD (.lst (txs ps)) none (some (1 + (k : Int))) m = .ok (.lst (txs (ps.take (k + 1)))) m := by
      have : (1 + (k : Int)) = ((k + 1 : Nat) : Int) := by omega
      rw [this, ← cut_txs]
      rfl
    rw [e]
    have hs := sum_part (ps := ps.take (k + 1)) fun p hp => h.all p (List.mem_of_mem_take hp)
    have hk2 : (ps.take (k + 1)).length ≤ 4 := Nat.le_trans (by rw [List.length_take]; omega) hl
    have hj := joinD_txs m (x := ".") (ys := ps.take (k + 1)) (by rw [dot_len]; omega)
    have ek : (1 + (k : Int)).toNat = k + 1 := by omega
    simp [hj, ek])]
  congr 1
  unfold intsD due txs
  rw [List.map_map, List.map_map]
  refine List.map_congr_left fun k _ => ?_
  have ek : (1 + (k : Int)).toNat = k + 1 := by omega
  simp [ek]
theorem rng_one {n : Nat} (hl : n ≤ 4) : rng2 [.int 1, .int ((n : Int) + 1)] m = .ok (intsD 1 n) m := by
  have a : -(2 ^ 62) ≤ (1 : Int) ∧ (1 : Int) < 2 ^ 62 ∧ -(2 ^ 62) ≤ (n : Int) + 1 ∧ (n : Int) + 1 < 2 ^ 62 := ⟨by decide, by decide, by omega, by omega⟩
  have e : ((n : Int) + 1 - 1).toNat = n := by omega
  rw [rng2_ap a, e]
theorem elder_last {ps : List Str} (h : Named ps) : ∃ e l : D, G_elder_of A [.str (Txt.join "." ps)] m = .ok e m ∧ G_last_of A [.str (Txt.join "." ps)] m = .ok l m ∧
    ixD (.lst (D.non :: txs (due ps))) (.int ((ps.length : Int) - 1)) m = .ok e m ∧ ixD (.lst (txs ps)) (.int (-1)) m = .ok l m ∧ (∀ n, eqD n e e m = .ok (.bl (!n)) m) ∧ eqD false l l m = .ok (.bl true) m := by
  have hz : ("." : Str).length ≠ 0 ∧ (Txt.join "." ps).length ≤ sizeLine := ⟨by rw [dot_len]; decide, Nat.le_trans (named_size h) (Nat.le_trans (by decide) size_big)⟩
  have hl : ∀ (qs : List Str) (p : Str), ps = qs ++ [p] → atI (txs ps) (-1) = some (.str p) := by
    intro qs p e
    subst e
    unfold atI ixN
    rw [if_neg (by decide), txs_len, if_pos (by simp; omega)]
    simp [txs]
    have : (-1 + ((qs.length : Int) + 1)).toNat = qs.length := by omega
    rw [this]
    simp
  obtain ⟨qs, p, e⟩ : ∃ qs p, ps = qs ++ [p] := ⟨_, _, (List.dropLast_concat_getLast h.ne).symm⟩
  have hi := ixD_lst (m := m) (hl qs p e)
  have hd := h.dots p (by rw [e]; simp)
  by_cases hq : qs = []
  · subst hq
    have e : ps = [p] := e
    subst e
    refine ⟨.non, .str p, ?_, ?_, ?_, hi, ?_, ?_⟩
    · unfold G_elder_of F_elder_of
      rw [bodyD_ap]
      simp [rparD_ap m hz, rpar_named1 hd, ixD, atI, ixN, asTru, truD]
      have e0 : Str.empty.length = 0 := rfl
      simp [e0]
    · unfold G_last_of F_last_of
      rw [bodyD_ap]
      simp [rparD_ap m hz, rpar_named1 hd, ixD, atI, ixN]
    · exact ixD_lst (by simp [atI, ixN])
    · intro n; simp
    · simp
  · have hn : Txt.join "." qs = Txt.join "." qs := rfl
    have hqp : ∀ q ∈ qs, partB q = true := fun q hq => h.all q (by rw [e]; simp [hq])
    have h1 := join_pos hq fun q hq => (partB_len (hqp q hq)).1
    have h2 : (Txt.join "." qs).length ≤ sizeLine := by
      have := join_le qs fun q hq => (partB_len (hqp q hq)).2
      have h4 : qs.length ≤ 4 := by have := h.le; rw [e] at this; simp at this; omega
      exact Nat.le_trans (by omega) size_big
    refine ⟨.str (Txt.join "." qs), .str p, ?_, ?_, ?_, hi, ?_, ?_⟩
    · unfold G_elder_of F_elder_of
      rw [bodyD_ap]
      rw [e] at hz ⊢
      have h0 : ((Txt.join "." qs).length : Int) ≠ 0 := by omega
      simp [rparD_ap m hz, rpar_named2 hq hd, ixD, atI, ixN, asTru_str m h2]
      rw [if_neg (show ¬ (Txt.join "." qs).length = 0 by omega)]
      rfl
    · unfold G_last_of F_last_of
      rw [bodyD_ap]
      rw [e] at hz ⊢
      simp [rparD_ap m hz, rpar_named2 hq hd, ixD, atI, ixN]
    · have hlen : (ps.length : Int) - 1 = ((qs.length : Nat) : Int) := by rw [e]; simp
      rw [hlen]
      refine ixD_lst (atI_nat ?_)
      obtain ⟨k, hk⟩ : ∃ k, qs.length = k + 1 := ⟨qs.length - 1, by have := List.length_pos_iff.mpr hq; omega⟩
      rw [hk]
      show (txs (due ps))[k]? = _
      unfold due txs
      rw [List.map_map, List.getElem?_map, List.getElem?_range (by rw [e]; simp; omega)]
      show some (D.str (Txt.join "." (ps.take (k + 1)))) = _
      rw [e, ← hk, List.take_left']
      rfl
    · intro n; simp
    · simp
end

open PySem PySem.Spec L2 DL
section
variable {A : Amb} {m : M}

theorem it_one {ps : List Str} (hl : ps.length ≤ 4) {env : DL.Env} (he : env[1]? = some (some (.lst (txs ps)))) :
    iArgs rng2 (aCons (eC (.int 1)) (aCons (eOp addD (eCall (lenD A) (aCons (eVar 1) aNil)) (eC (.int 1))) aNil)) env m = .ok (intsD 1 ps.length) m := by
  have hv : eVar 1 env m = .ok (.lst (txs ps)) m := by rw [eVar_ap, he]
  have h1 : eOp addD (eCall (lenD A) (aCons (eVar 1) aNil)) (eC (.int 1)) env m = .ok (.int ((ps.length : Int) + 1)) m := by
    rw [eOp_ap, eCall_ap, aCons_ap, hv, R.bind_ok, aNil_ap, R.bind_ok, R.bind_ok, lenD_lst, R.bind_ok, eC_ap, R.bind_ok, addD_int, txs_len]
  rw [iArgs_ap, aCons_ap, eC_ap, R.bind_ok, aCons_ap, h1, R.bind_ok, aNil_ap, R.bind_ok, R.bind_ok, R.bind_ok]
  exact rng_one hl
theorem st_split {ps : List Str} (h : Named ps) {env : DL.Env} (he : env[0]? = some (some (.str (Txt.join "." ps)))) :
    sSet 1 (eMt isStr splitD (eVar 0) (aCons (eC (.str ".")) aNil)) env m = .nx (env.set 1 (some (.lst (txs ps)))) m := by
  rw [sSet_ap, eMt_ap, eVar_ap, he]
  simp [split_named h]
theorem comp_at {ps : List Str} (h : Named ps) {i : Nat} {env : DL.Env} (h1 : env[1]? = some (some (.lst (txs ps)))) (hi : i < env.length) (hn : i ≠ 1) :
    compD (gSet i) bYes (eMt isStr joinD (eC (.str ".")) (aCons (eSl slD (eVar 1) oNone (oSome (eVar i))) aNil)) env (intsD 1 ps.length) [] m = .ok (txs (due ps)) m := by
  refine comp_due h fun k => ?_
  have e1 : (env.set i (some (D.int k)))[1]? = some (some (.lst (txs ps))) := by rw [List.getElem?_set_ne hn]; exact h1
  have ei : (env.set i (some (D.int k)))[i]? = some (some (.int k)) := List.getElem?_set_self hi
  have v1 : eVar 1 (env.set i (some (D.int k))) m = .ok (.lst (txs ps)) m := by rw [eVar_ap, e1]
  have vi : eVar i (env.set i (some (D.int k))) m = .ok (.int k) m := by rw [eVar_ap, ei]
  rw [eMt_ap, eC_ap, R.bind_ok, isStr_str, if_pos rfl, aCons_ap, eSl_ap, v1, R.bind_ok, oNone_ap, R.bind_ok, oSome_ap, vi, R.bind_ok, asInt_int, R.bind_ok]
  rfl
theorem elders {ps : List Str} (h : Named ps) : G_elders A [.str (Txt.join "." ps)] m = .ok (.cell m.length) (m ++ [.lst (txs (due ps))]) := by
  have s1 := st_split (m := m) h (env := [some (.str (Txt.join "." ps)), none, none]) rfl
  have i1 := it_one (A := A) (m := m) h.le (env := [some (.str (Txt.join "." ps)), some (.lst (txs ps)), none]) rfl
  have k1 := comp_at (m := m) h (i := 2) (env := [some (.str (Txt.join "." ps)), some (.lst (txs ps)), none]) rfl (by simp) (by simp)
  unfold G_elders F_elders
  rw [bodyD_ap]
  show retS ((sSet 1 (eMt isStr splitD (eVar 0) (aCons (eC (.str ".")) aNil)) [some (.str (Txt.join "." ps)), none, none] m).bind _) = _
  rw [s1, S.bind_nx, sRet_ap, eComp_ap]
  show retS ((R.bind (iArgs rng2 _ [some (.str (Txt.join "." ps)), some (.lst (txs ps)), none] m) _).to _ _) = _
  rw [i1, R.bind_ok]
  show retS ((R.bindS (compD (gSet 2) bYes _ [some (.str (Txt.join "." ps)), some (.lst (txs ps)), none] _ [] m) okC).to _ _) = _
  rw [k1]
  rfl
end

open PySem PySem.Spec L2 DL
section
variable {A : Amb} {m : M}
theorem app_len (x y : Str) : (x ++ y).length = x.length + y.length := by
  show (x.cps ++ y.cps).size = x.cps.size + y.cps.size
  simp
theorem cut_len (z : Str) (lo hi : Option Int) : (cutS z lo hi).length ≤ z.length := by
  unfold cutS
  show (List.toArray _).size ≤ _
  rw [List.size_toArray, List.length_take, List.length_drop, ← len_tl]
  omega
theorem repl_len (x y : Str) : (Txt.replace x y "").length ≤ x.length := by
  unfold Txt.replace
  split
  · exact Nat.le_refl _
  · have hy := congrArg (·.length) (StrLaws.glued_between_self x y (x.length + 1))
    simp only [size_glued] at hy ⊢
    rw [nil_len, Nat.mul_zero]
    omega
theorem addS {x y : Str} (h : x.length + y.length ≤ 1000) : addD (.str x) (.str y) m = .ok (.str (x ++ y)) m := addD_str m (Nat.le_trans h (Nat.le_trans (by decide) size_big))
theorem slS {x : Str} {lo hi : Option Int} (h : x.length ≤ 1000) : slD (.str x) lo hi m = .ok (.str (cutS x lo hi)) m := if_pos (Nat.le_trans h (Nat.le_trans (by decide) size_big))
theorem mkS {ds : List D} (h : ds.length ≤ 100) : mkL ds m = .ok (.lst ds) m := mkL_ap m (Nat.le_trans h (Nat.le_trans (by decide) size_big))
theorem addL {xs ys : List D} (h : xs.length + ys.length ≤ 100) : addD (.lst xs) (.lst ys) m = .ok (.lst (xs ++ ys)) m := addD_lst m (Nat.le_trans h (Nat.le_trans (by decide) size_big))
end

end PU

/-! shared: an error is of just one class; names with dots ahead -/
namespace PU
section
open PySem PySem.Spec L2 DL
def F_dots_ahead (A : Amb) : DL.Env → M → S :=
  (sRet (eOp subD (eCall (lenD A) (aCons (eVar 0) aNil)) (eCall (lenD A) (aCons (eMt isStr (str1D Txt.lstripChars) (eVar 0) (aCons (eC (.str ".")) aNil)) aNil))))
def G_dots_ahead (A : Amb) : List D → M → R D := bodyD 1 (F_dots_ahead A)
def F_is_near (A : Amb) : DL.Env → M → S :=
  (sSeq (sIf (bNot (eTest asTru (eCall isiD (aCons (eVar 0) (aCons (eC (.ob (.ty "str"))) aNil))))) (sRet (eC (.bl false))) sNext)
    (sSeq (sSet 1 (eCall (fun ds m => if ds.length = 1 then G_dots_ahead A ds m else .no) (aCons (eVar 0) aNil)))
    (sSeq (sSet 2 (eSl slD (eVar 0) (oSome (eVar 1)) oNone))
    (sRet (eAnd (eOp (cmpD fun i j => decide (i ≤ j)) (eVar 1) (eC (.int 4))) (eOr (eCall (fun ds m => if ds.length = 1 then G_is_name A ds m else .no) (aCons (eVar 2) aNil)) (eAnd (eOp (eqD false) (eVar 2) (eC (.str ""))) (eOp (cmpD fun i j => decide (j < i)) (eVar 1) (eC (.int 0))))))))))
def G_is_near (A : Amb) : List D → M → R D := bodyD 3 (F_is_near A)
def F_near_name (A : Amb) : DL.Env → M → S :=
  (sSeq (sIf (bNot (eTest asTru (eCall (fun ds m => if ds.length = 1 then G_is_near A ds m else .no) (aCons (eVar 0) aNil)))) (sRaise (.ref (He.ga A.K "NoName")) (eC (.str "no name, with dots ahead or without"))) sNext)
    (sSeq (sSet 3 (eCall (fun ds m => if ds.length = 1 then G_dots_ahead A ds m else .no) (aCons (eVar 0) aNil)))
    (sSeq (sIf (eTest asBl (eOp (eqD false) (eVar 3) (eC (.int 0)))) (sRet (eVar 0)) sNext)
    (sSeq (sIf (bNot (eTest asTru (eCall (fun ds m => if ds.length = 1 then G_is_name A ds m else .no) (aCons (eVar 1) aNil)))) (sRaise (.ref (He.ga A.K "NoName")) (eC (.str "no name to begin at"))) sNext)
    (sSeq (sSet 4 (eMt isStr splitD (eVar 1) (aCons (eC (.str ".")) aNil)))
    (sSeq (sSet 5 (eOp addD (eOp subD (eCall (lenD A) (aCons (eVar 4) aNil)) (eVar 3)) (eIf (eTest asTru (eVar 2)) (eC (.int 1)) (eC (.int 0)))))
    (sSeq (sIf (eTest asBl (eOp (cmpD fun i j => decide (i < j)) (eVar 5) (eC (.int 1)))) (sRaise (.ref (He.ga A.K "NoName")) (eJs [(eC (.str "no such elder of ")), (eUn fmtD (eVar 1)), (eC (.str ": ")), (eUn fmtD (eVar 0))] Str.empty)) sNext)
    (sSeq (sSet 6 (eSl slD (eVar 0) (oSome (eVar 3)) oNone))
    (sSeq (sSet 7 (eMt isStr joinD (eC (.str ".")) (aCons (eOp addD (eSl slD (eVar 4) oNone (oSome (eVar 5))) (eIf (eTest asTru (eVar 6)) (eCall mkL (aCons (eVar 6) aNil)) (eCall mkL aNil))) aNil)))
    (sSeq (sIf (bNot (eTest asTru (eCall (fun ds m => if ds.length = 1 then G_is_name A ds m else .no) (aCons (eVar 7) aNil)))) (sRaise (.ref (He.ga A.K "NoName")) (eJs [(eC (.str "too many parts: ")), (eUn fmtD (eVar 7))] Str.empty)) sNext)
    (sRet (eVar 7))))))))))))
def G_near_name (A : Amb) : List D → M → R D := bodyD 8 (F_near_name A)
def F_l_only (A : Amb) : DL.Env → M → S :=
  (sSeq (sSet 2 (eCall mkL (aVals [(.str "NoName"), (.str "NoBody"), (.str "NoStore"), (.str "NoFinder"), (.str "NoHand"), (.str "NoLine"), (.str "NotFound"), (.str "NotPack"), (.str "Lacking")])))
    (sSeq (sSet 2 (eOp addD (eVar 2) (eCall mkL (aVals [(.str "Failed"), (.str "Lost"), (.str "Stuck"), (.str "TooDeep")]))))
    (sSeq (sSet 3 (eCall mkC (aCons (eCall (isiX A.K) (aCons (eVar 0) (aCons (eC (.ob (.ref (He.ga A.K "NoName")))) aNil))) (aCons (eCall (isiX A.K) (aCons (eVar 0) (aCons (eC (.ob (.ref (He.ga A.K "NoBody")))) aNil))) (aCons (eCall (isiX A.K) (aCons (eVar 0) (aCons (eC (.ob (.ref (He.ga A.K "NoStore")))) aNil))) aNil)))))
    (sSeq (sSet 3 (eOp addC (eVar 3) (eCall mkL (aCons (eCall (isiX A.K) (aCons (eVar 0) (aCons (eC (.ob (.ref (He.ga A.K "NoFinder")))) aNil))) (aCons (eCall (isiX A.K) (aCons (eVar 0) (aCons (eC (.ob (.ref (He.ga A.K "NoHand")))) aNil))) (aCons (eCall (isiX A.K) (aCons (eVar 0) (aCons (eC (.ob (.ref (He.ga A.K "NoLine")))) aNil))) aNil))))))
    (sSeq (sSet 3 (eOp addC (eVar 3) (eCall mkL (aCons (eCall (isiX A.K) (aCons (eVar 0) (aCons (eC (.ob (.ref (He.ga A.K "NotFound")))) aNil))) (aCons (eCall (isiX A.K) (aCons (eVar 0) (aCons (eC (.ob (.ref (He.ga A.K "NotPack")))) aNil))) (aCons (eCall (isiX A.K) (aCons (eVar 0) (aCons (eC (.ob (.ref (He.ga A.K "Lacking")))) aNil))) aNil))))))
    (sSeq (sSet 3 (eOp addC (eVar 3) (eCall mkL (aCons (eCall (isiX A.K) (aCons (eVar 0) (aCons (eC (.ob (.ref (He.ga A.K "Failed")))) aNil))) (aCons (eCall (isiX A.K) (aCons (eVar 0) (aCons (eC (.ob (.ref (He.ga A.K "Lost")))) aNil))) (aCons (eCall (isiX A.K) (aCons (eVar 0) (aCons (eC (.ob (.ref (He.ga A.K "Stuck")))) aNil))) aNil))))))
    (sSeq (sDrop (eMt isLst appendD (eVar 3) (aCons (eCall (isiX A.K) (aCons (eVar 0) (aCons (eC (.ob (.ref (He.ga A.K "TooDeep")))) aNil))) aNil)))
    (sSeq (sSet 4 (eOp addD (eOp mulD (eCall mkL (aCons (eCall (isiX A.K) (aCons (eVar 0) (aCons (eC (.ob (.ty "ValueError"))) aNil))) aNil)) (eC (.int 6))) (eOp mulD (eCall mkL (aCons (eCall (isiX A.K) (aCons (eVar 0) (aCons (eC (.ob (.ty "LookupError"))) aNil))) aNil)) (eC (.int 3)))))
    (sSeq (sSet 4 (eOp addD (eVar 4) (eOp mulD (eCall mkL (aCons (eCall (isiX A.K) (aCons (eVar 0) (aCons (eC (.ob (.ty "ArithmeticError"))) aNil))) aNil)) (eC (.int 4)))))
    (sSeq (sIf (bOr (eTest asTru (eCall (isiX A.K) (aCons (eVar 0) (aCons (eC (.ob (.ty "KeyError"))) aNil)))) (bOr (eTest asTru (eCall (isiX A.K) (aCons (eVar 0) (aCons (eC (.ob (.ty "IndexError"))) aNil)))) (eTest asTru (eCall (isiX A.K) (aCons (eVar 0) (aCons (eC (.ob (.ty "ZeroDivisionError"))) aNil)))))) (sRet (eC (.bl false))) sNext)
    (sSeq (sIf (eTest asBl (eOp (eqD true) (eCompM okL [5, 6] (srcZ (aCons (eVar 2) (aCons (eVar 3) aNil))) (gPutT 5 6) (eTest asTru (eVar 6)) (eVar 5)) (eCall mkL (aCons (eVar 1) aNil)))) (sRet (eC (.bl false))) sNext)
    (sRet (eOp ixD (eVar 4) (eMt isLst indexD (eVar 2) (aCons (eVar 1) aNil)))))))))))))))
def G_l_only (A : Amb) : List D → M → R D := bodyD 7 (F_l_only A)
end
section
open PySem PySem.Spec L2 DL
variable {A : Amb} {m : M}
/-- of each class what it is beneath -/
def pairs : List (Str × String) := [("NoName", "ValueError"), ("NoBody", "ValueError"), ("NoStore", "ValueError"), ("NoFinder", "ValueError"), ("NoHand", "ValueError"), ("NoLine", "ValueError"), ("NotFound", "LookupError"), ("NotPack", "LookupError"), ("Lacking", "LookupError"), ("Failed", "ArithmeticError"), ("Lost", "ArithmeticError"), ("Stuck", "ArithmeticError"), ("TooDeep", "ArithmeticError")]
theorem small {n k : Nat} (h : n ≤ k) (hk : k ≤ 1000000 := by decide) : n ≤ sizeLine := Nat.le_trans h (Nat.le_trans hk size_big)
def ofC (A : Amb) (m : M) (k : Nat) (z : Str) (b : Bool) : Prop := ∀ l : M, isiX A.K [.cell k, .ob (.ref (He.ga A.K z))] (m ++ l) = .ok (.bl b) (m ++ l)
def ofT (A : Amb) (m : M) (k : Nat) (z : String) (b : Bool) : Prop := ∀ l : M, isiX A.K [.cell k, .ob (.ty z)] (m ++ l) = .ok (.bl b) (m ++ l)
theorem ofC.at0 {k : Nat} {z : Str} {b : Bool} (h : ofC A m k z b) : isiX A.K [.cell k, .ob (.ref (He.ga A.K z))] m = .ok (.bl b) m := by
  have := h []
  rwa [List.append_nil] at this
theorem only_core {x : Str} {k : Nat} {b1 b2 b3 b4 b5 b6 b7 b8 b9 b10 b11 b12 b13 c1 c2 c3 : Bool} (h1 : ofC A m k "NoName" b1) (h2 : ofC A m k "NoBody" b2) (h3 : ofC A m k "NoStore" b3) (h4 : ofC A m k "NoFinder" b4) (h5 : ofC A m k "NoHand" b5) (h6 : ofC A m k "NoLine" b6)
    (h7 : ofC A m k "NotFound" b7) (h8 : ofC A m k "NotPack" b8) (h9 : ofC A m k "Lacking" b9) (h10 : ofC A m k "Failed" b10) (h11 : ofC A m k "Lost" b11) (h12 : ofC A m k "Stuck" b12) (h13 : ofC A m k "TooDeep" b13)
    (t1 : ofT A m k "ValueError" c1) (t2 : ofT A m k "LookupError" c2) (t3 : ofT A m k "ArithmeticError" c3) (t4 : ofT A m k "KeyError" false) (t5 : ofT A m k "IndexError" false) (t6 : ofT A m k "ZeroDivisionError" false)
    (hk : kept errNames [b1, b2, b3, b4, b5, b6, b7, b8, b9, b10, b11, b12, b13] = [x]) (hok : PyData.strOk x = true) {j : Nat} (hi : ∀ m, indexD (.lst (txs errNames)) [.str x] m = .ok (.int (j : Nat)) m)
    (ht : [c1, c1, c1, c1, c1, c1, c2, c2, c2, c3, c3, c3, c3][j]? = some true) : ∃ l, G_l_only A [.cell k, .str x] m = .ok (.bl true) (m ++ l) := by
  have mk : ∀ (m : M) {ds : List D}, ds.length ≤ 13 → mkL ds m = .ok (.lst ds) m := fun m {ds} h => mkL_ap m (small (k := 13) h)
  have mkc : ∀ (m : M) {ds : List D}, ds.length ≤ 13 → mkC ds m = .ok (.cell m.length) (m ++ [O.lst ds]) := fun m {ds} h => mkC_ap m (small (k := 13) h)
  have ad : ∀ (m : M) {xs ys : List D}, xs.length + ys.length ≤ 20 → addD (.lst xs) (.lst ys) m = .ok (.lst (xs ++ ys)) m := fun m {xs ys} h => addD_lst m (small (k := 20) h)
  have sz : (20 : Nat) ≤ sizeLine := small (k := 20) (by decide)
  have s3 : (3 : Nat) + 3 ≤ sizeLine := Nat.le_trans (by decide) sz
  have s6 : (6 : Nat) ≤ sizeLine := Nat.le_trans (by decide) sz
  have s9 : (9 : Nat) ≤ sizeLine := Nat.le_trans (by decide) sz
  have s12 : (12 : Nat) ≤ sizeLine := Nat.le_trans (by decide) sz
  have s12' : (12 : Nat) < sizeLine := Nat.le_trans (by decide) sz
  have m6 : ∀ (m : M) (c : D), mulD (.lst [c]) (.int 6) m = .ok (.lst [c, c, c, c, c, c]) m := fun m c => mulD_lst m (n := 6) s6 (by decide)
  have m3 : ∀ (m : M) (c : D), mulD (.lst [c]) (.int 3) m = .ok (.lst [c, c, c]) m := fun m c => mulD_lst m (n := 3) (Nat.le_trans (show 1 * 3 ≤ 20 by decide) sz) (by decide)
  have m4 : ∀ (m : M) (c : D), mulD (.lst [c]) (.int 4) m = .ok (.lst [c, c, c, c]) m := fun m c => mulD_lst m (n := 4) (Nat.le_trans (show 1 * 4 ≤ 20 by decide) sz) (by decide)
  have hz : compM (gPutT 5 6) (eTest asTru (eVar 6)) (eVar 5) [some (.cell k), some (.str x), some (.lst (txs errNames)), some (.cell (m.length + 3)), some (.lst [.bl c1, .bl c1, .bl c1, .bl c1, .bl c1, .bl c1, .bl c2, .bl c2, .bl c2, .bl c3, .bl c3, .bl c3, .bl c3]), none, none] (itZ (.lst (txs errNames)) (.cell (m.length + 3))) 14 0 []
      (m ++ [O.lst [.bl b1, .bl b2, .bl b3], O.lst [.bl b1, .bl b2, .bl b3, .bl b4, .bl b5, .bl b6], O.lst [.bl b1, .bl b2, .bl b3, .bl b4, .bl b5, .bl b6, .bl b7, .bl b8, .bl b9], O.lst [.bl b1, .bl b2, .bl b3, .bl b4, .bl b5, .bl b6, .bl b7, .bl b8, .bl b9, .bl b10, .bl b11, .bl b12, .bl b13]]) = .ok [.str x] (m ++ [O.lst [.bl b1, .bl b2, .bl b3], O.lst [.bl b1, .bl b2, .bl b3, .bl b4, .bl b5, .bl b6], O.lst [.bl b1, .bl b2, .bl b3, .bl b4, .bl b5, .bl b6, .bl b7, .bl b8, .bl b9], O.lst [.bl b1, .bl b2, .bl b3, .bl b4, .bl b5, .bl b6, .bl b7, .bl b8, .bl b9, .bl b10, .bl b11, .bl b12, .bl b13]]) := by
    rw [compM_zip (xs := errNames) (bs := [b1, b2, b3, b4, b5, b6, b7, b8, b9, b10, b11, b12, b13]) rfl (by rw [seqOf_cell, get_endS]; rfl) rfl (Nat.le_trans (by decide) sz) (fun x b => ⟨_, rfl, rfl, rfl⟩) 14 0 [] (by decide) (by decide) (by decide)]
    show R.ok ([] ++ txs (kept errNames [b1, b2, b3, b4, b5, b6, b7, b8, b9, b10, b11, b12, b13])) _ = _
    rw [hk]
    rfl
  have he : ∀ m : M, eqDeep true (.lst [.str x]) (.lst [.str x]) m = .ok (.bl false) m := fun m => deep_txs (n := true) (ys := [x]) rfl rfl (by simpa using hok)
  have hc : ∀ m : M, ixD (.lst [.bl c1, .bl c1, .bl c1, .bl c1, .bl c1, .bl c1, .bl c2, .bl c2, .bl c2, .bl c3, .bl c3, .bl c3, .bl c3]) (.int (j : Int)) m = .ok (.bl true) m := fun m => ixD_lst (atI_nat (i := j) (by
    have : [D.bl c1, .bl c1, .bl c1, .bl c1, .bl c1, .bl c1, .bl c2, .bl c2, .bl c2, .bl c3, .bl c3, .bl c3, .bl c3] = [c1, c1, c1, c1, c1, c1, c2, c2, c2, c3, c3, c3, c3].map D.bl := rfl
    rw [this, List.getElem?_map, ht]
    rfl))
  have en : [D.str "NoName", .str "NoBody", .str "NoStore", .str "NoFinder", .str "NoHand", .str "NoLine", .str "NotFound", .str "NotPack", .str "Lacking", .str "Failed", .str "Lost", .str "Stuck", .str "TooDeep"] = txs errNames := rfl
  have hl : (txs errNames).length = 13 := rfl
  refine ⟨[O.lst [.bl b1, .bl b2, .bl b3], O.lst [.bl b1, .bl b2, .bl b3, .bl b4, .bl b5, .bl b6], O.lst [.bl b1, .bl b2, .bl b3, .bl b4, .bl b5, .bl b6, .bl b7, .bl b8, .bl b9], O.lst [.bl b1, .bl b2, .bl b3, .bl b4, .bl b5, .bl b6, .bl b7, .bl b8, .bl b9, .bl b10, .bl b11, .bl b12, .bl b13]], ?_⟩
  unfold G_l_only F_l_only
  rw [bodyD_ap]
  simp [mk, mkc, ad, addC_cell, seqOf_cell, get_endS, get_end0, h1.at0, h2.at0, h3.at0, h4 _, h5 _, h6 _, h7 _, h8 _, h9 _, h10 _, h11 _, h12 _, h13 _, t1 _, t2 _, t3 _, t4 _, t5 _, t6 _, s3, s6, s9, s12, s12', isLst_cell, appendD_cell, set_endS, m6, m3, m4, en, hl, hz, he, hi, hc, srcZ]
theorem ofs {x : Str} {y : String} {k : Nat} {fs : Option (List (Str × D))} (ho : onlyB A.K x y = true) (e : m[k]? = some (.exc (.ref (He.ga A.K x)) fs)) : (∀ z ∈ errNames, ofC A m k z (decide (x = z))) ∧ ∀ z ∈ baseNames, ofT A m k z (decide (y = z)) := by
  obtain ⟨hx, hc, hb⟩ : exB A.K (He.ga A.K x) = true ∧ (errNames.all fun z => kitB2 A.K x z (decide (x = z))) = true ∧ (baseNames.all fun z => kitBT A.K x z (decide (y = z))) = true := by
    unfold onlyB at ho
    simp only [Bool.and_eq_true] at ho
    exact ho
  exact ⟨fun z hz l => isi_kept (m ++ l) (get_app e l) hx rfl (of_decide_eq_true (List.all_eq_true.mp hc z hz)), fun z hz l => isi_kept (m ++ l) (get_app e l) hx rfl (of_decide_eq_true (List.all_eq_true.mp hb z hz))⟩
theorem only {x : Str} {y : String} {k : Nat} {fs : Option (List (Str × D))} (hxy : (x, y) ∈ pairs) (ho : onlyB A.K x y = true) (e : m[k]? = some (.exc (.ref (He.ga A.K x)) fs)) : ∃ l, G_l_only A [.cell k, .str x] m = .ok (.bl true) (m ++ l) := by
  obtain ⟨c, t⟩ := ofs ho e
  have key : ∀ p ∈ pairs, (kept errNames (errNames.map fun z => decide (p.1 = z)) = [p.1] ∧ PyData.strOk p.1 = true ∧ ∃ j : Nat, (∀ m, indexD (.lst (txs errNames)) [.str p.1] m = .ok (.int (j : Nat)) m) ∧ ((List.replicate 6 (decide (p.2 = "ValueError")) ++ List.replicate 3 (decide (p.2 = "LookupError")) ++ List.replicate 4 (decide (p.2 = "ArithmeticError")))[j]? = some true) ∧ decide (p.2 = "KeyError") = false ∧ decide (p.2 = "IndexError") = false ∧ decide (p.2 = "ZeroDivisionError") = false) := by
    intro p hp
    simp only [pairs, List.mem_cons, List.mem_nil_iff, or_false] at hp
    rcases hp with rfl | rfl | rfl | rfl | rfl | rfl | rfl | rfl | rfl | rfl | rfl | rfl | rfl
    · exact ⟨by decide +kernel, by decide +kernel, 0, fun m => by kernel_rfl, by decide +kernel, by decide +kernel, by decide +kernel, by decide +kernel⟩
    · exact ⟨by decide +kernel, by decide +kernel, 1, fun m => by kernel_rfl, by decide +kernel, by decide +kernel, by decide +kernel, by decide +kernel⟩
    · exact ⟨by decide +kernel, by decide +kernel, 2, fun m => by kernel_rfl, by decide +kernel, by decide +kernel, by decide +kernel, by decide +kernel⟩
    · exact ⟨by decide +kernel, by decide +kernel, 3, fun m => by kernel_rfl, by decide +kernel, by decide +kernel, by decide +kernel, by decide +kernel⟩
    · exact ⟨by decide +kernel, by decide +kernel, 4, fun m => by kernel_rfl, by decide +kernel, by decide +kernel, by decide +kernel, by decide +kernel⟩
    · exact ⟨by decide +kernel, by decide +kernel, 5, fun m => by kernel_rfl, by decide +kernel, by decide +kernel, by decide +kernel, by decide +kernel⟩
    · exact ⟨by decide +kernel, by decide +kernel, 6, fun m => by kernel_rfl, by decide +kernel, by decide +kernel, by decide +kernel, by decide +kernel⟩
    · exact ⟨by decide +kernel, by decide +kernel, 7, fun m => by kernel_rfl, by decide +kernel, by decide +kernel, by decide +kernel, by decide +kernel⟩
    · exact ⟨by decide +kernel, by decide +kernel, 8, fun m => by kernel_rfl, by decide +kernel, by decide +kernel, by decide +kernel, by decide +kernel⟩
    · exact ⟨by decide +kernel, by decide +kernel, 9, fun m => by kernel_rfl, by decide +kernel, by decide +kernel, by decide +kernel, by decide +kernel⟩
    · exact ⟨by decide +kernel, by decide +kernel, 10, fun m => by kernel_rfl, by decide +kernel, by decide +kernel, by decide +kernel, by decide +kernel⟩
    · exact ⟨by decide +kernel, by decide +kernel, 11, fun m => by kernel_rfl, by decide +kernel, by decide +kernel, by decide +kernel, by decide +kernel⟩
    · exact ⟨by decide +kernel, by decide +kernel, 12, fun m => by kernel_rfl, by decide +kernel, by decide +kernel, by decide +kernel, by decide +kernel⟩
  obtain ⟨k1, k2, j, k3, k4, k5, k6, k7⟩ := key (x, y) hxy
  have t4 := t "KeyError" (by decide)
  have t5 := t "IndexError" (by decide)
  have t6 := t "ZeroDivisionError" (by decide)
  rw [k5] at t4
  rw [k6] at t5
  rw [k7] at t6
  exact only_core (c "NoName" (by decide)) (c "NoBody" (by decide)) (c "NoStore" (by decide)) (c "NoFinder" (by decide)) (c "NoHand" (by decide)) (c "NoLine" (by decide)) (c "NotFound" (by decide)) (c "NotPack" (by decide)) (c "Lacking" (by decide)) (c "Failed" (by decide)) (c "Lost" (by decide)) (c "Stuck" (by decide)) (c "TooDeep" (by decide))
    (t "ValueError" (by decide)) (t "LookupError" (by decide)) (t "ArithmeticError" (by decide)) t4 t5 t6 k1 k2 k3 k4
end
end PU

/-! shared: what a name with dots ahead means -/
namespace PU
section
open PySem PySem.Spec L2 DL
variable {A : Amb} {m : M}
/-- how many dots stand ahead -/
def dn (x : Str) : Nat := ((TL.tl x).takeWhile fun c => c == 46).length
/-- what stands behind them -/
def bh (x : Str) : Str := ⟨((TL.tl x).drop (dn x)).toArray⟩
theorem dn_le (x : Str) : dn x ≤ x.length := by
  rw [TL.len_tl]
  exact PyProof.Rows.takeWhile_len_le _ _
theorem bh_len (x : Str) : (bh x).length = x.length - dn x := by
  rw [TL.len_tl, TL.len_tl]
  show ((TL.tl x).drop (dn x)).length = _
  rw [List.length_drop]
theorem lstrip_dot (x : Str) : Txt.lstripChars x "." = bh x := by
  have hc : ∀ c : Nat, ("." : Str).cps.contains c = (c == 46) := fun c => by
    have e : ("." : Str).cps = #[46] := Array.toList_inj.mp tl_dot
    rw [e]
    show (#[46] : Array Nat).contains c = _
    simp [Array.contains, BEq.comm]
  have hf : (("." : Str).cps.contains) = fun c => c == 46 := funext hc
  unfold Txt.lstripChars
  rw [PyProof.Rows.stripBy_eq, hf]
  refine TL.ext_tl ?_
  show TL.tl (PySem.Builtin.Str.strSub x (dn x) x.length) = _
  rw [TL.tl_strSub_end]
  rfl
theorem cut_dots {x : Str} : cutS x (some (dn x : Int)) none = bh x := by
  unfold cutS bh
  rw [HT.sIx_nat, HT.sIx_none, Nat.min_eq_left (dn_le x)]
  congr 2
  rw [List.take_of_length_le]
  rw [List.length_drop, TL.len_tl]
  exact Nat.le_refl _
theorem dots_ahead {x : Str} (h : x.length ≤ 1000) : G_dots_ahead A [.str x] m = .ok (.int (dn x : Int)) m := by
  have hz : x.length ≤ sizeLine := small h
  have hb : (bh x).length ≤ sizeLine := small (k := 1000) (by rw [bh_len]; omega)
  have l1 : str1D Txt.lstripChars (.str x) [.str "."] m = .ok (.str (bh x)) m := by
    rw [← lstrip_dot]
    exact if_pos hz
  have := dn_le x
  have e := bh_len x
  unfold G_dots_ahead F_dots_ahead
  rw [bodyD_ap]
  simp [lenD_str (m := m) (A := A) hz, l1, lenD_str (m := m) (A := A) hb]
  omega
def nearB (x : Str) : Bool := decide (dn x ≤ 4) && (nameB (bh x) || (decide (bh x = "") && decide (0 < dn x)))
theorem is_near_str {x : Str} (h : x.length ≤ 1000) : G_is_near A [.str x] m = .ok (.bl (nearB x)) m := by
  have hb : (bh x).length ≤ 1000 := by rw [bh_len]; omega
  unfold G_is_near F_is_near
  rw [bodyD_ap]
  simp [dots_ahead (A := A) (m := m) h, slS (m := m) h, cut_dots]
  unfold nearB
  by_cases h4 : dn x ≤ 4
  · rw [if_pos (by omega), decide_eq_true h4]
    simp [is_name_str (A := A) (m := m) hb]
    cases nameB (bh x)
    · simp
      by_cases he : bh x = ""
      · simp [he]
      · simp [he]
    · simp
  · rw [if_neg (by omega), decide_eq_false h4]
    simp
    omega
theorem is_near_odd {d : D} (h : Odd d) : G_is_near A [d] m = .ok (.bl false) m := by
  unfold G_is_near F_is_near
  rw [bodyD_ap]
  cases h <;> simp
theorem js_ok {env : DL.Env} : ∀ {fs : List (DL.Env → M → R D)} {acc : Str}, (∀ f ∈ fs, ∃ y : Str, f env m = .ok (.str y) m ∧ y.length ≤ 2000) → acc.length + 2000 * fs.length ≤ 1000000 → ∃ s, eJs fs acc env m = .ok (.str s) m
  | [], acc, _, _ => ⟨acc, rfl⟩
  | f :: fs, acc, h, hl => by
    obtain ⟨y, e, hy⟩ := h f List.mem_cons_self
    rw [List.length_cons] at hl
    have ha : (acc ++ y).length = acc.length + y.length := app_len acc y
    obtain ⟨s, hs⟩ := js_ok (fs := fs) (acc := acc ++ y) (fun g hg => h g (List.mem_cons_of_mem _ hg)) (by omega)
    refine ⟨s, ?_⟩
    show (f env m).bind (fun x m => match x with | .str y => if (acc ++ y).length ≤ sizeLine then eJs fs (acc ++ y) env m else .no | _ => .no) = _
    rw [e, R.bind_ok]
    show (if (acc ++ y).length ≤ sizeLine then eJs fs (acc ++ y) env m else .no) = _
    rw [if_pos (small (k := 1000000) (by omega)), hs]
def noName (A : Amb) : X := ⟨.ref (He.ga A.K "NoName"), none⟩
/-- what is left of the base, and what is told -/
def leftS (x y : Str) (p : Bool) : Nat := (Txt.split y ".").length + (if p then 1 else 0) - dn x
def toldS (x y : Str) (p : Bool) : Str := Txt.join "." ((Txt.split y ".").take (leftS x y p) ++ (if bh x = "" then [] else [bh x]))
def nearS (x : Str) (b : D) (p : Bool) : Option Str := if nearB x = true then (if dn x = 0 then some x else match b with
  | .str y => if nameB y = true then (if leftS x y p = 0 then none else if nameB (toldS x y p) = true then some (toldS x y p) else none) else none
  | _ => none) else none
def toR (A : Amb) (o : Option Str) (m : M) : R D := match o with
  | some t => .ok (.str t) m
  | none => .ex (noName A) m
theorem nameB_named {y : Str} (h : nameB y = true) : Named (Txt.split y ".") := by
  unfold nameB at h
  simp only [Bool.and_eq_true, decide_eq_true_eq, List.all_eq_true] at h
  refine ⟨fun e => ?_, h.1, h.2⟩
  have a := split_count (x := y) (y := ".") (by rw [tl_dot]; simp) dot_kind
  rw [e] at a
  have b : 0 ≤ Txt.count y "." := by
    show 0 ≤ ((_ : Nat) : Int)
    omega
  simp at a
  omega
theorem nameB_join {y : Str} (h : nameB y = true) : Txt.join "." (Txt.split y ".") = y := by
  rw [TL.join_eq]
  exact StrLaws.join_split y "."
theorem nameB_len {y : Str} (h : nameB y = true) : y.length ≤ 36 := by
  have := named_size (nameB_named h)
  rwa [nameB_join h] at this
theorem nearB_bh {x : Str} (h : nearB x = true) : (bh x).length ≤ 36 := by
  unfold nearB at h
  simp only [Bool.and_eq_true, Bool.or_eq_true, decide_eq_true_eq] at h
  rcases h.2 with h | h
  · exact nameB_len h
  · rw [h.1, nil_len]; omega
theorem cut_left {ps : List Str} (i : Int) (k : Nat) (h : i = (k : Int)) : slD (.lst (txs ps)) none (some i) m = .ok (.lst (txs (ps.take k))) m := by
  subst h
  show R.ok (D.lst (cutL (txs ps) none (some (k : Int)))) m = _
  rw [cut_txs]
theorem told_sum {x y : Str} {p : Bool} (hx : nearB x = true) (hy : nameB y = true) {ys : List Str} (e : ys = (Txt.split y ".").take (leftS x y p) ++ (if bh x = "" then [] else [bh x])) : (ys.map (·.length)).sum + ys.length * ("." : Str).length ≤ 100 ∧ ys.length ≤ 5 := by
  have hn := nameB_named hy
  have hb := nearB_bh hx
  have h1 := sum_part (ps := (Txt.split y ".").take (leftS x y p)) fun q hq => hn.all q (List.mem_of_mem_take hq)
  have h2 : ((Txt.split y ".").take (leftS x y p)).length ≤ 4 := Nat.le_trans (by rw [List.length_take]; omega) hn.le
  subst e
  generalize (Txt.split y ".").take (leftS x y p) = qs at *
  rw [dot_len, List.map_append, List.sum_append, List.length_append]
  by_cases hz : bh x = ""
  · rw [if_pos hz]
    simp
    omega
  · rw [if_neg hz]
    simp
    omega
theorem told_len {x y : Str} {p : Bool} (hx : nearB x = true) (hy : nameB y = true) : (toldS x y p).length ≤ 100 := by
  have h := (told_sum (p := p) hx hy rfl).1
  have a := StrLaws.join_length_le "." ((Txt.split y ".").take (leftS x y p) ++ (if bh x = "" then [] else [bh x]))
  unfold toldS
  rw [TL.join_eq]
  omega
theorem near_name_str {x y : Str} (hx : x.length ≤ 1000) (hy : y.length ≤ 1000) (p : Bool) : G_near_name A [.str x, .str y, .bl p] m = toR A (nearS x (.str y) p) m := by
  have hd := dots_ahead (A := A) (m := m) hx
  have c1 : ∀ z : Str, z.length ≤ 1000 → z.length ≤ sizeLine := fun z h => small h
  unfold G_near_name F_near_name nearS
  rw [bodyD_ap]
  cases hn : nearB x with
  | false =>
    simp [is_near_str (A := A) (m := m) hx, hn]
    rfl
  | true =>
    by_cases h0 : dn x = 0
    · simp [is_near_str (A := A) (m := m) hx, hn, hd, h0]
      rfl
    · cases hb : nameB y with
      | false =>
        simp [is_near_str (A := A) (m := m) hx, hn, hd, h0, is_name_str (A := A) (m := m) hy, hb]
        rfl
      | true =>
        have hs := splitD_ap m (x := y) (y := ".") ⟨by rw [dot_len]; decide, Nat.le_trans (by omega) size_big⟩
        have hN := nameB_named hb
        have hj : ∀ env : DL.Env, env[0]? = some (some (.str x)) → env[1]? = some (some (.str y)) → ∃ s, eJs [(eC (.str "no such elder of ")), (eUn fmtD (eVar 1)), (eC (.str ": ")), (eUn fmtD (eVar 0))] Str.empty env m = .ok (.str s) m := fun env e0 e1 => js_ok (fun f hf => by
          simp only [List.mem_cons, List.mem_nil_iff, or_false] at hf
          rcases hf with rfl | rfl | rfl | rfl
          · exact ⟨_, rfl, by decide +kernel⟩
          · exact ⟨y, by rw [eUn_ap, eVar_ap, e1]; exact if_pos (small hy), by omega⟩
          · exact ⟨_, rfl, by decide +kernel⟩
          · exact ⟨x, by rw [eUn_ap, eVar_ap, e0]; exact if_pos (small hx), by omega⟩) (by decide +kernel)
        have hlen : lenD A [.lst (txs (Txt.split y "."))] m = .ok (.int ((Txt.split y ".").length : Int)) m := by rw [lenD_lst, txs_len]
        obtain ⟨li, hli⟩ : ∃ li : Int, li = (Txt.split y ".").length - dn x + (if p = true then 1 else 0) := ⟨_, rfl⟩
        have hls : (li < 1 ↔ leftS x y p = 0) ∧ (¬ li < 1 → li = (leftS x y p : Int)) := by
          unfold leftS
          cases p <;> simp at hli ⊢ <;> omega
        by_cases hl : li < 1
        · have h0' := hls.1.mp hl
          cases p with
          | false =>
            have hli : li = (Txt.split y ".").length - dn x := by simpa using hli
            obtain ⟨s, hj'⟩ := hj [some (.str x), some (.str y), some (.bl false), some (.int (dn x)), some (.lst (txs (Txt.split y "."))), some (.int li), none, none] rfl rfl
            simp [is_near_str (A := A) (m := m) hx, hn, hd, h0, is_name_str (A := A) (m := m) hy, hb, hs, hlen, ← hli, hl, h0', hj', txs_len]
            rfl
          | true =>
            have hli : li = (Txt.split y ".").length - dn x + 1 := by simpa using hli
            obtain ⟨s, hj'⟩ := hj [some (.str x), some (.str y), some (.bl true), some (.int (dn x)), some (.lst (txs (Txt.split y "."))), some (.int li), none, none] rfl rfl
            simp [is_near_str (A := A) (m := m) hx, hn, hd, h0, is_name_str (A := A) (m := m) hy, hb, hs, hlen, ← hli, hl, h0', hj', txs_len]
            rfl
        · have h0' : ¬ leftS x y p = 0 := fun e => hl (hls.1.mpr e)
          have hk := hls.2 hl
          have hcut := cut_left (m := m) (ps := Txt.split y ".") li (leftS x y p) hk
          have hbl := nearB_bh hn
          have htru := asTru_str m (x := bh x) (small (k := 36) hbl)
          have hsl : slD (.str x) (some (dn x : Int)) none m = .ok (.str (bh x)) m := by rw [slS (m := m) hx, cut_dots]
          have hts := told_sum (p := p) hn hb rfl
          have hmk : mkL [.str (bh x)] m = .ok (.lst [.str (bh x)]) m := mkS (by simp)
          have hmk0 : mkL [] m = .ok (.lst []) m := mkS (by simp)
          have htl := told_len (p := p) hn hb
          have hadd : addD (.lst (txs ((Txt.split y ".").take (leftS x y p)))) (.lst (txs (if bh x = "" then [] else [bh x]))) m = .ok (.lst (txs ((Txt.split y ".").take (leftS x y p) ++ (if bh x = "" then [] else [bh x])))) m := by
            rw [addL (by rw [txs_len, txs_len, ← List.length_append]; omega)]
            simp [txs]
          have hjo : joinD (.str ".") [.lst (txs ((Txt.split y ".").take (leftS x y p) ++ (if bh x = "" then [] else [bh x])))] m = .ok (.str (toldS x y p)) m := joinD_txs m (by omega)
          have hnm := is_name_str (A := A) (m := m) (x := toldS x y p) (by omega)
          have hj2 : ∀ env : DL.Env, env[7]? = some (some (.str (toldS x y p))) → ∃ s, eJs [(eC (.str "too many parts: ")), (eUn fmtD (eVar 7))] Str.empty env m = .ok (.str s) m := fun env e0 => js_ok (fun f hf => by
            simp only [List.mem_cons, List.mem_nil_iff, or_false] at hf
            rcases hf with rfl | rfl
            · exact ⟨_, rfl, by decide +kernel⟩
            · exact ⟨_, by rw [eUn_ap, eVar_ap, e0]; exact if_pos (small (k := 100) htl), by omega⟩) (by decide +kernel)
          have hemp : ((bh x).length : Int) = 0 ↔ bh x = "" := by rw [empty_dec]; omega
          have fin : ∀ pb : Bool, p = pb → li = (Txt.split y ".").length - dn x + (if pb = true then 1 else 0) → retS ((sSeq (sSet 6 (eSl slD (eVar 0) (oSome (eVar 3)) oNone))
    (sSeq (sSet 7 (eMt isStr joinD (eC (.str ".")) (aCons (eOp addD (eSl slD (eVar 4) oNone (oSome (eVar 5))) (eIf (eTest asTru (eVar 6)) (eCall mkL (aCons (eVar 6) aNil)) (eCall mkL aNil))) aNil)))
    (sSeq (sIf (bNot (eTest asTru (eCall (fun ds m => if ds.length = 1 then G_is_name A ds m else .no) (aCons (eVar 7) aNil)))) (sRaise (.ref (He.ga A.K "NoName")) (eJs [(eC (.str "too many parts: ")), (eUn fmtD (eVar 7))] Str.empty)) sNext)
    (sRet (eVar 7))))) [some (.str x), some (.str y), some (.bl pb), some (.int (dn x)), some (.lst (txs (Txt.split y "."))), some (.int li), none, none] m) = toR A (if nameB (toldS x y p) = true then some (toldS x y p) else none) m := fun pb _ _ => by
            obtain ⟨s, hs2⟩ := hj2 [some (.str x), some (.str y), some (.bl pb), some (.int (dn x)), some (.lst (txs (Txt.split y "."))), some (.int li), some (.str (bh x)), some (.str (toldS x y p))] rfl
            by_cases he : bh x = ""
            · have hz : ((bh x).length : Int) = 0 := hemp.mpr he
              rw [if_pos he, List.append_nil] at hadd hjo
              have hadd : addD (.lst (txs ((Txt.split y ".").take (leftS x y p)))) (.lst []) m = _ := hadd
              cases hnb : nameB (toldS x y p) with
              | false =>
                simp [hsl, hcut, htru, hz, hmk0, hadd, hjo, hnm, hnb, hs2]
                rfl
              | true =>
                simp [hsl, hcut, htru, hz, hmk0, hadd, hjo, hnm, hnb]
                rfl
            · have hz : ¬ (bh x).length = 0 := fun q => he (hemp.mp (by omega))
              rw [if_neg he] at hadd hjo
              have hadd : addD (.lst (txs ((Txt.split y ".").take (leftS x y p)))) (.lst [.str (bh x)]) m = _ := hadd
              cases hnb : nameB (toldS x y p) with
              | false =>
                simp [hsl, hcut, htru, hz, hmk, hadd, hjo, hnm, hnb, hs2]
                rfl
              | true =>
                simp [hsl, hcut, htru, hz, hmk, hadd, hjo, hnm, hnb]
                rfl
          cases p with
          | false =>
            have hli2 : li = (Txt.split y ".").length - dn x := by simpa using hli
            have f := fin false rfl hli
            simp [is_near_str (A := A) (m := m) hx, hn, hd, h0, is_name_str (A := A) (m := m) hy, hb, hs, hlen, ← hli2, hl, h0', txs_len] at f ⊢
            exact f
          | true =>
            have hli2 : li = (Txt.split y ".").length - dn x + 1 := by simpa using hli
            have f := fin true rfl hli
            simp [is_near_str (A := A) (m := m) hx, hn, hd, h0, is_name_str (A := A) (m := m) hy, hb, hs, hlen, ← hli2, hl, h0', txs_len] at f ⊢
            exact f
def nearD (d b : D) (p : Bool) : Option Str := match d with
  | .str x => nearS x b p
  | _ => none
theorem near_name {d b : D} (hd : Thing d) (hb : Thing b) (p : Bool) : G_near_name A [d, b, .bl p] m = toR A (nearD d b p) m := by
  rcases hd with ⟨x, rfl, hx⟩ | hd
  · rcases hb with ⟨y, rfl, hy⟩ | hb
    · exact near_name_str hx hy p
    · show _ = toR A (nearS x b p) m
      have hdd := dots_ahead (A := A) (m := m) hx
      unfold G_near_name F_near_name nearS
      rw [bodyD_ap]
      cases hn : nearB x with
      | false =>
        simp [is_near_str (A := A) (m := m) hx, hn]
        rfl
      | true =>
        by_cases h0 : dn x = 0
        · simp [is_near_str (A := A) (m := m) hx, hn, hdd, h0]
          rfl
        · simp [is_near_str (A := A) (m := m) hx, hn, hdd, h0, is_name_odd (A := A) (m := m) hb]
          cases hb <;> rfl
  · have e : nearD d b p = none := by cases hd <;> rfl
    rw [e]
    unfold G_near_name F_near_name
    rw [bodyD_ap]
    simp [is_near_odd (A := A) (m := m) hd]
    rfl
theorem joinL_in (S : List Nat) : ∀ (l k : List (List Nat)), k ≠ [] → TL.joinL S (l ++ [TL.joinL S k]) = TL.joinL S (l ++ k)
  | [], k, _ => rfl
  | [p], k, hk => by
    cases k with
    | nil => exact absurd rfl hk
    | cons q k => rfl
  | p :: q :: l, k, hk => by
    show p ++ (S ++ TL.joinL S (q :: l ++ [TL.joinL S k])) = p ++ (S ++ TL.joinL S (q :: l ++ k))
    rw [joinL_in S (q :: l) k hk]
theorem join_in (xs ys : List Str) (h : ys ≠ []) : Txt.join "." (xs ++ [Txt.join "." ys]) = Txt.join "." (xs ++ ys) := by
  refine TL.ext_tl ?_
  rw [tl_joinT, tl_joinT, List.map_append, List.map_append, List.map_cons, List.map_nil, tl_joinT]
  exact joinL_in [46] _ _ (by simpa using h)
/-- the signs at a place -/
theorem cut_one (x : Str) (d : Nat) : (cutS x (some (d : Int)) (some ((d : Int) + 1)) = "." ↔ (TL.tl x)[d]? = some 46) := by
  have e1 : ((d : Int) + 1) = ((d + 1 : Nat) : Int) := by omega
  have hk : cutS x (some (d : Int)) (some ((d : Int) + 1)) = ⟨((TL.tl x)[d]?.toList).toArray⟩ := by
    unfold cutS
    rw [e1, HT.sIx_nat, HT.sIx_nat]
    rw [TL.len_tl]
    simp only [TL.tl]
    generalize x.cps.toList = l
    congr 2
    by_cases h : d < l.length
    · rw [Nat.min_eq_left (by omega), Nat.min_eq_left (by omega), List.drop_eq_getElem_cons h, List.getElem?_eq_getElem h]
      have : d + 1 - d = 1 := by omega
      rw [this]
      rfl
    · rw [List.getElem?_eq_none (by omega), List.drop_eq_nil_of_le (by omega), List.take_nil]
      rfl
  rw [hk]
  constructor
  · intro h
    have h2 : ((TL.tl x)[d]?.toList) = [46] := by
      have := congrArg TL.tl h
      rw [tl_dot] at this
      exact this
    cases e : (TL.tl x)[d]? with
    | none => rw [e] at h2; cases h2
    | some c => rw [e] at h2; simp at h2; rw [h2]
  · intro h
    rw [h]
    exact TL.ext_tl (by rw [tl_dot]; rfl)
theorem dot_at {x : Str} {d : Nat} (h : d < dn x) : (TL.tl x)[d]? = some 46 := by
  have hl : d < (TL.tl x).length := Nat.lt_of_lt_of_le h (by have := dn_le x; rw [TL.len_tl] at this; exact this)
  have := PyProof.Rows.takeWhile_all (fun c => c == 46) 0 (TL.tl x) d h
  rw [List.getD_eq_getElem?_getD, List.getElem?_eq_getElem hl] at this
  rw [List.getElem?_eq_getElem hl]
  have this : ((TL.tl x)[d] == 46) = true := this
  rw [eq_of_beq this]
theorem dot_not {x : Str} : (TL.tl x)[dn x]? ≠ some 46 := by
  intro e
  rcases PyProof.Rows.takeWhile_stop (fun c => c == 46) 0 (TL.tl x) with h | h
  · have : (TL.tl x)[dn x]? = none := List.getElem?_eq_none (by unfold dn; omega)
    rw [this] at e
    cases e
  · have h : ((TL.tl x).getD (dn x) 0 == 46) = false := h
    simp [List.getD, e] at h
theorem dn_zero {x : Str} (h : dn x = 0) : bh x = x := TL.ext_tl (by show (TL.tl x).drop (dn x) = _; rw [h]; rfl)
theorem nameB_nil : nameB "" = false := by decide +kernel
/-- those that are no empty texts -/
theorem comp_full {env : DL.Env} {i : Nat} (hi : i < env.length) : ∀ (ps : List Str) (acc : List D), acc.length + ps.length ≤ sizeLine →
    compD (gSet i) (eTest asBl (eOp (eqD true) (eVar i) (eC (.str "")))) (eVar i) env (txs ps) acc m = .ok (acc ++ txs (ps.filter fun p => !decide (p = ""))) m
  | [], acc, _ => by simp [txs, compD]
  | p :: ps, acc, h => by
    rw [List.length_cons] at h
    show putR (some (env.set i (some (.str p)))) _ = _
    rw [putR_some]
    have hv : (env.set i (some (D.str p)))[i]? = some (some (.str p)) := List.getElem?_set_self hi
    have hc : eTest asBl (eOp (eqD true) (eVar i) (eC (.str ""))) (env.set i (some (.str p))) m = .ok (!decide (p = "")) m := by
      simp [hv]
    rw [hc, R.bindS_ok]
    by_cases hp : p = ""
    · rw [if_neg (by simp [hp])]
      refine (comp_full hi ps acc (by omega)).trans ?_
      simp [hp]
    · rw [if_pos (by simp [hp])]
      have he : eVar i (env.set i (some (D.str p))) m = .ok (.str p) m := by simp [hv]
      rw [he, R.bindS_ok, if_pos (by omega)]
      refine (comp_full hi ps (acc ++ [D.str p]) (by simp; omega)).trans ?_
      simp [hp, txs]
end
end PU

/-! shared: names drawn of some parts; what stays of the memory -/
namespace PU
section
open PySem PySem.Spec L2 DL
variable {A : Amb} {m : M}
theorem name_drawnS {j : Nat} {s : Int} (s1 : 1 ≤ s) (s4 : s ≤ 4) (hp : Pl j m) : ∃ ps m', G_l_name_drawn A [.cell j, .int s] m = .ok (.str (Txt.join "." ps)) m' ∧ Named ps ∧ Ch j m m' := by
  obtain ⟨q, m2, e2, q0, q1, c2⟩ := take (A := A) (s := s) hp (by omega) (by omega)
  have p2 := c2.pl hp
  have hr : rng1 [.int (1 + q)] m2 = .ok (intsD 0 (1 + q).toNat) m2 := rng1_ap (by omega)
  have hlen : (intsD 0 (1 + q).toNat).length = (1 + q).toNat := by simp [intsD]
  obtain ⟨es, m3, k1, k2, k3, k4⟩ := compD_st (put := gSet 2) (el := eCall (fun ds m => if ds.length = 1 then G_l_part_drawn A ds m else .no) (aCons (eVar 0) aNil))
      (env := [some (.cell j), some (.int s), none]) (I := fun m' => Pl j m' ∧ Ch j m m') (Good := fun d => ∃ p, d = .str p ∧ partB p = true) (intsD 0 (1 + q).toNat) [] m2 (by rw [hlen]; exact Nat.le_trans (by simp; omega) size_big) ⟨p2, c2⟩ (fun d _ m' hI => by
        obtain ⟨p, m4, e4, hb, c4⟩ := part_drawn (A := A) hI.1
        exact ⟨_, .str p, m4, rfl, by simp [e4], ⟨c4.pl hI.1, hI.2.trans c4⟩, _, rfl, hb⟩)
  obtain ⟨ps, rfl, hps⟩ := txs_of k4
  have hpl : ps.length = (1 + q).toNat := by rw [← hlen, ← k3, txs_len]
  have hsum : (ps.map (·.length)).sum + ps.length * ("." : Str).length ≤ 16777216 := by
    have : (ps.map (·.length)).sum ≤ 8 * ps.length := by
      clear hpl k1 k3 k4
      induction ps with
      | nil => simp
      | cons p ps ih =>
        have h1 := partB_len (hps p List.mem_cons_self)
        have := ih fun x hx => hps x (List.mem_cons_of_mem _ hx)
        simp at this ⊢
        omega
    rw [dot_len]
    omega
  refine ⟨ps, m3, ?_, ⟨fun e => by subst e; simp at hpl; omega, by omega, hps⟩, k2.2⟩
  unfold G_l_name_drawn F_l_name_drawn
  rw [bodyD_ap]
  simp [e2, hr, k1, joinD_txs m3 hsum]
theorem named_name {ps : List Str} (h : Named ps) : nameB (Txt.join "." ps) = true := by
  unfold nameB
  rw [named_split h]
  simp only [Bool.and_eq_true, decide_eq_true_eq, List.all_eq_true]
  exact ⟨h.le, h.all⟩
theorem name_ok {x : Str} (h : nameB x = true) : PyData.strOk x = true := by
  have := join_ok fun p hp => (nameB_named h).all p hp
  rwa [nameB_join h] at this
theorem pl_app {j : Nat} (h : Pl j m) (l : M) : Pl j (m ++ l) := by
  obtain ⟨n, e⟩ := h
  exact ⟨n, get_app e l⟩
/-- all but some places stays -/
structure Fr (m m' : M) (S : List Nat) : Prop where
  len : m.length ≤ m'.length
  at_ : ∀ j, j < m.length → j ∉ S → m'[j]? = m[j]?
theorem Fr.refl {S : List Nat} : Fr m m S := ⟨Nat.le_refl _, fun _ _ _ => rfl⟩
theorem Fr.trans {m' m'' : M} {S : List Nat} (a : Fr m m' S) (b : Fr m' m'' S) : Fr m m'' S := ⟨Nat.le_trans a.len b.len, fun j h k => (b.at_ j (Nat.lt_of_lt_of_le h a.len) k).trans (a.at_ j h k)⟩
theorem Fr.mono {m' : M} {S T : List Nat} (a : Fr m m' S) (h : ∀ j ∈ S, j ∈ T) : Fr m m' T := ⟨a.len, fun j hj k => a.at_ j hj fun q => k (h j q)⟩
theorem Fr.app {S : List Nat} (l : M) : Fr m (m ++ l) S := ⟨by simp, fun j h _ => List.getElem?_append_left h⟩
theorem Fr.set {S : List Nat} {k : Nat} {o : O} (h : k ∈ S) : Fr m (m.set k o) S := ⟨by simp, fun j _ hj => get_set fun e => hj (by rw [e]; exact h)⟩
theorem Fr.setN {S : List Nat} {m0 : M} {k : Nat} {o : O} (a : Fr m0 m S) (h : m0.length ≤ k) : Fr m0 (m.set k o) S := ⟨by simpa using a.len, fun j hj hk => (get_set (by omega)).trans (a.at_ j hj hk)⟩
theorem Fr.get {m' : M} {S : List Nat} (a : Fr m m' S) {j : Nat} {o : O} (h : m[j]? = some o) (hj : j ∉ S) : m'[j]? = some o := by
  rw [a.at_ j (List.getElem?_eq_some_iff.mp h).1 hj]; exact h
theorem Fr.pile {m' : M} {j : Nat} (h : Pl j m) (c : Ch j m m') : Fr m m' [j] := by
  obtain ⟨n, rfl⟩ := c
  exact Fr.set (List.mem_singleton.mpr rfl)
theorem lt_of_get {k : Nat} {o : O} (h : m[k]? = some o) : k < m.length := (List.getElem?_eq_some_iff.mp h).1
end
end PU

/-! shared: drawn names of so many parts; tries -/
namespace PU
section
open PySem PySem.Spec L2 DL
variable {A : Amb} {m : M}
theorem name_drawnL {j : Nat} {s : Int} (s1 : 1 ≤ s) (s4 : s ≤ 4) (hp : Pl j m) : ∃ ps m', G_l_name_drawn A [.cell j, .int s] m = .ok (.str (Txt.join "." ps)) m' ∧ Named ps ∧ (ps.length : Int) ≤ s ∧ Ch j m m' := by
  obtain ⟨q, m2, e2, q0, q1, c2⟩ := take (A := A) (s := s) hp (by omega) (by omega)
  have p2 := c2.pl hp
  have hr : rng1 [.int (1 + q)] m2 = .ok (intsD 0 (1 + q).toNat) m2 := rng1_ap (by omega)
  have hlen : (intsD 0 (1 + q).toNat).length = (1 + q).toNat := by simp [intsD]
  obtain ⟨es, m3, k1, k2, k3, k4⟩ := compD_st (put := gSet 2) (el := eCall (fun ds m => if ds.length = 1 then G_l_part_drawn A ds m else .no) (aCons (eVar 0) aNil))
      (env := [some (.cell j), some (.int s), none]) (I := fun m' => Pl j m' ∧ Ch j m m') (Good := fun d => ∃ p, d = .str p ∧ partB p = true) (intsD 0 (1 + q).toNat) [] m2 (by rw [hlen]; exact Nat.le_trans (by simp; omega) size_big) ⟨p2, c2⟩ (fun d _ m' hI => by
        obtain ⟨p, m4, e4, hb, c4⟩ := part_drawn (A := A) hI.1
        exact ⟨_, .str p, m4, rfl, by simp [e4], ⟨c4.pl hI.1, hI.2.trans c4⟩, _, rfl, hb⟩)
  obtain ⟨ps, rfl, hps⟩ := txs_of k4
  have hpl : ps.length = (1 + q).toNat := by rw [← hlen, ← k3, txs_len]
  have hsum : (ps.map (·.length)).sum + ps.length * ("." : Str).length ≤ 16777216 := by
    have : (ps.map (·.length)).sum ≤ 8 * ps.length := by
      clear hpl k1 k3 k4
      induction ps with
      | nil => simp
      | cons p ps ih =>
        have h1 := partB_len (hps p List.mem_cons_self)
        have := ih fun x hx => hps x (List.mem_cons_of_mem _ hx)
        simp at this ⊢
        omega
    rw [dot_len]
    omega
  refine ⟨ps, m3, ?_, ⟨fun e => by subst e; simp at hpl; omega, by omega, hps⟩, by omega, k2.2⟩
  unfold G_l_name_drawn F_l_name_drawn
  rw [bodyD_ap]
  simp [e2, hr, k1, joinD_txs m3 hsum]
theorem sTry_ex {K : PySem.W.Frag} {c : Value} {i : Nat} {Fb Fs : DL.Env → M → S} {env env1 : DL.Env} {m1 : M} {x : X} (e : Fb env m = .ex x env1 m1) (q : PySem.W.exmOne K x.C c = some true) : sTry K c i Fb Fs env m = unS i (Fs (env1.set i (some (.cell m1.length))) (m1 ++ [.exc x.C x.fs])) := by
  unfold sTry
  rw [e]
  simp only [q]
theorem sTry_nx {K : PySem.W.Frag} {c : Value} {i : Nat} {Fb Fs : DL.Env → M → S} {env env1 : DL.Env} {m1 : M} (e : Fb env m = .nx env1 m1) : sTry K c i Fb Fs env m = .nx env1 m1 := by
  unfold sTry
  rw [e]
theorem sTryC_ex {dec : Value → Option Bool} {i : Nat} {Fb Fs : DL.Env → M → S} {env env1 : DL.Env} {m1 : M} {x : X} (e : Fb env m = .ex x env1 m1) (q : dec x.C = some true) : sTryC dec i Fb Fs env m = unS i (Fs (env1.set i (some (.cell m1.length))) (m1 ++ [.exc x.C x.fs])) := by
  unfold sTryC
  rw [e]
  simp only [q]
theorem sTryC_nx {dec : Value → Option Bool} {i : Nat} {Fb Fs : DL.Env → M → S} {env env1 : DL.Env} {m1 : M} (e : Fb env m = .nx env1 m1) : sTryC dec i Fb Fs env m = .nx env1 m1 := by
  unfold sTryC
  rw [e]
/-- told as refused with the class x alone -/
def Told (A : Amb) (m : M) (x : Str) (fs : Option (List (Str × D))) (r : R D) : Prop := ∃ l k, r = .ok (.cell k) (m ++ l) ∧ (m ++ l)[k]? = some (.exc (.ref (He.ga A.K x)) fs)
theorem told_end {x : X} {x0 : Str} {m1 l : M} (h : m1 = m ++ l) (hc : x.C = .ref (He.ga A.K x0)) : Told A m x0 x.fs (.ok (.cell m1.length) (m1 ++ [.exc x.C x.fs])) := by
  subst h
  refine ⟨l ++ [.exc x.C x.fs], (m ++ l).length, by rw [List.append_assoc], ?_⟩
  rw [← List.append_assoc, List.getElem?_append_right (Nat.le_refl _), Nat.sub_self, hc]
  rfl
end
end PU

/-! shared: takes and cells told exactly, whatever the memory -/
namespace PU
section
open PySem PySem.Spec L2 DL
variable {A : Amb} {m : M}
theorem takeE {j : Nat} {n s : Int} (h : m[j]? = some (.lst [.int n])) (h0 : 0 < s) (h1 : s < 2 ^ 31) : G_l_take A [.cell j, .int s] m = .ok (.int (n % s)) (m.set j (.lst [.int (n / s)])) := by
  have hd : 0 < s ∧ s.natAbs.log2 < 9000 := ⟨h0, Nat.lt_trans (lgN (a := 32) (by decide) (by omega)) (by decide)⟩
  have hs : seqOf (.cell j) m = some [.int n] := by
    show (match m[j]? with | some (.lst ds) => some ds | _ => none) = _
    rw [h]
  have hix : ixD (.cell j) (.int 0) m = .ok (.int n) m := ixD_cell hs rfl
  unfold G_l_take F_l_take
  rw [bodyD_ap]
  simp [hix, modD_int m h0, divD_int m hd, sSetIx, h, ixN]
def mixV (c k : Int) : Int := (c % 2147483647 * 48271 + k * 69621 + 1048583) % 2147483629
def mixW (n : Int) : Int := n * n % 2147483587
def mixX (q : Int) : Int := q * (q + 2) % 2147483579
def mixE (c k : Int) : Int := mixX (mixW (mixV c k))
theorem mixedE {c k : Int} (hk : k.natAbs < 2 ^ 60) : G_l_mixed A [.int c, .int k] m = .ok (.int (mixE c k)) m ∧ 0 ≤ mixE c k ∧ mixE c k < 2 ^ 31 := by
  have a0 : 0 ≤ c % 2147483647 := Int.emod_nonneg _ (by decide)
  have a1 : c % 2147483647 < 2147483647 := Int.emod_lt_of_pos _ (by decide)
  have h1 : (c % 2147483647).natAbs < 2 ^ 31 := by omega
  unfold mixE mixX mixW mixV
  generalize hn : (c % 2147483647 * 48271 + k * 69621 + 1048583) % 2147483629 = n
  have b0 : 0 ≤ n := by rw [← hn]; exact Int.emod_nonneg _ (by decide)
  have b1 : n < 2147483629 := by rw [← hn]; exact Int.emod_lt_of_pos _ (by decide)
  have h2 : n.natAbs < 2 ^ 31 := by omega
  generalize hq : n * n % 2147483587 = q
  have c0 : 0 ≤ q := by rw [← hq]; exact Int.emod_nonneg _ (by decide)
  have c1 : q < 2147483587 := by rw [← hq]; exact Int.emod_lt_of_pos _ (by decide)
  have h3 : q.natAbs < 2 ^ 31 := by omega
  have h4 : (q + 2).natAbs < 2 ^ 32 := by omega
  refine ⟨?_, Int.emod_nonneg _ (by decide), by have := Int.emod_lt_of_pos (q * (q + 2)) (show (0 : Int) < 2147483579 by decide); omega⟩
  unfold G_l_mixed F_l_mixed
  rw [bodyD_ap]
  simp [modD_int (m := m) (j := 2147483647) (by decide), modD_int (m := m) (j := 2147483629) (by decide), modD_int (m := m) (j := 2147483587) (by decide), modD_int (m := m) (j := 2147483579) (by decide),
    mulZ (m := m) h1 (show (48271 : Int).natAbs < 2 ^ 16 by decide) (by decide) (by decide) (by decide), mulZ (m := m) hk (show (69621 : Int).natAbs < 2 ^ 17 by decide) (by decide) (by decide) (by decide), hn,
    mulZ (m := m) h2 h2 (by decide) (by decide) (by decide), hq, mulZ (m := m) h3 h4 (by decide) (by decide) (by decide)]
def foldV (c : Int) (k : Nat) : Nat → Int
  | 0 => 0
  | i + 1 => foldV c k i * 2147483579 + mixE c (7 * (k : Int) + 100 * (i : Int) + (i : Int) * (i : Int))
def cell0 (A : Amb) (k : Nat) : Int := A.ns.getD k 0
/-- what a cell of the script comes to -/
def cellV (A : Amb) (k : Nat) : Int := if (1000000000000000000 : Int) ≤ cell0 A k then (cell0 A k - 1000000000000000000) % 1000000000000000000000000000000000000000000000000000000000000000000000000000000000000000000000000000000000000000000000000000000000000000000000000000000000000000000000000000000000000000000000000000000000000000000000000000000000000000000000000 else foldV (cell0 A k) k 24
theorem cellE {k : Nat} (hk : k ≤ 100) : G_l_cell A [.scr, .int (k : Int)] m = .ok (.int (cellV A k)) m := by
  have hc : (if (k : Int) < (A.ns.length : Int) then ixScr A .scr (.int k) m else .ok (.int 0) m) = .ok (.int (cell0 A k)) m := by
    by_cases h : (k : Int) < (A.ns.length : Int)
    · rw [if_pos h]
      have hl : k < A.ns.length := by omega
      have e : atI A.ns (k : Int) = some A.ns[k] := by
        unfold atI ixN
        rw [if_pos (by omega), if_pos (by omega)]
        simp
      have e2 : cell0 A k = A.ns[k] := by unfold cell0; simp [hl]
      show (match atI A.ns (k : Int) with | some n => R.ok (D.int n) m | none => R.no) = _
      rw [e, e2]
    · rw [if_neg h]
      have e2 : cell0 A k = 0 := by
        unfold cell0
        rw [List.getD_eq_getElem?_getD, List.getElem?_eq_none (by omega)]
        rfl
      rw [e2]
  unfold cellV
  generalize cell0 A k = c at hc ⊢
  by_cases hbig : (1000000000000000000 : Int) ≤ c
  · rw [if_pos hbig]
    unfold G_l_cell F_l_cell
    rw [bodyD_ap]
    by_cases h : (k : Int) < (A.ns.length : Int)
    · rw [if_pos h] at hc
      have h' : k < A.ns.length := by omega
      simp [h, h', hc, pow18, pow60, big2, big3, big4, hbig, modD_int (m := m) (j := 1000000000000000000000000000000000000000000000000000000000000000000000000000000000000000000000000000000000000000000000000000000000000000000000000000000000000000000000000000000000000000000000000000000000000000000000000000000000000000000000000) (by decide +kernel)]
    · rw [if_neg h] at hc
      injection hc with h1
      injection h1 with h1
      rw [← h1] at hbig
      exact absurd hbig (by decide)
  · rw [if_neg hbig]
    have hloop : ∃ env2 m2, loopD (gSet 4) (sSet 3 (eOp addD (eOp mulD (eVar 3) (eC (.int 2147483579))) (eCall (fun ds m => if ds.length = 2 then G_l_mixed A ds m else .no) (aCons (eVar 2) (aCons (eOp addD (eOp addD (eOp mulD (eC (.int 7)) (eVar 1)) (eOp mulD (eC (.int 100)) (eVar 4))) (eOp mulD (eVar 4) (eVar 4))) aNil))))) (intsD 0 24) (cellEnv k c 0 none) m = .nx env2 m2 ∧
        ∃ j, env2 = cellEnv k c (foldV c k (0 + (intsD 0 24).length)) j ∧ 0 ≤ foldV c k (0 + (intsD 0 24).length) ∧ foldV c k (0 + (intsD 0 24).length) < 2 ^ (32 * (0 + (intsD 0 24).length)) ∧ m2 = m := by
      refine loop_inv (I := fun i env m' => ∃ j, env = cellEnv k c (foldV c k i) j ∧ 0 ≤ foldV c k i ∧ foldV c k i < 2 ^ (32 * i) ∧ m' = m) (intsD 0 24) 0 _ m ⟨none, rfl, Int.le_refl _, by show (0 : Int) < 1; decide, rfl⟩ ?_
      rintro j d env m' hj ⟨jv, rfl, f0, f1, rfl⟩
      have hstep : foldV c k (0 + j + 1) = foldV c k (0 + j) * 2147483579 + mixE c (7 * (k : Int) + 100 * (j : Int) + (j : Int) * (j : Int)) := by
        show foldV c k (0 + j) * 2147483579 + mixE c (7 * (k : Int) + 100 * ((0 + j : Nat) : Int) + ((0 + j : Nat) : Int) * ((0 + j : Nat) : Int)) = _
        rw [Nat.zero_add]
      rw [hstep]
      generalize foldV c k (0 + j) = f at f0 f1 ⊢
      obtain ⟨hjl, hd⟩ := List.getElem?_eq_some_iff.mp hj
      have hjl : j < 24 := by simpa [intsD] using hjl
      have hd : d = .int (j : Int) := by
        rw [← hd]; simp [intsD]
      subst hd
      have e7 : ((7 * (k : Int) + 100 * (j : Int) + (j : Int) * (j : Int))).natAbs < 2 ^ 60 := by
        have h1 : (j : Int) * (j : Int) ≤ 24 * 24 := Int.mul_le_mul (by omega) (by omega) (by omega) (by omega)
        have h2 : (0 : Int) ≤ (j : Int) * (j : Int) := Int.mul_nonneg (by omega) (by omega)
        omega
      obtain ⟨hr, r0, r1⟩ := mixedE (A := A) (m := m') (c := c) e7
      generalize mixE c (7 * (k : Int) + 100 * (j : Int) + (j : Int) * (j : Int)) = r at hr r0 r1 ⊢
      have f2 : f.natAbs < 2 ^ 768 := by
        have h1 : (2 : Int) ^ (32 * (0 + j)) ≤ 2 ^ 768 := by
          have : (2 : Nat) ^ (32 * (0 + j)) ≤ 2 ^ 768 := Nat.pow_le_pow_right (by decide) (by omega)
          exact_mod_cast this
        have h2 : f < 2 ^ 768 := by omega
        have h3 : ((2 ^ 768 : Nat) : Int) = 2 ^ 768 := by norm_cast
        omega
      have hm1 : mulD (.int f) (.int 2147483579) m' = .ok (.int (f * 2147483579)) m' := mulZ (a := 768) (b := 32) f2 (by decide) (by decide) (by decide) (by decide)
      have hm2 : mulD (.int 7) (.int (k : Int)) m' = .ok (.int (7 * (k : Int))) m' := mulZ (a := 4) (b := 8) (by decide) (by omega) (by decide) (by decide) (by decide)
      have hm3 : mulD (.int 100) (.int (j : Int)) m' = .ok (.int (100 * (j : Int))) m' := mulZ (a := 8) (b := 8) (by decide) (by omega) (by decide) (by decide) (by decide)
      have hm4 : mulD (.int (j : Int)) (.int (j : Int)) m' = .ok (.int ((j : Int) * (j : Int))) m' := mulZ (a := 8) (b := 8) (by omega) (by omega) (by decide) (by decide) (by decide)
      refine ⟨_, _, m', rfl, ?_, some (.int (j : Int)), rfl, ?_, ?_, rfl⟩
      · simp [cellEnv, hm1, hm2, hm3, hm4, hr]
      · have := Int.mul_nonneg f0 (show (0 : Int) ≤ 2147483579 by decide)
        omega
      · have e : (2 : Int) ^ (32 * (0 + j + 1)) = 2 ^ (32 * (0 + j)) * 2 ^ 32 := by
          rw [show 32 * (0 + j + 1) = 32 * (0 + j) + 32 by omega, Int.pow_add]
        rw [e]
        generalize (2 : Int) ^ (32 * (0 + j)) = q at f1
        have : (2 : Int) ^ 31 = 2147483648 := by decide
        have : (2 : Int) ^ 32 = 4294967296 := by decide
        omega
    obtain ⟨env2, m2, hl, j, rfl, f0, f1, rfl⟩ := hloop
    rw [show 0 + (intsD 0 24).length = 24 by simp [intsD]] at hl
    unfold G_l_cell F_l_cell
    rw [bodyD_ap]
    have h24 : rng1 [.int 24] m2 = .ok (intsD 0 24) m2 := rng1_ap (j := 24) (by decide)
    by_cases h : (k : Int) < (A.ns.length : Int)
    · rw [if_pos h] at hc
      have h' : k < A.ns.length := by omega
      simp [h, h', hc, pow18, hbig, h24]
      unfold cellEnv at hl
      rw [hl]
      simp
    · rw [if_neg h] at hc
      injection hc with h1
      injection h1 with h1
      subst h1
      have h' : ¬ k < A.ns.length := by omega
      simp [h, h', pow18, h24]
      unfold cellEnv at hl
      rw [hl]
      simp
end
end PU

/-! shared: rows of bodies, stores, made forms -/
namespace FU
section
open PySem PySem.Spec L2 DL
def F_is_part (A : Amb) : DL.Env → M → S :=
  (sSeq (sIf (bOr (bNot (eTest asTru (eCall isiD (aCons (eVar 0) (aCons (eC (.ob (.ty "str"))) aNil))))) (eTest asBl (eOp (cmpD fun i j => decide (j < i)) (eCall (lenD A) (aCons (eVar 0) aNil)) (eC (.int 8))))) (sRet (eC (.bl false))) sNext)
    (sRet (eAnd (eMt isStr (askD Txt.isascii) (eVar 0) aNil) (eAnd (eMt isStr (askD Txt.isalpha) (eVar 0) aNil) (eMt isStr (askD Txt.islower) (eVar 0) aNil)))))
def G_is_part (A : Amb) : List D → M → R D := bodyD 1 (F_is_part A)
def F_is_name (A : Amb) : DL.Env → M → S :=
  (sSeq (sIf (bNot (eTest asTru (eCall isiD (aCons (eVar 0) (aCons (eC (.ob (.ty "str"))) aNil))))) (sRet (eC (.bl false))) sNext)
    (sSeq (sSet 1 (eMt isStr splitD (eVar 0) (aCons (eC (.str ".")) aNil)))
    (sRet (eAnd (eOp (cmpD fun i j => decide (i ≤ j)) (eCall (lenD A) (aCons (eVar 1) aNil)) (eC (.int 4))) (eCall (quantD fun bs => bs.all id) (aCons (eComp okL [2] (iIt asLst (eVar 1)) (gSet 2) bYes (eCall (fun ds m => if ds.length = 1 then G_is_part A ds m else .no) (aCons (eVar 2) aNil))) aNil))))))
def G_is_name (A : Amb) : List D → M → R D := bodyD 3 (F_is_name A)
def F_dots_ahead (A : Amb) : DL.Env → M → S :=
  (sRet (eOp subD (eCall (lenD A) (aCons (eVar 0) aNil)) (eCall (lenD A) (aCons (eMt isStr (str1D Txt.lstripChars) (eVar 0) (aCons (eC (.str ".")) aNil)) aNil))))
def G_dots_ahead (A : Amb) : List D → M → R D := bodyD 1 (F_dots_ahead A)
def F_is_near (A : Amb) : DL.Env → M → S :=
  (sSeq (sIf (bNot (eTest asTru (eCall isiD (aCons (eVar 0) (aCons (eC (.ob (.ty "str"))) aNil))))) (sRet (eC (.bl false))) sNext)
    (sSeq (sSet 1 (eCall (fun ds m => if ds.length = 1 then G_dots_ahead A ds m else .no) (aCons (eVar 0) aNil)))
    (sSeq (sSet 2 (eSl slD (eVar 0) (oSome (eVar 1)) oNone))
    (sRet (eAnd (eOp (cmpD fun i j => decide (i ≤ j)) (eVar 1) (eC (.int 4))) (eOr (eCall (fun ds m => if ds.length = 1 then G_is_name A ds m else .no) (aCons (eVar 2) aNil)) (eAnd (eOp (eqD false) (eVar 2) (eC (.str ""))) (eOp (cmpD fun i j => decide (j < i)) (eVar 1) (eC (.int 0))))))))))
def G_is_near (A : Amb) : List D → M → R D := bodyD 3 (F_is_near A)
def F_is_number (A : Amb) : DL.Env → M → S :=
  (sSeq (sSet 1 (eMt isStr (str1D Txt.removeprefix) (eVar 0) (aCons (eC (.str "-")) aNil)))
    (sSeq (sIf (bOr (eTest asBl (eOp (cmpD fun i j => decide (j < i)) (eCall (lenD A) (aCons (eVar 1) aNil)) (eC (.int 9)))) (bNot (bAnd (eTest asTru (eMt isStr (askD Txt.isascii) (eVar 1) aNil)) (eTest asTru (eMt isStr (askD Txt.isdigit) (eVar 1) aNil))))) (sRet (eC (.bl false))) sNext)
    (sRet (eOr (eOp (eqD false) (eVar 0) (eC (.str "0"))) (eOp (eqD true) (eOp ixD (eVar 1) (eC (.int 0))) (eC (.str "0")))))))
def G_is_number (A : Amb) : List D → M → R D := bodyD 2 (F_is_number A)
def F_is_sum (A : Amb) : DL.Env → M → S :=
  (sSeq (sSet 1 (eMt isStr splitD (eVar 0) (aCons (eC (.str "+")) aNil)))
    (sRet (eAnd (eOp (cmpD fun i j => decide (i ≤ j)) (eCall (lenD A) (aCons (eVar 1) aNil)) (eC (.int 8))) (eCall (quantD fun bs => bs.all id) (aCons (eComp okL [2] (iIt asLst (eVar 1)) (gSet 2) bYes (eOr (eCall (fun ds m => if ds.length = 1 then G_is_number A ds m else .no) (aCons (eVar 2) aNil)) (eCall (fun ds m => if ds.length = 1 then G_is_name A ds m else .no) (aCons (eVar 2) aNil)))) aNil)))))
def G_is_sum (A : Amb) : List D → M → R D := bodyD 3 (F_is_sum A)
def F_fits (A : Amb) : DL.Env → M → S :=
  (sSeq (sIf (eTest asBl (eOp (eqD false) (eVar 1) (eC (.str "P")))) (sRet (eCall (fun ds m => if ds.length = 1 then G_is_part A ds m else .no) (aCons (eVar 0) aNil))) sNext)
    (sSeq (sIf (eTest asBl (eOp (eqD false) (eVar 1) (eC (.str "T")))) (sRet (eAnd (eCall (fun ds m => if ds.length = 1 then G_is_part A ds m else .no) (aCons (eVar 0) aNil)) (eOp (eqD true) (eVar 0) (eC (.str "all"))))) sNext)
    (sSeq (sIf (eTest asBl (eOp (eqD false) (eVar 1) (eC (.str "S")))) (sRet (eCall (fun ds m => if ds.length = 1 then G_is_sum A ds m else .no) (aCons (eVar 0) aNil))) sNext)
    (sSeq (sIf (eTest asBl (eOp (eqD false) (eVar 1) (eC (.str "N")))) (sRet (eCall (fun ds m => if ds.length = 1 then G_is_name A ds m else .no) (aCons (eVar 0) aNil))) sNext)
    (sSeq (sIf (eTest asBl (eOp (eqD false) (eVar 1) (eC (.str "M")))) (sRet (eCall (fun ds m => if ds.length = 1 then G_is_near A ds m else .no) (aCons (eVar 0) aNil))) sNext)
    (sRet (eOp (eqD false) (eVar 0) (eVar 1))))))))
def G_fits (A : Amb) : List D → M → R D := bodyD 2 (F_fits A)
def F_is_kind (A : Amb) : DL.Env → M → S :=
  (sSeq (sSet 2 (eMt isStr splitD (eVar 1) (aCons (eC (.str " ")) aNil)))
    (sRet (eAnd (eOp (eqD false) (eCall (lenD A) (aCons (eVar 0) aNil)) (eCall (lenD A) (aCons (eVar 2) aNil))) (eCall (quantD fun bs => bs.all id) (aCons (eCompM okL [3, 4] (srcZ (aCons (eVar 0) (aCons (eVar 2) aNil))) (gPutT 3 4) bYes (eCall (fun ds m => if ds.length = 2 then G_fits A ds m else .no) (aCons (eVar 3) (aCons (eVar 4) aNil)))) aNil)))))
def G_is_kind (A : Amb) : List D → M → R D := bodyD 5 (F_is_kind A)
def F_is_show (A : Amb) : DL.Env → M → S :=
  (sSeq (sSet 1 (eSl slD (eVar 0) (oSome (eC (.int 1))) oNone))
    (sSeq (sIf (bOr (eTest asBl (eOp (eqD true) (eOp ixD (eVar 0) (eC (.int 0))) (eC (.str "show")))) (bNot (eTest asTru (eVar 1)))) (sRet (eC (.bl false))) sNext)
    (sRet (eAnd (eCall (quantD fun bs => bs.all id) (aCons (eComp okL [2] (iIt asLst (eVar 1)) (gSet 2) bYes (eCall (fun ds m => if ds.length = 1 then G_is_part A ds m else .no) (aCons (eVar 2) aNil))) aNil)) (eOp (eqD false) (eUn lenSetD (eVar 1)) (eCall (lenD A) (aCons (eVar 1) aNil)))))))
def G_is_show (A : Amb) : List D → M → R D := bodyD 3 (F_is_show A)
def F_is_row (A : Amb) : DL.Env → M → S :=
  (sRet (eOr (eCall (fun ds m => if ds.length = 1 then G_is_show A ds m else .no) (aCons (eVar 0) aNil)) (eCall (quantD fun bs => bs.any id) (aCons (eComp okL [1] (iIt asTup (eC (.tup (txs ["set P S", "del P", "note S", "fail P", "when P S", "load N", "load N as P", "later N as P", "may N as P", "from M take T", "from M take T as P", "from M take all", "again N", "drop N"])))) (gSet 1) bYes (eCall (fun ds m => if ds.length = 2 then G_is_kind A ds m else .no) (aCons (eVar 0) (aCons (eVar 1) aNil)))) aNil))))
def G_is_row (A : Amb) : List D → M → R D := bodyD 2 (F_is_row A)
def F_read_rows (A : Amb) : DL.Env → M → S :=
  (sSeq (sIf (bNot (eTest asTru (eCall isiD (aCons (eVar 0) (aCons (eC (.ob (.ty "str"))) aNil))))) (sRaiseI (He.ga A.K "NoBody") "no body, for row " "row" (eC .non)) sNext)
    (sSeq (sSet 2 (eIf (eTest asTru (eVar 0)) (eMt isStr splitD (eVar 0) (aCons (eC (.str "\n")) aNil)) (eCall mkL aNil)))
    (sSeq (sIf (eTest asBl (eOp (cmpD fun i j => decide (j < i)) (eCall (lenD A) (aCons (eVar 2) aNil)) (eVar 1))) (sRaiseI (He.ga A.K "NoBody") "no body, for row " "row" (eC .non)) sNext)
    (sSeq (sSet 3 (eCall mkC aNil))
    (sSeq (sFor (iIt asLst (eVar 2)) (gSet 4) (sSeq (sSet 5 (eMt isStr splitD (eVar 4) (aCons (eC (.str " ")) aNil)))
    (sSeq (sIf (bNot (eTest asTru (eCall (fun ds m => if ds.length = 1 then G_is_row A ds m else .no) (aCons (eVar 5) aNil)))) (sRaiseI (He.ga A.K "NoBody") "no body, for row " "row" (eCall (lenD A) (aCons (eVar 3) aNil))) sNext)
    (sDrop (eMt isLst appendD (eVar 3) (aCons (eCall tupleD (aCons (eVar 5) aNil)) aNil))))))
    (sRet (eVar 3)))))))
def G_read_rows (A : Amb) : List D → M → R D := bodyD 6 (F_read_rows A)
def F_read_body (A : Amb) : DL.Env → M → S :=
  (sRet (eCall (fun ds m => if ds.length = 2 then G_read_rows A ds m else .no) (aCons (eVar 0) (aCons (eC (.int 12)) aNil))))
def G_read_body (A : Amb) : List D → M → R D := bodyD 1 (F_read_body A)
def F_check_name (A : Amb) : DL.Env → M → S :=
  (sIf (bNot (eTest asTru (eCall (fun ds m => if ds.length = 1 then G_is_name A ds m else .no) (aCons (eVar 0) aNil)))) sDead sNext)
def G_check_name (A : Amb) : List D → M → R D := bodyD 1 (F_check_name A)
def F_Store_init (A : Amb) : DL.Env → M → S :=
  (sSeq (sIf (bNot (eTest asTru (eCall (fun ds m => if ds.length = 1 then G_is_part A ds m else .no) (aCons (eVar 1) aNil)))) sDead sNext)
    (sSeq (sFldD A.K "name" (eVar 0) (eVar 1))
    (sSeq (sFldD A.K "changed" (eVar 0) (eC (.int 0)))
    (sFldD A.K "entries" (eVar 0) eDNew))))
def G_Store_init (A : Amb) : List D → M → R D := bodyD 2 (F_Store_init A)
def F_Store_put (A : Amb) : DL.Env → M → S :=
  (sSeq (sDrop (eCall (fun ds m => if ds.length = 1 then G_check_name A ds m else .no) (aCons (eVar 1) aNil)))
    (sSeq (sIf (bNot (eTest asTru (eCall isiD (aCons (eVar 2) (aCons (eC (.ob (.ty "str"))) aNil))))) sDead sNext)
    (sSeq (sDPutD (eFld A.K "entries" (eVar 0)) (eVar 1) (eCall mkT (aCons (eVar 2) (aCons (eVar 3) (aCons (eVar 4) aNil)))))
    (sFldD A.K "changed" (eVar 0) (eVar 4)))))
def G_Store_put (A : Amb) : List D → M → R D := bodyD 5 (F_Store_put A)
def F_Store_entry (A : Amb) : DL.Env → M → S :=
  (sSeq (sDrop (eCall (fun ds m => if ds.length = 1 then G_check_name A ds m else .no) (aCons (eVar 1) aNil)))
    (sRet (eDGet1 (eFld A.K "entries" (eVar 0)) (eVar 1))))
def G_Store_entry (A : Amb) : List D → M → R D := bodyD 2 (F_Store_entry A)
def F_entry_of (A : Amb) : DL.Env → M → S :=
  (sRet (eIf (eTest asTru (eCall (fun ds m => if ds.length = 1 then G_is_name A ds m else .no) (aCons (eVar 1) aNil))) (eMtP (He.ga A.K "Store") "entry" 1 0 2 [0, 1] [] (G_Store_entry A) (eVar 0) (aCons (eVar 1) aNil) aNil) (eC .non)))
def G_entry_of (A : Amb) : List D → M → R D := bodyD 2 (F_entry_of A)
def F_Forms_init (A : Amb) : DL.Env → M → S :=
  (sSeq (sIf (eTest asBl (eOp (inPD true) (eVar 1) (eC (.tup (txs ["stamp", "sum"]))))) (sRaise (.ref (He.ga A.K "NoLine")) (eC (.str "no way to check kept forms"))) sNext)
    (sSeq (sFldD A.K "check" (eVar 0) (eVar 1))
    (sSeq (sFldD A.K "made" (eVar 0) (eC (.int 0)))
    (sSeq (sFldD A.K "kept" (eVar 0) (eC (.int 0)))
    (sFldD A.K "by_place" (eVar 0) eTNew)))))
def G_Forms_init (A : Amb) : List D → M → R D := bodyD 2 (F_Forms_init A)
def F_Forms_is_given (A : Amb) : DL.Env → M → S :=
  (sSeq (sIf (eTest asBl (eRIn true (eVar 1) (eFld A.K "by_place" (eVar 0)))) (sRet (eC (.bl false))) sNext)
    (sSeq (sUnpN [3, 4, 5] (eRGet (eFld A.K "by_place" (eVar 0)) (eVar 1)))
    (sSeq (sIf (eTest asBl (eOp (eqD false) (eFld A.K "check" (eVar 0)) (eC (.str "sum")))) (sRet (eOp (eqD false) (eVar 3) (eOp ixD (eVar 2) (eC (.int 0))))) sNext)
    (sRet (eAnd (eOp (eqD false) (eVar 4) (eOp ixD (eVar 2) (eC (.int 2)))) (eOp (eqD false) (eCall (lenD A) (aCons (eVar 3) aNil)) (eCall (lenD A) (aCons (eOp ixD (eVar 2) (eC (.int 0))) aNil))))))))
def G_Forms_is_given (A : Amb) : List D → M → R D := bodyD 6 (F_Forms_is_given A)
def F_Forms_form (A : Amb) : DL.Env → M → S :=
  (sSeq (sSet 3 (eCall (fun ds m => if ds.length = 2 then G_entry_of A ds m else .no) (aCons (eVar 1) (aCons (eVar 2) aNil))))
    (sSeq (sIf (eTest asBl (eOp (isNoneD false) (eVar 3) (eC .non))) (sRaiseI (He.ga A.K "NotFound") "nothing found for " "name" (eVar 2)) sNext)
    (sSeq (sSet 4 (eCall mkK (aCons (eFld A.K "name" (eVar 1)) (aCons (eVar 2) aNil))))
    (sSeq (sIf (bNot (eTest asTru (eMtP (He.ga A.K "Forms") "is_given" 2 0 3 [0, 1, 2] [] (G_Forms_is_given A) (eVar 0) (aCons (eVar 4) (aCons (eVar 3) aNil)) aNil))) (sSeq (sSet 5 (eCall (fun ds m => if ds.length = 1 then G_read_body A ds m else .no) (aCons (eOp ixD (eVar 3) (eC (.int 0))) aNil)))
    (sSeq (sTPutD (eFld A.K "by_place" (eVar 0)) (eVar 4) (eCall mkT (aCons (eOp ixD (eVar 3) (eC (.int 0))) (aCons (eOp ixD (eVar 3) (eC (.int 2))) (aCons (eCall tupleD (aCons (eVar 5) aNil)) aNil)))))
    (sSeq (sFldAugD A.K "made" (eVar 0) (eC (.int 1)))
    (sFldD A.K "kept" (eVar 0) (eCall lenTD (aCons (eFld A.K "by_place" (eVar 0)) aNil)))))) sNext)
    (sRet (eCall listC (aCons (eOp ixD (eRGet (eFld A.K "by_place" (eVar 0)) (eVar 4)) (eC (.int 2))) aNil)))))))
def G_Forms_form (A : Amb) : List D → M → R D := bodyD 6 (F_Forms_form A)
def F_Forms_drop (A : Amb) : DL.Env → M → S :=
  (sSeq (sIf (bOr (bNot (eTest asTru (eCall (fun ds m => if ds.length = 1 then G_is_name A ds m else .no) (aCons (eVar 2) aNil)))) (eTest asBl (eRIn true (eCall mkK (aCons (eFld A.K "name" (eVar 1)) (aCons (eVar 2) aNil))) (eFld A.K "by_place" (eVar 0))))) (sRet (eC (.bl false))) sNext)
    (sSeq (sTDelD (eFld A.K "by_place" (eVar 0)) (eCall mkK (aCons (eFld A.K "name" (eVar 1)) (aCons (eVar 2) aNil))))
    (sSeq (sFldD A.K "kept" (eVar 0) (eCall lenTD (aCons (eFld A.K "by_place" (eVar 0)) aNil)))
    (sRet (eC (.bl true))))))
def G_Forms_drop (A : Amb) : List D → M → R D := bodyD 3 (F_Forms_drop A)
def F_Forms_is_stale (A : Amb) : DL.Env → M → S :=
  (sRet (eAnd (eMtP (He.ga A.K "Forms") "is_given" 2 0 3 [0, 1, 2] [] (G_Forms_is_given A) (eVar 0) (aCons (eVar 1) (aCons (eVar 2) aNil)) aNil) (eOp (eqD true) (eOp ixD (eRGet (eFld A.K "by_place" (eVar 0)) (eVar 1)) (eC (.int 0))) (eOp ixD (eVar 2) (eC (.int 0))))))
def G_Forms_is_stale (A : Amb) : List D → M → R D := bodyD 3 (F_Forms_is_stale A)
def F_Forms_stale (A : Amb) : DL.Env → M → S :=
  (sSeq (sSet 2 (eCall mkC aNil))
    (sSeq (sLockD (eFld A.K "by_place" (eVar 0)) (sFor (iKeysD (eFld A.K "by_place" (eVar 0))) (gPutN [3, 4]) (sSeq (sSet 5 (eMtP (He.ga A.K "Store") "entry" 1 0 2 [0, 1] [] (G_Store_entry A) (eVar 1) (aCons (eVar 4) aNil) aNil))
    (sIf (bAnd (eTest asBl (eOp (eqD false) (eVar 3) (eFld A.K "name" (eVar 1)))) (bAnd (eTest asBl (eOp (isNoneD true) (eVar 5) (eC .non))) (eTest asTru (eMtP (He.ga A.K "Forms") "is_stale" 2 0 3 [0, 1, 2] [] (G_Forms_is_stale A) (eVar 0) (aCons (eCall mkK (aCons (eVar 3) (aCons (eVar 4) aNil))) (aCons (eVar 5) aNil)) aNil)))) (sDrop (eMt isLst appendD (eVar 2) (aCons (eVar 4) aNil))) sNext))))
    (sRet (eCall sortedTD (aCons (eVar 2) aNil)))))
def G_Forms_stale (A : Amb) : List D → M → R D := bodyD 6 (F_Forms_stale A)
end
end FU

namespace FU
section
open PySem PySem.Spec L2 DL PU
variable {A : Amb} {m : M}
def noB (A : Amb) (d : D) : X := ⟨.ref (He.ga A.K "NoBody"), some [("trail", .tup []), ("row", d)]⟩
def noF (A : Amb) (x : Str) : X := ⟨.ref (He.ga A.K "NotFound"), some [("trail", .tup []), ("name", .str x)]⟩
def rowD (r : Str) : D := .tup (txs (Txt.split r " "))
/-- what is_row tells of the words of a row -/
def RowIs (A : Amb) (r : Str) (b : Bool) : Prop := ∀ m, G_is_row A [.lst (txs (Txt.split r " "))] m = .ok (.bl b) m
theorem seq_cell {k : Nat} {xs : List D} (h : m[k]? = some (.lst xs)) : seqOf (.cell k) m = some xs := by
  show (match m[k]? with | some (.lst ds) => some ds | _ => none) = _
  rw [h]
theorem is_cell {k : Nat} {xs : List D} (h : m[k]? = some (.lst xs)) : isLst (.cell k) m = true := by rw [isLst_cell, seq_cell h]; rfl
theorem append_cell {k : Nat} {xs : List D} {d : D} (h : m[k]? = some (.lst xs)) (l : xs.length < sizeLine) : appendD (.cell k) [d] m = .ok .non (m.set k (.lst (xs ++ [d]))) := by
  unfold appendD
  simp [h, l]
theorem len_cell {k : Nat} {xs : List D} (h : m[k]? = some (.lst xs)) : lenD A [.cell k] m = .ok (.int xs.length) m := by
  unfold lenD
  simp [seq_cell h]
theorem split_sp {r : Str} (h : r.length ≤ 1000) : splitD (.str r) [.str " "] m = .ok (.lst (txs (Txt.split r " "))) m := splitD_ap m (x := r) (y := " ") ⟨by decide, by rw [sizeLine_eq]; omega⟩
theorem loop_nx {put : D → DL.Env → M → Option DL.Env} {body : DL.Env → M → S} {d : D} {ds : List D} {env env1 env2 : DL.Env} {m2 : M} (g : put d env m = some env1) (e : body env1 m = .nx env2 m2) : loopD put body (d :: ds) env m = loopD put body ds env2 m2 := by
  show putS (put d env m) (fun env1 => (body env1 m).turn (loopD put body ds)) = _
  rw [g]
  show (body env1 m).turn (loopD put body ds) = _
  rw [e]
  rfl
theorem loop_ex {put : D → DL.Env → M → Option DL.Env} {body : DL.Env → M → S} {d : D} {ds : List D} {env env1 env2 : DL.Env} {m2 : M} {x : X} (g : put d env m = some env1) (e : body env1 m = .ex x env2 m2) : loopD put body (d :: ds) env m = .ex x env2 m2 := by
  show putS (put d env m) (fun env1 => (body env1 m).turn (loopD put body ds)) = _
  rw [g]
  show (body env1 m).turn (loopD put body ds) = _
  rw [e]
  rfl
def turnR (A : Amb) : DL.Env → M → S := (sSeq (sSet 5 (eMt isStr splitD (eVar 4) (aCons (eC (.str " ")) aNil)))
    (sSeq (sIf (bNot (eTest asTru (eCall (fun ds m => if ds.length = 1 then G_is_row A ds m else .no) (aCons (eVar 5) aNil)))) (sRaiseI (He.ga A.K "NoBody") "no body, for row " "row" (eCall (lenD A) (aCons (eVar 3) aNil))) sNext)
    (sDrop (eMt isLst appendD (eVar 3) (aCons (eCall tupleD (aCons (eVar 5) aNil)) aNil)))))
theorem turnR_ok {k : Nat} {acc : List D} {r : Str} {d0 d1 d2 : Option D} {d5 : Option D} (hr : RowIs A r true) (hk : m[k]? = some (.lst acc)) (ha : acc.length < sizeLine) (hl : r.length ≤ 1000) :
    turnR A [d0, d1, d2, some (.cell k), some (.str r), d5] m = .nx [d0, d1, d2, some (.cell k), some (.str r), some (.lst (txs (Txt.split r " ")))] (m.set k (.lst (acc ++ [rowD r]))) := by
  have hp : appendD (.cell k) [.tup (txs (Txt.split r " "))] m = .ok .non (m.set k (.lst (acc ++ [rowD r]))) := append_cell hk ha
  unfold turnR
  simp [split_sp hl, hr m, is_cell hk, hp]
theorem ok_rown {n : Nat} (h : n ≤ 12) : okD "no body, for row " (.int (n : Int)) = true := by
  have : ∀ n : Fin 13, okD "no body, for row " (.int (n.val : Int)) = true := by decide +kernel
  exact this ⟨n, by omega⟩
theorem turnR_ex {k : Nat} {acc : List D} {r : Str} {d0 d1 d2 : Option D} {d5 : Option D} (hr : RowIs A r false) (hk : m[k]? = some (.lst acc)) (hl : r.length ≤ 1000) (ha : acc.length ≤ 12) :
    turnR A [d0, d1, d2, some (.cell k), some (.str r), d5] m = .ex (noB A (.int acc.length)) [d0, d1, d2, some (.cell k), some (.str r), some (.lst (txs (Txt.split r " ")))] m := by
  unfold turnR
  simp [split_sp hl, hr m, len_cell hk, sRaiseI, ok_rown ha, noB]
theorem rows_ok {k : Nat} {d0 d1 d2 : Option D} : ∀ {rs : List Str} {m : M} {acc : List D} {d4 d5 : Option D}, (∀ r ∈ rs, RowIs A r true ∧ r.length ≤ 1000) → m[k]? = some (.lst acc) → acc.length + rs.length < sizeLine →
    ∃ e4 e5, loopD (gSet 4) (turnR A) (txs rs) [d0, d1, d2, some (.cell k), d4, d5] m = .nx [d0, d1, d2, some (.cell k), e4, e5] (m.set k (.lst (acc ++ rs.map rowD)))
  | [], m, acc, d4, d5, _, hk, _ => ⟨d4, d5, by
    have e : m.set k (.lst (acc ++ ([] : List Str).map rowD)) = m := by
      rw [List.map_nil, List.append_nil]
      obtain ⟨h1, h2⟩ := List.getElem?_eq_some_iff.mp hk
      rw [← h2, List.set_getElem_self]
    rw [e]; rfl⟩
  | r :: rs, m, acc, d4, d5, h, hk, hl => by
    have h1 := h r List.mem_cons_self
    have e1 := turnR_ok (A := A) (d0 := d0) (d1 := d1) (d2 := d2) (d5 := d5) h1.1 hk (by simp only [List.length_cons] at hl; omega) h1.2
    have hk2 : (m.set k (.lst (acc ++ [rowD r])))[k]? = some (.lst (acc ++ [rowD r])) := get_set_eq hk
    obtain ⟨e4, e5, e2⟩ := rows_ok (d0 := d0) (d1 := d1) (d2 := d2) (rs := rs) (d4 := some (.str r)) (d5 := some (.lst (txs (Txt.split r " ")))) (fun q hq => h q (List.mem_cons_of_mem _ hq)) hk2 (by simp only [List.length_append, List.length_cons, List.length_nil] at hl ⊢; omega)
    refine ⟨e4, e5, ?_⟩
    show loopD (gSet 4) (turnR A) (.str r :: txs rs) _ _ = _
    have g : gSet 4 (.str r) [d0, d1, d2, some (.cell k), d4, d5] m = some [d0, d1, d2, some (.cell k), some (.str r), d5] := rfl
    rw [loop_nx g e1, e2, List.set_set, List.map_cons, List.append_assoc]
    rfl
theorem rows_ex {k : Nat} {d0 d1 d2 : Option D} : ∀ {rs : List Str} {r : Str} {more : List Str} {m : M} {acc : List D} {d4 d5 : Option D}, (∀ r ∈ rs, RowIs A r true ∧ r.length ≤ 1000) → RowIs A r false → r.length ≤ 1000 → m[k]? = some (.lst acc) → acc.length + rs.length ≤ 12 →
    ∃ env m', loopD (gSet 4) (turnR A) (txs (rs ++ r :: more)) [d0, d1, d2, some (.cell k), d4, d5] m = .ex (noB A (.int (acc.length + rs.length : Nat))) env m' ∧ ∃ l, m' = m.set k (.lst l)
  | [], r, more, m, acc, d4, d5, _, hr, hl, hk, hz => by
    have e1 := turnR_ex (A := A) (d0 := d0) (d1 := d1) (d2 := d2) (d5 := d5) hr hk hl (by simpa using hz)
    have g : gSet 4 (.str r) [d0, d1, d2, some (.cell k), d4, d5] m = some [d0, d1, d2, some (.cell k), some (.str r), d5] := rfl
    refine ⟨_, m, loop_ex (ds := txs more) g e1, acc, ?_⟩
    obtain ⟨h1, h2⟩ := List.getElem?_eq_some_iff.mp hk
    rw [← h2, List.set_getElem_self]
  | q :: rs, r, more, m, acc, d4, d5, h, hr, hl, hk, hz => by
    have h1 := h q List.mem_cons_self
    have e1 := turnR_ok (A := A) (d0 := d0) (d1 := d1) (d2 := d2) (d5 := d5) h1.1 hk (by simp only [List.length_cons] at hz; rw [sizeLine_eq]; omega) h1.2
    have hk2 : (m.set k (.lst (acc ++ [rowD q])))[k]? = some (.lst (acc ++ [rowD q])) := get_set_eq hk
    obtain ⟨env, m', e2, l, e3⟩ := rows_ex (d0 := d0) (d1 := d1) (d2 := d2) (rs := rs) (r := r) (more := more) (d4 := some (.str q)) (d5 := some (.lst (txs (Txt.split q " ")))) (fun q hq => h q (List.mem_cons_of_mem _ hq)) hr hl hk2 (by simp only [List.length_append, List.length_cons, List.length_nil] at hz ⊢; omega)
    refine ⟨env, m', ?_, l, by rw [e3, List.set_set]⟩
    have g : gSet 4 (.str q) [d0, d1, d2, some (.cell k), d4, d5] m = some [d0, d1, d2, some (.cell k), some (.str q), d5] := rfl
    show loopD (gSet 4) (turnR A) (.str q :: txs (rs ++ r :: more)) _ _ = _
    rw [loop_nx g e1, e2]
    simp only [List.length_append, List.length_cons, List.length_nil]
    congr 4
    omega
/-- the rows of a text -/
def rowsOf (x : Str) : List Str := if x.length = 0 then [] else Txt.split x "\n"
theorem rows_at {x : Str} (h : x.length ≤ 1000) : eIf (eTest asTru (eVar 0)) (eMt isStr splitD (eVar 0) (aCons (eC (.str "\n")) aNil)) (eCall mkL aNil) [some (.str x), some (.int 12), none, none, none, none] m = .ok (.lst (txs (rowsOf x))) m := by
  have t : asTru (.str x) m = .ok ((x.length : Int) != 0) m := by
    show (match truD (.str x) m with | some b => R.ok b m | none => .no) = _
    show (match (if x.length ≤ sizeLine then some ((x.length : Int) != 0) else none) with | some b => R.ok b m | none => .no) = _
    rw [if_pos (by rw [sizeLine_eq]; omega)]
  have s : splitD (.str x) [.str "\n"] m = .ok (.lst (txs (Txt.split x "\n"))) m := splitD_ap m ⟨by decide, by rw [sizeLine_eq]; omega⟩
  have z : mkL [] m = .ok (.lst []) m := mkS (by decide)
  unfold rowsOf
  by_cases hx : x.length = 0
  · simp [t, hx, z]; rfl
  · simp [t, hx, s]
theorem body_is (x : Str) : G_read_body A [.str x] m = retS ((R.to (G_read_rows A [.str x, .int 12] m) [some (.str x)] fun d m => .rt d m)) := by
  unfold G_read_body F_read_body
  rw [bodyD_ap]
  simp
theorem read_ok {x : Str} (h : x.length ≤ 1000) (hn : (rowsOf x).length ≤ 12) (hr : ∀ r ∈ rowsOf x, RowIs A r true ∧ r.length ≤ 1000) : G_read_body A [.str x] m = .ok (.cell m.length) (m ++ [.lst ((rowsOf x).map rowD)]) := by
  have hk : (m ++ [O.lst []])[m.length]? = some (.lst []) := by simp
  obtain ⟨e4, e5, e⟩ := rows_ok (A := A) (k := m.length) (d0 := some (.str x)) (d1 := some (.int 12)) (d2 := some (.lst (txs (rowsOf x)))) (rs := rowsOf x) (d4 := none) (d5 := none) hr hk (by rw [sizeLine_eq]; simp; omega)
  have e2 : (m ++ [O.lst []]).set m.length (.lst ([] ++ (rowsOf x).map rowD)) = m ++ [.lst ((rowsOf x).map rowD)] := by simp
  rw [e2] at e
  have c : ¬ (12 : Int) < (txs (rowsOf x)).length := by
    unfold txs
    rw [List.length_map]
    omega
  have z : mkC [] m = .ok (.cell m.length) (m ++ [.lst []]) := mkC_ap m (small (k := 0) (by simp))
  have rr : G_read_rows A [.str x, .int 12] m = .ok (.cell m.length) (m ++ [.lst ((rowsOf x).map rowD)]) := by
    unfold G_read_rows F_read_rows
    rw [bodyD_ap]
    show retS (sSeq _ (sSeq (sSet 2 (eIf (eTest asTru (eVar 0)) (eMt isStr splitD (eVar 0) (aCons (eC (.str "\n")) aNil)) (eCall mkL aNil))) (sSeq _ (sSeq _ (sSeq (sFor (iIt asLst (eVar 2)) (gSet 4) (turnR A)) _)))) [some (.str x), some (.int 12), none, none, none, none] m) = _
    rw [sSeq_ap, sIf_ap]
    simp only [bNot_ap, eTest_ap, eCall_ap, aCons_ap, eVar_ap, eC_ap, aNil_ap, R.bind_ok, List.getElem?_cons_zero, isi_str, asTru_bl, Bool.not_true, R.to_ok]
    rw [if_neg (by simp), sNext_ap, S.bind_nx, sSeq_ap, sSet_ap, rows_at h, R.to_ok, S.bind_nx]
    simp [c, z, e]
  rw [body_is, rr]
  rfl
theorem read_ex {x : Str} (h : x.length ≤ 1000) (hn : (rowsOf x).length ≤ 12) {rs : List Str} {r : Str} {more : List Str} (hs : rowsOf x = rs ++ r :: more) (hr : ∀ r ∈ rs, RowIs A r true ∧ r.length ≤ 1000) (hb : RowIs A r false) (hl : r.length ≤ 1000) :
    ∃ l, G_read_body A [.str x] m = .ex (noB A (.int rs.length)) (m ++ [.lst l]) := by
  have hk : (m ++ [O.lst []])[m.length]? = some (.lst []) := by simp
  have lz : rs.length ≤ 12 := by rw [hs] at hn; simp at hn; omega
  obtain ⟨env, m', e, l, e2⟩ := rows_ex (A := A) (k := m.length) (d0 := some (.str x)) (d1 := some (.int 12)) (d2 := some (.lst (txs (rowsOf x)))) (rs := rs) (r := r) (more := more) (d4 := none) (d5 := none) hr hb hl hk (by simpa using lz)
  have e3 : (m ++ [O.lst []]).set m.length (.lst l) = m ++ [.lst l] := by simp
  rw [e3] at e2
  subst e2
  rw [← hs] at e
  have c : ¬ (12 : Int) < (txs (rowsOf x)).length := by
    unfold txs
    rw [List.length_map]
    omega
  have z : mkC [] m = .ok (.cell m.length) (m ++ [.lst []]) := mkC_ap m (small (k := 0) (by simp))
  refine ⟨l, ?_⟩
  have rr : G_read_rows A [.str x, .int 12] m = .ex (noB A (.int rs.length)) (m ++ [.lst l]) := by
    unfold G_read_rows F_read_rows
    rw [bodyD_ap]
    show retS (sSeq _ (sSeq (sSet 2 (eIf (eTest asTru (eVar 0)) (eMt isStr splitD (eVar 0) (aCons (eC (.str "\n")) aNil)) (eCall mkL aNil))) (sSeq _ (sSeq _ (sSeq (sFor (iIt asLst (eVar 2)) (gSet 4) (turnR A)) _)))) [some (.str x), some (.int 12), none, none, none, none] m) = _
    rw [sSeq_ap, sIf_ap]
    simp only [bNot_ap, eTest_ap, eCall_ap, aCons_ap, eVar_ap, eC_ap, aNil_ap, R.bind_ok, List.getElem?_cons_zero, isi_str, asTru_bl, Bool.not_true, R.to_ok]
    rw [if_neg (by simp), sNext_ap, S.bind_nx, sSeq_ap, sSet_ap, rows_at h, R.to_ok, S.bind_nx]
    simp [c, z, e]
  rw [body_is, rr]
  rfl
end
end FU

namespace FU
section
open PySem PySem.Spec L2 DL PU
variable {A : Amb} {m : M}
theorem mkTs {ds : List D} (h : ds.length ≤ 100) : mkT ds m = .ok (.tup ds) m := mkT_ap m (Nat.le_trans h (Nat.le_trans (by decide) size_big))
structure FF (A : Amb) : Prop where
  sn : clsB A.K (He.ga A.K "Store") "name" = true
  sc : clsB A.K (He.ga A.K "Store") "changed" = true
  se : clsB A.K (He.ga A.K "Store") "entries" = true
  fc : clsB A.K (He.ga A.K "Forms") "check" = true
  fm : clsB A.K (He.ga A.K "Forms") "made" = true
  fk : clsB A.K (He.ga A.K "Forms") "kept" = true
  fp : clsB A.K (He.ga A.K "Forms") "by_place" = true
def stO (A : Amb) (nm : Str) (c : Int) (e : Nat) : O := .ins (He.ga A.K "Store") [("name", .str nm), ("changed", .int c), ("entries", .cell e)]
def foO (A : Amb) (c : Str) (i k : Int) (p : Nat) : O := .ins (He.ga A.K "Forms") [("check", .str c), ("made", .int i), ("kept", .int k), ("by_place", .cell p)]
def entD (t : Str) (p : Bool) (s : Int) : D := .tup [.str t, .bl p, .int s]
def keptD (t : Str) (s : Int) (rows : List D) : D := .tup [.str t, .int s, .tup rows]
theorem isname {x : Str} (h : nameB x = true) : G_is_name A [.str x] m = .ok (.bl true) m := by
  have := PU.is_name_str (A := A) (m := m) (x := x) (by have := nameB_len h; omega)
  rw [h] at this
  exact this
theorem check_ok {x : Str} (h : nameB x = true) : G_check_name A [.str x] m = .ok .non m := by
  unfold G_check_name F_check_name
  rw [bodyD_ap]
  simp [isname h]
theorem mk_forms (F : FF A) {c : Str} (hc : c = "stamp" ∨ c = "sum") : mkObj (He.ga A.K "Forms") (G_Forms_init A) (fun o => [o, .str c]) m = .ok (.cell m.length) (m ++ [foO A c 0 0 (m.length + 1), .dT []]) := by
  have q : ∀ m, inPD true (.str c) (.tup (txs ["stamp", "sum"])) m = .ok (.bl false) m := fun m => by
    rcases hc with rfl | rfl <;> kernel_rfl
  have e : G_Forms_init A [.cell m.length, .str c] (m ++ [.ins (He.ga A.K "Forms") []]) = .ok .non (m ++ [foO A c 0 0 (m.length + 1), .dT []]) := by
    unfold G_Forms_init F_Forms_init
    rw [bodyD_ap]
    simp [q, sFldD_ap, F.fc, F.fm, F.fk, F.fp, putD, eTNew_ap, foO]
  unfold mkObj
  simp only [e]
theorem mk_store (F : FF A) {x : Str} (h : partB x = true) : mkObj (He.ga A.K "Store") (G_Store_init A) (fun o => [o, .str x]) m = .ok (.cell m.length) (m ++ [stO A x 0 (m.length + 1), .dK []]) := by
  have q : ∀ m, G_is_part A [.str x] m = .ok (.bl true) m := fun m => by
    have := PU.is_part_str (A := A) (m := m) (x := x) (by have := partB_len h; omega)
    rw [h] at this
    exact this
  have e : G_Store_init A [.cell m.length, .str x] (m ++ [.ins (He.ga A.K "Store") []]) = .ok .non (m ++ [stO A x 0 (m.length + 1), .dK []]) := by
    unfold G_Store_init F_Store_init
    rw [bodyD_ap]
    simp [q, sFldD_ap, F.sn, F.sc, F.se, putD, eDNew_ap, stO]
  unfold mkObj
  simp only [e]
/-- what lies under a name -/
theorem entry_at (F : FF A) {o e : Nat} {nm x : Str} {c : Int} {E : List (Key × D)} (ho : m[o]? = some (stO A nm c e)) (he : m[e]? = some (.dK E)) (hx : nameB x = true) :
    G_Store_entry A [.cell o, .str x] m = .ok ((valK E (.inr x)).getD .non) m := by
  unfold G_Store_entry F_Store_entry
  rw [bodyD_ap]
  simp only [stO] at ho
  simp [check_ok hx, eDGet1_ap, eFld_ap, objOf_cell, ho, F.se, List.lookup, kvsOf_cell, he]
theorem put_at (F : FF A) {o e : Nat} {nm x t : Str} {c s : Int} {p : Bool} {E : List (Key × D)} (ho : m[o]? = some (stO A nm c e)) (he : m[e]? = some (.dK E)) (hx : nameB x = true) (hl : E.length < 1000) :
    G_Store_put A [.cell o, .str x, .str t, .bl p, .int s] m = .ok .non ((m.set e (.dK (putKD E (.inr x) (entD t p s)))).set o (stO A nm s e)) := by
  have hne : o ≠ e := ne_at ho he (by simp [stO])
  have ho2 : (m.set e (.dK (putKD E (.inr x) (entD t p s))))[o]? = some (stO A nm c e) := by rw [get_set hne]; exact ho
  have z : E.length < sizeLine := by rw [sizeLine_eq]; omega
  unfold G_Store_put F_Store_put
  rw [bodyD_ap]
  simp only [stO, entD] at ho ho2 ⊢
  simp [check_ok hx, sDPutD_ap, eFld_ap, objOf_cell, ho, F.se, F.sc, List.lookup, kvsOf_cell, he, mkTs, sFldD_ap, ho2, putD, z]
def given (c t : Str) (s : Int) (t' : Str) (s' : Int) : Bool := if c = "sum" then decide (t = t') else decide (s = s') && decide (t.length = t'.length)
theorem given_none (F : FF A) {f p : Nat} {c : Str} {i k : Int} {P : List (List Key × D)} {q : List Key} {d : D} (hf : m[f]? = some (foO A c i k p)) (hp : kvtR (.cell p) m = some P) (hv : valK P q = none) :
    G_Forms_is_given A [.cell f, .tk q, d] m = .ok (.bl false) m := by
  unfold G_Forms_is_given F_Forms_is_given
  rw [bodyD_ap]
  simp only [foO] at hf
  simp [eRIn_ap, eFld_ap, objOf_cell, hf, F.fp, List.lookup, getR_tk, hp, hv]
theorem given_some (F : FF A) {f p : Nat} {c : Str} {i k : Int} {P : List (List Key × D)} {q : List Key} {t t' : Str} {s s' : Int} {b : Bool} {rows : List D} (hf : m[f]? = some (foO A c i k p)) (hp : kvtR (.cell p) m = some P) (hv : valK P q = some (keptD t s rows))
    (l1 : t.length ≤ 1000) (l2 : t'.length ≤ 1000) : G_Forms_is_given A [.cell f, .tk q, entD t' b s'] m = .ok (.bl (given c t s t' s')) m := by
  have z1 : lenD A [.str t] m = .ok (.int t.length) m := if_pos (by rw [sizeLine_eq]; omega)
  have z2 : lenD A [.str t'] m = .ok (.int t'.length) m := if_pos (by rw [sizeLine_eq]; omega)
  have i0 : ixD (.tup [.str t', .bl b, .int s']) (.int 0) m = .ok (.str t') m := rfl
  have i2 : ixD (.tup [.str t', .bl b, .int s']) (.int 2) m = .ok (.int s') m := rfl
  unfold G_Forms_is_given F_Forms_is_given
  rw [bodyD_ap]
  simp only [foO, keptD, entD] at hf hv ⊢
  unfold given
  by_cases h : c = "sum"
  · simp [eRIn_ap, eFld_ap, objOf_cell, hf, F.fp, F.fc, List.lookup, getR_tk, hp, hv, sUnpN_ap, eRGet_ap, setAll, h, i0]
  · by_cases h2 : s = s'
    · simp [eRIn_ap, eFld_ap, objOf_cell, hf, F.fp, F.fc, List.lookup, getR_tk, hp, hv, sUnpN_ap, eRGet_ap, setAll, h, i0, i2, h2, z1, z2]
      omega
    · simp [eRIn_ap, eFld_ap, objOf_cell, hf, F.fp, F.fc, List.lookup, getR_tk, hp, hv, sUnpN_ap, eRGet_ap, setAll, h, i0, i2, h2, z1, z2]
theorem entry_of_at (F : FF A) {o e : Nat} {nm x : Str} {c : Int} {E : List (Key × D)} (ho : m[o]? = some (stO A nm c e)) (he : m[e]? = some (.dK E)) (hx : nameB x = true) :
    G_entry_of A [.cell o, .str x] m = .ok ((valK E (.inr x)).getD .non) m := by
  have q := entry_at F ho he hx
  unfold G_entry_of F_entry_of
  rw [bodyD_ap]
  simp only [stO] at ho
  simp [isname hx, eMtP_ap, objOf_cell, ho, List.lookup, pick, q]
theorem ok_nameF {x : Str} (h : nameB x = true) : okD "nothing found for " (.str x) = true := by
  have := nameB_len h
  unfold okD
  have h1 : x.length ≤ sizeLine := small_str (by omega)
  have h2 : (Str.empty ++ "nothing found for " ++ x : Str).length ≤ sizeLine := by
    have e1 : (Str.empty : Str).length = 0 := rfl
    have e2 : ("nothing found for " : Str).length = 18 := by decide +kernel
    refine small_str ?_
    rw [app_len, app_len, e1, e2]
    omega
  simp [h1, h2]
/-- nothing lies there -/
theorem form_nf (F : FF A) {f o e : Nat} {nm x : Str} {c : Int} {E : List (Key × D)} (ho : m[o]? = some (stO A nm c e)) (he : m[e]? = some (.dK E)) (hx : nameB x = true) (hv : valK E (.inr x) = none) :
    G_Forms_form A [.cell f, .cell o, .str x] m = .ex (noF A x) m := by
  have q := entry_of_at F ho he hx
  rw [hv] at q
  unfold G_Forms_form F_Forms_form
  rw [bodyD_ap]
  simp [q, sRaiseI, ok_nameF hx, noF]
end
end FU

namespace FU
section
open PySem PySem.Spec L2 DL PU
variable {A : Amb} {m : M}
def plc (nm x : Str) : List Key := [.inr nm, .inr x]
theorem form_bad (F : FF A) {f o e p : Nat} {nm x t c0 : Str} {c s i k : Int} {b : Bool} {E : List (Key × D)} (ho : m[o]? = some (stO A nm c e)) (he : m[e]? = some (.dK E)) (hf : m[f]? = some (foO A c0 i k p)) (hx : nameB x = true) (hv : valK E (.inr x) = some (entD t b s))
    (hg : G_Forms_is_given A [.cell f, .tk (plc nm x), entD t b s] m = .ok (.bl false) m) {x0 : X} {m1 : M} (hr : G_read_body A [.str t] m = .ex x0 m1) : G_Forms_form A [.cell f, .cell o, .str x] m = .ex x0 m1 := by
  have q := entry_of_at F ho he hx
  rw [hv] at q
  have q : G_entry_of A [.cell o, .str x] m = .ok (entD t b s) m := q
  have kk : ∀ m, mkK [.str nm, .str x] m = .ok (.tk (plc nm x)) m := fun m => mkK_2 m nm x
  have n1 : ∀ m, isNoneD false (entD t b s) .non m = .ok (.bl false) m := fun m => rfl
  have i0 : ∀ m, ixD (entD t b s) (.int 0) m = .ok (.str t) m := fun m => rfl
  simp only [stO] at ho
  simp only [foO] at hf
  unfold G_Forms_form F_Forms_form
  rw [bodyD_ap]
  simp [q, n1, kk, i0, eFld_ap, objOf_cell, ho, hf, F.sn, F.fp, List.lookup, eMtP_ap, pick, hg, hr]
theorem form_old (F : FF A) {f o e p : Nat} {nm x t t' c0 : Str} {c s s' i k : Int} {b : Bool} {E : List (Key × D)} {P : List (List Key × D)} {rows : List D} (ho : m[o]? = some (stO A nm c e)) (he : m[e]? = some (.dK E)) (hf : m[f]? = some (foO A c0 i k p)) (hp : m[p]? = some (.dT P)) (hx : nameB x = true) (hv : valK E (.inr x) = some (entD t b s))
    (hg : G_Forms_is_given A [.cell f, .tk (plc nm x), entD t b s] m = .ok (.bl true) m) (hk : valK P (plc nm x) = some (keptD t' s' rows)) : G_Forms_form A [.cell f, .cell o, .str x] m = .ok (.cell m.length) (m ++ [.lst rows]) := by
  have q := entry_of_at F ho he hx
  rw [hv] at q
  have q : G_entry_of A [.cell o, .str x] m = .ok (entD t b s) m := q
  have kk : ∀ m, mkK [.str nm, .str x] m = .ok (.tk (plc nm x)) m := fun m => mkK_2 m nm x
  have n1 : ∀ m, isNoneD false (entD t b s) .non m = .ok (.bl false) m := fun m => rfl
  have i2 : ∀ m, ixD (keptD t' s' rows) (.int 2) m = .ok (.tup rows) m := fun m => rfl
  simp only [stO] at ho
  simp only [foO] at hf
  unfold G_Forms_form F_Forms_form
  rw [bodyD_ap]
  simp [q, n1, kk, eFld_ap, objOf_cell, ho, hf, F.sn, F.fp, List.lookup, eMtP_ap, pick, hg, eRGet_ap, getR_tk, kvtR_cell, hp, hk, i2]
theorem form_new (F : FF A) {f o e p : Nat} {nm x t c0 : Str} {c s i k : Int} {b : Bool} {E : List (Key × D)} {P : List (List Key × D)} (ho : m[o]? = some (stO A nm c e)) (he : m[e]? = some (.dK E)) (hf : m[f]? = some (foO A c0 i k p)) (hp : m[p]? = some (.dT P)) (hl : P.length < 1000) (hx : nameB x = true) (hv : valK E (.inr x) = some (entD t b s))
    (hg : G_Forms_is_given A [.cell f, .tk (plc nm x), entD t b s] m = .ok (.bl false) m) {rows : List D} (hr : G_read_body A [.str t] m = .ok (.cell m.length) (m ++ [.lst rows])) :
    G_Forms_form A [.cell f, .cell o, .str x] m = .ok (.cell (m.length + 1)) (((m ++ [O.lst rows]).set p (.dT (putKD P (plc nm x) (keptD t s rows)))).set f (foO A c0 (i + 1) (putKD P (plc nm x) (keptD t s rows)).length p) ++ [O.lst rows]) := by
  have ne : f ≠ p := ne_at hf hp (by simp [foO])
  have i0 : ∀ m, ixD (entD t b s) (.int 0) m = .ok (.str t) m := fun m => rfl
  have i2 : ∀ m, ixD (entD t b s) (.int 2) m = .ok (.int s) m := fun m => rfl
  have i3 : ∀ m, ixD (keptD t s rows) (.int 2) m = .ok (.tup rows) m := fun m => rfl
  have q := entry_of_at F ho he hx
  rw [hv] at q
  have q : G_entry_of A [.cell o, .str x] m = .ok (entD t b s) m := q
  have kk : ∀ m, mkK [.str nm, .str x] m = .ok (.tk (plc nm x)) m := fun m => mkK_2 m nm x
  have n1 : ∀ m, isNoneD false (entD t b s) .non m = .ok (.bl false) m := fun m => rfl
  have tu : tupleD [.cell m.length] (m ++ [O.lst rows]) = .ok (.tup rows) (m ++ [O.lst rows]) := by
    have : seqOf (.cell m.length) (m ++ [O.lst rows]) = some rows := seq_cell (by simp)
    unfold tupleD
    simp [this]
  have mk : ∀ m, mkT [.str t, .int s, .tup rows] m = .ok (keptD t s rows) m := fun m => mkTs (by simp)
  have f1 : (m ++ [O.lst rows])[f]? = some (foO A c0 i k p) := get_app hf _
  have p1 : (m ++ [O.lst rows])[p]? = some (.dT P) := get_app hp _
  have o1 : (m ++ [O.lst rows])[o]? = some (stO A nm c e) := get_app ho _
  have len : (m ++ [O.lst rows]).length = m.length + 1 := by simp
  generalize m ++ [O.lst rows] = m1 at *
  have f2 : (m1.set p (.dT (putKD P (plc nm x) (keptD t s rows))))[f]? = some (foO A c0 i k p) := by rw [get_set ne]; exact f1
  have p2 : (m1.set p (.dT (putKD P (plc nm x) (keptD t s rows))))[p]? = some (.dT (putKD P (plc nm x) (keptD t s rows))) := get_set_eq p1
  have vv : valK (putKD P (plc nm x) (keptD t s rows)) (plc nm x) = some (keptD t s rows) := by rw [valK_put, if_pos rfl]
  have len2 : (m1.set p (.dT (putKD P (plc nm x) (keptD t s rows)))).length = m.length + 1 := by rw [List.length_set, len]
  have z : P.length < sizeLine := by rw [sizeLine_eq]; omega
  generalize eP : putKD P (plc nm x) (keptD t s rows) = P2 at *
  generalize e2 : m1.set p (.dT P2) = m2 at *
  have f3 : (m2.set f (foO A c0 (i + 1) k p))[f]? = some (foO A c0 (i + 1) k p) := get_set_eq f2
  have p3 : (m2.set f (foO A c0 (i + 1) k p))[p]? = some (.dT P2) := by rw [get_set ne.symm]; exact p2
  have f4 : (m2.set f (foO A c0 (i + 1) P2.length p))[f]? = some (foO A c0 (i + 1) P2.length p) := get_set_eq f2
  have p4 : (m2.set f (foO A c0 (i + 1) P2.length p))[p]? = some (.dT P2) := by rw [get_set ne.symm]; exact p2
  simp only [stO] at ho o1
  simp only [foO] at hf f1 f2 f3 f4 p3 p4 ⊢
  unfold G_Forms_form F_Forms_form
  rw [bodyD_ap]
  simp [q, n1, kk, i0, i2, eFld_ap, objOf_cell, ho, hf, F.sn, F.fp, List.lookup, eMtP_ap, pick, hg, hr, tu, mk, sTPutD_ap, f1, kvtOf_cell, p1, z, eP, e2, sFldAugD_ap, f2, F.fm, F.fk, putD, sFldD_ap, f3, p3, lenTD_cell, eRGet_ap, getR_tk, kvtR_cell, f4, p4, vv, i3, len2]
/-- nothing of that kept -/
theorem drop_no (F : FF A) {f o e p : Nat} {nm x c0 : Str} {c i k : Int} {P : List (List Key × D)} (ho : m[o]? = some (stO A nm c e)) (hf : m[f]? = some (foO A c0 i k p)) (hp : m[p]? = some (.dT P)) (hx : nameB x = true) (hv : valK P (plc nm x) = none) : G_Forms_drop A [.cell f, .cell o, .str x] m = .ok (.bl false) m := by
  have kk : ∀ m, mkK [.str nm, .str x] m = .ok (.tk (plc nm x)) m := fun m => mkK_2 m nm x
  simp only [stO] at ho
  simp only [foO] at hf
  unfold G_Forms_drop F_Forms_drop
  rw [bodyD_ap]
  simp [isname hx, kk, eFld_ap, objOf_cell, ho, hf, F.sn, F.fp, List.lookup, eRIn_ap, getR_tk, kvtR_cell, hp, hv]
theorem stale_none (F : FF A) {f o p : Nat} {c0 : Str} {i k : Int} (hf : m[f]? = some (foO A c0 i k p)) (hp : m[p]? = some (.dT [])) : G_Forms_stale A [.cell f, .cell o] m = .ok (.lst []) (m ++ [.lst []]) := by
  have ne : f ≠ p := ne_at hf hp (by simp [foO])
  have f1 : (m ++ [O.lst []])[f]? = some (foO A c0 i k p) := get_app hf _
  have p1 : (m ++ [O.lst []])[p]? = some (.dT []) := get_app hp _
  have q1 : (m ++ [O.lst []])[m.length]? = some (.lst []) := by simp
  have z : mkC [] m = .ok (.cell m.length) (m ++ [.lst []]) := mkC_ap m (small (k := 0) (by simp))
  have pn : p < m.length := (List.getElem?_eq_some_iff.mp hp).1
  generalize m ++ [O.lst []] = m1 at *
  have st : sortedTD [.cell m.length] m1 = .ok (.lst []) m1 := by
    unfold sortedTD
    have : sortT [] = [] := by simp [sortT]
    simp [seq_cell q1, txsOf, this, txs]
  have lk : lkM p m1 = some (m1.set p (.frT [])) := by unfold lkM; simp [p1, frO]
  have f2 : (m1.set p (.frT []))[f]? = some (foO A c0 i k p) := by rw [get_set ne]; exact f1
  have p2 : (m1.set p (.frT []))[p]? = some (.frT []) := get_set_eq p1
  have un : unM p (m1.set p (.frT [])) = some m1 := by
    have e : m1.set p (.dT []) = m1 := by
      obtain ⟨h1, h2⟩ := List.getElem?_eq_some_iff.mp p1
      rw [← h2, List.set_getElem_self]
    unfold unM
    simp [p2, unO, List.set_set, e]
  simp only [foO] at hf f1 f2
  unfold G_Forms_stale F_Forms_stale
  rw [bodyD_ap]
  simp [z, sLockD, DL.cellOf, eFld_ap, objOf_cell, f1, F.fp, List.lookup, lk, iKeysD, f2, keysL, p2, loopD, unlS, un, st]
end
end FU

namespace K21
section
open PySem PySem.Spec L2 DL PU
variable {A : Amb} {m : M} {j : Nat} {env : DL.Env}
theorem small {n : Nat} (h : n ≤ 1000) : n ≤ sizeLine := by rw [sizeLine_eq]; omega
structure Facts (A : Amb) : Prop where
  hs : clsB A.K (He.ga A.K "Hall") "stores" = true
  hl : clsB A.K (He.ga A.K "Hall") "lists" = true
  hp : clsB A.K (He.ga A.K "Hall") "path" = true
  lb : clsB A.K (He.ga A.K "Lists") "by_store" = true
  sn : clsB A.K (He.ga A.K "Store") "name" = true
  sc : clsB A.K (He.ga A.K "Store") "changed" = true
  se : clsB A.K (He.ga A.K "Store") "entries" = true
def stO (A : Amb) (nm : Str) (c : Int) (e : Nat) : O := .ins (He.ga A.K "Store") [("name", .str nm), ("changed", .int c), ("entries", .cell e)]
structure Sto where
  o : Nat
  e : Nat
  ch : Int
  E : List (Key × D)
theorem mk_store (F : Facts A) {x : Str} (h : partB x = true) : mkObj (He.ga A.K "Store") (G_Store_init A) (fun o => [o, .str x]) m = .ok (.cell m.length) (m ++ [stO A x 0 (m.length + 1), .dK []]) := by
  have q : ∀ m, G_is_part A [.str x] m = .ok (.bl true) m := fun m => by
    have := PU.is_part_str (A := A) (m := m) (x := x) (by have := partB_len h; omega)
    rw [h] at this
    exact this
  have e : G_Store_init A [.cell m.length, .str x] (m ++ [.ins (He.ga A.K "Store") []]) = .ok .non (m ++ [stO A x 0 (m.length + 1), .dK []]) := by
    unfold G_Store_init F_Store_init
    rw [bodyD_ap]
    simp [q, sFldD_ap, F.sn, F.sc, F.se, putD, eDNew_ap, stO]
  unfold mkObj
  simp only [e]
theorem put_same {kvs : List (Key × D)} {k : Key} {v w : D} (h : valK kvs k = some w) : (putKD kvs k v).length = kvs.length := by
  have q : (kvs.any fun kv => decide (kv.1 = k)) = true := by
    unfold valK at h
    obtain ⟨p, hp, _⟩ := Option.map_eq_some_iff.mp h
    exact List.any_eq_true.mpr ⟨p, List.mem_of_find?_eq_some hp, by simpa using List.find?_some hp⟩
  unfold putKD
  rw [if_pos q, List.length_map]
theorem mkTs {ds : List D} (h : ds.length ≤ 100) : mkT ds m = .ok (.tup ds) m := mkT_ap m (Nat.le_trans h (Nat.le_trans (by decide) size_big))
def entD (y : Str) (p : Bool) (s : Int) : D := .tup [.str y, .bl p, .int s]
structure Ent (E : List (Key × D)) (n : Nat) : Prop where
  len : E.length ≤ n
  all : ∀ q ∈ E, ∃ x y p s, q = (.inr x, entD y p s) ∧ nameB x = true ∧ PyData.strOk y = true
def ksE (E : List (Key × D)) : List Str := sortT ((strKeys E).getD [])
theorem Ent.keys {E : List (Key × D)} {n : Nat} (h : Ent E n) : ∃ ks, strKeys E = some ks ∧ ks.length = E.length ∧ ∀ x ∈ ks, nameB x = true := by
  obtain ⟨ks, e, l, hk⟩ := strKeys_of (kvs := E) fun q hq => by
    obtain ⟨x, y, p, s, rfl, _⟩ := h.all q hq
    exact ⟨x, rfl⟩
  refine ⟨ks, e, l, fun x hx => ?_⟩
  obtain ⟨q, hq, ep⟩ := hk x hx
  obtain ⟨y, _, _, _, rfl, hy, _⟩ := h.all q hq
  cases ep
  exact hy
theorem Ent.nm {E : List (Key × D)} {n : Nat} (h : Ent E n) : ∀ y ∈ ksE E, nameB y = true := by
  obtain ⟨ks, e, l, hk⟩ := h.keys
  intro y hy
  unfold ksE at hy
  rw [e] at hy
  exact hk y ((sortT_perm ks).mem_iff.mp hy)
theorem Ent.ok {E : List (Key × D)} {n : Nat} (h : Ent E n) : ∀ y ∈ ksE E, PyData.strOk y = true := fun y hy => name_ok (h.nm y hy)
theorem Ent.ksl {E : List (Key × D)} {n : Nat} (h : Ent E n) : (ksE E).length ≤ n := by
  obtain ⟨ks, e, l, _⟩ := h.keys
  have := h.len
  unfold ksE
  rw [e]
  have := (sortT_perm ks).length_eq
  show (sortT ks).length ≤ n
  omega
theorem Ent.get {E : List (Key × D)} {n : Nat} (h : Ent E n) {x : Str} {d : D} (e : valK E (.inr x) = some d) : ∃ y p s, d = entD y p s ∧ PyData.strOk y = true := by
  obtain ⟨x', y, p, s, q, _, hy⟩ := h.all _ (valK_mem e)
  cases q
  exact ⟨y, p, s, rfl, hy⟩
theorem Ent.mono {E : List (Key × D)} {n k : Nat} (h : Ent E n) (hk : n ≤ k) : Ent E k := ⟨Nat.le_trans h.len hk, h.all⟩
theorem Ent.put {E : List (Key × D)} {n : Nat} (h : Ent E n) {x y : Str} (hx : nameB x = true) (hy : PyData.strOk y = true) (p : Bool) (s : Int) : Ent (putKD E (.inr x) (entD y p s)) (n + 1) :=
  ⟨by have := put_len E (.inr x) (entD y p s); have := h.len; omega, fun q hq => by
    rcases mem_put hq with rfl | hq
    · exact ⟨x, y, p, s, rfl, hx, hy⟩
    · exact h.all q hq⟩
theorem Ent.drop {E : List (Key × D)} {n : Nat} (h : Ent E n) (x : Str) : Ent (dropKD E (.inr x)) (n + 1) :=
  ⟨by have := drop_len E (.inr x); have := h.len; omega, fun q hq => h.all q (mem_drop hq)⟩
theorem isname {x : Str} (h : nameB x = true) : G_is_name A [.str x] m = .ok (.bl true) m := by
  have := PU.is_name_str (A := A) (m := m) (x := x) (by have := nameB_len h; omega)
  rw [h] at this
  exact this
theorem checked {x : Str} (h : nameB x = true) : G_check_name A [.str x] m = .ok .non m := by
  unfold G_check_name F_check_name
  rw [bodyD_ap]
  simp [isname h]
theorem names_ok (F : Facts A) {o e n : Nat} {nm : Str} {c : Int} {E : List (Key × D)} (ho : m[o]? = some (stO A nm c e)) (he : m[e]? = some (.dK E)) (hE : Ent E n) (hn : n < 64) : G_Store_names A [.cell o] m = .ok (.lst (txs (ksE E))) m := by
  obtain ⟨ks, e1, l, _⟩ := hE.keys
  have hl : ks.length < 64 := by have := hE.len; omega
  unfold G_Store_names F_Store_names
  rw [bodyD_ap]
  simp [eFld_ap, objOf_cell, ho, stO, F.se, List.lookup, sortedD_cell, kvsOf_cell, he, e1, hl, ksE]
theorem entry_at (F : Facts A) {o e : Nat} {nm x : Str} {c : Int} {E : List (Key × D)} (ho : m[o]? = some (stO A nm c e)) (he : m[e]? = some (.dK E)) (hx : nameB x = true) :
    G_Store_entry A [.cell o, .str x] m = .ok ((valK E (.inr x)).getD .non) m := by
  unfold G_Store_entry F_Store_entry
  rw [bodyD_ap]
  simp only [stO] at ho
  simp [checked hx, eDGet1_ap, eFld_ap, objOf_cell, ho, F.se, List.lookup, kvsOf_cell, he]
structure FactsH (A : Amb) : Prop where
  hc : clsB A.K (He.ga A.K "Hall") "clock" = true
  hl : clsB A.K (He.ga A.K "Hall") "lists" = true
  hf : clsB A.K (He.ga A.K "Hall") "forms" = true
  hd : clsB A.K (He.ga A.K "Hall") "finders" = true
  hp : clsB A.K (He.ga A.K "Hall") "path" = true
  hg : clsB A.K (He.ga A.K "Hall") "log" = true
  hs : clsB A.K (He.ga A.K "Hall") "stores" = true
  ht : clsB A.K (He.ga A.K "Hall") "table" = true
  hh : clsB A.K (He.ga A.K "Hall") "by_hand" = true
  hm : clsB A.K (He.ga A.K "Hall") "marks" = true
  hx : clsB A.K (He.ga A.K "Hall") "texts" = true
  lb : clsB A.K (He.ga A.K "Lists") "by_store" = true
  fc : clsB A.K (He.ga A.K "Forms") "check" = true
  fm : clsB A.K (He.ga A.K "Forms") "made" = true
  fk : clsB A.K (He.ga A.K "Forms") "kept" = true
  fp : clsB A.K (He.ga A.K "Forms") "by_place" = true
  aw : clsB A.K (He.ga A.K "Along") "word" = true
theorem mk_lists (F : FactsH A) : mkObj (He.ga A.K "Lists") (G_Lists_init A) (fun o => [o]) m = .ok (.cell m.length) (m ++ [.ins (He.ga A.K "Lists") [("by_store", .cell (m.length + 1))], .dK []]) := by
  have e : G_Lists_init A [.cell m.length] (m ++ [.ins (He.ga A.K "Lists") []]) = .ok .non (m ++ [.ins (He.ga A.K "Lists") [("by_store", .cell (m.length + 1))], .dK []]) := by
    unfold G_Lists_init F_Lists_init
    rw [bodyD_ap]
    simp [sFldD_ap, F.lb, putD, eDNew_ap]
  unfold mkObj
  simp only [e]
theorem mk_along (F : FactsH A) : mkObj (He.ga A.K "Along") (G_Along_init A) (fun o => [o]) m = .ok (.cell m.length) (m ++ [.ins (He.ga A.K "Along") [("word", .str "along")]]) := by
  have e : G_Along_init A [.cell m.length] (m ++ [.ins (He.ga A.K "Along") []]) = .ok .non (m ++ [.ins (He.ga A.K "Along") [("word", .str "along")]]) := by
    unfold G_Along_init F_Along_init
    rw [bodyD_ap]
    simp [sFldD_ap, F.aw, putD]
  unfold mkObj
  simp only [e]
theorem check_in {c : Str} (hc : c = "stamp" ∨ c = "sum") : inPD true (.str c) (.tup (txs ["stamp", "sum"])) m = .ok (.bl false) m := by
  rcases hc with rfl | rfl
  · kernel_rfl
  · kernel_rfl
theorem mk_forms (F : FactsH A) {c : Str} (hc : c = "stamp" ∨ c = "sum") : mkObj (He.ga A.K "Forms") (G_Forms_init A) (fun o => [o, .str c]) m = .ok (.cell m.length) (m ++ [.ins (He.ga A.K "Forms") [("check", .str c), ("made", .int 0), ("kept", .int 0), ("by_place", .cell (m.length + 1))], .dK []]) := by
  have q : ∀ m, inPD true (.str c) (.tup (txs ["stamp", "sum"])) m = .ok (.bl false) m := fun m => check_in hc
  have e : G_Forms_init A [.cell m.length, .str c] (m ++ [.ins (He.ga A.K "Forms") []]) = .ok .non (m ++ [.ins (He.ga A.K "Forms") [("check", .str c), ("made", .int 0), ("kept", .int 0), ("by_place", .cell (m.length + 1))], .dK []]) := by
    unfold G_Forms_init F_Forms_init
    rw [bodyD_ap]
    simp [q, sFldD_ap, F.fc, F.fm, F.fk, F.fp, putD, eDNew_ap]
  unfold mkObj
  simp only [e]
def stL (A : Amb) (n : Nat) : List Str → M
  | [] => []
  | p :: ps => stO A p 0 (n + 1) :: .dK [] :: stL A (n + 2) ps
def stK (n : Nat) : List Str → List (Key × D)
  | [] => []
  | p :: ps => (.inr p, .cell n) :: stK (n + 2) ps
theorem stL_len (A : Amb) : ∀ (ps : List Str) (n : Nat), (stL A n ps).length = 2 * ps.length
  | [], n => rfl
  | p :: ps, n => by simp [stL, stL_len A ps]; omega
theorem put_new {kvs : List (Key × D)} {k : Key} {v : D} (h : valK kvs k = none) : putKD kvs k v = kvs ++ [(k, v)] := by
  have q : (kvs.any fun kv => decide (kv.1 = k)) = false := by
    rw [Bool.eq_false_iff]
    intro h2
    obtain ⟨p, hp, e⟩ := List.any_eq_true.mp h2
    unfold valK at h
    rw [Option.map_eq_none_iff, List.find?_eq_none] at h
    exact h p hp (by simpa using e)
  unfold putKD
  rw [if_neg (by rw [q]; simp)]
theorem val_app {l l' : List (Key × D)} {k : Key} : valK (l ++ l') k = (valK l k).or (valK l' k) := by
  unfold valK
  rw [List.find?_append]
  cases l.find? fun kv => decide (kv.1 = k) with
  | some x => rfl
  | none => rfl
theorem stK_no : ∀ (ps : List Str) (n : Nat) (p : Str), p ∉ ps → valK (stK n ps) (.inr p) = none
  | [], n, p, _ => rfl
  | q :: ps, n, p, h => by
    have h1 : q ≠ p := fun e => h (by rw [e]; exact List.mem_cons_self)
    have h2 := stK_no ps (n + 2) p fun e => h (List.mem_cons_of_mem _ e)
    unfold valK at h2 ⊢
    unfold stK
    rw [List.find?_cons_of_neg (by simpa using h1)]
    exact h2
theorem stores_loop (F : Facts A) {a b c : Option D} : ∀ (ps : List Str) (acc : List (Key × D)) (m : M), (∀ p ∈ ps, partB p = true) → ps.Nodup → (∀ p ∈ ps, valK acc (.inr p) = none) → acc.length + ps.length ≤ 50 →
    dcompD (gSet 3) bYes (eVar 3) (eMkP (He.ga A.K "Store") 1 0 2 [0, 1] [] (G_Store_init A) (aCons (eVar 3) aNil) aNil) [a, b, c, none] (txs ps) acc m = .ok (acc ++ stK m.length ps) (m ++ stL A m.length ps)
  | [], acc, m, _, _, _, _ => by simp [dcompD, stK, stL, txs]
  | p :: ps, acc, m, hp, hn, ha, hl => by
    have hl' : acc.length + (ps.length + 1) ≤ 50 := by simpa using hl
    have q : ∀ m, mkObj (He.ga A.K "Store") (G_Store_init A) (fun o => [o, .str p]) m = _ := fun m => mk_store F (hp p List.mem_cons_self)
    have hd : txs (p :: ps) = D.str p :: txs ps := rfl
    have k : keyOf (.str p) = some (.inr p) := rfl
    have z : acc.length < sizeLine := by rw [sizeLine_eq]; omega
    have hn' := List.nodup_cons.mp hn
    have e1 := put_new (v := D.cell m.length) (ha p List.mem_cons_self)
    have ih := stores_loop F (a := a) (b := b) (c := c) ps (acc ++ [(.inr p, .cell m.length)]) (m ++ [stO A p 0 (m.length + 1), .dK []]) (fun q h => hp q (List.mem_cons_of_mem _ h)) hn'.2 (fun r hr => by
      rw [val_app, ha r (List.mem_cons_of_mem _ hr)]
      have : p ≠ r := fun e => hn'.1 (by rw [e]; exact hr)
      simp [valK, this]) (by simp; omega)
    rw [hd]
    unfold dcompD
    rw [gSet_ap]
    simp only [putR_some, bYes_ap, R.bindS_ok, if_true]
    have v3 : eVar 3 ([a, b, c, none].set 3 (some (D.str p))) m = .ok (.str p) m := rfl
    have ev : eMkP (He.ga A.K "Store") 1 0 2 [0, 1] [] (G_Store_init A) (aCons (eVar 3) aNil) aNil ([a, b, c, none].set 3 (some (D.str p))) m = .ok (.cell m.length) (m ++ [stO A p 0 (m.length + 1), .dK []]) := by
      simp [eMkP_ap, pick, q]
    simp only [v3, ev, R.bindS_ok, k]
    rw [if_pos z, e1, ih]
    simp [stK, stL]
theorem fld_step {K : PySem.W.Frag} {C : Addr} {nm : Str} {h : Nat} {fs : List (Str × D)} {l l' : M} {d : D} {env : DL.Env} {e : DL.Env → M → R D} (hh : h < m.length) (he : e env (m.set h (.ins C fs) ++ l) = .ok d (m.set h (.ins C fs) ++ l')) (hc : clsB K C nm = true) (hf : fs.length < 1000) (h0 : env[0]? = some (some (.cell h))) :
    sFldD K nm (eVar 0) e env (m.set h (.ins C fs) ++ l) = .nx env (m.set h (.ins C (putD nm d fs)) ++ l') := by
  have g : (m.set h (O.ins C fs) ++ l')[h]? = some (.ins C fs) := by
    rw [List.getElem?_append_left (by simpa using hh)]
    exact List.getElem?_set_self hh
  have s : (m.set h (O.ins C fs) ++ l').set h (.ins C (putD nm d fs)) = m.set h (.ins C (putD nm d fs)) ++ l' := by
    rw [List.set_append_left _ _ (by simpa using hh), List.set_set]
  rw [sFldD_ap, he, R.to_ok, eVar_ap, h0]
  simp [g, hc, hf, s]
def hallF (A : Amb) (n : Nat) (path : List Str) (c : Str) : List (Str × D) := [("clock", .int 0), ("lists", .cell n), ("forms", .cell (n + 2)), ("finders", .tup [.cell (n + 4)]), ("path", .tup (txs path)), ("log", .tup []), ("stores", .cell (n + 5 + 2 * path.length)), ("table", .cell (n + 6 + 2 * path.length)), ("by_hand", .cell (n + 7 + 2 * path.length)), ("marks", .lst []), ("texts", .lst [])]
def hallL (A : Amb) (n : Nat) (path : List Str) (c : Str) : M := [.ins (He.ga A.K "Lists") [("by_store", .cell (n + 1))], .dK [], .ins (He.ga A.K "Forms") [("check", .str c), ("made", .int 0), ("kept", .int 0), ("by_place", .cell (n + 3))], .dK [], .ins (He.ga A.K "Along") [("word", .str "along")]] ++ (stL A (n + 5) path ++ [.dK (stK (n + 5) path), .dK [], .dK []])
theorem hall_init (F : Facts A) (G : FactsH A) {path : List Str} {c : Str} {h : Nat} (hm : m[h]? = some (.ins (He.ga A.K "Hall") [])) (hc : c = "stamp" ∨ c = "sum") (hp : ∀ m, G_check_path A [.tup (txs path)] m = .ok .non m) (ha : ∀ p ∈ path, partB p = true) (hn : path.Nodup) (hl : path.length ≤ 40) :
    G_Hall_init A [.cell h, .tup (txs path), .str c] m = .ok .non (m.set h (.ins (He.ga A.K "Hall") (hallF A m.length path c)) ++ hallL A m.length path c) := by
  have hh := lt_of_get hm
  have q1 : ∀ m, mkObj (He.ga A.K "Lists") (G_Lists_init A) (fun o => [o]) m = _ := fun m => mk_lists G
  have q2 : ∀ m, mkObj (He.ga A.K "Forms") (G_Forms_init A) (fun o => [o, .str c]) m = _ := fun m => mk_forms G hc
  have q3 : ∀ m, mkObj (He.ga A.K "Along") (G_Along_init A) (fun o => [o]) m = _ := fun m => mk_along G
  have z0 : ∀ m, mkL [] m = .ok (.lst []) m := fun m => mkL_ap m (small (by simp))
  have z1 : ∀ d m, mkT [d] m = .ok (.tup [d]) m := fun d m => mkT_ap m (small (by simp))
  have z2 : ∀ m, mkT [] m = .ok (.tup []) m := fun m => mkT_ap m (small (by simp))
  have m0 : m = m.set h (.ins (He.ga A.K "Hall") []) ++ [] := by
    rw [List.append_nil]
    apply List.ext_getElem?
    intro i
    by_cases e : i = h
    · subst e; rw [get_set_eq hm, hm]
    · rw [get_set e]
  have st := fun (X : O) (l : M) => stores_loop F (a := some (.cell h)) (b := some (.tup (txs path))) (c := some (.str c)) path [] (m.set h X ++ l) ha hn (fun p _ => rfl) (by simpa using Nat.le_trans hl (by decide))
  have sl := fun n => stL_len A path n
  unfold G_Hall_init F_Hall_init
  rw [bodyD_ap]
  show retS (sSeq _ _ [some (.cell h), some (.tup (txs path)), some (.str c), none] m) = _
  rw [sSeq_ap, sDrop_ok (m1 := m) (d := .non) (by simp [hp]), S.bind_nx]
  conv => lhs; rw [m0]
  rw [sSeq_ap, fld_step hh (l' := []) (d := .int 0) rfl G.hc (by decide) rfl, S.bind_nx]
  rw [sSeq_ap, fld_step hh (l' := [.ins (He.ga A.K "Lists") [("by_store", .cell (m.length + 1))], .dK []]) (d := .cell m.length) (by simp [eMkP_ap, pick, q1]) G.hl (by decide) rfl, S.bind_nx]
  rw [sSeq_ap, fld_step hh (l' := [.ins (He.ga A.K "Lists") [("by_store", .cell (m.length + 1))], .dK [], .ins (He.ga A.K "Forms") [("check", .str c), ("made", .int 0), ("kept", .int 0), ("by_place", .cell (m.length + 3))], .dK []]) (d := .cell (m.length + 2)) (by simp [eMkP_ap, pick, q2]) G.hf (by simp [putD]) rfl, S.bind_nx]
  rw [sSeq_ap, fld_step hh (l' := [.ins (He.ga A.K "Lists") [("by_store", .cell (m.length + 1))], .dK [], .ins (He.ga A.K "Forms") [("check", .str c), ("made", .int 0), ("kept", .int 0), ("by_place", .cell (m.length + 3))], .dK [], .ins (He.ga A.K "Along") [("word", .str "along")]]) (d := .tup [.cell (m.length + 4)]) (by simp [eMkP_ap, pick, q3, z1]) G.hd (by simp [putD]) rfl, S.bind_nx]
  generalize hL : [O.ins (He.ga A.K "Lists") [("by_store", .cell (m.length + 1))], .dK [], .ins (He.ga A.K "Forms") [("check", .str c), ("made", .int 0), ("kept", .int 0), ("by_place", .cell (m.length + 3))], .dK [], .ins (He.ga A.K "Along") [("word", .str "along")]] = L5
  have l5 : L5.length = 5 := by rw [← hL]; rfl
  rw [sSeq_ap, fld_step hh (l' := L5) (d := .tup (txs path)) rfl G.hp (by simp [putD]) rfl, S.bind_nx]
  rw [sSeq_ap, fld_step hh (l' := L5) (d := .tup []) (by simp [z2]) G.hg (by simp [putD]) rfl, S.bind_nx]
  rw [sSeq_ap, fld_step hh (l' := L5 ++ (stL A (m.length + 5) path ++ [.dK (stK (m.length + 5) path)])) (d := .cell (m.length + 5 + 2 * path.length)) (by
    rw [eDComp_ap]
    show ((R.ok (txs path) _).bind _) = _
    rw [R.bind_ok]
    show (dcompD (gSet 3) bYes (eVar 3) (eMkP (He.ga A.K "Store") 1 0 2 [0, 1] [] (G_Store_init A) (aCons (eVar 3) aNil) aNil) [some (.cell h), some (.tup (txs path)), some (.str c), none] (txs path) [] _).bindS mkDk = _
    rw [st, R.bindS_ok, List.nil_append]
    have e : ∀ X : O, (m.set h X ++ L5).length = m.length + 5 := fun X => by simp [l5]
    rw [e]
    unfold mkDk
    have e2 : ∀ X : O, (m.set h X ++ L5 ++ stL A (m.length + 5) path).length = m.length + 5 + 2 * path.length := fun X => by
      rw [List.length_append, e, sl]
    rw [e2]
    simp only [List.append_assoc]) G.hs (by simp [putD]) rfl, S.bind_nx]
  have lS : ∀ X : O, (m.set h X ++ (L5 ++ (stL A (m.length + 5) path ++ [O.dK (stK (m.length + 5) path)]))).length = m.length + 6 + 2 * path.length := fun X => by
    simp only [List.length_append, List.length_set, l5, sl, List.length_cons, List.length_nil]
    omega
  rw [sSeq_ap, fld_step hh (l' := (L5 ++ (stL A (m.length + 5) path ++ [.dK (stK (m.length + 5) path)])) ++ [.dK []]) (d := .cell (m.length + 6 + 2 * path.length)) (by rw [eDNew_ap, lS, List.append_assoc]) G.ht (by simp [putD]) rfl, S.bind_nx]
  have lT : ∀ X : O, (m.set h X ++ ((L5 ++ (stL A (m.length + 5) path ++ [O.dK (stK (m.length + 5) path)])) ++ [O.dK []])).length = m.length + 7 + 2 * path.length := fun X => by
    rw [← List.append_assoc, List.length_append, lS]
    simp only [List.length_cons, List.length_nil]
    omega
  rw [sSeq_ap, fld_step hh (l' := ((L5 ++ (stL A (m.length + 5) path ++ [.dK (stK (m.length + 5) path)])) ++ [.dK []]) ++ [.dK []]) (d := .cell (m.length + 7 + 2 * path.length)) (by rw [eDNew_ap, lT, List.append_assoc (m.set h _)]) G.hh (by simp [putD]) rfl, S.bind_nx]
  rw [sSeq_ap, fld_step hh (l' := ((L5 ++ (stL A (m.length + 5) path ++ [.dK (stK (m.length + 5) path)])) ++ [.dK []]) ++ [.dK []]) (d := .lst []) (by simp [z0]) G.hm (by simp [putD]) rfl, S.bind_nx]
  rw [fld_step hh (l' := ((L5 ++ (stL A (m.length + 5) path ++ [.dK (stK (m.length + 5) path)])) ++ [.dK []]) ++ [.dK []]) (d := .lst []) (by simp [z0]) G.hx (by simp [putD]) rfl]
  rw [retS_nx]
  unfold hallL
  rw [hL]
  simp only [List.append_assoc, List.cons_append, List.nil_append]
  rfl
theorem mk_hall (F : Facts A) (G : FactsH A) {path : List Str} {c : Str} (hc : c = "stamp" ∨ c = "sum") (hp : ∀ m, G_check_path A [.tup (txs path)] m = .ok .non m) (ha : ∀ p ∈ path, partB p = true) (hn : path.Nodup) (hl : path.length ≤ 40) :
    mkObj (He.ga A.K "Hall") (G_Hall_init A) (fun o => [o, .tup (txs path), .str c]) m = .ok (.cell m.length) (m ++ ([.ins (He.ga A.K "Hall") (hallF A (m.length + 1) path c)] ++ hallL A (m.length + 1) path c)) := by
  have e := hall_init (m := m ++ [.ins (He.ga A.K "Hall") []]) F G (h := m.length) (by rw [get_end0]; rfl) hc hp ha hn hl
  have e1 : (m ++ [O.ins (He.ga A.K "Hall") []]).length = m.length + 1 := by simp
  rw [e1] at e
  have e2 : (m ++ [O.ins (He.ga A.K "Hall") []]).set m.length (.ins (He.ga A.K "Hall") (hallF A (m.length + 1) path c)) = m ++ [.ins (He.ga A.K "Hall") (hallF A (m.length + 1) path c)] := by simp
  rw [e2, List.append_assoc] at e
  unfold mkObj
  simp only [e]
theorem val_ne {q p : Str} {d : D} {l : List (Key × D)} (e : q ≠ p) : valK ((.inr q, d) :: l) (.inr p) = valK l (.inr p) := by
  unfold valK
  rw [List.find?_cons_of_neg (by simpa using e)]
theorem stK_at : ∀ (ps : List Str) (n : Nat) (p : Str) (d : D), ps.Nodup → valK (stK n ps) (.inr p) = some d → ∃ i, d = .cell (n + 2 * i) ∧ i < ps.length ∧ (stL A n ps)[2 * i]? = some (stO A p 0 (n + 2 * i + 1)) ∧ (stL A n ps)[2 * i + 1]? = some (.dK []) ∧ ps[i]? = some p
  | [], n, p, d, _, h => by cases h
  | q :: ps, n, p, d, hn, h => by
    by_cases e : q = p
    · subst e
      have : valK (stK n (q :: ps)) (.inr q) = some (.cell n) := by simp [valK, stK]
      rw [this] at h
      cases h
      exact ⟨0, rfl, by simp, rfl, rfl, rfl⟩
    · have e1 : valK (stK n (q :: ps)) (.inr p) = valK (stK (n + 2) ps) (.inr p) := val_ne e
      rw [e1] at h
      obtain ⟨i, h1, h2, h3, h4, h5⟩ := stK_at ps (n + 2) p d (List.nodup_cons.mp hn).2 h
      refine ⟨i + 1, ?_, by simpa using h2, ?_, ?_, h5⟩
      · rw [h1]; congr 1; omega
      · show (stL A n (q :: ps))[2 * i + 1 + 1]? = _
        unfold stL
        rw [List.getElem?_cons_succ, List.getElem?_cons_succ, h3]
        congr 2
        omega
      · show (stL A n (q :: ps))[2 * i + 1 + 1 + 1]? = _
        unfold stL
        rw [List.getElem?_cons_succ, List.getElem?_cons_succ, h4]
theorem stK_some : ∀ (ps : List Str) (n : Nat) (p : Str), p ∈ ps → (valK (stK n ps) (.inr p)).isSome = true
  | q :: ps, n, p, h => by
    by_cases e : q = p
    · subst e
      simp [valK, stK]
    · have e1 : valK (stK n (q :: ps)) (.inr p) = valK (stK (n + 2) ps) (.inr p) := val_ne e
      rw [e1]
      rcases List.mem_cons.mp h with h | h
      · exact absurd h.symm e
      · exact stK_some ps (n + 2) p h
theorem stK_len : ∀ (ps : List Str) (n : Nat), (stK n ps).length = ps.length
  | [], n => rfl
  | p :: ps, n => by simp [stK, stK_len ps]
theorem put_ok (F : Facts A) {o e n : Nat} {nm x y : Str} {c s : Int} {p : Bool} {E : List (Key × D)} (ho : m[o]? = some (stO A nm c e)) (he : m[e]? = some (.dK E)) (hE : Ent E n) (hn : n < 64) (hx : nameB x = true) :
    G_Store_put A [.cell o, .str x, .str y, .bl p, .int s] m = .ok .non ((m.set e (.dK (putKD E (.inr x) (entD y p s)))).set o (stO A nm s e)) := by
  have hne : o ≠ e := ne_at ho he (by simp [stO])
  have ho2 : (m.set e (.dK (putKD E (.inr x) (entD y p s))))[o]? = some (stO A nm c e) := by rw [get_set hne]; exact ho
  have mk : ∀ m, mkT [.str y, .bl p, .int s] m = .ok (entD y p s) m := fun m => mkTs (by simp)
  have hz : E.length < sizeLine := by rw [sizeLine_eq]; have := hE.len; omega
  unfold G_Store_put F_Store_put
  rw [bodyD_ap]
  simp only [stO] at ho ho2 ⊢
  simp [checked hx, sDPutD_ap, eFld_ap, objOf_cell, ho, F.se, F.sc, List.lookup, kvsOf_cell, he, mk, hz, sFldD_ap, ho2, putD]
theorem take_ok (F : Facts A) {o e : Nat} {nm x y : Str} {c s s0 : Int} {p : Bool} {E : List (Key × D)} (ho : m[o]? = some (stO A nm c e)) (he : m[e]? = some (.dK E)) (hx : nameB x = true) (hv : valK E (.inr x) = some (entD y p s0)) :
    G_Store_take A [.cell o, .str x, .int s] m = .ok (.str y) ((m.set e (.dK (dropKD E (.inr x)))).set o (stO A nm s e)) := by
  have hne : o ≠ e := ne_at ho he (by simp [stO])
  have ho2 : (m.set e (.dK (dropKD E (.inr x))))[o]? = some (stO A nm c e) := by rw [get_set hne]; exact ho
  have hi : ∀ m, ixD (entD y p s0) (.int 0) m = .ok (.str y) m := fun m => ixD_tup (PU.atI_nat (i := 0) rfl)
  unfold G_Store_take F_Store_take
  rw [bodyD_ap]
  simp only [stO] at ho ho2 ⊢
  simp [checked hx, eDIn_ap, eDGet_ap, sDDelD_ap, eFld_ap, objOf_cell, ho, F.se, F.sc, List.lookup, kvsOf_cell, he, hv, hi, sFldD_ap, ho2, putD]
theorem part_name {p : Str} (h : partB p = true) : nameB p = true := by
  have := named_name (ps := [p]) ⟨by simp, by simp, by simpa using h⟩
  have e : Txt.join "." [p] = p := by
    unfold Txt.join
    rfl
  rwa [e] at this
theorem Ent.nil {n : Nat} : Ent [] n := ⟨by simp, by simp⟩
end
end K21

namespace K21
section
open PySem PySem.Spec L2 DL PU
variable {A : Amb} {m : M}
def P4 : List Str := ["one", "two", "three", "four"]
theorem p4_part : ∀ p ∈ P4, partB p = true := by decide +kernel
structure Cl where
  h : Nat
  L : Nat
  f : Nat
  a : Nat
  S : Nat
  T : Nat
  B : Nat
def hallO (A : Amb) (c : Cl) (t : Int) (P : List Str) : O := .ins (He.ga A.K "Hall") [("clock", .int t), ("lists", .cell c.L), ("forms", .cell c.f), ("finders", .tup [.cell c.a]), ("path", .tup (txs P)), ("log", .tup []), ("stores", .cell c.S), ("table", .cell c.T), ("by_hand", .cell c.B), ("marks", .lst []), ("texts", .lst [])]
def one1 (V : Str → Option Sto) (p : Str) : Nat := if (V p).isSome = true then 1 else 0
def many (V : Str → Option Sto) : Nat := one1 V "one" + one1 V "two" + one1 V "three" + one1 V "four"
theorem one_le (V : Str → Option Sto) (p : Str) : one1 V p ≤ 1 := by
  unfold one1
  split <;> omega
theorem many_le (V : Str → Option Sto) : many V ≤ 4 := by
  have a := one_le V "one"
  have b := one_le V "two"
  have c := one_le V "three"
  have d := one_le V "four"
  unfold many
  omega
/-- the hall at c shows V, with its clock and its path -/
structure Hs (A : Amb) (m : M) (c : Cl) (t : Int) (P : List Str) (V : Str → Option Sto) : Prop where
  hall : m[c.h]? = some (hallO A c t P)
  tab : m[c.T]? = some (.dK [])
  hnd : m[c.B]? = some (.dK [])
  stores : ∃ SS : List (Key × D), m[c.S]? = some (.dK SS) ∧ SS.length ≤ many V ∧ ∀ p, valK SS (.inr p) = (V p).map fun s => D.cell s.o
  at_ : ∀ p s, V p = some s → m[s.o]? = some (stO A p s.ch s.e) ∧ m[s.e]? = some (.dK s.E)
  nT : c.S ≠ c.T ∧ c.S ≠ c.B
  sep : ∀ p s, V p = some s → s.e ≠ c.S ∧ s.e ≠ c.T ∧ s.e ≠ c.B
  two : ∀ p q s t, p ≠ q → V p = some s → V q = some t → s.e ≠ t.e ∧ s.o ≠ t.o
def view (V : Str → Option Sto) (p : Str) : Int × List (Key × D) := match V p with
  | some s => (s.ch, s.E)
  | none => (0, [])
def addV (V : Str → Option Sto) (p : Str) (s : Sto) : Str → Option Sto := fun q => if q = p then some s else V q
theorem one_add {V : Str → Option Sto} {p q : Str} {s : Sto} : one1 (addV V p s) q = if q = p then 1 else one1 V q := by
  unfold one1 addV
  by_cases h : q = p
  · simp [h]
  · simp [h]
theorem many_add {V : Str → Option Sto} {p : Str} {s : Sto} (hp : p ∈ P4) (hv : V p = none) : many V + 1 ≤ many (addV V p s) := by
  have z : one1 V p = 0 := by unfold one1; rw [hv]; rfl
  have nn : ("one" : Str) ≠ "two" ∧ ("one" : Str) ≠ "three" ∧ ("one" : Str) ≠ "four" ∧ ("two" : Str) ≠ "three" ∧ ("two" : Str) ≠ "four" ∧ ("three" : Str) ≠ "four" := by decide +kernel
  obtain ⟨n1, n2, n3, n4, n5, n6⟩ := nn
  unfold many
  rw [one_add, one_add, one_add, one_add]
  unfold P4 at hp
  simp only [List.mem_cons, List.mem_nil_iff, or_false] at hp
  rcases hp with rfl | rfl | rfl | rfl
  · rw [if_pos rfl, if_neg n1.symm, if_neg n2.symm, if_neg n3.symm]; omega
  · rw [if_neg n1, if_pos rfl, if_neg n4.symm, if_neg n5.symm]; omega
  · rw [if_neg n2, if_neg n4, if_pos rfl, if_neg n6.symm]; omega
  · rw [if_neg n3, if_neg n5, if_neg n6, if_pos rfl]; omega
theorem many_same {V : Str → Option Sto} {p : Str} {s t : Sto} (hv : V p = some t) : many (addV V p s) = many V := by
  have : ∀ q, one1 (addV V p s) q = one1 V q := fun q => by
    rw [one_add]
    split
    · rename_i h
      subst h
      unfold one1
      rw [hv]
      rfl
    · rfl
  unfold many
  rw [this, this, this, this]
theorem view_add {V : Str → Option Sto} {p : Str} {o e : Nat} (hv : V p = none) : view (addV V p ⟨o, e, 0, []⟩) = view V := by
  funext q
  unfold view addV
  by_cases h : q = p
  · subst h
    rw [if_pos rfl, hv]
  · rw [if_neg h]
theorem view_of {V : Str → Option Sto} {p : Str} {s : Sto} (h : V p = some s) : view V p = (s.ch, s.E) := by unfold view; rw [h]
theorem view_set {V : Str → Option Sto} {p q : Str} {s : Sto} : view (addV V p s) q = if q = p then (s.ch, s.E) else view V q := by
  unfold view addV
  by_cases h : q = p
  · rw [if_pos h, if_pos h]
  · rw [if_neg h, if_neg h]
section
variable {c : Cl} {t : Int} {P : List Str} {V : Str → Option Sto}
theorem Hs.app (H : Hs A m c t P V) (l : M) : Hs A (m ++ l) c t P V := by
  have up : ∀ {k : Nat} {o : O}, m[k]? = some o → (m ++ l)[k]? = some o := fun h => by
    rw [List.getElem?_append_left (lt_of_get h)]; exact h
  obtain ⟨SS, g0, g1⟩ := H.stores
  exact ⟨up H.hall, up H.tab, up H.hnd, ⟨SS, up g0, g1⟩, fun p s hp => ⟨up (H.at_ p s hp).1, up (H.at_ p s hp).2⟩, H.nT, H.sep, H.two⟩
/-- a cell that is neither an object nor a dict is written -/
theorem Hs.other (H : Hs A m c t P V) {k : Nat} {o u : O} (hk : m[k]? = some u) (hu : (∀ C fs, u ≠ .ins C fs) ∧ ∀ ks, u ≠ .dK ks) : Hs A (m.set k o) c t P V := by
  obtain ⟨SS, g0, g1⟩ := H.stores
  have keep : ∀ {i : Nat} {w : O}, m[i]? = some w → w ≠ u → (m.set k o)[i]? = some w := fun h1 h2 => by
    rw [get_set (ne_at h1 hk h2)]; exact h1
  exact ⟨keep H.hall (hu.1 _ _).symm, keep H.tab (hu.2 _).symm, keep H.hnd (hu.2 _).symm, ⟨SS, keep g0 (hu.2 _).symm, g1⟩, fun p s hp => ⟨keep (H.at_ p s hp).1 (hu.1 _ _).symm, keep (H.at_ p s hp).2 (hu.2 _).symm⟩, H.nT, H.sep, H.two⟩
theorem hall_ne (H : Hs A m c t P V) {p : Str} {s : Sto} (hp : V p = some s) : c.h ≠ s.o := fun e => by
  have a := H.hall
  rw [e, (H.at_ p s hp).1] at a
  simp [stO, hallO] at a
/-- the hall's own fields are written -/
theorem Hs.hall_set (H : Hs A m c t P V) (t' : Int) (P' : List Str) : Hs A (m.set c.h (hallO A c t' P')) c t' P' V := by
  obtain ⟨SS, g0, g1⟩ := H.stores
  have a := H.hall
  have nd : ∀ {i : Nat} {ks : List (Key × D)}, m[i]? = some (.dK ks) → i ≠ c.h := fun h => ne_at h a (by simp [hallO])
  exact ⟨get_set_eq a, by rw [get_set (nd H.tab)]; exact H.tab, by rw [get_set (nd H.hnd)]; exact H.hnd, ⟨SS, by rw [get_set (nd g0)]; exact g0, g1⟩,
    fun p s hp => ⟨by rw [get_set (hall_ne H hp).symm]; exact (H.at_ p s hp).1, by rw [get_set (nd (H.at_ p s hp).2)]; exact (H.at_ p s hp).2⟩, H.nT, H.sep, H.two⟩
/-- a store's entries and stamp are written -/
theorem Hs.store_set (H : Hs A m c t P V) {p : Str} {s : Sto} (hp : V p = some s) (E' : List (Key × D)) (ch : Int) : Hs A ((m.set s.e (.dK E')).set s.o (stO A p ch s.e)) c t P (addV V p ⟨s.o, s.e, ch, E'⟩) := by
  obtain ⟨SS, g0, g1, g2⟩ := H.stores
  obtain ⟨b1, b2⟩ := H.at_ p s hp
  obtain ⟨b3, b4, b5⟩ := H.sep p s hp
  have nd : ∀ {i : Nat} {ks : List (Key × D)}, m[i]? = some (.dK ks) → i ≠ s.o := fun h => ne_at h b1 (by simp [stO])
  have n1 : c.h ≠ s.e := ne_at H.hall b2 (by simp [hallO])
  have n6 : s.o ≠ s.e := ne_at b1 b2 (by simp [stO])
  have n7 := hall_ne H hp
  refine ⟨by rw [get_set n7, get_set n1]; exact H.hall, by rw [get_set (nd H.tab), get_set b4.symm]; exact H.tab, by rw [get_set (nd H.hnd), get_set b5.symm]; exact H.hnd, ⟨SS, by rw [get_set (nd g0), get_set b3.symm]; exact g0, by rw [many_same hp]; exact g1, fun q => ?_⟩, fun q u hq => ?_, H.nT, fun q u hq => ?_, fun q r u w hne hq hr => ?_⟩
  · rw [g2 q]
    unfold addV
    by_cases e : q = p
    · subst e
      rw [if_pos rfl, hp]
      rfl
    · rw [if_neg e]
  · unfold addV at hq
    by_cases e : q = p
    · subst e
      rw [if_pos rfl] at hq
      cases hq
      refine ⟨?_, ?_⟩
      · have : (m.set s.e (.dK E'))[s.o]? = some (stO A q s.ch s.e) := by rw [get_set n6]; exact b1
        exact get_set_eq this
      · show ((m.set s.e (.dK E')).set s.o _)[s.e]? = _
        rw [get_set n6.symm]
        exact get_set_eq b2
    · rw [if_neg e] at hq
      obtain ⟨u1, u2⟩ := H.at_ q u hq
      obtain ⟨w1, w2⟩ := H.two q p u s e hq hp
      refine ⟨?_, ?_⟩
      · rw [get_set w2, get_set (ne_at u1 b2 (by simp [stO]))]; exact u1
      · rw [get_set (nd u2), get_set w1]; exact u2
  · unfold addV at hq
    by_cases e : q = p
    · subst e
      rw [if_pos rfl] at hq
      cases hq
      exact ⟨b3, b4, b5⟩
    · rw [if_neg e] at hq
      exact H.sep q u hq
  · unfold addV at hq hr
    by_cases e1 : q = p
    · by_cases e2 : r = p
      · exact absurd (e1.trans e2.symm) hne
      · rw [if_pos e1] at hq
        rw [if_neg e2] at hr
        cases hq
        subst e1
        have := H.two q r s w hne hp hr
        exact this
    · rw [if_neg e1] at hq
      by_cases e2 : r = p
      · rw [if_pos e2] at hr
        cases hr
        subst e2
        have := H.two q r u s hne hq hp
        exact this
      · rw [if_neg e2] at hr
        exact H.two q r u w hne hq hr
theorem isp {p : Str} (hp : partB p = true) (m : M) : G_is_part A [.str p] m = .ok (.bl true) m := by
  have := PU.is_part_str (A := A) (m := m) (x := p) (by have := partB_len hp; omega)
  rw [hp] at this
  exact this
theorem son_some (F : FactsH A) (H : Hs A m c t P V) {p : Str} (hp : partB p = true) {s : Sto} (hv : V p = some s) : G_Hall_store_or_new A [.cell c.h, .str p] m = .ok (.cell s.o) m := by
  have h0 := H.hall
  obtain ⟨SS, g0, g1, g2⟩ := H.stores
  have g := g2 p
  rw [hv] at g
  have q := fun m => isp (A := A) hp m
  unfold G_Hall_store_or_new F_Hall_store_or_new
  rw [bodyD_ap]
  simp only [hallO] at h0
  simp [q, eFld_ap, objOf_cell, h0, F.hs, List.lookup, eDIn_ap, eDGet_ap, kvsOf_cell, g0, g]
theorem son_none (F : Facts A) (G : FactsH A) (H : Hs A m c t P V) {p : Str} (hp : partB p = true) (hv : V p = none) : G_Hall_store_or_new A [.cell c.h, .str p] m = .ok (.cell m.length) (m ++ [stO A p 0 (m.length + 1), .dK []]) := by
  have h0 := H.hall
  obtain ⟨SS, g0, g1, g2⟩ := H.stores
  have g := g2 p
  rw [hv] at g
  have q := fun m => isp (A := A) hp m
  have mk : ∀ m, mkObj (He.ga A.K "Store") (G_Store_init A) (fun o => [o, .str p]) m = _ := fun m => mk_store F hp
  unfold G_Hall_store_or_new F_Hall_store_or_new
  rw [bodyD_ap]
  simp only [hallO] at h0
  simp [q, eFld_ap, objOf_cell, h0, G.hs, List.lookup, eDIn_ap, eDGet_ap, kvsOf_cell, g0, g, eMkP_ap, pick, mk]
/-- the store that was found or made is laid in the hall's stores: one that is there -/
theorem lay_some (H : Hs A m c t P V) {p : Str} {s : Sto} (hv : V p = some s) {SS : List (Key × D)} (g0 : m[c.S]? = some (.dK SS)) (g1 : SS.length ≤ many V) (g2 : ∀ p, valK SS (.inr p) = (V p).map fun s => D.cell s.o) : Hs A (m.set c.S (.dK (putKD SS (.inr p) (.cell s.o)))) c t P V := by
  have g := g2 p
  rw [hv] at g
  have gl := put_same (v := D.cell s.o) g
  have nh : c.h ≠ c.S := ne_at H.hall g0 (by simp [hallO])
  refine ⟨by rw [get_set nh]; exact H.hall, by rw [get_set H.nT.1.symm]; exact H.tab, by rw [get_set H.nT.2.symm]; exact H.hnd, ⟨_, get_set_eq g0, by rw [gl]; exact g1, fun q => ?_⟩, fun q u hq => ?_, H.nT, H.sep, H.two⟩
  · rw [valK_put]
    by_cases e : (Sum.inr p : Key) = .inr q
    · cases e
      rw [if_pos rfl, hv]
      rfl
    · rw [if_neg e]
      exact g2 q
  · obtain ⟨a1, a2⟩ := H.at_ q u hq
    have n1 : u.o ≠ c.S := ne_at a1 g0 (by simp [stO])
    exact ⟨by rw [get_set n1]; exact a1, by rw [get_set (H.sep q u hq).1]; exact a2⟩
/-- one that was made -/
theorem lay_none (H : Hs A m c t P V) {p : Str} (hp : p ∈ P4) (hv : V p = none) {SS : List (Key × D)} (g0 : m[c.S]? = some (.dK SS)) (g1 : SS.length ≤ many V) (g2 : ∀ p, valK SS (.inr p) = (V p).map fun s => D.cell s.o) (ch : Int) (E : List (Key × D)) :
    Hs A ((m ++ [stO A p ch (m.length + 1), .dK E]).set c.S (.dK (putKD SS (.inr p) (.cell m.length)))) c t P (addV V p ⟨m.length, m.length + 1, ch, E⟩) := by
  have up : ∀ {k : Nat} {o : O}, m[k]? = some o → (m ++ [stO A p ch (m.length + 1), .dK E])[k]? = some o := fun h => by
    rw [List.getElem?_append_left (lt_of_get h)]; exact h
  have nh : c.h ≠ c.S := ne_at H.hall g0 (by simp [hallO])
  have lS := lt_of_get g0
  have lT := lt_of_get H.tab
  have lB := lt_of_get H.hnd
  have at1 : (m ++ [stO A p ch (m.length + 1), .dK E])[m.length]? = some (stO A p ch (m.length + 1)) := by rw [get_end0]; rfl
  have at2 : (m ++ [stO A p ch (m.length + 1), .dK E])[m.length + 1]? = some (.dK E) := by rw [get_endS]; rfl
  have low : ∀ q t, V q = some t → t.o < m.length ∧ t.e < m.length := fun q t hq => ⟨lt_of_get (H.at_ q t hq).1, lt_of_get (H.at_ q t hq).2⟩
  refine ⟨by rw [get_set nh]; exact up H.hall, by rw [get_set H.nT.1.symm]; exact up H.tab, by rw [get_set H.nT.2.symm]; exact up H.hnd, ⟨_, get_set_eq (up g0), ?_, fun q => ?_⟩, fun q u hq => ?_, H.nT, fun q u hq => ?_, fun q r u w hne hq hr => ?_⟩
  · exact Nat.le_trans (put_len _ _ _) (Nat.le_trans (Nat.add_le_add_right g1 1) (many_add hp hv))
  · rw [valK_put]
    unfold addV
    by_cases e : p = q
    · subst e
      rw [if_pos rfl, if_pos rfl]
      rfl
    · rw [if_neg (fun h => e (Sum.inr.inj h)), if_neg (fun h => e h.symm)]
      exact g2 q
  · unfold addV at hq
    by_cases e : q = p
    · subst e
      rw [if_pos rfl] at hq
      cases hq
      exact ⟨by rw [get_set (by show m.length ≠ c.S; omega)]; exact at1, by rw [get_set (by show m.length + 1 ≠ c.S; omega)]; exact at2⟩
    · rw [if_neg e] at hq
      obtain ⟨a1, a2⟩ := H.at_ q u hq
      have n1 : u.o ≠ c.S := ne_at a1 g0 (by simp [stO])
      exact ⟨by rw [get_set n1]; exact up a1, by rw [get_set (H.sep q u hq).1]; exact up a2⟩
  · unfold addV at hq
    by_cases e : q = p
    · subst e
      rw [if_pos rfl] at hq
      cases hq
      exact ⟨by show m.length + 1 ≠ c.S; omega, by show m.length + 1 ≠ c.T; omega, by show m.length + 1 ≠ c.B; omega⟩
    · rw [if_neg e] at hq
      exact H.sep q u hq
  · unfold addV at hq hr
    by_cases e1 : q = p
    · by_cases e2 : r = p
      · exact absurd (e1.trans e2.symm) hne
      · rw [if_pos e1] at hq
        rw [if_neg e2] at hr
        cases hq
        have := low r w hr
        exact ⟨by show m.length + 1 ≠ w.e; omega, by show m.length ≠ w.o; omega⟩
    · rw [if_neg e1] at hq
      by_cases e2 : r = p
      · rw [if_pos e2] at hr
        cases hr
        have := low q u hq
        exact ⟨by show u.e ≠ m.length + 1; omega, by show u.o ≠ m.length; omega⟩
      · rw [if_neg e2] at hr
        exact H.two q r u w hne hq hr
/-- hall.store: what is seen stays -/
theorem store_at (F : Facts A) (G : FactsH A) (H : Hs A m c t P V) {p : Str} (hp : p ∈ P4) : ∃ m' V' s, G_Hall_store A [.cell c.h, .str p] m = .ok (.cell s.o) m' ∧ Hs A m' c t P V' ∧ V' p = some s ∧ view V' = view V ∧ Fr m m' [c.S] := by
  have pp := p4_part p hp
  obtain ⟨SS, g0, g1, g2⟩ := H.stores
  have h0 := H.hall
  have z : SS.length < sizeLine := by
    have := many_le V
    rw [sizeLine_eq]
    omega
  cases hv : V p with
  | some s =>
    have e := son_some G H pp hv
    refine ⟨_, V, s, ?_, lay_some H hv g0 g1 g2, hv, rfl, Fr.set (List.mem_singleton.mpr rfl)⟩
    unfold G_Hall_store F_Hall_store
    rw [bodyD_ap]
    simp only [hallO] at h0
    simp [eMtP_ap, objOf_cell, h0, List.lookup, pick, e, sDPutD_ap, eFld_ap, G.hs, kvsOf_cell, g0, z]
  | none =>
    have e := son_none F G H pp hv
    have up : ∀ {k : Nat} {o : O}, m[k]? = some o → (m ++ [stO A p 0 (m.length + 1), .dK []])[k]? = some o := fun h => by
      rw [List.getElem?_append_left (lt_of_get h)]; exact h
    have u0 := up h0
    have uS := up g0
    refine ⟨_, _, ⟨m.length, m.length + 1, 0, []⟩, ?_, lay_none H hp hv g0 g1 g2 0 [], if_pos rfl, view_add hv, (Fr.app _).trans (Fr.set (List.mem_singleton.mpr rfl))⟩
    unfold G_Hall_store F_Hall_store
    rw [bodyD_ap]
    simp only [hallO] at h0 u0
    simp [eMtP_ap, objOf_cell, h0, u0, List.lookup, pick, e, sDPutD_ap, eFld_ap, G.hs, kvsOf_cell, uS, z]
end
end
end K21

namespace K21
section
open PySem PySem.Spec L2 DL PU
variable {A : Amb} {m : M}
/-- what is neither object nor dict stays -/
structure Kq (m m' : M) : Prop where
  len : m.length ≤ m'.length
  at_ : ∀ (k : Nat) (u : O), m[k]? = some u → (∀ C fs, u ≠ O.ins C fs) → (∀ ks, u ≠ O.dK ks) → m'[k]? = some u
theorem Kq.refl : Kq m m := ⟨Nat.le_refl _, fun _ _ h _ _ => h⟩
theorem Kq.trans {m' m'' : M} (a : Kq m m') (b : Kq m' m'') : Kq m m'' := ⟨Nat.le_trans a.len b.len, fun k u h h1 h2 => b.at_ k u (a.at_ k u h h1 h2) h1 h2⟩
theorem Kq.app (l : M) : Kq m (m ++ l) := ⟨by simp, fun k u h _ _ => get_app h l⟩
theorem Kq.ins {k : Nat} {C : Addr} {fs : List (Str × D)} {o : O} (h : m[k]? = some (.ins C fs)) : Kq m (m.set k o) := ⟨by simp, fun i u hi h1 _ => by rw [get_set (ne_at hi h (h1 _ _))]; exact hi⟩
theorem Kq.dct {k : Nat} {ks : List (Key × D)} {o : O} (h : m[k]? = some (.dK ks)) : Kq m (m.set k o) := ⟨by simp, fun i u hi _ h2 => by rw [get_set (ne_at hi h (h2 _))]; exact hi⟩
theorem Kq.of_fr {m' : M} {k : Nat} {ks : List (Key × D)} (f : Fr m m' [k]) (h : m[k]? = some (.dK ks)) : Kq m m' := ⟨f.len, fun i u hi _ h2 => f.get hi (fun q => by
  have := List.mem_singleton.mp q
  exact ne_at hi h (h2 _) this)⟩
section
variable {c : Cl} {t : Int} {P : List Str} {V : Str → Option Sto}
theorem Hs.SS (H : Hs A m c t P V) : ∃ ks, m[c.S]? = some (.dK ks) := by
  obtain ⟨SS, g0, _⟩ := H.stores
  exact ⟨SS, g0⟩
/-- hall.store -/
theorem store_k (F : Facts A) (G : FactsH A) (H : Hs A m c t P V) {p : Str} (hp : p ∈ P4) : ∃ m' V' s, G_Hall_store A [.cell c.h, .str p] m = .ok (.cell s.o) m' ∧ Hs A m' c t P V' ∧ V' p = some s ∧ view V' = view V ∧ Kq m m' := by
  obtain ⟨m', V', s, e, h1, h2, h3, f⟩ := store_at F G H hp
  obtain ⟨ks, g⟩ := H.SS
  exact ⟨m', V', s, e, h1, h2, h3, Kq.of_fr f g⟩
/-- hall.put -/
theorem hall_put (F : Facts A) (G : FactsH A) (H : Hs A m c t P V) {n : Nat} (hE : ∀ p, Ent (view V p).2 n) (hn : n < 64) {p x y : Str} (hp : p ∈ P4) (hx : nameB x = true) (b : Bool) :
    ∃ m' V', G_Hall_put A [.cell c.h, .str p, .str x, .str y, .bl b] m = .ok .non m' ∧ Hs A m' c t P V' ∧ (∀ q, view V' q = if q = p then (t, putKD (view V p).2 (.inr x) (entD y b t)) else view V q) ∧ Kq m m' := by
  have pp := p4_part p hp
  obtain ⟨SS, g0, g1, g2⟩ := H.stores
  have h0 := H.hall
  have z : SS.length < sizeLine := by
    have := many_le V
    rw [sizeLine_eq]
    omega
  cases hv : V p with
  | some s =>
    have e := son_some G H pp hv
    obtain ⟨b1, b2⟩ := H.at_ p s hv
    have hE' : Ent s.E n := by have := hE p; rwa [view_of hv] at this
    have ep := put_ok (y := y) (p := b) (s := t) F b1 b2 hE' hn hx
    have H1 := H.store_set hv (putKD s.E (.inr x) (entD y b t)) t
    have v1 : addV V p ⟨s.o, s.e, t, putKD s.E (.inr x) (entD y b t)⟩ p = some ⟨s.o, s.e, t, putKD s.E (.inr x) (entD y b t)⟩ := if_pos rfl
    have nS : c.S ≠ s.e := (H.sep p s hv).1.symm
    have nO : c.S ≠ s.o := ne_at g0 b1 (by simp [stO])
    have gS : ((m.set s.e (.dK (putKD s.E (.inr x) (entD y b t)))).set s.o (stO A p t s.e))[c.S]? = some (.dK SS) := by rw [get_set nO, get_set nS]; exact g0
    have u0 := H1.hall
    have b1' := b1
    refine ⟨_, _, ?_, lay_some H1 v1 gS (by rw [many_same hv]; exact g1) (fun q => ?_), fun q => ?_, ?_⟩
    · unfold G_Hall_put F_Hall_put
      rw [bodyD_ap]
      simp only [hallO, stO] at h0 u0 b1' ep gS ⊢
      simp [eMtP_ap, objOf_cell, h0, u0, b1', List.lookup, pick, e, ep, sDPutD_ap, eFld_ap, G.hs, G.hc, kvsOf_cell, gS, z]
    · rw [g2 q]
      unfold addV
      by_cases e : q = p
      · subst e
        rw [if_pos rfl, hv]
        rfl
      · rw [if_neg e]
    · rw [view_set, view_of hv]
    · refine (Kq.dct b2).trans ((Kq.ins (C := He.ga A.K "Store") (fs := [("name", .str p), ("changed", .int s.ch), ("entries", .cell s.e)]) ?_).trans (Kq.dct gS))
      rw [get_set (ne_at b1 b2 (by simp [stO]))]
      exact b1
  | none =>
    have e := son_none F G H pp hv
    have up : ∀ {k : Nat} {o : O}, m[k]? = some o → (m ++ [stO A p 0 (m.length + 1), .dK []])[k]? = some o := fun h => by
      rw [List.getElem?_append_left (lt_of_get h)]; exact h
    have at1 : (m ++ [stO A p 0 (m.length + 1), .dK []])[m.length]? = some (stO A p 0 (m.length + 1)) := by rw [get_end0]; rfl
    have at2 : (m ++ [stO A p 0 (m.length + 1), .dK []])[m.length + 1]? = some (.dK []) := by rw [get_endS]; rfl
    have ep := put_ok (y := y) (p := b) (s := t) F at1 at2 (Ent.nil (n := 0)) (by decide) hx
    have em : ((m ++ [stO A p 0 (m.length + 1), .dK []]).set (m.length + 1) (.dK (putKD [] (.inr x) (entD y b t)))).set m.length (stO A p t (m.length + 1)) = m ++ [stO A p t (m.length + 1), .dK (putKD [] (.inr x) (entD y b t))] := by
      rw [set_endS, set_end0]
      rfl
    rw [em] at ep
    have up2 : ∀ {k : Nat} {o : O}, m[k]? = some o → (m ++ [stO A p t (m.length + 1), .dK (putKD [] (.inr x) (entD y b t))])[k]? = some o := fun h => by
      rw [List.getElem?_append_left (lt_of_get h)]; exact h
    have u0 := up h0
    have w0 := up2 h0
    have wS := up2 g0
    have vn : view V p = (0, []) := by unfold view; rw [hv]
    refine ⟨_, _, ?_, lay_none H hp hv g0 g1 g2 t (putKD [] (.inr x) (entD y b t)), fun q => ?_, ?_⟩
    · unfold G_Hall_put F_Hall_put
      rw [bodyD_ap]
      simp only [hallO, stO] at h0 u0 w0 at1 ep wS e ⊢
      simp [eMtP_ap, objOf_cell, h0, u0, w0, at1, List.lookup, pick, e, ep, sDPutD_ap, eFld_ap, G.hs, G.hc, kvsOf_cell, wS, z]
    · rw [view_set, vn]
    · exact (Kq.app _).trans (Kq.dct wS)
/-- hall.take of what lies there -/
theorem hall_take (F : Facts A) (G : FactsH A) (H : Hs A m c t P V) {p x y : Str} {b : Bool} {s0 : Int} (hp : p ∈ P4) (hx : nameB x = true) (hl : valK (view V p).2 (.inr x) = some (entD y b s0)) :
    ∃ m' V', G_Hall_take A [.cell c.h, .str p, .str x] m = .ok (.str y) m' ∧ Hs A m' c t P V' ∧ (∀ q, view V' q = if q = p then (t, dropKD (view V p).2 (.inr x)) else view V q) ∧ Kq m m' := by
  have pp := p4_part p hp
  have h0 := H.hall
  cases hv : V p with
  | none =>
    exfalso
    have : view V p = (0, []) := by unfold view; rw [hv]
    rw [this] at hl
    cases hl
  | some s =>
    have e := son_some G H pp hv
    obtain ⟨b1, b2⟩ := H.at_ p s hv
    rw [view_of hv] at hl
    have ep := take_ok (s := t) F b1 b2 hx hl
    have H1 := H.store_set hv (dropKD s.E (.inr x)) t
    have b1' := b1
    refine ⟨_, _, ?_, H1, fun q => ?_, ?_⟩
    · unfold G_Hall_take F_Hall_take
      rw [bodyD_ap]
      simp only [hallO, stO] at h0 b1' ep ⊢
      simp [eMtP_ap, objOf_cell, h0, b1', List.lookup, pick, e, ep, eFld_ap, G.hs, G.hc]
    · rw [view_set, view_of hv]
    · refine (Kq.dct b2).trans (Kq.ins (C := He.ga A.K "Store") (fs := [("name", .str p), ("changed", .int s.ch), ("entries", .cell s.e)]) ?_)
      rw [get_set (ne_at b1 b2 (by simp [stO]))]
      exact b1
/-- hall.tick -/
theorem num_from {i : Int} (h : 1 ≤ i) : G_is_number_from A [.int i, .int 1] m = .ok (.bl true) m := by
  have k1 : ∀ m : M, isiD [.int i, .ob (.ty "int")] m = .ok (.bl true) m := fun m => isiD_is m rfl (by decide +kernel)
  have k2 : ∀ m : M, isiD [.int i, .ob (.ty "bool")] m = .ok (.bl false) m := fun m => isiD_is m rfl (by decide +kernel)
  unfold G_is_number_from F_is_number_from
  rw [bodyD_ap]
  simp [k1, k2, h]
theorem hall_tick (F : Facts A) (G : FactsH A) (H : Hs A m c t P V) {i : Int} (hi : 1 ≤ i) :
    ∃ m', G_Hall_tick A [.cell c.h, .int i] m = .ok (.int (t + i)) m' ∧ Hs A m' c (t + i) P V ∧ Kq m m' := by
  have h0 := H.hall
  have q := fun m => num_from (A := A) (m := m) hi
  have h1 := h0
  refine ⟨m.set c.h (hallO A c (t + i) P), ?_, H.hall_set (t + i) P, Kq.ins (by simp only [hallO] at h1; exact h1)⟩
  have g := get_set_eq (o := hallO A c (t + i) P) h0
  unfold G_Hall_tick F_Hall_tick
  rw [bodyD_ap]
  simp only [hallO] at h0 g ⊢
  simp [q, sFldAugD_ap, objOf_cell, h0, G.hc, List.lookup, putD, eFld_ap, g]
/-- what has begun: nothing -/
theorem told_nil (G : FactsH A) (H : Hs A m c t P V) : G_Hall_told A [.cell c.h] m = .ok (.lst []) m := by
  have h0 := H.hall
  have hT := H.tab
  unfold G_Hall_told F_Hall_told
  rw [bodyD_ap]
  simp only [hallO] at h0
  simp [eFld_ap, objOf_cell, h0, List.lookup, G.ht, sortedD, kvsOf_cell, hT, strKeys, sortT, show txs ([] : List Str) = [] from rfl, compD]
theorem hands_nil (G : FactsH A) (H : Hs A m c t P V) : G_Hall_hands A [.cell c.h] m = .ok (.lst []) m := by
  have h0 := H.hall
  have hT := H.hnd
  unfold G_Hall_hands F_Hall_hands
  rw [bodyD_ap]
  simp only [hallO] at h0
  simp [eFld_ap, objOf_cell, h0, List.lookup, G.hh, sortedD, kvsOf_cell, hT, strKeys, sortT, show txs ([] : List Str) = [] from rfl, compD]
end
end
end K21

namespace K21
section
open PySem PySem.Spec L2 DL PU
variable {A : Amb} {m : M}
theorem val_iff {κ : Type} [DecidableEq κ] {kvs : List (κ × D)} {k : κ} : (valK kvs k).isSome = true ↔ k ∈ kvs.map (·.1) := by
  unfold valK
  rw [Option.isSome_map, List.find?_isSome]
  constructor
  · rintro ⟨q, hq, e⟩
    have e : q.1 = k := of_decide_eq_true e
    exact List.mem_map.mpr ⟨q, hq, e⟩
  · intro h
    obtain ⟨q, hq, e⟩ := List.mem_map.mp h
    exact ⟨q, hq, decide_eq_true e⟩
theorem keys_put {κ : Type} [DecidableEq κ] (kvs : List (κ × D)) (k : κ) (v : D) : (putKD kvs k v).map (·.1) = if k ∈ kvs.map (·.1) then kvs.map (·.1) else kvs.map (·.1) ++ [k] := by
  unfold putKD
  by_cases h : (kvs.any fun kv => decide (kv.1 = k)) = true
  · have hk : k ∈ kvs.map (·.1) := by
      obtain ⟨q, hq, e⟩ := List.any_eq_true.mp h
      exact List.mem_map.mpr ⟨q, hq, of_decide_eq_true e⟩
    rw [if_pos h, if_pos hk, List.map_map]
    refine List.map_congr_left fun q _ => ?_
    show (if q.1 = k then (q.1, v) else q).1 = q.1
    split <;> rfl
  · have hk : k ∉ kvs.map (·.1) := fun hk => h (by
      obtain ⟨q, hq, e⟩ := List.mem_map.mp hk
      exact List.any_eq_true.mpr ⟨q, hq, decide_eq_true e⟩)
    rw [if_neg h, if_neg hk, List.map_append]
    rfl
theorem nod_put {κ : Type} [DecidableEq κ] {kvs : List (κ × D)} (h : (kvs.map (·.1)).Nodup) (k : κ) (v : D) : ((putKD kvs k v).map (·.1)).Nodup := by
  rw [keys_put]
  split
  · exact h
  · rename_i hk
    refine List.nodup_append.mpr ⟨h, by simp, fun a ha b hb e => ?_⟩
    rw [List.mem_singleton.mp hb] at e
    exact hk (e ▸ ha)
theorem nod_drop {κ : Type} [DecidableEq κ] {kvs : List (κ × D)} (h : (kvs.map (·.1)).Nodup) (k : κ) : ((dropKD kvs k).map (·.1)).Nodup := by
  unfold dropKD
  exact h.sublist (List.Sublist.map _ List.filter_sublist)
def kk (p x : Str) : List Key := [.inr p, .inr x]
theorem kk_inj {p x q y : Str} : kk p x = kk q y ↔ p = q ∧ x = y := by simp [kk]
/-- what lies, by the law's own book, is what the stores show -/
structure Rel (V : Str → Option Sto) (L : List (List Key × D)) (n : Nat) : Prop where
  ent : ∀ p, Ent (view V p).2 n
  nodE : ∀ p, ((view V p).2.map (·.1)).Nodup
  len : L.length ≤ n
  keys : ∀ q ∈ L, ∃ p ∈ P4, ∃ x, nameB x = true ∧ q.1 = kk p x
  nodL : (L.map (·.1)).Nodup
  same : ∀ p ∈ P4, ∀ x, valK L (kk p x) = valK (view V p).2 (.inr x)
theorem Rel.mono {V : Str → Option Sto} {L : List (List Key × D)} {n k : Nat} (R : Rel V L n) (h : n ≤ k) : Rel V L k := ⟨fun p => (R.ent p).mono h, R.nodE, by have := R.len; omega, R.keys, R.nodL, R.same⟩
theorem Rel.view {V V' : Str → Option Sto} {L : List (List Key × D)} {n : Nat} (R : Rel V L n) (h : view V' = view V) : Rel V' L n := ⟨by rw [h]; exact R.ent, by rw [h]; exact R.nodE, R.len, R.keys, R.nodL, by rw [h]; exact R.same⟩
theorem Rel.put {V V' : Str → Option Sto} {L : List (List Key × D)} {n : Nat} (R : Rel V L n) {p x y : Str} {b : Bool} {s ch : Int} (hp : p ∈ P4) (hx : nameB x = true) (hy : PyData.strOk y = true)
    (hv : ∀ q, K21.view V' q = if q = p then (ch, putKD (K21.view V p).2 (.inr x) (entD y b s)) else K21.view V q) : Rel V' (putKD L (kk p x) (entD y b s)) (n + 1) := by
  refine ⟨fun q => ?_, fun q => ?_, ?_, fun q hq => ?_, nod_put R.nodL _ _, fun q hq z => ?_⟩
  · rw [hv]
    split
    · exact (R.ent p).put hx hy b s
    · exact (R.ent q).mono (by omega)
  · rw [hv]
    split
    · exact nod_put (R.nodE p) _ _
    · exact R.nodE q
  · have := put_len L (kk p x) (entD y b s)
    have := R.len
    omega
  · rcases mem_put hq with rfl | hq
    · exact ⟨p, hp, x, hx, rfl⟩
    · exact R.keys q hq
  · rw [valK_put, hv]
    by_cases e : q = p
    · subst e
      rw [if_pos rfl]
      show _ = valK (putKD _ _ _) _
      rw [valK_put]
      by_cases e2 : x = z
      · subst e2
        rw [if_pos rfl, if_pos rfl]
      · rw [if_neg (fun h => e2 (kk_inj.mp h).2), if_neg (fun h => e2 (Sum.inr.inj h))]
        exact R.same q hq z
    · rw [if_neg e, if_neg (fun h => e (kk_inj.mp h).1.symm)]
      exact R.same q hq z
theorem Rel.drop {V V' : Str → Option Sto} {L : List (List Key × D)} {n : Nat} (R : Rel V L n) {p x : Str} {ch : Int} (hp : p ∈ P4)
    (hv : ∀ q, K21.view V' q = if q = p then (ch, dropKD (K21.view V p).2 (.inr x)) else K21.view V q) : Rel V' (dropKD L (kk p x)) (n + 1) := by
  refine ⟨fun q => ?_, fun q => ?_, ?_, fun q hq => R.keys q (mem_drop hq), nod_drop R.nodL _, fun q hq z => ?_⟩
  · rw [hv]
    split
    · exact (R.ent p).drop x
    · exact (R.ent q).mono (by omega)
  · rw [hv]
    split
    · exact nod_drop (R.nodE p) _
    · exact R.nodE q
  · have := drop_len L (kk p x)
    have := R.len
    omega
  · rw [valK_drop, hv]
    by_cases e : q = p
    · subst e
      rw [if_pos rfl]
      show _ = valK (dropKD _ _) _
      rw [valK_drop]
      by_cases e2 : x = z
      · subst e2
        rw [if_pos rfl, if_pos rfl]
      · rw [if_neg (fun h => e2 (kk_inj.mp h).2), if_neg (fun h => e2 (Sum.inr.inj h))]
        exact R.same q hq z
    · rw [if_neg e, if_neg (fun h => e (kk_inj.mp h).1.symm)]
      exact R.same q hq z
/-! the names that lie at a place -/
def nameAt (p : Str) (k : List Key) : Option Str := match k with
  | [.inr a, .inr x] => if a = p then some x else none
  | _ => none
def namesOf (L : List (List Key × D)) (p : Str) : List Str := L.filterMap fun q => nameAt p q.1
theorem nameAt_kk {a p x : Str} : nameAt p (kk a x) = if a = p then some x else none := rfl
theorem mem_names {L : List (List Key × D)} (hk : ∀ q ∈ L, ∃ p ∈ P4, ∃ x, nameB x = true ∧ q.1 = kk p x) {p x : Str} : x ∈ namesOf L p ↔ kk p x ∈ L.map (·.1) := by
  unfold namesOf
  rw [List.mem_filterMap, List.mem_map]
  constructor
  · rintro ⟨q, hq, e⟩
    obtain ⟨a, _, y, _, ek⟩ := hk q hq
    rw [ek, nameAt_kk] at e
    split at e
    · rename_i ha
      cases e
      exact ⟨q, hq, by rw [ek, ha]⟩
    · cases e
  · rintro ⟨q, hq, e⟩
    exact ⟨q, hq, by rw [e, nameAt_kk, if_pos rfl]⟩
theorem nod_names : ∀ {L : List (List Key × D)} {p : Str}, (∀ q ∈ L, ∃ p ∈ P4, ∃ x, nameB x = true ∧ q.1 = kk p x) → (L.map (·.1)).Nodup → (namesOf L p).Nodup
  | [], p, _, _ => List.nodup_nil
  | q :: L, p, hk, hn => by
    rw [List.map_cons, List.nodup_cons] at hn
    have ih := nod_names (p := p) (fun r hr => hk r (List.mem_cons_of_mem _ hr)) hn.2
    obtain ⟨a, _, x, _, ek⟩ := hk q List.mem_cons_self
    unfold namesOf
    rw [List.filterMap_cons, ek, nameAt_kk]
    by_cases h : a = p
    · rw [if_pos h]
      show (x :: namesOf L p).Nodup
      rw [List.nodup_cons]
      refine ⟨fun hx => hn.1 ?_, ih⟩
      have := (mem_names fun r hr => hk r (List.mem_cons_of_mem _ hr)).mp hx
      rw [ek, h]
      exact this
    · rw [if_neg h]
      exact ih
theorem sort_congr {a b : List Str} (h : a.Perm b) : sortT a = sortT b :=
  List.Perm.eq_of_pairwise (le := fun a b => leS a b = true) (fun a b _ _ h1 h2 => leS_antisymm h1 h2) (List.pairwise_mergeSort leS_trans leS_total a) (List.pairwise_mergeSort leS_trans leS_total b) ((sortT_perm a).trans (h.trans (sortT_perm b).symm))
theorem Rel.names {V : Str → Option Sto} {L : List (List Key × D)} {n : Nat} (R : Rel V L n) {p : Str} (hp : p ∈ P4) : sortT (namesOf L p) = ksE (K21.view V p).2 := by
  obtain ⟨ks, e, l, hk⟩ := (R.ent p).keys
  have ek := strKeys_ok e
  unfold ksE
  rw [e]
  show sortT _ = sortT ks
  refine sort_congr ((List.perm_ext_iff_of_nodup (nod_names R.keys R.nodL) ?_).mpr fun x => ?_)
  · have := R.nodE p
    rw [ek] at this
    exact List.Pairwise.of_map (S := (· ≠ ·)) Sum.inr (fun a b h e => h (by rw [e])) this
  · rw [mem_names R.keys, ← val_iff, R.same p hp x, val_iff, ek, List.mem_map]
    constructor
    · rintro ⟨y, hy, e⟩
      cases e
      exact hy
    · intro hx
      exact ⟨x, hx, rfl⟩
theorem Rel.namesLen {V : Str → Option Sto} {L : List (List Key × D)} {n : Nat} (R : Rel V L n) (p : Str) : (namesOf L p).length ≤ n := Nat.le_trans (List.length_filterMap_le _ _) R.len
theorem Rel.new : Rel (fun _ => none) [] 0 := ⟨fun p => Ent.nil, fun p => List.nodup_nil, Nat.le_refl _, fun q hq => (nomatch hq), List.nodup_nil, fun p hp x => rfl⟩
end
end K21

namespace K21
section
open PySem PySem.Spec L2 DL PU
variable {A : Amb} {m : M}
structure Facts2 (A : Amb) : Prop where
  io : isoB A.K (He.ga A.K "Store") = true
  ks : PySem.W.kitOne A.K (.ref (He.ga A.K "Store")) (.ref (He.ga A.K "Store")) = some true
section
variable {c : Cl} {t : Int} {P : List Str} {V : Str → Option Sto}
/-- hall.store of one that is there: the very same -/
theorem store_s (G : FactsH A) (H : Hs A m c t P V) {p : Str} (hp : p ∈ P4) {s : Sto} (hv : V p = some s) : ∃ m', G_Hall_store A [.cell c.h, .str p] m = .ok (.cell s.o) m' ∧ Hs A m' c t P V ∧ Kq m m' := by
  have pp := p4_part p hp
  obtain ⟨SS, g0, g1, g2⟩ := H.stores
  have h0 := H.hall
  have z : SS.length < sizeLine := by
    have := many_le V
    rw [sizeLine_eq]
    omega
  have e := son_some G H pp hv
  refine ⟨_, ?_, lay_some H hv g0 g1 g2, Kq.dct g0⟩
  unfold G_Hall_store F_Hall_store
  rw [bodyD_ap]
  simp only [hallO] at h0
  simp [eMtP_ap, objOf_cell, h0, List.lookup, pick, e, sDPutD_ap, eFld_ap, G.hs, kvsOf_cell, g0, z]
theorem isi_store (F : Facts2 A) {o e : Nat} {nm : Str} {ch : Int} (h : m[o]? = some (stO A nm ch e)) : isiO A.K [.cell o, .ob (.ref (He.ga A.K "Store"))] m = .ok (.bl true) m := by
  have e1 : objOf (.cell o) m = some (He.ga A.K "Store", ([("name", .str nm), ("changed", .int ch), ("entries", .cell e)] : List (Str × D))) := by
    rw [objOf_cell, h]
    rfl
  unfold isiO
  simp only [clsV, e1, F.io, if_true, F.ks]
theorem isi_tt (ds : List D) : isiD [.tup ds, .ob (.ty "tuple")] m = .ok (.bl true) m := isiD_is m rfl (by decide +kernel)
/-! the names at a place, by the book -/
theorem comp_names {p : Str} {e0 e1 e2 e3 e5 : Option D} : ∀ (L : List (List Key × D)) (acc : List D), (∀ q ∈ L, ∃ p ∈ P4, ∃ x, nameB x = true ∧ q.1 = kk p x) → acc.length + L.length ≤ 1000 →
    compD (gPutN [7, 6]) (eTest asBl (eOp (eqD false) (eVar 7) (eVar 4))) (eVar 6) [e0, e1, e2, e3, some (.str p), e5, none, none] (L.map fun q => D.tk q.1) acc m = .ok (acc ++ txs (namesOf L p)) m
  | [], acc, _, _ => by
    show R.ok acc m = R.ok (acc ++ []) m
    rw [List.append_nil]
  | q :: L, acc, hk, hl => by
    obtain ⟨a, _, x, _, ek⟩ := hk q List.mem_cons_self
    have hk' : ∀ q ∈ L, ∃ p ∈ P4, ∃ x, nameB x = true ∧ q.1 = kk p x := fun r hr => hk r (List.mem_cons_of_mem _ hr)
    have pu : gPutN [7, 6] (D.tk q.1) [e0, e1, e2, e3, some (.str p), e5, none, none] m = some [e0, e1, e2, e3, some (.str p), e5, some (.str x), some (.str a)] := by rw [ek]; rfl
    have ts : eTest asBl (eOp (eqD false) (eVar 7) (eVar 4)) [e0, e1, e2, e3, some (.str p), e5, some (.str x), some (.str a)] m = .ok (decide (a = p)) m := by simp
    have el : eVar 6 [e0, e1, e2, e3, some (.str p), e5, some (.str x), some (.str a)] m = .ok (.str x) m := rfl
    rw [List.map_cons]
    unfold compD
    rw [pu, putR_some, ts, R.bindS_ok]
    have nm : namesOf (q :: L) p = if a = p then x :: namesOf L p else namesOf L p := by
      unfold namesOf
      rw [List.filterMap_cons, ek, nameAt_kk]
      by_cases h : a = p
      · rw [if_pos h, if_pos h]
      · rw [if_neg h, if_neg h]
    rw [nm]
    simp only [List.length_cons] at hl
    by_cases h : a = p
    · rw [if_pos h, if_pos (decide_eq_true h), el, R.bindS_ok, if_pos (by rw [sizeLine_eq]; omega), comp_names L _ hk' (by simp; omega), List.append_assoc]
      rfl
    · rw [if_neg h, if_neg (by simpa using h), comp_names L acc hk' (by omega)]
theorem lock_names {l : Nat} {L : List (List Key × D)} {n : Nat} (hl : m[l]? = some (.dT L)) (Q : Rel V L n) (hn : n < 64) {p : Str} {e0 e2 e3 e5 e6 e7 : Option D} :
    eLockD (eVar 1) (eComp okL [7, 6] (iKeysD (eVar 1)) (gPutN [7, 6]) (eTest asBl (eOp (eqD false) (eVar 7) (eVar 4))) (eVar 6)) [e0, some (.cell l), e2, e3, some (.str p), e5, e6, e7] m = .ok (.lst (txs (namesOf L p))) m := by
  have lt := lt_of_get hl
  have lk : lkM l m = some (m.set l (.frT L)) := by unfold lkM; simp only [hl, frO, Option.map_some]
  have g : (m.set l (.frT L))[l]? = some (.frT L) := get_set_eq hl
  have it : iKeysD (eVar 1) [e0, some (.cell l), e2, e3, some (.str p), e5, e6, e7] (m.set l (.frT L)) = .ok (L.map fun q => D.tk q.1) (m.set l (.frT L)) := by
    show (R.bind (.ok (.cell l) (m.set l (.frT L))) fun d m => match keysL d m with | some ds => R.ok ds m | none => .no) = _
    rw [R.bind_ok]
    unfold keysL
    simp only [g]
  have un : unM l (m.set l (.frT L)) = some m := by
    unfold unM
    simp only [g, unO, Option.map_some]
    rw [List.set_set]
    congr 1
    obtain ⟨h1, h2⟩ := List.getElem?_eq_some_iff.mp hl
    rw [← h2, List.set_getElem_self]
  show (match lkM l m with | some m1 => unlR l (eComp okL [7, 6] (iKeysD (eVar 1)) (gPutN [7, 6]) (eTest asBl (eOp (eqD false) (eVar 7) (eVar 4))) (eVar 6) [e0, some (.cell l), e2, e3, some (.str p), e5, e6, e7] m1) | none => R.no) = _
  rw [lk]
  show unlR l (eComp okL [7, 6] (iKeysD (eVar 1)) (gPutN [7, 6]) (eTest asBl (eOp (eqD false) (eVar 7) (eVar 4))) (eVar 6) [e0, some (.cell l), e2, e3, some (.str p), e5, e6, e7] (m.set l (.frT L))) = _
  rw [eComp_ap, it, R.bind_ok]
  show unlR l ((compD _ _ _ [e0, some (.cell l), e2, e3, some (.str p), e5, none, none] _ [] _).bindS okL) = _
  rw [comp_names L [] Q.keys (by have := Q.len; simp; omega)]
  show (match unM l (m.set l (.frT L)) with | some m' => R.ok (D.lst (txs (namesOf L p))) m' | none => .no) = _
  rw [un]
theorem ent_same {n : Bool} {y : Str} {b : Bool} {s : Int} (hy : PyData.strOk y = true) : eqDeep n (entD y b s) (entD y b s) m = .ok (.bl (n ^^ true)) m := by
  have e : toPm (entD y b s) m = some (.tuple [.str y, .bool b, .int s]) := rfl
  have sh : SeqAt.shaped (.tuple [.str y, .bool b, .int s]) = true := by
    simp [SeqAt.shaped, PyData.canLay0, PyData.canLayAll0, PyData.depth, PyData.depthAll, hy]
  have q2 := sh
  unfold SeqAt.shaped at q2
  have ev := SeqAt.eqv_refl _ (Bool.and_eq_true_iff.mp q2).1
  unfold eqDeep
  rw [e]
  simp only [sh, ev, and_self, if_true]
end
end
end K21

namespace K21
section
open PySem PySem.Spec L2 DL PU
variable {A : Amb} {m : M}
theorem rget {l : Nat} {L : List (List Key × D)} (hl : m[l]? = some (.dT L)) {k : List Key} {d : D} (h : valK L k = some d) {env : DL.Env} {fd fy : DL.Env → M → R D} (hd : fd env m = .ok (.cell l) m) (hy : fy env m = .ok (.tk k) m) : eRGet fd fy env m = .ok d m := by
  have g : getR (.cell l) (.tk k) m = some (some d) := by
    unfold getR
    have e1 : tkOf (.tk k) = some k := rfl
    have e2 : kvtR (.cell l) m = some L := by unfold kvtR; simp only [hl]
    simp only [e1, e2, Option.map_some, h]
  unfold eRGet
  rw [hd, R.bind_ok, hy, R.bind_ok, g]
section
variable {c : Cl} {t : Int} {P : List Str} {V : Str → Option Sto}
theorem hobj (H : Hs A m c t P V) : objOf (.cell c.h) m = some (He.ga A.K "Hall", ([("clock", .int t), ("lists", .cell c.L), ("forms", .cell c.f), ("finders", .tup [.cell c.a]), ("path", .tup (txs P)), ("log", .tup []), ("stores", .cell c.S), ("table", .cell c.T), ("by_hand", .cell c.B), ("marks", .lst []), ("texts", .lst [])] : List (Str × D))) := by
  rw [objOf_cell, H.hall]
  rfl
theorem sobj {o e : Nat} {nm : Str} {ch : Int} (h : m[o]? = some (stO A nm ch e)) : objOf (.cell o) m = some (He.ga A.K "Store", ([("name", .str nm), ("changed", .int ch), ("entries", .cell e)] : List (Str × D))) := by
  rw [objOf_cell, h]
  rfl
/-- hall.store(p) in the law's text -/
theorem call_store (H : Hs A m c t P V) {env : DL.Env} {fo fa : DL.Env → M → R D} {p : Str} {r : R D} (ho : fo env m = .ok (.cell c.h) m) (ha : fa env m = .ok (.str p) m) (h : G_Hall_store A [.cell c.h, .str p] m = r) :
    eMtP (He.ga A.K "Hall") "store" 1 0 2 [0, 1] [] (G_Hall_store A) fo (aCons fa aNil) aNil env m = r :=
  eMtP_ok (m0 := m) (m1 := m) (m2 := m) (o := .cell c.h) (ds := [.str p]) (es := []) ho (hobj H) rfl (aCons_ok ha (aNil_ap _ _)) (aNil_ap _ _) ⟨rfl, rfl, rfl⟩ h
theorem call_storeK (H : Hs A m c t P V) {env : DL.Env} {fo fa : DL.Env → M → R D} {p : Str} {r : R D} (ho : fo env m = .ok (.cell c.h) m) (ha : fa env m = .ok (.str p) m) (h : G_Hall_store A [.cell c.h, .str p] m = r) :
    eMtP (He.ga A.K "Hall") "store" 0 1 2 [0, 1] [] (G_Hall_store A) fo aNil (aCons fa aNil) env m = r :=
  eMtP_ok (m0 := m) (m1 := m) (m2 := m) (o := .cell c.h) (ds := []) (es := [.str p]) ho (hobj H) rfl (aNil_ap _ _) (aCons_ok ha (aNil_ap _ _)) ⟨rfl, rfl, rfl⟩ h
theorem call_names (F : Facts A) {n o e : Nat} {nm : Str} {ch : Int} {E : List (Key × D)} {m0 : M} {env : DL.Env} {fo : DL.Env → M → R D} (ho : fo env m0 = .ok (.cell o) m) (h1 : m[o]? = some (stO A nm ch e)) (h2 : m[e]? = some (.dK E)) (hE : Ent E n) (hn : n < 64) :
    eMtP (He.ga A.K "Store") "names" 0 0 1 [0] [] (G_Store_names A) fo aNil aNil env m0 = .ok (.lst (txs (ksE E))) m :=
  eMtP_ok (m0 := m) (m1 := m) (m2 := m) (o := .cell o) (ds := []) (es := []) ho (sobj h1) rfl (aNil_ap _ _) (aNil_ap _ _) ⟨rfl, rfl, rfl⟩ (names_ok F h1 h2 hE hn)
def stBody (A : Amb) : DL.Env → M → S := (sSeq (S_l_stands_1 A) (sSeq (S_l_stands_2 A) (sSeq (S_l_stands_3 A) (S_l_stands_5 A))))
theorem stands_turn (F : Facts A) (G : FactsH A) (F2 : Facts2 A) {l n : Nat} {L : List (List Key × D)} (H : Hs A m c t P V) (Q : Rel V L n) (hl : m[l]? = some (.dT L)) (hn : n < 64) {p : Str} (hp : p ∈ P4) {d2 d3 e5 e6 e7 : Option D} :
    ∃ m' V' e5' e6', stBody A [some (.cell c.h), some (.cell l), d2, d3, some (.str p), e5, e6, e7] m = .nx [some (.cell c.h), some (.cell l), d2, d3, some (.str p), e5', e6', e7] m' ∧ Hs A m' c t P V' ∧ K21.view V' = K21.view V ∧ Kq m m' := by
  obtain ⟨m1, V1, s, q1, H1, v1, w1, k1⟩ := store_k F G H hp
  obtain ⟨m2, q2, H2, k2⟩ := store_s G H1 hp v1
  have Q1 := Q.view w1
  obtain ⟨a1, a2⟩ := H1.at_ p s v1
  obtain ⟨b1, b2⟩ := H2.at_ p s v1
  have hE : Ent s.E n := by have := Q1.ent p; rwa [view_of v1] at this
  have l2 : m2[l]? = some (.dT L) := k2.at_ l _ (k1.at_ l _ hl (by simp) (by simp)) (by simp) (by simp)
  have nm := Q1.names hp
  rw [view_of v1] at nm
  have nm : sortT (namesOf L p) = ksE s.E := nm
  have s1 : S_l_stands_1 A [some (.cell c.h), some (.cell l), d2, d3, some (.str p), e5, e6, e7] m = .nx [some (.cell c.h), some (.cell l), d2, d3, some (.str p), some (.cell s.o), e6, e7] m1 := sSet_ok (call_store H rfl rfl q1)
  have s2 : S_l_stands_2 A [some (.cell c.h), some (.cell l), d2, d3, some (.str p), some (.cell s.o), e6, e7] m1 = .nx [some (.cell c.h), some (.cell l), d2, d3, some (.str p), some (.cell s.o), e6, e7] m2 := by
    have i1 := isi_store F2 a1
    have nf : eFld A.K "name" (eVar 5) [some (.cell c.h), some (.cell l), d2, d3, some (.str p), some (.cell s.o), e6, e7] m1 = .ok (.str p) m1 := by
      rw [eFld_ap]
      simp [sobj a1, F.sn, List.lookup]
    have c1 := call_names F (m := m2) (m0 := m1) (env := [some (.cell c.h), some (.cell l), d2, d3, some (.str p), some (.cell s.o), e6, e7]) (call_storeK H1 (fo := eVar 0) (fa := eVar 4) rfl rfl q2) b1 b2 hE hn
    have c2 := call_names F (m := m2) (m0 := m2) (env := [some (.cell c.h), some (.cell l), d2, d3, some (.str p), some (.cell s.o), e6, e7]) (fo := eVar 5) rfl b1 b2 hE hn
    have eq : eqD true (.lst (txs (ksE s.E))) (.lst (txs (ksE s.E))) m2 = .ok (.bl false) m2 := deep_txs (n := true) (ys := ksE s.E) rfl rfl hE.ok
    unfold S_l_stands_2
    rw [sIf_ap, bOr_ap, bNot_ap, eTest_ap, eCall_ok (aCons_ok (show eVar 5 [some (.cell c.h), some (.cell l), d2, d3, some (.str p), some (.cell s.o), e6, e7] m1 = .ok (.cell s.o) m1 from rfl) (aCons_ok (eC_ap _ _ _) (aNil_ap _ _))) i1, R.bind_ok, asTru_bl, R.bind_ok, R.bind_ok, if_neg (by simp), bOr_ap, eTest_ap, eOp_ap, nf, R.bind_ok, show eVar 4 [some (.cell c.h), some (.cell l), d2, d3, some (.str p), some (.cell s.o), e6, e7] m1 = .ok (.str p) m1 from rfl, R.bind_ok, show eqD true (.str p) (.str p) m1 = .ok (.bl false) m1 by simp, R.bind_ok, show asBl (.bl false) m1 = .ok false m1 from rfl, R.bind_ok, if_neg (by simp), eTest_ap, eOp_ap, c1, R.bind_ok, c2, R.bind_ok, eq, R.bind_ok]
    rfl
  have s3 : S_l_stands_3 A [some (.cell c.h), some (.cell l), d2, d3, some (.str p), some (.cell s.o), e6, e7] m2 = .nx [some (.cell c.h), some (.cell l), d2, d3, some (.str p), some (.cell s.o), e6, e7] m2 := by
    have c2 := call_names F (m := m2) (m0 := m2) (env := [some (.cell c.h), some (.cell l), d2, d3, some (.str p), some (.cell s.o), e6, e7]) (fo := eVar 5) rfl b1 b2 hE hn
    have lk := lock_names (e0 := some (.cell c.h)) (e2 := d2) (e3 := d3) (e5 := some (.cell s.o)) (e6 := e6) (e7 := e7) l2 Q hn (p := p)
    have so : sortedTD [.lst (txs (namesOf L p))] m2 = .ok (.lst (txs (ksE s.E))) m2 := by
      show (match (some (txs (namesOf L p))).bind txsOf with | some ys => (if ys.length < 64 then R.ok (D.lst (txs (sortT ys))) m2 else .no) | none => .no) = _
      rw [show (some (txs (namesOf L p))).bind txsOf = some (namesOf L p) from txsOf_txs _]
      show (if (namesOf L p).length < 64 then R.ok (D.lst (txs (sortT (namesOf L p)))) m2 else .no) = _
      rw [if_pos (by have := Q.namesLen p; omega), nm]
    have eq : eqD true (.lst (txs (ksE s.E))) (.lst (txs (ksE s.E))) m2 = .ok (.bl false) m2 := deep_txs (n := true) (ys := ksE s.E) rfl rfl hE.ok
    unfold S_l_stands_3
    rw [sIf_ap, eTest_ap, eOp_ap, c2, R.bind_ok, eCall_ok (aCons_ok lk (aNil_ap _ _)) so, R.bind_ok, eq]
    rfl
  have c2 := call_names F (m := m2) (m0 := m2) (env := [some (.cell c.h), some (.cell l), d2, d3, some (.str p), some (.cell s.o), e6, e7]) (fo := eVar 5) rfl b1 b2 hE hn
  obtain ⟨env, m3, e3, i3⟩ := loop_inv (put := gSet 6) (body := S_l_stands_4 A) (I := fun _ env m' => m' = m2 ∧ ∃ e6, env = [some (.cell c.h), some (.cell l), d2, d3, some (.str p), some (.cell s.o), e6, e7]) (txs (ksE s.E)) 0 [some (.cell c.h), some (.cell l), d2, d3, some (.str p), some (.cell s.o), e6, e7] m2 ⟨rfl, e6, rfl⟩ (fun i d env m' hd hI => by
    obtain ⟨rfl, e6', rfl⟩ := hI
    obtain ⟨x, hx, rfl⟩ := mem_txs (List.mem_of_getElem? hd)
    have nx := hE.nm x hx
    have vx : ∃ d, valK s.E (.inr x) = some d := by
      have : x ∈ namesOf L p := by rw [← (sortT_perm (namesOf L p)).mem_iff, nm]; exact hx
      have := (mem_names Q.keys).mp this
      have := val_iff.mpr this
      rw [Q.same p hp x, ← w1, view_of v1] at this
      exact Option.isSome_iff_exists.mp this
    obtain ⟨d, hd'⟩ := vx
    obtain ⟨y, b, s0, rfl, hy⟩ := hE.get hd'
    have en := entry_at F b1 b2 nx
    rw [hd'] at en
    have lx : valK L (kk p x) = some (entD y b s0) := by rw [Q.same p hp x, ← w1, view_of v1]; exact hd'
    have ce : eMtP (He.ga A.K "Store") "entry" 1 0 2 [0, 1] [] (G_Store_entry A) (eVar 5) (aCons (eVar 6) aNil) aNil [some (.cell c.h), some (.cell l), d2, d3, some (.str p), some (.cell s.o), some (.str x), e7] m' = .ok (entD y b s0) m' :=
      eMtP_ok (m0 := m') (m1 := m') (m2 := m') (o := .cell s.o) (ds := [.str x]) (es := []) rfl (sobj b1) rfl rfl rfl ⟨rfl, rfl, rfl⟩ en
    have rg := rget l2 lx (env := [some (.cell c.h), some (.cell l), d2, d3, some (.str p), some (.cell s.o), some (.str x), e7]) (fd := eVar 1) (fy := eCall mkK (aCons (eVar 4) (aCons (eVar 6) aNil))) rfl (eCall_ok (aCons_ok rfl (aCons_ok rfl (aNil_ap _ _))) (mkK_2 m' p x))
    have eq : eqD true (entD y b s0) (entD y b s0) m' = .ok (.bl false) m' := ent_same (n := true) hy
    refine ⟨[some (.cell c.h), some (.cell l), d2, d3, some (.str p), some (.cell s.o), some (.str x), e7], [some (.cell c.h), some (.cell l), d2, d3, some (.str p), some (.cell s.o), some (.str x), e7], m', rfl, ?_, rfl, some (.str x), rfl⟩
    unfold S_l_stands_4
    rw [sIf_ap, eTest_ap, eOp_ap, ce, R.bind_ok, rg, R.bind_ok, eq]
    rfl)
  obtain ⟨rfl, e6', rfl⟩ := i3
  refine ⟨m3, V1, some (.cell s.o), e6', ?_, H2, w1, k1.trans k2⟩
  unfold stBody
  rw [sSeq_ap, s1, S.bind_nx, sSeq_ap, s2, S.bind_nx, sSeq_ap, s3, S.bind_nx]
  unfold S_l_stands_5
  rw [sFor_ap, iIt_ap, c2, R.bind_ok, show asLst (.lst (txs (ksE s.E))) m3 = .ok (txs (ksE s.E)) m3 from rfl, R.to_ok, e3]
end
end
end K21

namespace K21
section
open PySem PySem.Spec L2 DL PU
variable {A : Amb} {m : M}
/-- what a path may be -/
structure Pth (A : Amb) (P : List Str) : Prop where
  ok : ∀ m, G_check_path A [.tup (txs P)] m = .ok .non m
  self : ∀ m, eqD true (.tup (txs P)) (.tup (txs P)) m = .ok (.bl false) m
  mem : ∀ p ∈ P, p ∈ P4
  nod : P.Nodup
  len : P.length ≤ 3
def pathsL : List (List Str) := [[], ["one"], ["one", "two"], ["three", "one", "two"], ["two", "one"], ["four", "three", "two"]]
theorem pth {P : List Str} (h : P ∈ pathsL) : Pth A P := by
  simp only [pathsL, List.mem_cons, List.mem_nil_iff, or_false] at h
  rcases h with rfl | rfl | rfl | rfl | rfl | rfl
  · exact ⟨fun m => by kernel_rfl, fun m => by kernel_rfl, by decide +kernel, by decide +kernel, by decide⟩
  · exact ⟨fun m => by kernel_rfl, fun m => by kernel_rfl, by decide +kernel, by decide +kernel, by decide⟩
  · exact ⟨fun m => by kernel_rfl, fun m => by kernel_rfl, by decide +kernel, by decide +kernel, by decide⟩
  · exact ⟨fun m => by kernel_rfl, fun m => by kernel_rfl, by decide +kernel, by decide +kernel, by decide⟩
  · exact ⟨fun m => by kernel_rfl, fun m => by kernel_rfl, by decide +kernel, by decide +kernel, by decide⟩
  · exact ⟨fun m => by kernel_rfl, fun m => by kernel_rfl, by decide +kernel, by decide +kernel, by decide⟩
section
variable {c : Cl} {t : Int} {P : List Str} {V : Str → Option Sto}
theorem fclock (G : FactsH A) (H : Hs A m c t P V) {env : DL.Env} {fo : DL.Env → M → R D} (ho : fo env m = .ok (.cell c.h) m) : eFld A.K "clock" fo env m = .ok (.int t) m := by
  rw [eFld_ap, ho, R.bind_ok, hobj H]
  simp [G.hc, List.lookup]
theorem fpath (G : FactsH A) (H : Hs A m c t P V) {env : DL.Env} {fo : DL.Env → M → R D} (ho : fo env m = .ok (.cell c.h) m) : eFld A.K "path" fo env m = .ok (.tup (txs P)) m := by
  rw [eFld_ap, ho, R.bind_ok, hobj H]
  simp [G.hp, List.lookup]
theorem flog (G : FactsH A) (H : Hs A m c t P V) {env : DL.Env} {fo : DL.Env → M → R D} (ho : fo env m = .ok (.cell c.h) m) : eFld A.K "log" fo env m = .ok (.tup []) m := by
  rw [eFld_ap, ho, R.bind_ok, hobj H]
  simp [G.hg, List.lookup]
theorem stands_ok (F : Facts A) (G : FactsH A) (F2 : Facts2 A) {l n : Nat} {L : List (List Key × D)} (H : Hs A m c t P V) (Q : Rel V L n) (hl : m[l]? = some (.dT L)) (hn : n < 64) (hP : Pth A P) :
    ∃ m' V', G_l_stands A [.cell c.h, .cell l, .int t, .tup (txs P)] m = .ok (.bl true) m' ∧ Hs A m' c t P V' ∧ K21.view V' = K21.view V ∧ Kq m m' := by
  have s0 : S_l_stands_0 A [some (.cell c.h), some (.cell l), some (.int t), some (.tup (txs P)), none, none, none, none] m = .nx [some (.cell c.h), some (.cell l), some (.int t), some (.tup (txs P)), none, none, none, none] m := by
    have f1 := fclock G H (env := [some (.cell c.h), some (.cell l), some (.int t), some (.tup (txs P)), none, none, none, none]) (fo := eVar 0) rfl
    have f2 := fpath G H (env := [some (.cell c.h), some (.cell l), some (.int t), some (.tup (txs P)), none, none, none, none]) (fo := eVar 0) rfl
    have v2 : eVar 2 [some (.cell c.h), some (.cell l), some (.int t), some (.tup (txs P)), none, none, none, none] m = .ok (.int t) m := rfl
    have v3 : eVar 3 [some (.cell c.h), some (.cell l), some (.int t), some (.tup (txs P)), none, none, none, none] m = .ok (.tup (txs P)) m := rfl
    unfold S_l_stands_0
    rw [sIf_ap, bOr_ap, eTest_ap, eOp_ap, f1, R.bind_ok, v2, R.bind_ok, show eqD true (.int t) (.int t) m = .ok (.bl false) m by simp, R.bind_ok, show asBl (.bl false) m = .ok false m from rfl, R.bind_ok, if_neg (by simp), bOr_ap, eTest_ap, eOp_ap, f2, R.bind_ok, v3, R.bind_ok, hP.self, R.bind_ok, show asBl (.bl false) m = .ok false m from rfl, R.bind_ok, if_neg (by simp), bNot_ap, eTest_ap, eCall_ok (aCons_ok f2 (aCons_ok (eC_ap _ _ _) (aNil_ap _ _))) (isi_tt _), R.bind_ok]
    rfl
  obtain ⟨env, m1, e1, i1⟩ := loop_inv (put := gSet 4) (body := stBody A) (I := fun _ env m' => ∃ V' e4 e5 e6, env = [some (.cell c.h), some (.cell l), some (.int t), some (.tup (txs P)), e4, e5, e6, none] ∧ Hs A m' c t P V' ∧ K21.view V' = K21.view V ∧ Kq m m') (txs P4) 0 [some (.cell c.h), some (.cell l), some (.int t), some (.tup (txs P)), none, none, none, none] m ⟨V, none, none, none, rfl, H, rfl, Kq.refl⟩ (fun i d env m' hd hI => by
    obtain ⟨V', e4, e5, e6, rfl, H', w', k'⟩ := hI
    obtain ⟨p, hp, rfl⟩ := mem_txs (List.mem_of_getElem? hd)
    obtain ⟨m2, V2, e5', e6', q, H2, w2, k2⟩ := stands_turn F G F2 (l := l) (n := n) H' (Q.view w') (k'.at_ l _ hl (by simp) (by simp)) hn hp (d2 := some (.int t)) (d3 := some (.tup (txs P))) (e5 := e5) (e6 := e6) (e7 := none)
    exact ⟨[some (.cell c.h), some (.cell l), some (.int t), some (.tup (txs P)), some (.str p), e5, e6, none], [some (.cell c.h), some (.cell l), some (.int t), some (.tup (txs P)), some (.str p), e5', e6', none], m2, rfl, q, V2, some (.str p), e5', e6', rfl, H2, w2.trans w', k'.trans k2⟩)
  obtain ⟨V', e4, e5, e6, rfl, H', w', k'⟩ := i1
  refine ⟨m1, V', ?_, H', w', k'⟩
  have z4 : eCall mkL (aVals [(.str "one"), (.str "two"), (.str "three"), (.str "four")]) [some (.cell c.h), some (.cell l), some (.int t), some (.tup (txs P)), none, none, none, none] m = .ok (.lst (txs P4)) m := eCall_ok (aVals_ap _ _ _) (mkL_ap m (small (by decide)))
  have z0 : ∀ m : M, mkL [] m = .ok (.lst []) m := fun m => mkL_ap m (small (by simp))
  have qn : eqD false (.lst []) (.lst []) m1 = .ok (.bl true) m1 := by kernel_rfl
  show retS (sSeq (S_l_stands_0 A) (sSeq (S_l_stands_6 A) (sRet _)) [some (.cell c.h), some (.cell l), some (.int t), some (.tup (txs P)), none, none, none, none] m) = _
  rw [sSeq_ap, s0, S.bind_nx, sSeq_ap]
  unfold S_l_stands_6
  rw [sFor_ap, iIt_ap, z4, R.bind_ok, show asLst (.lst (txs P4)) m = .ok (txs P4) m from rfl, R.to_ok]
  show retS ((loopD (gSet 4) (stBody A) (txs P4) [some (.cell c.h), some (.cell l), some (.int t), some (.tup (txs P)), none, none, none, none] m).bind _) = _
  rw [e1, S.bind_nx]
  have ct : eMtP (He.ga A.K "Hall") "told" 0 0 1 [0] [] (G_Hall_told A) (eVar 0) aNil aNil [some (.cell c.h), some (.cell l), some (.int t), some (.tup (txs P)), e4, e5, e6, none] m1 = .ok (.lst []) m1 :=
    eMtP_ok (m0 := m1) (m1 := m1) (m2 := m1) (o := .cell c.h) (ds := []) (es := []) rfl (hobj H') rfl (aNil_ap _ _) (aNil_ap _ _) ⟨rfl, rfl, rfl⟩ (told_nil G H')
  have ch : eMtP (He.ga A.K "Hall") "hands" 0 0 1 [0] [] (G_Hall_hands A) (eVar 0) aNil aNil [some (.cell c.h), some (.cell l), some (.int t), some (.tup (txs P)), e4, e5, e6, none] m1 = .ok (.lst []) m1 :=
    eMtP_ok (m0 := m1) (m1 := m1) (m2 := m1) (o := .cell c.h) (ds := []) (es := []) rfl (hobj H') rfl (aNil_ap _ _) (aNil_ap _ _) ⟨rfl, rfl, rfl⟩ (hands_nil G H')
  have fl := flog G H' (env := [some (.cell c.h), some (.cell l), some (.int t), some (.tup (txs P)), e4, e5, e6, none]) (fo := eVar 0) rfl
  have zl : lenD A [.tup []] m1 = .ok (.int 0) m1 := rfl
  have qi : eqD false (.int 0) (.int 0) m1 = .ok (.bl true) m1 := by simp
  have en : eCall mkL aNil [some (.cell c.h), some (.cell l), some (.int t), some (.tup (txs P)), e4, e5, e6, none] m1 = .ok (.lst []) m1 := eCall_ok (aNil_ap _ _) (z0 m1)
  rw [sRet_ap, eAnd_ap, eOp_ap, ct, R.bind_ok, en, R.bind_ok, qn, R.bind_ok, asTru_bl, R.bind_ok, if_pos rfl, eAnd_ap, eOp_ap, eCall_ok (aCons_ok fl (aNil_ap _ _)) zl, R.bind_ok, eC_ap, R.bind_ok, qi, R.bind_ok, asTru_bl, R.bind_ok, if_pos rfl, eOp_ap, ch, R.bind_ok, en, R.bind_ok, qn]
  rfl
end
end
end K21

namespace K21
section
open PySem PySem.Spec L2 DL PU
variable {A : Amb} {m : M} {j : Nat}
theorem mkLs {ds : List D} (h : ds.length ≤ 100) : mkL ds m = .ok (.lst ds) m := mkL_ap m (Nat.le_trans h (Nat.le_trans (by decide) size_big))
theorem pick_txs {xs : List Str} {r : Int} (h0 : 0 ≤ r) (h1 : r < xs.length) : ∃ x ∈ xs, ∀ m, ixD (.lst (txs xs)) (.int r) m = .ok (.str x) m := by
  have hl : r.toNat < xs.length := by omega
  have e : r = (r.toNat : Int) := by omega
  have a : atI (txs xs) (r.toNat : Int) = some (.str xs[r.toNat]) := by
    refine PU.atI_nat ?_
    unfold txs
    rw [List.getElem?_map, List.getElem?_eq_getElem hl]
    rfl
  rw [← e] at a
  exact ⟨xs[r.toNat], List.getElem_mem hl, fun m => PU.ixD_lst a⟩
theorem tk (s : Int) (h0 : 0 < s) (h1 : s < 2 ^ 31) (hp : Pl j m) : ∃ r m', K21.G_l_take A [.cell j, .int s] m = .ok (.int r) m' ∧ 0 ≤ r ∧ r < s ∧ Ch j m m' ∧ Pl j m' := by
  obtain ⟨r, m', e, a, b, c⟩ := PU.take (A := A) (s := s) hp h0 h1
  exact ⟨r, m', e, a, b, c, c.pl hp⟩
theorem tkE {s : Int} {r : Int} {m' : M} {env : DL.Env} {f g : DL.Env → M → R D} (hf : f env m = .ok (.cell j) m) (hg : g env m = .ok (.int s) m) (h : K21.G_l_take A [.cell j, .int s] m = .ok (.int r) m') : eCall (fun ds m => if ds.length = 2 then G_l_take A ds m else .no) (aCons f (aCons g aNil)) env m = .ok (.int r) m' := by
  refine eCall_ok (aCons_ok hf (aCons_ok hg (aNil_ap _ _))) ?_
  exact (if_pos rfl).trans h
/-- the state behind n deeds -/
structure S4 (A : Amb) (m : M) (c : Cl) (sc l n : Nat) (t : Int) (P : List Str) (V : Str → Option Sto) (L : List (List Key × D)) : Prop where
  hs : Hs A m c t P V
  rel : Rel V L n
  lies : m[l]? = some (.dT L)
  st : m[sc]? = some (.lst [.int t, .tup (txs P)])
  path : P ∈ pathsL
section
variable {c : Cl} {sc l n : Nat} {t : Int} {P : List Str} {V : Str → Option Sto} {L : List (List Key × D)}
theorem S4.ch (H : S4 A m c sc l n t P V L) {m' : M} (hp : Pl j m) (h : Ch j m m') (hj : sc ≠ j) : S4 A m' c sc l n t P V L := by
  obtain ⟨v, hv⟩ := hp
  obtain ⟨y, rfl⟩ := h
  exact ⟨H.hs.other hv ⟨by simp, by simp⟩, H.rel, by rw [get_set (ne_at H.lies hv (by simp))]; exact H.lies, by rw [get_set hj]; exact H.st, H.path⟩
/-- the hall has done something: what lies in other cells stays -/
theorem Kq.pl {m' : M} (k : Kq m m') (hp : Pl j m) : Pl j m' := by
  obtain ⟨v, hv⟩ := hp
  exact ⟨v, k.at_ j _ hv (by simp) (by simp)⟩
/-! draws -/
abbrev dE (c : Cl) (sc l j : Nat) (a4 a5 a6 a7 a8 a9 a10 : Option D) : DL.Env := [some (.cell j), some (.cell c.h), some (.cell l), some (.cell sc), a4, a5, a6, a7, a8, a9, a10]
theorem dr0 (hp : Pl j m) {a5 a6 a7 a8 a9 a10 : Option D} : ∃ p m', S_l_deed_0 A [some (.cell j), some (.cell c.h), some (.cell l), some (.cell sc), none, a5, a6, a7, a8, a9, a10] m = .nx [some (.cell j), some (.cell c.h), some (.cell l), some (.cell sc), some (.str p), a5, a6, a7, a8, a9, a10] m' ∧ p ∈ P4 ∧ Ch j m m' ∧ Pl j m' := by
  obtain ⟨r, m1, e, r0, r1, c1, p1⟩ := tk (A := A) 4 (by decide) (by decide) hp
  obtain ⟨p, hp', ip⟩ := pick_txs (xs := P4) r0 (by simpa [P4] using r1)
  refine ⟨p, m1, sSet_ok ?_, hp', c1, p1⟩
  rw [eOp_ap, eCall_ok (aVals_ap _ _ _) (mkLs (by decide)), R.bind_ok, tkE rfl rfl e, R.bind_ok]
  exact ip m1
theorem dr1 (hp : Pl j m) {a4 a6 a7 a8 a9 a10 : Option D} : ∃ x m', S_l_deed_1 A [some (.cell j), some (.cell c.h), some (.cell l), some (.cell sc), a4, none, a6, a7, a8, a9, a10] m = .nx [some (.cell j), some (.cell c.h), some (.cell l), some (.cell sc), a4, some (.str x), a6, a7, a8, a9, a10] m' ∧ nameB x = true ∧ Ch j m m' ∧ Pl j m' := by
  obtain ⟨ps, m1, e1, hn, c1⟩ := PU.name_drawnS (A := A) (s := 3) (by decide) (by decide) hp
  have e1 : K21.G_l_name_drawn A [.cell j, .int 3] m = .ok (.str (Txt.join "." ps)) m1 := e1
  have p1 := c1.pl hp
  obtain ⟨r, m2, e, r0, r1, c2, p2⟩ := tk (A := A) 4 (by decide) (by decide) p1
  obtain ⟨x, hx, ix⟩ := pick_txs (xs := ["a", "b", "a.b", Txt.join "." ps]) r0 (by simpa using r1)
  have nx : nameB x = true := by
    simp only [List.mem_cons, List.mem_nil_iff, or_false] at hx
    rcases hx with rfl | rfl | rfl | rfl
    · decide +kernel
    · decide +kernel
    · decide +kernel
    · exact named_name hn
  refine ⟨x, m2, sSet_ok ?_, nx, c1.trans c2, p2⟩
  have nd : eCall (fun ds m => if ds.length = 2 then G_l_name_drawn A ds m else .no) (aCons (eVar 0) (aCons (eC (.int 3)) aNil)) [some (.cell j), some (.cell c.h), some (.cell l), some (.cell sc), a4, none, a6, a7, a8, a9, a10] m = .ok (.str (Txt.join "." ps)) m1 := by
    refine eCall_ok (aCons_ok rfl (aCons_ok rfl (aNil_ap _ _))) ?_
    exact (if_pos rfl).trans e1
  rw [eOp_ap, eCall_ok (aCons_ok (eC_ap _ _ _) (aCons_ok (eC_ap _ _ _) (aCons_ok (eC_ap _ _ _) (aCons_ok nd (aNil_ap _ _))))) (mkLs (by simp)), R.bind_ok, tkE rfl rfl e, R.bind_ok]
  exact ix m2
theorem dr2 (hp : Pl j m) {a4 a5 a7 a8 a9 a10 : Option D} : ∃ r m', S_l_deed_2 A [some (.cell j), some (.cell c.h), some (.cell l), some (.cell sc), a4, a5, none, a7, a8, a9, a10] m = .nx [some (.cell j), some (.cell c.h), some (.cell l), some (.cell sc), a4, a5, some (.int r), a7, a8, a9, a10] m' ∧ 0 ≤ r ∧ r < 8 ∧ Ch j m m' ∧ Pl j m' := by
  obtain ⟨r, m1, e, r0, r1, c1, p1⟩ := tk (A := A) 8 (by decide) (by decide) hp
  exact ⟨r, m1, sSet_ok (tkE rfl rfl e), r0, r1, c1, p1⟩
def textsL : List Str := ["", "set a 1", "set a 2", "set b 1", "note 7", "set", "x y", "load a", "set a 1\nnote a", "fail now", "set a 12"]
theorem texts_ok : ∀ y ∈ textsL, PyData.strOk y = true := by decide +kernel
theorem text_drawn (hp : Pl j m) : ∃ y m', G_l_text_drawn A [.cell j] m = .ok (.str y) m' ∧ PyData.strOk y = true ∧ Ch j m m' ∧ Pl j m' := by
  obtain ⟨r, m1, e, r0, r1, c1, p1⟩ := tk (A := A) 11 (by decide) (by decide) hp
  obtain ⟨y, hy, iy⟩ := pick_txs (xs := textsL) r0 (by simpa [textsL] using r1)
  refine ⟨y, m1, ?_, texts_ok y hy, c1, p1⟩
  have z1 : eCall mkL (aVals [(.str ""), (.str "set a 1"), (.str "set a 2"), (.str "set b 1"), (.str "note 7"), (.str "set"), (.str "x y"), (.str "load a")]) [some (.cell j), none] m = .ok (.lst (txs ["", "set a 1", "set a 2", "set b 1", "note 7", "set", "x y", "load a"])) m := eCall_ok (aVals_ap _ _ _) (mkLs (by decide))
  have z2 : mkL [.str "set a 1\nnote a", .str "fail now", .str "set a 12"] m = .ok (.lst (txs ["set a 1\nnote a", "fail now", "set a 12"])) m := mkLs (by decide)
  have ad : addD (.lst (txs ["", "set a 1", "set a 2", "set b 1", "note 7", "set", "x y", "load a"])) (.lst (txs ["set a 1\nnote a", "fail now", "set a 12"])) m = .ok (.lst (txs textsL)) m := addD_lst m (by rw [sizeLine_eq]; decide)
  show retS (sSeq (sSet 1 _) (sSeq (sSet 1 _) (sRet _)) [some (.cell j), none] m) = _
  rw [sSeq_ap, sSet_ok z1, S.bind_nx, sSeq_ap]
  have v1 : eVar 1 ([some (D.cell j), none].set 1 (some (D.lst (txs ["", "set a 1", "set a 2", "set b 1", "note 7", "set", "x y", "load a"])))) m = .ok (.lst (txs ["", "set a 1", "set a 2", "set b 1", "note 7", "set", "x y", "load a"])) m := rfl
  rw [sSet_ok (d := .lst (txs textsL)) (by rw [eOp_ap, v1, R.bind_ok, eCall_ok (aCons_ok (eC_ap _ _ _) (aCons_ok (eC_ap _ _ _) (aCons_ok (eC_ap _ _ _) (aNil_ap _ _)))) z2, R.bind_ok, ad]), S.bind_nx, sRet_ap, eOp_ap]
  have v2 : eVar 1 (([some (D.cell j), none].set 1 (some (D.lst (txs ["", "set a 1", "set a 2", "set b 1", "note 7", "set", "x y", "load a"])))).set 1 (some (D.lst (txs textsL)))) m = .ok (.lst (txs textsL)) m := rfl
  rw [v2, R.bind_ok, tkE rfl rfl e, R.bind_ok, iy m1]
  rfl
theorem dr3 (hp : Pl j m) {a4 a5 a6 a8 a9 a10 : Option D} : ∃ y m', S_l_deed_3 A [some (.cell j), some (.cell c.h), some (.cell l), some (.cell sc), a4, a5, a6, none, a8, a9, a10] m = .nx [some (.cell j), some (.cell c.h), some (.cell l), some (.cell sc), a4, a5, a6, some (.str y), a8, a9, a10] m' ∧ PyData.strOk y = true ∧ Ch j m m' ∧ Pl j m' := by
  obtain ⟨y, m1, e, hy, c1, p1⟩ := text_drawn (A := A) hp
  refine ⟨y, m1, sSet_ok (eCall_ok (aCons_ok rfl (aNil_ap _ _)) ?_), hy, c1, p1⟩
  exact (if_pos rfl).trans e
/-! the state's own cell -/
theorem st_ix0 (H : S4 A m c sc l n t P V L) {env : DL.Env} {f : DL.Env → M → R D} (hf : f env m = .ok (.cell sc) m) : eOp ixD f (eC (.int 0)) env m = .ok (.int t) m := by
  rw [eOp_ap, hf, R.bind_ok, eC_ap, R.bind_ok]
  exact PU.ixD_cell (FU.seq_cell H.st) (PU.atI_nat (i := 0) rfl)
theorem st_ix1 (H : S4 A m c sc l n t P V L) {env : DL.Env} {f : DL.Env → M → R D} (hf : f env m = .ok (.cell sc) m) : eOp ixD f (eC (.int 1)) env m = .ok (.tup (txs P)) m := by
  rw [eOp_ap, hf, R.bind_ok, eC_ap, R.bind_ok]
  exact PU.ixD_cell (FU.seq_cell H.st) (PU.atI_nat (i := 1) rfl)
theorem set_ix {env : DL.Env} {fe fo fi : DL.Env → M → R D} {m1 : M} {v : D} {k : Nat} {i : Int} {ds : List D} (hv : fe env m = .ok v m1) (ho : fo env m1 = .ok (.cell k) m1) (hi : fi env m1 = .ok (.int i) m1) (hk : m1[k]? = some (.lst ds)) (h0 : 0 ≤ i) (h1 : i < ds.length) : sSetIx fe fo fi env m = .nx env (m1.set k (.lst (ds.set i.toNat v))) := by
  have ix : ixN ds.length i = some i.toNat := by
    unfold ixN
    rw [if_pos h0, if_pos (by omega)]
  unfold sSetIx
  rw [hv, R.to_ok, ho, R.to_ok, hi, R.to_ok]
  simp only [hk, ix]
/-- the law's own cell is written -/
theorem S4.set_st (H : S4 A m c sc l n t P V L) (t' : Int) (P' : List Str) : Hs A (m.set sc (.lst [.int t', .tup (txs P')])) c t P V ∧ (m.set sc (.lst [.int t', .tup (txs P')]))[l]? = some (.dT L) ∧ (m.set sc (.lst [.int t', .tup (txs P')]))[sc]? = some (.lst [.int t', .tup (txs P')]) :=
  ⟨H.hs.other H.st ⟨by simp, by simp⟩, by rw [get_set (ne_at H.lies H.st (by simp))]; exact H.lies, get_set_eq H.st⟩
theorem two_same {q : Bool} {i k : Int} : eqDeep q (.lst [.int i, .int k]) (.lst [.int i, .int k]) m = .ok (.bl (q ^^ true)) m := by
  have e : toPm (.lst [.int i, .int k]) m = some (.list [.int i, .int k]) := rfl
  have sh : SeqAt.shaped (.list [.int i, .int k]) = true := by
    simp [SeqAt.shaped, PyData.canLay0, PyData.canLayAll0, PyData.depth, PyData.depthAll]
  have q2 := sh
  unfold SeqAt.shaped at q2
  have ev := SeqAt.eqv_refl _ (Bool.and_eq_true_iff.mp q2).1
  unfold eqDeep
  rw [e]
  simp only [sh, ev, and_self, if_true]
/-- the clock ticks -/
theorem deed_tick (F : Facts A) (G : FactsH A) (H : S4 A m c sc l n t P V L) (hp : Pl j m) (hj : sc ≠ j) {r : Int} (hr : r < 2) {a4 a5 a7 a9 a10 : Option D} :
    ∃ m' t', S_l_deed_7 A [some (.cell j), some (.cell c.h), some (.cell l), some (.cell sc), a4, a5, some (.int r), a7, none, a9, a10] m = .rt (.bl true) m' ∧ S4 A m' c sc l n t' P V L := by
  obtain ⟨q, m1, e1, q0, q1, c1, p1⟩ := tk (A := A) 9 (by decide) (by decide) hp
  obtain ⟨w, m2, e2, w0, w1, c2, p2⟩ := tk (A := A) 3 (by decide) (by decide) p1
  have H2 := (H.ch hp c1 hj).ch p1 c2 hj
  obtain ⟨b, hb, ib⟩ : ∃ b : Int, 1 ≤ b ∧ ∀ m : M, ixD (.lst [.int 1, .int (1 + q), .int 1000000]) (.int w) m = .ok (.int b) m := by
    have : w = 0 ∨ w = 1 ∨ w = 2 := by omega
    rcases this with rfl | rfl | rfl
    · exact ⟨1, by decide, fun m => PU.ixD_lst (PU.atI_nat (i := 0) rfl)⟩
    · exact ⟨1 + q, by omega, fun m => PU.ixD_lst (PU.atI_nat (i := 1) rfl)⟩
    · exact ⟨1000000, by decide, fun m => PU.ixD_lst (PU.atI_nat (i := 2) rfl)⟩
  have pw : ∀ m : M, powD (.int 10) (.int 6) m = .ok (.int 1000000) m := fun m => powD_int m ⟨by decide, by decide, by decide⟩
  have s4 : S_l_deed_4 A [some (.cell j), some (.cell c.h), some (.cell l), some (.cell sc), a4, a5, some (.int r), a7, none, a9, a10] m = .nx [some (.cell j), some (.cell c.h), some (.cell l), some (.cell sc), a4, a5, some (.int r), a7, some (.int b), a9, a10] m2 := by
    refine sSet_ok ?_
    have t1 := tkE (A := A) (env := [some (.cell j), some (.cell c.h), some (.cell l), some (.cell sc), a4, a5, some (.int r), a7, none, a9, a10]) (f := eVar 0) (g := eC (.int 9)) rfl rfl e1
    have t2 := tkE (A := A) (env := [some (.cell j), some (.cell c.h), some (.cell l), some (.cell sc), a4, a5, some (.int r), a7, none, a9, a10]) (f := eVar 0) (g := eC (.int 3)) rfl rfl e2
    have ls : eCall mkL (aCons (eC (.int 1)) (aCons (eOp addD (eC (.int 1)) (eCall (fun ds m => if ds.length = 2 then G_l_take A ds m else .no) (aCons (eVar 0) (aCons (eC (.int 9)) aNil)))) (aCons (eOp powD (eC (.int 10)) (eC (.int 6))) aNil))) [some (.cell j), some (.cell c.h), some (.cell l), some (.cell sc), a4, a5, some (.int r), a7, none, a9, a10] m = .ok (.lst [.int 1, .int (1 + q), .int 1000000]) m1 :=
      eCall_ok (aCons_ok (eC_ap _ _ _) (aCons_ok (d := .int (1 + q)) (by rw [eOp_ap, eC_ap, R.bind_ok, t1, R.bind_ok]; rfl) (aCons_ok (d := .int 1000000) (by rw [eOp_ap, eC_ap, R.bind_ok, eC_ap, R.bind_ok, pw]) (aNil_ap _ _)))) (mkLs (by simp))
    rw [eOp_ap, ls, R.bind_ok, t2, R.bind_ok, ib]
  have s5 : S_l_deed_5 A [some (.cell j), some (.cell c.h), some (.cell l), some (.cell sc), a4, a5, some (.int r), a7, some (.int b), a9, a10] m2 = .nx [some (.cell j), some (.cell c.h), some (.cell l), some (.cell sc), a4, a5, some (.int r), a7, some (.int b), a9, a10] (m2.set sc (.lst [.int (t + b), .tup (txs P)])) := by
    refine set_ix (v := .int (t + b)) (i := 0) ?_ rfl rfl H2.st (by decide) (by simp)
    rw [eOp_ap, st_ix0 H2 rfl, R.bind_ok]
    rfl
  obtain ⟨k1, k2, k3⟩ := H2.set_st (t + b) P
  generalize m2.set sc (.lst [.int (t + b), .tup (txs P)]) = m3 at *
  obtain ⟨m4, e4, H4, kq⟩ := hall_tick F G k1 hb
  have S5 : S4 A m4 c sc l n (t + b) P V L := ⟨H4, H.rel, kq.at_ l _ k2 (by simp) (by simp), kq.at_ sc _ k3 (by simp) (by simp), H.path⟩
  refine ⟨m4, t + b, ?_, S5⟩
  have c7 : eTest asBl (eOp (cmpD fun i j => decide (i < j)) (eVar 6) (eC (.int 2))) [some (.cell j), some (.cell c.h), some (.cell l), some (.cell sc), a4, a5, some (.int r), a7, none, a9, a10] m = .ok true m := by simp [hr]
  unfold S_l_deed_7
  rw [sIf_ap, c7, R.to_ok, if_pos rfl, sSeq_ap, s4, S.bind_nx, sSeq_ap, s5, S.bind_nx, sSeq_ap]
  by_cases hb1 : b = 1
  · have t6 : eTest asBl (eOp (eqD false) (eVar 8) (eC (.int 1))) [some (.cell j), some (.cell c.h), some (.cell l), some (.cell sc), a4, a5, some (.int r), a7, some (.int b), a9, a10] m3 = .ok true m3 := by simp [hb1]
    subst hb1
    have ce : eMtP (He.ga A.K "Hall") "tick" 0 0 2 [0, 1] [(.int 1)] (G_Hall_tick A) (eVar 1) aNil aNil [some (.cell j), some (.cell c.h), some (.cell l), some (.cell sc), a4, a5, some (.int r), a7, some (.int 1), a9, a10] m3 = .ok (.int (t + 1)) m4 :=
      eMtP_ok (m0 := m3) (m1 := m3) (m2 := m3) (o := .cell c.h) (ds := []) (es := []) rfl (hobj k1) rfl (aNil_ap _ _) (aNil_ap _ _) ⟨rfl, rfl, rfl⟩ e4
    unfold S_l_deed_6
    rw [sIf_ap, t6, R.to_ok, if_pos rfl, sRet_ap, eOp_ap, ce, R.bind_ok, st_ix0 S5 rfl, R.bind_ok, show eqD false (.int (t + 1)) (.int (t + 1)) m4 = .ok (.bl true) m4 by simp]
    rfl
  · have t6 : eTest asBl (eOp (eqD false) (eVar 8) (eC (.int 1))) [some (.cell j), some (.cell c.h), some (.cell l), some (.cell sc), a4, a5, some (.int r), a7, some (.int b), a9, a10] m3 = .ok false m3 := by simp [hb1]
    have ce : eMtP (He.ga A.K "Hall") "tick" 1 0 2 [0, 1] [] (G_Hall_tick A) (eVar 1) (aCons (eVar 8) aNil) aNil [some (.cell j), some (.cell c.h), some (.cell l), some (.cell sc), a4, a5, some (.int r), a7, some (.int b), a9, a10] m3 = .ok (.int (t + b)) m4 :=
      eMtP_ok (m0 := m3) (m1 := m3) (m2 := m3) (o := .cell c.h) (ds := [.int b]) (es := []) rfl (hobj k1) rfl (aCons_ok rfl (aNil_ap _ _)) (aNil_ap _ _) ⟨rfl, rfl, rfl⟩ e4
    have fc := fclock G H4 (env := [some (.cell j), some (.cell c.h), some (.cell l), some (.cell sc), a4, a5, some (.int r), a7, some (.int b), a9, a10]) (fo := eVar 1) rfl
    have ls : eCall mkL (aCons (eMtP (He.ga A.K "Hall") "tick" 1 0 2 [0, 1] [] (G_Hall_tick A) (eVar 1) (aCons (eVar 8) aNil) aNil) (aCons (eFld A.K "clock" (eVar 1)) aNil)) [some (.cell j), some (.cell c.h), some (.cell l), some (.cell sc), a4, a5, some (.int r), a7, some (.int b), a9, a10] m3 = .ok (.lst [.int (t + b), .int (t + b)]) m4 := eCall_ok (aCons_ok ce (aCons_ok fc (aNil_ap _ _))) (mkLs (by simp))
    have l1 : eCall mkL (aCons (eOp ixD (eVar 3) (eC (.int 0))) aNil) [some (.cell j), some (.cell c.h), some (.cell l), some (.cell sc), a4, a5, some (.int r), a7, some (.int b), a9, a10] m4 = .ok (.lst [.int (t + b)]) m4 := eCall_ok (aCons_ok (st_ix0 S5 rfl) (aNil_ap _ _)) (mkLs (by simp))
    have ml : mulD (.lst [.int (t + b)]) (.int 2) m4 = .ok (.lst [.int (t + b), .int (t + b)]) m4 := by
      show (if -(2 ^ 63) ≤ (2 : Int) ∧ (2 : Int) < 2 ^ 63 ∧ ([D.int (t + b)] : List D).length * (2 : Int).toNat ≤ sizeLine then R.ok (D.lst (List.replicate (2 : Int).toNat [D.int (t + b)]).flatten) m4 else .no) = _
      rw [if_pos ⟨by decide, by decide, by rw [sizeLine_eq]; show 1 * 2 ≤ 16777216; omega⟩]
      rfl
    have eq : eqD false (.lst [.int (t + b), .int (t + b)]) (.lst [.int (t + b), .int (t + b)]) m4 = .ok (.bl true) m4 := two_same (q := false)
    unfold S_l_deed_6
    rw [sIf_ap, t6, R.to_ok, if_neg (by simp), sNext_ap, S.bind_nx, sRet_ap, eOp_ap, ls, R.bind_ok, eOp_ap, l1, R.bind_ok, eC_ap, R.bind_ok, ml, R.bind_ok, eq]
    rfl
theorem deed_no_tick {r : Int} (hr : ¬ r < 2) {a4 a5 a7 a8 a9 a10 : Option D} : S_l_deed_7 A [some (.cell j), some (.cell c.h), some (.cell l), some (.cell sc), a4, a5, some (.int r), a7, a8, a9, a10] m = .nx [some (.cell j), some (.cell c.h), some (.cell l), some (.cell sc), a4, a5, some (.int r), a7, a8, a9, a10] m := by
  unfold S_l_deed_7
  simp [hr]
end
end
end K21

namespace K21
section
open PySem PySem.Spec L2 DL PU
variable {A : Amb} {m : M} {j : Nat}
section
variable {c : Cl} {sc l n : Nat} {t : Int} {P : List Str} {V : Str → Option Sto} {L : List (List Key × D)}
theorem tput {L : List (List Key × D)} (hl : m[l]? = some (.dT L)) (hz : L.length ≤ 1000) {env : DL.Env} {fd fy fv : DL.Env → M → R D} {k : List Key} {v : D} (hv : fv env m = .ok v m) (hd : fd env m = .ok (.cell l) m) (hy : fy env m = .ok (.tk k) m) : sTPutD fd fy fv env m = .nx env (m.set l (.dT (putKD L k v))) := by
  unfold sTPutD
  rw [hv, R.to_ok, hd, R.to_ok, hy, R.to_ok]
  have e1 : kvtOf (.cell l) m = some (l, L) := by rw [kvtOf_cell, hl]
  have e2 : tkOf (.tk k) = some k := rfl
  simp only [e1, e2]
  rw [if_pos (by rw [sizeLine_eq]; omega)]
theorem mk3 (y : Str) (b : Bool) (s : Int) (m : M) : mkT [.str y, .bl b, .int s] m = .ok (entD y b s) m := mkTs (by simp)
theorem S4.book (H : S4 A m c sc l n t P V L) (L' : List (List Key × D)) : Hs A (m.set l (.dT L')) c t P V ∧ (m.set l (.dT L'))[l]? = some (.dT L') ∧ (m.set l (.dT L'))[sc]? = some (.lst [.int t, .tup (txs P)]) :=
  ⟨H.hs.other H.lies ⟨by simp, by simp⟩, get_set_eq H.lies, by rw [get_set (ne_at H.st H.lies (by simp))]; exact H.st⟩
/-- a body is put by the hall -/
theorem deed_put (F : Facts A) (G : FactsH A) (H : S4 A m c sc l n t P V L) (hn : n < 60) {p x y : Str} (hp : p ∈ P4) (hx : nameB x = true) (hy : PyData.strOk y = true) (b : Bool) {env : DL.Env} {fput : DL.Env → M → R D} {fb : D}
    (hput : ∀ r, G_Hall_put A [.cell c.h, .str p, .str x, .str y, .bl b] m = r → fput env m = r) {fv : DL.Env → M → R D} {fd fy : DL.Env → M → R D}
    (hv : ∀ m', eOp ixD (eVar 3) (eC (.int 0)) env m' = .ok (.int t) m' → fv env m' = .ok (entD y b t) m') (h3 : env[3]? = some (some (.cell sc))) (hd : ∀ m', fd env m' = .ok (.cell l) m') (hk : ∀ m', fy env m' = .ok (.tk (kk p x)) m') :
    ∃ m' V' L', (sSeq (sDrop fput) (sTPutD fd fy fv)) env m = .nx env m' ∧ S4 A m' c sc l (n + 1) t P V' L' := by
  obtain ⟨m1, V1, e1, H1, w1, k1⟩ := hall_put F G H.hs (n := n) H.rel.ent (by omega) hp hx b (y := y)
  have S1 : m1[l]? = some (.dT L) := k1.at_ l _ H.lies (by simp) (by simp)
  have S2 : m1[sc]? = some (.lst [.int t, .tup (txs P)]) := k1.at_ sc _ H.st (by simp) (by simp)
  have ix : eOp ixD (eVar 3) (eC (.int 0)) env m1 = .ok (.int t) m1 := by
    rw [eOp_ap, eVar_ap, h3, R.bind_ok, eC_ap, R.bind_ok]
    exact PU.ixD_cell (FU.seq_cell S2) (PU.atI_nat (i := 0) rfl)
  have tp := tput (fd := fd) (fy := fy) S1 (by have := H.rel.len; omega) (hv m1 ix) (hd m1) (hk m1)
  refine ⟨m1.set l (.dT (putKD L (kk p x) (entD y b t))), V1, putKD L (kk p x) (entD y b t), ?_, ?_⟩
  · rw [sSeq_ap, sDrop_ok (hput _ e1), S.bind_nx, tp]
  · exact ⟨H1.other S1 ⟨by simp, by simp⟩, H.rel.put hp hx hy w1, get_set_eq S1, by rw [get_set (ne_at S2 S1 (by simp))]; exact S2, H.path⟩
/-- a body is put by its store, with a stamp of its own -/
theorem deed_own (F : Facts A) (G : FactsH A) (H : S4 A m c sc l n t P V L) (hn : n < 60) {p x y : Str} (hp : p ∈ P4) (hx : nameB x = true) (hy : PyData.strOk y = true) {a6 a8 a9 a10 : Option D} :
    ∃ m' V' L', (sSeq (S_l_deed_12 A) (S_l_deed_13 A)) [some (.cell j), some (.cell c.h), some (.cell l), some (.cell sc), some (.str p), some (.str x), a6, some (.str y), a8, a9, a10] m = .nx [some (.cell j), some (.cell c.h), some (.cell l), some (.cell sc), some (.str p), some (.str x), a6, some (.str y), a8, a9, a10] m' ∧ S4 A m' c sc l (n + 1) t P V' L' := by
  obtain ⟨m1, V1, s, q1, H1, v1, w1, k1⟩ := store_k F G H.hs hp
  obtain ⟨b1, b2⟩ := H1.at_ p s v1
  have Q1 := H.rel.view w1
  have hE : Ent s.E n := by have := Q1.ent p; rwa [view_of v1] at this
  have ep := put_ok (y := y) (p := false) (s := 7) F b1 b2 hE (by omega) hx
  have H2 := H1.store_set v1 (putKD s.E (.inr x) (entD y false 7)) 7
  have kq : Kq m1 ((m1.set s.e (.dK (putKD s.E (.inr x) (entD y false 7)))).set s.o (stO A p 7 s.e)) := by
    refine (Kq.dct b2).trans (Kq.ins (C := He.ga A.K "Store") (fs := [("name", .str p), ("changed", .int s.ch), ("entries", .cell s.e)]) ?_)
    rw [get_set (ne_at b1 b2 (by simp [stO]))]
    exact b1
  generalize hm2 : (m1.set s.e (.dK (putKD s.E (.inr x) (entD y false 7)))).set s.o (stO A p 7 s.e) = m2 at *
  have kk2 := k1.trans kq
  have S1 : m2[l]? = some (.dT L) := kk2.at_ l _ H.lies (by simp) (by simp)
  have S2 : m2[sc]? = some (.lst [.int t, .tup (txs P)]) := kk2.at_ sc _ H.st (by simp) (by simp)
  have cs := call_store H.hs (env := [some (.cell j), some (.cell c.h), some (.cell l), some (.cell sc), some (.str p), some (.str x), a6, some (.str y), a8, a9, a10]) (fo := eVar 1) (fa := eVar 4) rfl rfl q1
  have cp : eMtP (He.ga A.K "Store") "put" 2 1 5 [0, 1, 2, 4, 3] [(.bl false)] (G_Store_put A) (eMtP (He.ga A.K "Hall") "store" 1 0 2 [0, 1] [] (G_Hall_store A) (eVar 1) (aCons (eVar 4) aNil) aNil) (aCons (eVar 5) (aCons (eVar 7) aNil)) (aCons (eC (.int 7)) aNil) [some (.cell j), some (.cell c.h), some (.cell l), some (.cell sc), some (.str p), some (.str x), a6, some (.str y), a8, a9, a10] m = .ok .non m2 :=
    eMtP_ok (m0 := m1) (m1 := m1) (m2 := m1) (o := .cell s.o) (ds := [.str x, .str y]) (es := [.int 7]) cs (sobj b1) rfl (aCons_ok rfl (aCons_ok rfl (aNil_ap _ _))) (aCons_ok rfl (aNil_ap _ _)) ⟨rfl, rfl, rfl⟩ ep
  have tp := tput (l := l) (fd := eVar 2) (fy := eCall mkK (aCons (eVar 4) (aCons (eVar 5) aNil))) (fv := eCall mkT (aCons (eVar 7) (aCons (eC (.bl false)) (aCons (eC (.int 7)) aNil)))) (env := [some (.cell j), some (.cell c.h), some (.cell l), some (.cell sc), some (.str p), some (.str x), a6, some (.str y), a8, a9, a10]) (k := kk p x) (v := entD y false 7) S1 (by have := H.rel.len; omega) (eCall_ok (aCons_ok rfl (aCons_ok rfl (aCons_ok rfl (aNil_ap _ _)))) (mk3 y false 7 m2)) rfl (eCall_ok (aCons_ok rfl (aCons_ok rfl (aNil_ap _ _))) (mkK_2 m2 p x))
  refine ⟨m2.set l (.dT (putKD L (kk p x) (entD y false 7))), addV V1 p ⟨s.o, s.e, 7, putKD s.E (.inr x) (entD y false 7)⟩, putKD L (kk p x) (entD y false 7), ?_, ?_⟩
  · unfold S_l_deed_12 S_l_deed_13
    rw [sSeq_ap, sDrop_ok cp, S.bind_nx, tp]
  · refine ⟨H2.other S1 ⟨by simp, by simp⟩, H.rel.put hp hx hy (ch := 7) (fun q => ?_), get_set_eq S1, by rw [get_set (ne_at S2 S1 (by simp))]; exact S2, H.path⟩
    rw [view_set, ← w1, view_of v1]
/-! what lies, in order -/
theorem pairs_some : ∀ {L : List (List Key × D)}, (∀ q ∈ L, ∃ p ∈ P4, ∃ x, nameB x = true ∧ q.1 = kk p x) → ∃ ps, pairsK L = some ps ∧ ps.length = L.length ∧ ∀ q ∈ ps, q.1 ∈ P4 ∧ nameB q.2 = true ∧ kk q.1 q.2 ∈ L.map (·.1)
  | [], _ => ⟨[], rfl, rfl, fun q hq => nomatch hq⟩
  | q :: L, h => by
    obtain ⟨ps, e, hl, hm⟩ := pairs_some fun r hr => h r (List.mem_cons_of_mem _ hr)
    obtain ⟨p, hp, x, hx, ek⟩ := h q List.mem_cons_self
    obtain ⟨k, d⟩ := q
    simp only at ek
    subst ek
    refine ⟨(p, x) :: ps, ?_, by simp [hl], fun r hr => ?_⟩
    · show (pairsK L).map ((p, x) :: ·) = _
      rw [e]
      rfl
    · rcases List.mem_cons.mp hr with rfl | hr
      · exact ⟨hp, hx, List.mem_cons_self⟩
      · exact ⟨(hm r hr).1, (hm r hr).2.1, List.mem_cons_of_mem _ (hm r hr).2.2⟩
theorem pair_p (p : Str × Str) : toP (pairD p) = some (.tuple [.str p.1, .str p.2]) := rfl
theorem pairs_p : ∀ ps : List (Str × Str), toPs (ps.map pairD) = some (ps.map fun p => PyData.tuple [.str p.1, .str p.2])
  | [] => rfl
  | p :: ps => by
    show (match toP (pairD p), toPs (ps.map pairD) with | some a, some as => some (a :: as) | _, _ => none) = _
    rw [pairs_p ps, pair_p]
    rfl
theorem pairs_lay : ∀ {ps : List (Str × Str)}, (∀ p ∈ ps, PyData.strOk p.1 = true ∧ PyData.strOk p.2 = true) → PyData.canLayAll0 (ps.map fun p => PyData.tuple [.str p.1, .str p.2]) = true ∧ PyData.depthAll (ps.map fun p => PyData.tuple [.str p.1, .str p.2]) ≤ 1
  | [], _ => ⟨rfl, Nat.zero_le _⟩
  | p :: ps, h => by
    obtain ⟨a, b⟩ := pairs_lay fun q hq => h q (List.mem_cons_of_mem _ hq)
    obtain ⟨h1, h2⟩ := h p List.mem_cons_self
    refine ⟨?_, ?_⟩
    · show PyData.canLayAll0 (_ :: ps.map _) = true
      simp [PyData.canLayAll0, PyData.canLay0, a, h1, h2]
    · show PyData.depthAll (_ :: ps.map _) ≤ 1
      simp [PyData.depthAll, PyData.depth, b]
theorem pairs_ne {ps : List (Str × Str)} (hn : ps ≠ []) (h : ∀ p ∈ ps, PyData.strOk p.1 = true ∧ PyData.strOk p.2 = true) : eqD true (.lst (ps.map pairD)) (.lst []) m = .ok (.bl true) m := by
  obtain ⟨a, b⟩ := pairs_lay h
  have e1 : toPm (.lst (ps.map pairD)) m = some (.list (ps.map fun p => PyData.tuple [.str p.1, .str p.2])) := by
    show (toPs (ps.map pairD)).map PyData.list = _
    rw [pairs_p]
    rfl
  have e2 : toPm (.lst []) m = some (.list []) := rfl
  have s1 : SeqAt.shaped (.list (ps.map fun p => PyData.tuple [.str p.1, .str p.2])) = true := by
    simp only [SeqAt.shaped, PyData.canLay0, PyData.depth, a, Bool.true_and]
    exact decide_eq_true (by omega)
  have s2 : SeqAt.shaped (.list []) = true := by decide +kernel
  show eqDeep true (.lst (ps.map pairD)) (.lst []) m = _
  unfold eqDeep
  rw [e1, e2]
  simp only [s1, s2, and_self, if_true]
  cases ps with
  | nil => exact absurd rfl hn
  | cons p ps => rfl
theorem p4_ok : ∀ p ∈ P4, PyData.strOk p = true := by decide +kernel
/-- what lies is taken -/
theorem deed_take (F : Facts A) (G : FactsH A) (H : S4 A m c sc l n t P V L) (hn : n < 60) (hp : Pl j m) (hj : sc ≠ j) {a4 a5 a6 a7 a8 : Option D} :
    ∃ m' V' L', ((∃ env, (sSeq (S_l_deed_14 A) (S_l_deed_17 A)) [some (.cell j), some (.cell c.h), some (.cell l), some (.cell sc), a4, a5, a6, a7, a8, none, none] m = .nx env m') ∨ (sSeq (S_l_deed_14 A) (S_l_deed_17 A)) [some (.cell j), some (.cell c.h), some (.cell l), some (.cell sc), a4, a5, a6, a7, a8, none, none] m = .rt (.bl true) m') ∧ S4 A m' c sc l (n + 1) t P V' L' := by
  obtain ⟨ps, ep, el, em⟩ := pairs_some H.rel.keys
  have hL := H.rel.len
  have so : sortedTk [.cell l] m = .ok (.lst ((sortP ps).map pairD)) m := by
    have e1 : kvtOf (.cell l) m = some (l, L) := by rw [kvtOf_cell, H.lies]
    unfold sortedTk
    simp only [e1, ep]
    rw [if_pos (by omega)]
  have s14 : S_l_deed_14 A [some (.cell j), some (.cell c.h), some (.cell l), some (.cell sc), a4, a5, a6, a7, a8, none, none] m = .nx [some (.cell j), some (.cell c.h), some (.cell l), some (.cell sc), a4, a5, a6, a7, a8, some (.lst ((sortP ps).map pairD)), none] m := sSet_ok (eCall_ok (aCons_ok rfl (aNil_ap _ _)) so)
  have z0 : ∀ m : M, mkL [] m = .ok (.lst []) m := fun m => mkLs (by simp)
  have pm : ∀ q ∈ sortP ps, q ∈ ps := fun q hq => (sortP_perm ps).mem_iff.mp hq
  have sl : (sortP ps).length = ps.length := (sortP_perm ps).length_eq
  generalize sortP ps = qs at *
  by_cases hq : qs = []
  · subst hq
    refine ⟨m, V, L, .inl ⟨[some (.cell j), some (.cell c.h), some (.cell l), some (.cell sc), a4, a5, a6, a7, a8, some (.lst []), none], ?_⟩, ⟨H.hs, H.rel.mono (by omega), H.lies, H.st, H.path⟩⟩
    rw [sSeq_ap, s14, S.bind_nx]
    have eq : eqD true (.lst []) (.lst []) m = .ok (.bl false) m := by kernel_rfl
    unfold S_l_deed_17
    rw [sIf_ap, eTest_ap, eOp_ap, show eVar 9 [some (.cell j), some (.cell c.h), some (.cell l), some (.cell sc), a4, a5, a6, a7, a8, some (.lst (([] : List (Str × Str)).map pairD)), none] m = .ok (.lst []) m from rfl, R.bind_ok, eCall_ok (aNil_ap _ _) (z0 m), R.bind_ok, eq]
    rfl
  · have lp : 0 < qs.length := List.length_pos_iff.mpr hq
    have ne := pairs_ne (m := m) hq fun p hp => ⟨p4_ok _ (em p (pm p hp)).1, name_ok (em p (pm p hp)).2.1⟩
    obtain ⟨r, m1, e1, r0, r1, c1, p1⟩ := tk (A := A) (qs.length : Int) (by omega) (by omega) hp
    have H1 := H.ch hp c1 hj
    have hr : r.toNat < qs.length := by omega
    obtain ⟨hP, hX, hK⟩ := em _ (pm _ (List.getElem_mem hr))
    have ix : ixD (.lst (qs.map pairD)) (.int r) m1 = .ok (pairD qs[r.toNat]) m1 := by
      have e : r = (r.toNat : Int) := by omega
      have a : atI (qs.map pairD) (r.toNat : Int) = some (pairD qs[r.toNat]) := by
        refine PU.atI_nat ?_
        rw [List.getElem?_map, List.getElem?_eq_getElem hr]
        rfl
      rw [← e] at a
      exact PU.ixD_lst a
    generalize qs[r.toNat] = px at *
    obtain ⟨p, x⟩ := px
    simp only at hP hX hK
    have vs := val_iff.mpr hK
    obtain ⟨d, hd⟩ := Option.isSome_iff_exists.mp vs
    have hd2 := hd
    rw [H.rel.same p hP x] at hd2
    obtain ⟨y, b, s0, rfl, hy⟩ := (H.rel.ent p).get hd2
    have zl : lenD A [.lst (qs.map pairD)] m = .ok (.int qs.length) m := by rw [lenD_lst, List.length_map]
    have s15 : S_l_deed_15 A [some (.cell j), some (.cell c.h), some (.cell l), some (.cell sc), a4, a5, a6, a7, a8, some (.lst (qs.map pairD)), none] m = .nx [some (.cell j), some (.cell c.h), some (.cell l), some (.cell sc), some (.str p), some (.str x), a6, a7, a8, some (.lst (qs.map pairD)), none] m1 := by
      have v9 : eVar 9 [some (.cell j), some (.cell c.h), some (.cell l), some (.cell sc), a4, a5, a6, a7, a8, some (.lst (qs.map pairD)), none] m = .ok (.lst (qs.map pairD)) m := rfl
      have tt := tkE (A := A) (env := [some (.cell j), some (.cell c.h), some (.cell l), some (.cell sc), a4, a5, a6, a7, a8, some (.lst (qs.map pairD)), none]) (f := eVar 0) (g := eCall (lenD A) (aCons (eVar 9) aNil)) rfl (eCall_ok (aCons_ok v9 (aNil_ap _ _)) zl) e1
      unfold S_l_deed_15 sUnpT
      rw [eOp_ap, v9, R.bind_ok, tt, R.bind_ok, ix, R.to_ok]
      rfl
    obtain ⟨B1, B2, B3⟩ := H1.book (dropKD L (kk p x))
    have s16 : S_l_deed_16 A [some (.cell j), some (.cell c.h), some (.cell l), some (.cell sc), some (.str p), some (.str x), a6, a7, a8, some (.lst (qs.map pairD)), none] m1 = .nx [some (.cell j), some (.cell c.h), some (.cell l), some (.cell sc), some (.str p), some (.str x), a6, a7, a8, some (.lst (qs.map pairD)), some (.str y)] (m1.set l (.dT (dropKD L (kk p x)))) := by
      have ek : kvtOf (.cell l) m1 = some (l, L) := by rw [kvtOf_cell, H1.lies]
      have po : popTD1 (.cell l) [.tk (kk p x)] m1 = .ok (entD y b s0) (m1.set l (.dT (dropKD L (kk p x)))) := by
        unfold popTD1
        have e2 : tkOf (.tk (kk p x)) = some (kk p x) := rfl
        simp only [ek, e2, hd]
      have is : isDctT (.cell l) m1 = true := by unfold isDctT; rw [ek]; rfl
      have ky : eCall mkK (aCons (eVar 4) (aCons (eVar 5) aNil)) [some (.cell j), some (.cell c.h), some (.cell l), some (.cell sc), some (.str p), some (.str x), a6, a7, a8, some (.lst (qs.map pairD)), none] m1 = .ok (.tk (kk p x)) m1 := eCall_ok (aCons_ok rfl (aCons_ok rfl (aNil_ap _ _))) (mkK_2 m1 p x)
      refine sSet_ok ?_
      rw [eOp_ap, eMt_ap, show eVar 2 [some (.cell j), some (.cell c.h), some (.cell l), some (.cell sc), some (.str p), some (.str x), a6, a7, a8, some (.lst (qs.map pairD)), none] m1 = .ok (.cell l) m1 from rfl, R.bind_ok, if_pos is, aCons_ok ky (aNil_ap _ _), R.bind_ok, po, R.bind_ok, eC_ap, R.bind_ok]
      exact ixD_tup (PU.atI_nat (i := 0) rfl)
    generalize m1.set l (.dT (dropKD L (kk p x))) = m2 at *
    obtain ⟨m3, V3, q3, H3, w3, k3⟩ := hall_take F G B1 hP hX hd2
    obtain ⟨m4, V4, s, q4, H4, v4, w4, k4⟩ := store_k F G H3 hP
    have k34 := k3.trans k4
    have S5 : S4 A m4 c sc l (n + 1) t P V4 (dropKD L (kk p x)) := ⟨H4, (H.rel.drop hP w3).view w4, k34.at_ l _ B2 (by simp) (by simp), k34.at_ sc _ B3 (by simp) (by simp), H.path⟩
    have sch : s.ch = t := by
      have e := congrFun w4 p
      rw [view_of v4, w3, if_pos rfl] at e
      exact congrArg Prod.fst e
    refine ⟨m4, V4, _, .inr ?_, S5⟩
    rw [sSeq_ap, s14, S.bind_nx]
    have ct : eMtP (He.ga A.K "Hall") "take" 0 2 3 [0, 2, 1] [] (G_Hall_take A) (eVar 1) aNil (aCons (eVar 5) (aCons (eVar 4) aNil)) [some (.cell j), some (.cell c.h), some (.cell l), some (.cell sc), some (.str p), some (.str x), a6, a7, a8, some (.lst (qs.map pairD)), some (.str y)] m2 = .ok (.str y) m3 :=
      eMtP_ok (m0 := m2) (m1 := m2) (m2 := m2) (o := .cell c.h) (ds := []) (es := [.str x, .str p]) rfl (hobj B1) rfl (aNil_ap _ _) (aCons_ok rfl (aCons_ok rfl (aNil_ap _ _))) ⟨rfl, rfl, rfl⟩ q3
    have cs := call_store H3 (env := [some (.cell j), some (.cell c.h), some (.cell l), some (.cell sc), some (.str p), some (.str x), a6, a7, a8, some (.lst (qs.map pairD)), some (.str y)]) (fo := eVar 1) (fa := eVar 4) rfl rfl q4
    have fc : eFld A.K "changed" (eMtP (He.ga A.K "Hall") "store" 1 0 2 [0, 1] [] (G_Hall_store A) (eVar 1) (aCons (eVar 4) aNil) aNil) [some (.cell j), some (.cell c.h), some (.cell l), some (.cell sc), some (.str p), some (.str x), a6, a7, a8, some (.lst (qs.map pairD)), some (.str y)] m3 = .ok (.int t) m4 := by
      rw [eFld_ap, cs, R.bind_ok, sobj (H4.at_ p s v4).1, ← sch]
      simp [F.sc, List.lookup]
    have v10 : eVar 10 [some (.cell j), some (.cell c.h), some (.cell l), some (.cell sc), some (.str p), some (.str x), a6, a7, a8, some (.lst (qs.map pairD)), some (.str y)] m3 = .ok (.str y) m3 := rfl
    unfold S_l_deed_17
    rw [sIf_ap, eTest_ap, eOp_ap, show eVar 9 [some (.cell j), some (.cell c.h), some (.cell l), some (.cell sc), a4, a5, a6, a7, a8, some (.lst (qs.map pairD)), none] m = .ok (.lst (qs.map pairD)) m from rfl, R.bind_ok, eCall_ok (aNil_ap _ _) (z0 m), R.bind_ok, ne, R.bind_ok, show asBl (.bl true) m = .ok true m from rfl, R.to_ok, if_pos rfl, sSeq_ap, s15, S.bind_nx, sSeq_ap, s16, S.bind_nx, sRet_ap, eAnd_ap, eOp_ap, ct, R.bind_ok, v10, R.bind_ok, show eqD false (.str y) (.str y) m3 = .ok (.bl true) m3 by simp, R.bind_ok, asTru_bl, R.bind_ok, if_pos rfl, eOp_ap, fc, R.bind_ok, st_ix0 S5 rfl, R.bind_ok, show eqD false (.int t) (.int t) m4 = .ok (.bl true) m4 by simp]
    rfl
end
end
end K21

namespace K21
section
open PySem PySem.Spec L2 DL PU
variable {A : Amb} {m : M} {j : Nat}
section
variable {c : Cl} {sc l n : Nat} {t : Int} {P : List Str} {V : Str → Option Sto} {L : List (List Key × D)}
theorem hall_path (F : Facts A) (G : FactsH A) (H : Hs A m c t P V) {P' : List Str} (hP : Pth A P') : ∃ m' V', G_Hall_set_path A [.cell c.h, .tup (txs P')] m = .ok .non m' ∧ Hs A m' c t P' V' ∧ K21.view V' = K21.view V ∧ Kq m m' := by
  have h0 := H.hall
  have H1 := H.hall_set t P'
  have k1 : Kq m (m.set c.h (hallO A c t P')) := Kq.ins (by simp only [hallO] at h0; exact h0)
  have s1 : sFldD A.K "path" (eVar 0) (eVar 1) [some (.cell c.h), some (.tup (txs P')), none] m = .nx [some (.cell c.h), some (.tup (txs P')), none] (m.set c.h (hallO A c t P')) := by
    simp only [hallO] at h0 ⊢
    simp [sFldD_ap, h0, G.hp, putD]
  generalize m.set c.h (hallO A c t P') = m1 at *
  obtain ⟨env, m2, e2, i2⟩ := loop_inv (put := gSet 2) (body := sDrop (eMtP (He.ga A.K "Hall") "store" 1 0 2 [0, 1] [] (G_Hall_store A) (eVar 0) (aCons (eVar 2) aNil) aNil)) (I := fun _ env m' => ∃ V' e2, env = [some (.cell c.h), some (.tup (txs P')), e2] ∧ Hs A m' c t P' V' ∧ K21.view V' = K21.view V ∧ Kq m m') (txs P') 0 [some (.cell c.h), some (.tup (txs P')), none] m1 ⟨V, none, rfl, H1, rfl, k1⟩ (fun i d env m' hd hI => by
    obtain ⟨V', e2, rfl, H', w', k'⟩ := hI
    obtain ⟨p, hp, rfl⟩ := mem_txs (List.mem_of_getElem? hd)
    obtain ⟨m3, V3, s, q3, H3, v3, w3, k3⟩ := store_k F G H' (hP.mem p hp)
    exact ⟨[some (.cell c.h), some (.tup (txs P')), some (.str p)], [some (.cell c.h), some (.tup (txs P')), some (.str p)], m3, rfl, sDrop_ok (call_store H' (fo := eVar 0) (fa := eVar 2) rfl rfl q3), V3, some (.str p), rfl, H3, w3.trans w', k'.trans k3⟩)
  obtain ⟨V', e2', rfl, H', w', k'⟩ := i2
  refine ⟨m2, V', ?_, H', w', k'⟩
  show retS (sSeq (sDrop _) (sSeq (sFldD A.K "path" (eVar 0) (eVar 1)) (sFor (iIt asTup (eVar 1)) (gSet 2) _)) [some (.cell c.h), some (.tup (txs P')), none] m) = _
  rw [sSeq_ap, sDrop_ok (m1 := m) (d := .non) (eCall_ok (aCons_ok rfl (aNil_ap _ _)) ((if_pos rfl).trans (hP.ok m))), S.bind_nx, sSeq_ap, s1, S.bind_nx, sFor_ap, iIt_ap, show eVar 1 [some (.cell c.h), some (.tup (txs P')), none] m1 = .ok (.tup (txs P')) m1 from rfl, R.bind_ok, show asTup (.tup (txs P')) m1 = .ok (txs P') m1 from rfl, R.to_ok, e2]
  rfl
theorem deed_path (F : Facts A) (G : FactsH A) (H : S4 A m c sc l n t P V L) (hp : Pl j m) (hj : sc ≠ j) {a4 a5 a6 a7 a8 a9 a10 : Option D} :
    ∃ m' P' V', (sSeq (S_l_deed_18 A) (S_l_deed_19 A)) [some (.cell j), some (.cell c.h), some (.cell l), some (.cell sc), a4, a5, a6, a7, a8, a9, a10] m = .nx [some (.cell j), some (.cell c.h), some (.cell l), some (.cell sc), a4, a5, a6, a7, a8, a9, a10] m' ∧ S4 A m' c sc l (n + 1) t P' V' L := by
  obtain ⟨r, m1, e1, r0, r1, c1, p1⟩ := tk (A := A) 4 (by decide) (by decide) hp
  have H1 := H.ch hp c1 hj
  obtain ⟨P', hP, ip⟩ : ∃ P', P' ∈ pathsL ∧ ∀ m : M, ixD (.lst [.tup [], .tup [.str "one"], .tup [.str "two", .str "one"], .tup [.str "four", .str "three", .str "two"]]) (.int r) m = .ok (.tup (txs P')) m := by
    have : r = 0 ∨ r = 1 ∨ r = 2 ∨ r = 3 := by omega
    rcases this with rfl | rfl | rfl | rfl
    · exact ⟨[], by decide +kernel, fun m => PU.ixD_lst (PU.atI_nat (i := 0) rfl)⟩
    · exact ⟨["one"], by decide +kernel, fun m => PU.ixD_lst (PU.atI_nat (i := 1) rfl)⟩
    · exact ⟨["two", "one"], by decide +kernel, fun m => PU.ixD_lst (PU.atI_nat (i := 2) rfl)⟩
    · exact ⟨["four", "three", "two"], by decide +kernel, fun m => PU.ixD_lst (PU.atI_nat (i := 3) rfl)⟩
  have t0 : ∀ env : DL.Env, eCall mkT aNil env m = .ok (.tup []) m := fun env => eCall_ok (aNil_ap _ _) (mkTs (by simp))
  have t1 : ∀ (env : DL.Env) (x : Str), eCall mkT (aCons (eC (.str x)) aNil) env m = .ok (.tup [.str x]) m := fun env x => eCall_ok (aCons_ok rfl (aNil_ap _ _)) (mkTs (by simp))
  have t2 : ∀ (env : DL.Env) (x y : Str), eCall mkT (aCons (eC (.str x)) (aCons (eC (.str y)) aNil)) env m = .ok (.tup [.str x, .str y]) m := fun env x y => eCall_ok (aCons_ok rfl (aCons_ok rfl (aNil_ap _ _))) (mkTs (by simp))
  have t3 : ∀ (env : DL.Env) (x y z : Str), eCall mkT (aCons (eC (.str x)) (aCons (eC (.str y)) (aCons (eC (.str z)) aNil))) env m = .ok (.tup [.str x, .str y, .str z]) m := fun env x y z => eCall_ok (aCons_ok rfl (aCons_ok rfl (aCons_ok rfl (aNil_ap _ _)))) (mkTs (by simp))
  have s18 : S_l_deed_18 A [some (.cell j), some (.cell c.h), some (.cell l), some (.cell sc), a4, a5, a6, a7, a8, a9, a10] m = .nx [some (.cell j), some (.cell c.h), some (.cell l), some (.cell sc), a4, a5, a6, a7, a8, a9, a10] (m1.set sc (.lst [.int t, .tup (txs P')])) := by
    refine set_ix (m1 := m1) (v := .tup (txs P')) (i := 1) ?_ rfl rfl H1.st (by decide) (by simp)
    rw [eOp_ap, eCall_ok (aCons_ok (t0 _) (aCons_ok (t1 _ _) (aCons_ok (t2 _ _ _) (aCons_ok (t3 _ _ _ _) (aNil_ap _ _))))) (mkLs (by simp)), R.bind_ok, tkE rfl rfl e1, R.bind_ok, ip]
  obtain ⟨k1, k2, k3⟩ := H1.set_st t P'
  generalize m1.set sc (.lst [.int t, .tup (txs P')]) = m2 at *
  obtain ⟨m3, V3, q3, H3, w3, kq⟩ := hall_path F G k1 (pth hP)
  have cs : eMtP (He.ga A.K "Hall") "set_path" 0 1 2 [0, 1] [] (G_Hall_set_path A) (eVar 1) aNil (aCons (eOp ixD (eVar 3) (eC (.int 1))) aNil) [some (.cell j), some (.cell c.h), some (.cell l), some (.cell sc), a4, a5, a6, a7, a8, a9, a10] m2 = .ok .non m3 := by
    have ix : eOp ixD (eVar 3) (eC (.int 1)) [some (.cell j), some (.cell c.h), some (.cell l), some (.cell sc), a4, a5, a6, a7, a8, a9, a10] m2 = .ok (.tup (txs P')) m2 := by
      rw [eOp_ap, show eVar 3 [some (.cell j), some (.cell c.h), some (.cell l), some (.cell sc), a4, a5, a6, a7, a8, a9, a10] m2 = .ok (.cell sc) m2 from rfl, R.bind_ok, eC_ap, R.bind_ok]
      exact PU.ixD_cell (FU.seq_cell k3) (PU.atI_nat (i := 1) rfl)
    exact eMtP_ok (m0 := m2) (m1 := m2) (m2 := m2) (o := .cell c.h) (ds := []) (es := [.tup (txs P')]) rfl (hobj k1) rfl (aNil_ap _ _) (aCons_ok ix (aNil_ap _ _)) ⟨rfl, rfl, rfl⟩ q3
  refine ⟨m3, P', V3, ?_, ⟨H3, (H1.rel.mono (by omega)).view w3, kq.at_ l _ k2 (by simp) (by simp), kq.at_ sc _ k3 (by simp) (by simp), hP⟩⟩
  unfold S_l_deed_19
  rw [sSeq_ap, s18, S.bind_nx, sDrop_ok cs]
theorem deed_ok (F : Facts A) (G : FactsH A) (H : S4 A m c sc l n t P V L) (hn : n < 60) (hp : Pl j m) (hj : sc ≠ j) : ∃ m' t' P' V' L', G_l_deed A [.cell j, .cell c.h, .cell l, .cell sc] m = .ok (.bl true) m' ∧ S4 A m' c sc l (n + 1) t' P' V' L' := by
  obtain ⟨p, m1, d0, hP, c1, p1⟩ := dr0 (A := A) (c := c) (sc := sc) (l := l) hp (a5 := none) (a6 := none) (a7 := none) (a8 := none) (a9 := none) (a10 := none)
  obtain ⟨x, m2, d1, hx, c2, p2⟩ := dr1 (A := A) (c := c) (sc := sc) (l := l) p1 (a4 := some (.str p)) (a6 := none) (a7 := none) (a8 := none) (a9 := none) (a10 := none)
  obtain ⟨r, m3, d2, r0, r1, c3, p3⟩ := dr2 (A := A) (c := c) (sc := sc) (l := l) p2 (a4 := some (.str p)) (a5 := some (.str x)) (a7 := none) (a8 := none) (a9 := none) (a10 := none)
  obtain ⟨y, m4, d3, hy, c4, p4⟩ := dr3 (A := A) (c := c) (sc := sc) (l := l) p3 (a4 := some (.str p)) (a5 := some (.str x)) (a6 := some (.int r)) (a8 := none) (a9 := none) (a10 := none)
  have H4 := (((H.ch hp c1 hj).ch p1 c2 hj).ch p2 c3 hj).ch p3 c4 hj
  show ∃ m' t' P' V' L', retS (sSeq (S_l_deed_0 A) (sSeq (S_l_deed_1 A) (sSeq (S_l_deed_2 A) (sSeq (S_l_deed_3 A) (sSeq (S_l_deed_7 A) (sSeq (S_l_deed_23 A) (sRet (eC (.bl true)))))))) [some (.cell j), some (.cell c.h), some (.cell l), some (.cell sc), none, none, none, none, none, none, none] m) = _ ∧ _
  rw [sSeq_ap, d0, S.bind_nx, sSeq_ap, d1, S.bind_nx, sSeq_ap, d2, S.bind_nx, sSeq_ap, d3, S.bind_nx, sSeq_ap]
  by_cases h2 : r < 2
  · obtain ⟨m5, t', e, S5⟩ := deed_tick F G H4 p4 hj h2 (a4 := some (.str p)) (a5 := some (.str x)) (a7 := some (.str y)) (a9 := none) (a10 := none)
    rw [e]
    exact ⟨m5, t', P, V, L, rfl, ⟨S5.hs, S5.rel.mono (by omega), S5.lies, S5.st, S5.path⟩⟩
  rw [deed_no_tick h2, S.bind_nx, sSeq_ap]
  have te : ∀ k : Int, eTest asBl (eOp (eqD false) (eVar 6) (eC (.int k))) [some (.cell j), some (.cell c.h), some (.cell l), some (.cell sc), some (.str p), some (.str x), some (.int r), some (.str y), none, none, none] m4 = .ok (decide (r = k)) m4 := fun k => by simp
  have tl : eTest asBl (eOp (cmpD fun i j => decide (i < j)) (eVar 6) (eC (.int 7))) [some (.cell j), some (.cell c.h), some (.cell l), some (.cell sc), some (.str p), some (.str x), some (.int r), some (.str y), none, none, none] m4 = .ok (decide (r < 7)) m4 := by simp
  unfold S_l_deed_23
  rw [sIf_ap, te 2, R.to_ok]
  by_cases e2 : r = 2
  · rw [if_pos (decide_eq_true e2)]
    obtain ⟨m5, V', L', e, S5⟩ := deed_put F G H4 hn hP hx hy false (env := [some (.cell j), some (.cell c.h), some (.cell l), some (.cell sc), some (.str p), some (.str x), some (.int r), some (.str y), none, none, none]) (fput := eMtP (He.ga A.K "Hall") "put" 3 0 5 [0, 1, 2, 3, 4] [(.bl false)] (G_Hall_put A) (eVar 1) (aCons (eVar 4) (aCons (eVar 5) (aCons (eVar 7) aNil))) aNil) (fb := .bl false)
      (fun r hr => eMtP_ok (m0 := m4) (m1 := m4) (m2 := m4) (o := .cell c.h) (ds := [.str p, .str x, .str y]) (es := []) rfl (hobj H4.hs) rfl (aCons_ok rfl (aCons_ok rfl (aCons_ok rfl (aNil_ap _ _)))) (aNil_ap _ _) ⟨rfl, rfl, rfl⟩ hr)
      (fv := eCall mkT (aCons (eVar 7) (aCons (eC (.bl false)) (aCons (eOp ixD (eVar 3) (eC (.int 0))) aNil)))) (fd := eVar 2) (fy := eCall mkK (aCons (eVar 4) (aCons (eVar 5) aNil)))
      (fun m' h => eCall_ok (aCons_ok rfl (aCons_ok rfl (aCons_ok h (aNil_ap _ _)))) (mk3 y false t m')) rfl (fun m' => rfl) (fun m' => eCall_ok (aCons_ok rfl (aCons_ok rfl (aNil_ap _ _))) (mkK_2 m' p x))
    have e : sSeq (S_l_deed_8 A) (S_l_deed_9 A) [some (.cell j), some (.cell c.h), some (.cell l), some (.cell sc), some (.str p), some (.str x), some (.int r), some (.str y), none, none, none] m4 = _ := e
    rw [e]
    exact ⟨m5, t, P, V', L', rfl, S5⟩
  rw [if_neg (by simpa using e2)]
  unfold S_l_deed_22
  rw [sIf_ap, te 3, R.to_ok]
  by_cases e3 : r = 3
  · rw [if_pos (decide_eq_true e3)]
    obtain ⟨m5, V', L', e, S5⟩ := deed_put F G H4 hn hP hx hy true (env := [some (.cell j), some (.cell c.h), some (.cell l), some (.cell sc), some (.str p), some (.str x), some (.int r), some (.str y), none, none, none]) (fput := eMtP (He.ga A.K "Hall") "put" 0 4 5 [0, 2, 4, 1, 3] [] (G_Hall_put A) (eVar 1) aNil (aCons (eVar 7) (aCons (eVar 4) (aCons (eC (.bl true)) (aCons (eVar 5) aNil))))) (fb := .bl true)
      (fun r hr => eMtP_ok (m0 := m4) (m1 := m4) (m2 := m4) (o := .cell c.h) (ds := []) (es := [.str y, .str p, .bl true, .str x]) rfl (hobj H4.hs) rfl (aNil_ap _ _) (aCons_ok rfl (aCons_ok rfl (aCons_ok rfl (aCons_ok rfl (aNil_ap _ _))))) ⟨rfl, rfl, rfl⟩ hr)
      (fv := eCall mkT (aCons (eVar 7) (aCons (eC (.bl true)) (aCons (eOp ixD (eVar 3) (eC (.int 0))) aNil)))) (fd := eVar 2) (fy := eCall mkK (aCons (eVar 4) (aCons (eVar 5) aNil)))
      (fun m' h => eCall_ok (aCons_ok rfl (aCons_ok rfl (aCons_ok h (aNil_ap _ _)))) (mk3 y true t m')) rfl (fun m' => rfl) (fun m' => eCall_ok (aCons_ok rfl (aCons_ok rfl (aNil_ap _ _))) (mkK_2 m' p x))
    have e : sSeq (S_l_deed_10 A) (S_l_deed_11 A) [some (.cell j), some (.cell c.h), some (.cell l), some (.cell sc), some (.str p), some (.str x), some (.int r), some (.str y), none, none, none] m4 = _ := e
    rw [e]
    exact ⟨m5, t, P, V', L', rfl, S5⟩
  rw [if_neg (by simpa using e3)]
  unfold S_l_deed_21
  rw [sIf_ap, te 4, R.to_ok]
  by_cases e4 : r = 4
  · rw [if_pos (decide_eq_true e4)]
    obtain ⟨m5, V', L', e, S5⟩ := deed_own F G H4 hn hP hx hy (j := j) (a6 := some (.int r)) (a8 := none) (a9 := none) (a10 := none)
    rw [e]
    exact ⟨m5, t, P, V', L', rfl, S5⟩
  rw [if_neg (by simpa using e4)]
  unfold S_l_deed_20
  rw [sIf_ap, tl, R.to_ok]
  by_cases e7 : r < 7
  · rw [if_pos (decide_eq_true e7)]
    obtain ⟨m5, V', L', e, S5⟩ := deed_take F G H4 hn p4 hj (a4 := some (.str p)) (a5 := some (.str x)) (a6 := some (.int r)) (a7 := some (.str y)) (a8 := none)
    rcases e with ⟨env, e⟩ | e
    · rw [e]
      exact ⟨m5, t, P, V', L', rfl, S5⟩
    · rw [e]
      exact ⟨m5, t, P, V', L', rfl, S5⟩
  rw [if_neg (by simpa using e7)]
  obtain ⟨m5, P', V', e, S5⟩ := deed_path F G H4 p4 hj (a4 := some (.str p)) (a5 := some (.str x)) (a6 := some (.int r)) (a7 := some (.str y)) (a8 := none) (a9 := none) (a10 := none)
  rw [e]
  exact ⟨m5, t, P', V', L, rfl, S5⟩
end
end
end K21

namespace K21
section
open PySem PySem.Spec L2 DL PU
variable {A : Amb} {m : M} {j : Nat}
/-- the stores of a new hall -/
def newV (n : Nat) (path : List Str) : Str → Option Sto := fun p => match valK (stK n path) (.inr p) with
  | some (.cell o) => some ⟨o, o + 1, 0, []⟩
  | _ => none
def newC (n : Nat) (path : List Str) : Cl := ⟨n, n + 1, n + 3, n + 5, n + 6 + 2 * path.length, n + 7 + 2 * path.length, n + 8 + 2 * path.length⟩
theorem newV_at {n : Nat} {path : List Str} (hn : path.Nodup) {p : Str} {s : Sto} (h : newV n path p = some s) : ∃ i, i < path.length ∧ s = ⟨n + 2 * i, n + 2 * i + 1, 0, []⟩ ∧ (stL A n path)[2 * i]? = some (stO A p 0 (n + 2 * i + 1)) ∧ (stL A n path)[2 * i + 1]? = some (.dK []) ∧ path[i]? = some p := by
  unfold newV at h
  cases hv : valK (stK n path) (.inr p) with
  | none => rw [hv] at h; cases h
  | some d =>
    obtain ⟨i, rfl, h1, h2, h3, h4⟩ := stK_at (A := A) path n p d hn hv
    rw [hv] at h
    cases h
    exact ⟨i, h1, rfl, h2, h3, h4⟩
theorem one_new {n : Nat} {ps : List Str} {p : Str} (hp : p ∈ ps) : one1 (newV n ps) p = 1 := by
  have := stK_some ps n p hp
  unfold one1 newV
  cases hv : valK (stK n ps) (.inr p) with
  | none => rw [hv] at this; cases this
  | some d =>
    have hd : ∃ o, d = .cell o := by
      clear this hp
      induction ps generalizing n with
      | nil => cases hv
      | cons r ps ih =>
        by_cases e : r = p
        · subst e
          simp [valK, stK] at hv
          exact ⟨_, hv.symm⟩
        · refine ih (n := n + 2) ?_
          exact (val_ne (d := .cell n) (l := stK (n + 2) ps) e).symm.trans hv
    obtain ⟨o, rfl⟩ := hd
    rfl
def newL : List (List Str) := [[], ["one"], ["one", "two"], ["three", "one", "two"]]
theorem newL_p {P : List Str} (h : P ∈ newL) : P ∈ pathsL := by
  have : ∀ P ∈ newL, P ∈ pathsL := by decide +kernel
  exact this P h
theorem many_new {n : Nat} {P : List Str} (h : P ∈ newL) : P.length ≤ many (newV n P) := by
  simp only [newL, List.mem_cons, List.mem_nil_iff, or_false] at h
  rcases h with rfl | rfl | rfl | rfl
  · exact Nat.zero_le _
  · have a := one_new (n := n) (ps := ["one"]) (p := "one") (by decide +kernel)
    unfold many
    rw [a]
    show 1 ≤ _
    omega
  · have a := one_new (n := n) (ps := ["one", "two"]) (p := "one") (by decide +kernel)
    have b := one_new (n := n) (ps := ["one", "two"]) (p := "two") (by decide +kernel)
    unfold many
    rw [a, b]
    show 2 ≤ _
    omega
  · have a := one_new (n := n) (ps := ["three", "one", "two"]) (p := "one") (by decide +kernel)
    have b := one_new (n := n) (ps := ["three", "one", "two"]) (p := "two") (by decide +kernel)
    have c := one_new (n := n) (ps := ["three", "one", "two"]) (p := "three") (by decide +kernel)
    unfold many
    rw [a, b, c]
    show 3 ≤ _
    omega
def newM (A : Amb) (m : M) (path : List Str) (k : Str) : M := m ++ ([.ins (He.ga A.K "Hall") (hallF A (m.length + 1) path k)] ++ hallL A (m.length + 1) path k)
theorem new_at (path : List Str) (k : Str) (i : Nat) : (newM A m path k)[m.length + i]? = ([O.ins (He.ga A.K "Hall") (hallF A (m.length + 1) path k)] ++ hallL A (m.length + 1) path k)[i]? := get_endS m _ i
theorem new_hl {path : List Str} (hq : path ∈ newL) : Hs A (newM A m path "stamp") (newC m.length path) 0 path (newV (m.length + 6) path) := by
  have pt := pth (A := A) (newL_p hq)
  have h3 := pt.nod
  have hm := many_new (n := m.length + 6) hq
  have l := stL_len A path (m.length + 6)
  have n1 : m.length + 1 + 5 = m.length + 6 := by omega
  have at_ := new_at (A := A) (m := m) path "stamp"
  generalize hX : ([O.ins (He.ga A.K "Hall") (hallF A (m.length + 1) path "stamp")] ++ hallL A (m.length + 1) path "stamp") = X at at_
  have hX2 : X = [O.ins (He.ga A.K "Hall") (hallF A (m.length + 1) path "stamp"), .ins (He.ga A.K "Lists") [("by_store", .cell (m.length + 1 + 1))], .dK [], .ins (He.ga A.K "Forms") [("check", .str "stamp"), ("made", .int 0), ("kept", .int 0), ("by_place", .cell (m.length + 1 + 3))], .dK [], .ins (He.ga A.K "Along") [("word", .str "along")]] ++ (stL A (m.length + 6) path ++ [.dK (stK (m.length + 6) path), .dK [], .dK []]) := by
    rw [← hX]
    unfold hallL
    rw [n1]
    rfl
  generalize hH : [O.ins (He.ga A.K "Hall") (hallF A (m.length + 1) path "stamp"), .ins (He.ga A.K "Lists") [("by_store", .cell (m.length + 1 + 1))], .dK [], .ins (He.ga A.K "Forms") [("check", .str "stamp"), ("made", .int 0), ("kept", .int 0), ("by_place", .cell (m.length + 1 + 3))], .dK [], .ins (He.ga A.K "Along") [("word", .str "along")]] = H6 at hX2
  have l6 : H6.length = 6 := by rw [← hH]; rfl
  have st : ∀ i, i < 2 * path.length → X[6 + i]? = (stL A (m.length + 6) path)[i]? := fun i hi => by
    rw [hX2, List.getElem?_append_right (by omega), l6, Nat.add_sub_cancel_left, List.getElem?_append_left (by rw [l]; exact hi)]
  have be : ∀ i, X[6 + 2 * path.length + i]? = ([O.dK (stK (m.length + 6) path), .dK [], .dK []] : M)[i]? := fun i => by
    rw [hX2, List.getElem?_append_right (by omega), l6, show 6 + 2 * path.length + i - 6 = 2 * path.length + i by omega, List.getElem?_append_right (by rw [l]; omega), l, Nat.add_sub_cancel_left]
  have b0 : X[0]? = some (.ins (He.ga A.K "Hall") (hallF A (m.length + 1) path "stamp")) := by rw [hX2, ← hH]; rfl
  have atb : ∀ i, (newM A m path "stamp")[m.length + 6 + 2 * path.length + i]? = ([O.dK (stK (m.length + 6) path), .dK [], .dK []] : M)[i]? := fun i => by
    have := at_ (6 + 2 * path.length + i)
    rw [be] at this
    rw [← this]
    congr 1
    omega
  have low : ∀ p s, newV (m.length + 6) path p = some s → ∃ i, i < path.length ∧ s = ⟨m.length + 6 + 2 * i, m.length + 6 + 2 * i + 1, 0, []⟩ ∧ path[i]? = some p ∧ (newM A m path "stamp")[m.length + 6 + 2 * i]? = some (stO A p 0 (m.length + 6 + 2 * i + 1)) ∧ (newM A m path "stamp")[m.length + 6 + 2 * i + 1]? = some (.dK []) := fun p s hs => by
    obtain ⟨i, hi, e, g1, g2, g3⟩ := newV_at (A := A) h3 hs
    refine ⟨i, hi, e, g3, ?_, ?_⟩
    · have := at_ (6 + 2 * i)
      rw [st _ (by omega), g1] at this
      rw [← this]
      congr 1
      omega
    · have := at_ (6 + (2 * i + 1))
      rw [st _ (by omega), g2] at this
      rw [← this]
      congr 1
      omega
  refine ⟨?_, ?_, ?_, ⟨stK (m.length + 6) path, ?_, ?_, fun p => ?_⟩, fun p s hs => ?_, ⟨?_, ?_⟩, fun p s hs => ?_, fun p r s t hne hs ht => ?_⟩
  · have := at_ 0
    rw [b0] at this
    refine this.trans ?_
    unfold hallF hallO newC
    simp only [Option.some.injEq, O.ins.injEq, true_and]
  · have := atb 1
    show (newM A m path "stamp")[m.length + 7 + 2 * path.length]? = _
    rw [show m.length + 7 + 2 * path.length = m.length + 6 + 2 * path.length + 1 by omega, this]
    rfl
  · have := atb 2
    show (newM A m path "stamp")[m.length + 8 + 2 * path.length]? = _
    rw [show m.length + 8 + 2 * path.length = m.length + 6 + 2 * path.length + 2 by omega, this]
    rfl
  · have := atb 0
    exact this
  · rw [stK_len]; exact hm
  · unfold newV
    cases hv : valK (stK (m.length + 6) path) (.inr p) with
    | none => rfl
    | some d =>
      obtain ⟨i, rfl, _⟩ := stK_at (A := A) path _ p d h3 hv
      rfl
  · obtain ⟨i, hi, rfl, _, g1, g2⟩ := low p s hs
    exact ⟨g1, g2⟩
  · show m.length + 6 + 2 * path.length ≠ m.length + 7 + 2 * path.length
    omega
  · show m.length + 6 + 2 * path.length ≠ m.length + 8 + 2 * path.length
    omega
  · obtain ⟨i, hi, rfl, _, g1, g2⟩ := low p s hs
    show m.length + 6 + 2 * i + 1 ≠ m.length + 6 + 2 * path.length ∧ m.length + 6 + 2 * i + 1 ≠ m.length + 7 + 2 * path.length ∧ m.length + 6 + 2 * i + 1 ≠ m.length + 8 + 2 * path.length
    omega
  · obtain ⟨i, hi, rfl, e1, _, _⟩ := low p s hs
    obtain ⟨k, hk, rfl, e2, _, _⟩ := low r t ht
    have : i ≠ k := fun e => by
      subst e
      rw [e1] at e2
      exact hne (Option.some.inj e2)
    show m.length + 6 + 2 * i + 1 ≠ m.length + 6 + 2 * k + 1 ∧ m.length + 6 + 2 * i ≠ m.length + 6 + 2 * k
    omega
theorem view_new {n : Nat} {P : List Str} : K21.view (newV n P) = fun _ => (0, []) := by
  funext p
  unfold K21.view newV
  split
  · rename_i s h
    split at h
    · cases h; rfl
    · cases h
  · rfl
theorem rel_new {n : Nat} {P : List Str} : Rel (newV n P) [] 0 := Rel.view Rel.new (by rw [view_new]; rfl)
/-- the forms and the finders of a new hall -/
theorem new_hall {path : List Str} {k : Str} : (newM A m path k)[m.length]? = some (.ins (He.ga A.K "Hall") (hallF A (m.length + 1) path k)) := new_at (A := A) (m := m) path k 0
theorem new_forms {path : List Str} {k : Str} : (newM A m path k)[m.length + 3]? = some (.ins (He.ga A.K "Forms") [("check", .str k), ("made", .int 0), ("kept", .int 0), ("by_place", .cell (m.length + 1 + 3))]) := new_at (A := A) (m := m) path k 3
theorem new_along {path : List Str} {k : Str} : (newM A m path k)[m.length + 5]? = some (.ins (He.ga A.K "Along") [("word", .str "along")]) := new_at (A := A) (m := m) path k 5
theorem mk_new (F : Facts A) (G : FactsH A) {path : List Str} {k : Str} (hk : k = "stamp" ∨ k = "sum") (hq : path ∈ newL) : mkObj (He.ga A.K "Hall") (G_Hall_init A) (fun o => [o, .tup (txs path), .str k]) m = .ok (.cell m.length) (newM A m path k) := by
  have pt := pth (A := A) (newL_p hq)
  exact mk_hall F G hk pt.ok (fun p hp => p4_part p (pt.mem p hp)) pt.nod (Nat.le_trans pt.len (by decide))
end
end K21

namespace K21
section
open PySem PySem.Spec L2 DL PU
variable {A : Amb} {m : M} {j : Nat}
theorem s0_ok {e2 e3 e4 e5 e6 e7 : Option D} : ∃ m', S_law_0 A [some .scr, none, e2, e3, e4, e5, e6, e7] m = .nx [some .scr, some (.cell m.length), e2, e3, e4, e5, e6, e7] m' ∧ Pl m.length m' := by
  obtain ⟨v, e⟩ := PU.cell (A := A) (m := m) (k := 0) (by decide)
  have e : K21.G_l_cell A [.scr, .int 0] m = .ok (.int v) m := e
  refine ⟨m ++ [.lst [.int v]], sSet_ok ?_, v, by simp⟩
  have cc : eCall (fun ds m => if ds.length = 2 then G_l_cell A ds m else .no) (aCons (eVar 0) (aCons (eC (.int 0)) aNil)) [some .scr, none, e2, e3, e4, e5, e6, e7] m = .ok (.int v) m := eCall_ok (aCons_ok rfl (aCons_ok rfl (aNil_ap _ _))) ((if_pos rfl).trans e)
  exact eCall_ok (aCons_ok cc (aNil_ap _ _)) (mkC_ap m (by rw [sizeLine_eq]; simp))
theorem s1_ok (hp : Pl j m) {e3 e4 e5 e6 e7 : Option D} : ∃ P m', S_law_1 A [some .scr, some (.cell j), none, e3, e4, e5, e6, e7] m = .nx [some .scr, some (.cell j), some (.tup (txs P)), e3, e4, e5, e6, e7] m' ∧ P ∈ newL ∧ Pl j m' := by
  obtain ⟨r, m1, e1, r0, r1, c1, p1⟩ := tk (A := A) 4 (by decide) (by decide) hp
  obtain ⟨P', hP, ip⟩ : ∃ P', P' ∈ newL ∧ ∀ m : M, ixD (.lst [.tup [], .tup [.str "one"], .tup [.str "one", .str "two"], .tup [.str "three", .str "one", .str "two"]]) (.int r) m = .ok (.tup (txs P')) m := by
    have : r = 0 ∨ r = 1 ∨ r = 2 ∨ r = 3 := by omega
    rcases this with rfl | rfl | rfl | rfl
    · exact ⟨[], by decide +kernel, fun m => PU.ixD_lst (PU.atI_nat (i := 0) rfl)⟩
    · exact ⟨["one"], by decide +kernel, fun m => PU.ixD_lst (PU.atI_nat (i := 1) rfl)⟩
    · exact ⟨["one", "two"], by decide +kernel, fun m => PU.ixD_lst (PU.atI_nat (i := 2) rfl)⟩
    · exact ⟨["three", "one", "two"], by decide +kernel, fun m => PU.ixD_lst (PU.atI_nat (i := 3) rfl)⟩
  have t0 : ∀ env : DL.Env, eCall mkT aNil env m = .ok (.tup []) m := fun env => eCall_ok (aNil_ap _ _) (mkTs (by simp))
  have t1 : ∀ (env : DL.Env) (x : Str), eCall mkT (aCons (eC (.str x)) aNil) env m = .ok (.tup [.str x]) m := fun env x => eCall_ok (aCons_ok rfl (aNil_ap _ _)) (mkTs (by simp))
  have t2 : ∀ (env : DL.Env) (x y : Str), eCall mkT (aCons (eC (.str x)) (aCons (eC (.str y)) aNil)) env m = .ok (.tup [.str x, .str y]) m := fun env x y => eCall_ok (aCons_ok rfl (aCons_ok rfl (aNil_ap _ _))) (mkTs (by simp))
  have t3 : ∀ (env : DL.Env) (x y z : Str), eCall mkT (aCons (eC (.str x)) (aCons (eC (.str y)) (aCons (eC (.str z)) aNil))) env m = .ok (.tup [.str x, .str y, .str z]) m := fun env x y z => eCall_ok (aCons_ok rfl (aCons_ok rfl (aCons_ok rfl (aNil_ap _ _)))) (mkTs (by simp))
  refine ⟨P', m1, sSet_ok ?_, hP, p1⟩
  rw [eOp_ap, eCall_ok (aCons_ok (t0 _) (aCons_ok (t1 _ _) (aCons_ok (t2 _ _ _) (aCons_ok (t3 _ _ _ _) (aNil_ap _ _))))) (mkLs (by simp)), R.bind_ok, tkE rfl rfl e1, R.bind_ok, ip]
theorem mk_path (F : Facts A) (G : FactsH A) {P : List Str} (hP : P ∈ newL) {env : DL.Env} {f : DL.Env → M → R D} (hf : f env m = .ok (.tup (txs P)) m) : eMkP (He.ga A.K "Hall") 0 1 3 [0, 1, 2] [(.str "stamp")] (G_Hall_init A) aNil (aCons f aNil) env m = .ok (.cell m.length) (newM A m P "stamp") := by
  have e := mk_new (m := m) F G (.inl rfl) hP
  unfold eMkP
  rw [aNil_ap, R.bind_ok, aCons_ok hf (aNil_ap _ _), R.bind_ok, if_pos ⟨rfl, rfl, rfl⟩]
  exact e
theorem mk_plain (F : Facts A) (G : FactsH A) {env : DL.Env} : eMkP (He.ga A.K "Hall") 0 0 3 [0, 1, 2] [.tup [], (.str "stamp")] (G_Hall_init A) aNil aNil env m = .ok (.cell m.length) (newM A m [] "stamp") := by
  have e := mk_new (m := m) (path := []) F G (.inl rfl) (by decide +kernel)
  unfold eMkP
  rw [aNil_ap, R.bind_ok, aNil_ap, R.bind_ok, if_pos ⟨rfl, rfl, rfl⟩]
  exact e
theorem mk_sum (F : Facts A) (G : FactsH A) {env : DL.Env} : eMkP (He.ga A.K "Hall") 0 1 3 [0, 2, 1] [.tup []] (G_Hall_init A) aNil (aCons (eC (.str "sum")) aNil) env m = .ok (.cell m.length) (newM A m [] "sum") := by
  have e := mk_new (m := m) (path := []) F G (.inr rfl) (by decide +kernel)
  unfold eMkP
  rw [aNil_ap, R.bind_ok, aCons_ok (eC_ap _ _ _) (aNil_ap _ _), R.bind_ok, if_pos ⟨rfl, rfl, rfl⟩]
  exact e
/-- what a hall tells of its forms -/
theorem check_of (G : FactsH A) {path : List Str} {k : Str} {env : DL.Env} {f : DL.Env → M → R D} {m0 : M} (hf : f env m0 = .ok (.cell m.length) (newM A m path k)) : eFld A.K "check" (eFld A.K "forms" f) env m0 = .ok (.str k) (newM A m path k) := by
  have h1 : objOf (.cell m.length) (newM A m path k) = some (He.ga A.K "Hall", hallF A (m.length + 1) path k) := by rw [objOf_cell, new_hall]
  have h2 : objOf (.cell (m.length + 3)) (newM A m path k) = some (He.ga A.K "Forms", ([("check", .str k), ("made", .int 0), ("kept", .int 0), ("by_place", .cell (m.length + 1 + 3))] : List (Str × D))) := by rw [objOf_cell, new_forms]
  have e1 : eFld A.K "forms" f env m0 = .ok (.cell (m.length + 3)) (newM A m path k) := by
    rw [eFld_ap, hf, R.bind_ok, h1]
    unfold hallF
    simp [G.hf, List.lookup]
  rw [eFld_ap, e1, R.bind_ok, h2]
  simp [G.fc, List.lookup]
theorem hall_made (F : Facts A) (G : FactsH A) (hp : Pl j m) {P : List Str} (hP : P ∈ newL) {e4 e5 e6 e7 : Option D} :
    ∃ (m0 m' : M) (P' : List Str), (∀ k : DL.Env → M → S, (sSeq (S_law_2 A) (sSeq (S_law_5 A) k)) [some .scr, some (.cell j), some (.tup (txs P)), none, e4, e5, e6, e7] m = k [some .scr, some (.cell j), some (.tup (txs P')), some (.cell m0.length), e4, e5, e6, e7] m') ∧ P' ∈ newL ∧ Pl j m' ∧
      Hs A m' (newC m0.length P') 0 P' (newV (m0.length + 6) P') ∧ m'[m0.length]? = some (.ins (He.ga A.K "Hall") (hallF A (m0.length + 1) P' "stamp")) ∧ m'[m0.length + 3]? = some (.ins (He.ga A.K "Forms") [("check", .str "stamp"), ("made", .int 0), ("kept", .int 0), ("by_place", .cell (m0.length + 1 + 3))]) ∧ m'[m0.length + 5]? = some (.ins (He.ga A.K "Along") [("word", .str "along")]) := by
  have s2 : S_law_2 A [some .scr, some (.cell j), some (.tup (txs P)), none, e4, e5, e6, e7] m = .nx [some .scr, some (.cell j), some (.tup (txs P)), some (.cell m.length), e4, e5, e6, e7] (newM A m P "stamp") := sSet_ok (mk_path F G hP rfl)
  have H := new_hl (A := A) (m := m) hP
  have p1 : Pl j (newM A m P "stamp") := pl_app hp _
  have a1 := new_hall (A := A) (m := m) (path := P) (k := "stamp")
  have a2 := new_forms (A := A) (m := m) (path := P) (k := "stamp")
  have a3 := new_along (A := A) (m := m) (path := P) (k := "stamp")
  generalize newM A m P "stamp" = m1 at *
  obtain ⟨r, m2, e2, r0, r1, c2, p2⟩ := tk (A := A) 4 (by decide) (by decide) p1
  have tt : eTest asBl (eOp (eqD false) (eCall (fun ds m => if ds.length = 2 then G_l_take A ds m else .no) (aCons (eVar 1) (aCons (eC (.int 4)) aNil))) (eC (.int 0))) [some .scr, some (.cell j), some (.tup (txs P)), some (.cell m.length), e4, e5, e6, e7] m1 = .ok (decide (r = 0)) m2 := by
    rw [eTest_ap, eOp_ap, tkE rfl rfl e2, R.bind_ok, eC_ap, R.bind_ok]
    simp
  by_cases hr : r = 0
  · have s3 : S_law_3 A [some .scr, some (.cell j), some (.tup (txs P)), some (.cell m.length), e4, e5, e6, e7] m2 = .nx [some .scr, some (.cell j), some (.tup (txs P)), some (.cell m2.length), e4, e5, e6, e7] (newM A m2 [] "stamp") := sSet_ok (mk_plain F G)
    have s4 : S_law_4 A [some .scr, some (.cell j), some (.tup (txs P)), some (.cell m2.length), e4, e5, e6, e7] (newM A m2 [] "stamp") = .nx [some .scr, some (.cell j), some (.tup (txs [])), some (.cell m2.length), e4, e5, e6, e7] (newM A m2 [] "stamp") := sSet_ok (eCall_ok (aNil_ap _ _) (mkTs (by simp)))
    refine ⟨m2, newM A m2 [] "stamp", [], fun k => ?_, by decide +kernel, pl_app p2 _, new_hl (A := A) (m := m2) (by decide +kernel), new_hall, new_forms, new_along⟩
    rw [sSeq_ap, s2, S.bind_nx, sSeq_ap]
    unfold S_law_5
    rw [sIf_ap, tt, R.to_ok, if_pos (decide_eq_true hr), sSeq_ap, s3, S.bind_nx, s4, S.bind_nx]
  · obtain ⟨v, hv⟩ := p1
    obtain ⟨y, rfl⟩ := c2
    refine ⟨m, m1.set j (.lst [.int y]), P, fun k => ?_, hP, p2, H.other hv ⟨by simp, by simp⟩, by rw [get_set (ne_at a1 hv (by simp))]; exact a1, by rw [get_set (ne_at a2 hv (by simp))]; exact a2, by rw [get_set (ne_at a3 hv (by simp))]; exact a3⟩
    rw [sSeq_ap, s2, S.bind_nx, sSeq_ap]
    unfold S_law_5
    rw [sIf_ap, tt, R.to_ok, if_neg (by simpa using hr), sNext_ap, S.bind_nx]
theorem law_8 (G : FactsH A) {h : Nat} {P : List Str} (a1 : m[h]? = some (.ins (He.ga A.K "Hall") (hallF A (h + 1) P "stamp"))) (a2 : m[h + 3]? = some (.ins (He.ga A.K "Forms") [("check", .str "stamp"), ("made", .int 0), ("kept", .int 0), ("by_place", .cell (h + 1 + 3))])) (a3 : m[h + 5]? = some (.ins (He.ga A.K "Along") [("word", .str "along")])) {e1 e2 e4 e5 e6 : Option D} :
    S_law_8 A [some .scr, e1, e2, some (.cell h), e4, e5, e6, none] m = .nx [some .scr, e1, e2, some (.cell h), e4, e5, e6, none] m := by
  have h1 : objOf (.cell h) m = some (He.ga A.K "Hall", hallF A (h + 1) P "stamp") := by rw [objOf_cell, a1]
  have h2 : objOf (.cell (h + 3)) m = some (He.ga A.K "Forms", ([("check", .str "stamp"), ("made", .int 0), ("kept", .int 0), ("by_place", .cell (h + 1 + 3))] : List (Str × D))) := by rw [objOf_cell, a2]
  have h3 : objOf (.cell (h + 5)) m = some (He.ga A.K "Along", ([("word", .str "along")] : List (Str × D))) := by rw [objOf_cell, a3]
  have ff : eFld A.K "finders" (eVar 3) [some .scr, e1, e2, some (.cell h), e4, e5, e6, none] m = .ok (.tup [.cell (h + 5)]) m := by
    rw [eFld_ap, show eVar 3 [some .scr, e1, e2, some (.cell h), e4, e5, e6, none] m = .ok (.cell h) m from rfl, R.bind_ok, h1]
    unfold hallF
    simp [G.hd, List.lookup]
  have fw : eFld A.K "word" (eVar 7) [some .scr, e1, e2, some (.cell h), e4, e5, e6, some (.cell (h + 5))] m = .ok (.str "along") m := by
    rw [eFld_ap, show eVar 7 [some .scr, e1, e2, some (.cell h), e4, e5, e6, some (.cell (h + 5))] m = .ok (.cell (h + 5)) m from rfl, R.bind_ok, h3]
    simp [G.aw, List.lookup]
  have cp : eComp okL [7] (iIt asTup (eFld A.K "finders" (eVar 3))) (gSet 7) bYes (eFld A.K "word" (eVar 7)) [some .scr, e1, e2, some (.cell h), e4, e5, e6, none] m = .ok (.lst [.str "along"]) m := by
    rw [eComp_ap, iIt_ap, ff, R.bind_ok, show asTup (.tup [.cell (h + 5)]) m = .ok [.cell (h + 5)] m from rfl, R.bind_ok]
    show (compD _ _ _ [some .scr, e1, e2, some (.cell h), e4, e5, e6, none] _ [] m).bindS okL = _
    rw [comp_set (k := fun _ => D.str "along") (by rw [sizeLine_eq]; simp) (fun d hd => by
      rw [List.mem_singleton.mp hd]
      exact fw)]
    rfl
  have ec : eFld A.K "check" (eFld A.K "forms" (eVar 3)) [some .scr, e1, e2, some (.cell h), e4, e5, e6, none] m = .ok (.str "stamp") m := by
    have e1' : eFld A.K "forms" (eVar 3) [some .scr, e1, e2, some (.cell h), e4, e5, e6, none] m = .ok (.cell (h + 3)) m := by
      rw [eFld_ap, show eVar 3 [some .scr, e1, e2, some (.cell h), e4, e5, e6, none] m = .ok (.cell h) m from rfl, R.bind_ok, h1]
      unfold hallF
      simp [G.hf, List.lookup]
    rw [eFld_ap, e1', R.bind_ok, h2]
    simp [G.fc, List.lookup]
  have l1 : eCall mkL (aCons (eC (.str "along")) aNil) [some .scr, e1, e2, some (.cell h), e4, e5, e6, none] m = .ok (.lst [.str "along"]) m := eCall_ok (aCons_ok rfl (aNil_ap _ _)) (mkLs (by simp))
  have q1 : eqD true (.lst [.str "along"]) (.lst [.str "along"]) m = .ok (.bl false) m := by kernel_rfl
  have q2 : eqD true (.str "stamp") (.str "stamp") m = .ok (.bl false) m := by simp
  unfold S_law_8
  rw [sIf_ap, bOr_ap, eTest_ap, eOp_ap, cp, R.bind_ok, l1, R.bind_ok, q1, R.bind_ok, show asBl (.bl false) m = .ok false m from rfl, R.bind_ok, if_neg (by simp), eTest_ap, eOp_ap, ec, R.bind_ok, eC_ap, R.bind_ok, q2]
  rfl
section
variable {c : Cl} {sc l n : Nat} {t : Int} {P : List Str} {V : Str → Option Sto} {L : List (List Key × D)}
theorem stands_call (F : Facts A) (G : FactsH A) (F2 : Facts2 A) (H : S4 A m c sc l n t P V L) (hn : n < 64) {env : DL.Env} (h3 : env[3]? = some (some (.cell c.h))) (h4 : env[4]? = some (some (.cell sc))) (h5 : env[5]? = some (some (.cell l))) :
    ∃ m' V', eCall (fun ds m => if ds.length = 4 then G_l_stands A ds m else .no) (aCons (eVar 3) (aCons (eVar 5) (aCons (eOp ixD (eVar 4) (eC (.int 0))) (aCons (eOp ixD (eVar 4) (eC (.int 1))) aNil)))) env m = .ok (.bl true) m' ∧ S4 A m' c sc l n t P V' L := by
  obtain ⟨m', V', e, H', w', k'⟩ := stands_ok F G F2 H.hs H.rel H.lies hn (pth H.path)
  refine ⟨m', V', ?_, ⟨H', H.rel.view w', k'.at_ l _ H.lies (by simp) (by simp), k'.at_ sc _ H.st (by simp) (by simp), H.path⟩⟩
  have v3 : eVar 3 env m = .ok (.cell c.h) m := by rw [eVar_ap, h3]
  have v4 : eVar 4 env m = .ok (.cell sc) m := by rw [eVar_ap, h4]
  have v5 : eVar 5 env m = .ok (.cell l) m := by rw [eVar_ap, h5]
  exact eCall_ok (aCons_ok v3 (aCons_ok v5 (aCons_ok (st_ix0 H v4) (aCons_ok (st_ix1 H v4) (aNil_ap _ _))))) ((if_pos rfl).trans e)
theorem law_turn (F : Facts A) (G : FactsH A) (F2 : Facts2 A) (H : S4 A m c sc l n t P V L) (hn : n < 60) {k : Nat} (hk : k ≤ 60) {e1 e2 e7 : Option D} :
    ∃ m' t' P' V' L', (sSeq (S_law_9 A) (S_law_10 A)) [some .scr, e1, e2, some (.cell c.h), some (.cell sc), some (.cell l), some (.int (k : Int)), e7] m = .nx [some .scr, e1, e2, some (.cell c.h), some (.cell sc), some (.cell l), some (.int (k : Int)), e7] m' ∧ S4 A m' c sc l (n + 1) t' P' V' L' := by
  obtain ⟨m1, V1, q1, H1⟩ := stands_call F G F2 H (by omega) (env := [some .scr, e1, e2, some (.cell c.h), some (.cell sc), some (.cell l), some (.int (k : Int)), e7]) rfl rfl rfl
  have s9 : S_law_9 A [some .scr, e1, e2, some (.cell c.h), some (.cell sc), some (.cell l), some (.int (k : Int)), e7] m = .nx [some .scr, e1, e2, some (.cell c.h), some (.cell sc), some (.cell l), some (.int (k : Int)), e7] m1 := by
    unfold S_law_9
    rw [sIf_ap, bNot_ap, eTest_ap, q1, R.bind_ok]
    rfl
  obtain ⟨v, ev⟩ := PU.cell (A := A) (m := m1) (k := 1 + k) (by omega)
  have ev : K21.G_l_cell A [.scr, .int (1 + (k : Int))] m1 = .ok (.int v) m1 := by
    have c' : ((1 + k : Nat) : Int) = 1 + (k : Int) := by omega
    rw [← c']; exact ev
  have H2 : S4 A (m1 ++ [.lst [.int v]]) c sc l n t P V1 L := ⟨H1.hs.app _, H1.rel, get_app H1.lies _, get_app H1.st _, H1.path⟩
  have p2 : Pl m1.length (m1 ++ [.lst [.int v]]) := ⟨v, by simp⟩
  obtain ⟨m3, t', P', V', L', q3, H3⟩ := deed_ok F G H2 hn p2 (by have := lt_of_get H1.st; omega)
  have cc : eCall (fun ds m => if ds.length = 2 then G_l_cell A ds m else .no) (aCons (eVar 0) (aCons (eOp addD (eC (.int 1)) (eVar 6)) aNil)) [some .scr, e1, e2, some (.cell c.h), some (.cell sc), some (.cell l), some (.int (k : Int)), e7] m1 = .ok (.int v) m1 := eCall_ok (aCons_ok rfl (aCons_ok (d := .int (1 + (k : Int))) rfl (aNil_ap _ _))) ((if_pos rfl).trans ev)
  have mc : eCall mkC (aCons (eCall (fun ds m => if ds.length = 2 then G_l_cell A ds m else .no) (aCons (eVar 0) (aCons (eOp addD (eC (.int 1)) (eVar 6)) aNil))) aNil) [some .scr, e1, e2, some (.cell c.h), some (.cell sc), some (.cell l), some (.int (k : Int)), e7] m1 = .ok (.cell m1.length) (m1 ++ [.lst [.int v]]) := eCall_ok (aCons_ok cc (aNil_ap _ _)) (mkC_ap m1 (by rw [sizeLine_eq]; simp))
  have dc : eCall (fun ds m => if ds.length = 4 then G_l_deed A ds m else .no) (aCons (eCall mkC (aCons (eCall (fun ds m => if ds.length = 2 then G_l_cell A ds m else .no) (aCons (eVar 0) (aCons (eOp addD (eC (.int 1)) (eVar 6)) aNil))) aNil)) (aCons (eVar 3) (aCons (eVar 5) (aCons (eVar 4) aNil)))) [some .scr, e1, e2, some (.cell c.h), some (.cell sc), some (.cell l), some (.int (k : Int)), e7] m1 = .ok (.bl true) m3 := eCall_ok (aCons_ok mc (aCons_ok rfl (aCons_ok rfl (aCons_ok rfl (aNil_ap _ _))))) ((if_pos rfl).trans q3)
  refine ⟨m3, t', P', V', L', ?_, H3⟩
  rw [sSeq_ap, s9, S.bind_nx]
  unfold S_law_10
  rw [sIf_ap, bNot_ap, eTest_ap, dc, R.bind_ok]
  rfl
end
theorem law_all (F : Facts A) (G : FactsH A) (F2 : Facts2 A) (m : M) : ∃ m', G_law A [.scr] m = .ok (.bl true) m' := by
  obtain ⟨m1, s0, p1⟩ := s0_ok (A := A) (m := m) (e2 := none) (e3 := none) (e4 := none) (e5 := none) (e6 := none) (e7 := none)
  obtain ⟨P0, m2, s1, hP0, p2⟩ := s1_ok (A := A) p1 (e3 := none) (e4 := none) (e5 := none) (e6 := none) (e7 := none)
  obtain ⟨m0, m3, P, sk, hP, p3, H3, a1, a2, a3⟩ := hall_made F G p2 hP0 (e4 := none) (e5 := none) (e6 := none) (e7 := none)
  generalize m.length = j at *
  have pj := p3.lt
  -- the law's own cells
  have H5 := (H3.app [.lst [.int 0, .tup (txs P)]]).app [.dT []]
  have x1 : (m3 ++ [O.lst [.int 0, .tup (txs P)]] ++ [.dT []])[m3.length]? = some (.lst [.int 0, .tup (txs P)]) := by rw [List.append_assoc, get_end0]; rfl
  have x2 : (m3 ++ [O.lst [.int 0, .tup (txs P)]] ++ [.dT []])[m3.length + 1]? = some (.dT []) := by rw [List.append_assoc, get_endS]; rfl
  have p5 : Pl j (m3 ++ [O.lst [.int 0, .tup (txs P)]] ++ [.dT []]) := pl_app (pl_app p3 _) _
  have b1 := get_app (get_app a1 [O.lst [.int 0, .tup (txs P)]]) [.dT []]
  have b2 := get_app (get_app a2 [O.lst [.int 0, .tup (txs P)]]) [.dT []]
  have b3 := get_app (get_app a3 [O.lst [.int 0, .tup (txs P)]]) [.dT []]
  have S5 : S4 A (m3 ++ [O.lst [.int 0, .tup (txs P)]] ++ [.dT []]) (newC m0.length P) m3.length (m3.length + 1) 0 0 P (newV (m0.length + 6) P) [] := ⟨H5, rel_new, x2, x1, newL_p hP⟩
  have l4 : m3.length + 1 = (m3 ++ [O.lst [.int 0, .tup (txs P)]]).length := by simp
  have s6 : S_law_6 A [some .scr, some (.cell j), some (.tup (txs P)), some (.cell m0.length), none, none, none, none] m3 = .nx [some .scr, some (.cell j), some (.tup (txs P)), some (.cell m0.length), some (.cell m3.length), none, none, none] (m3 ++ [O.lst [.int 0, .tup (txs P)]]) := sSet_ok (eCall_ok (aCons_ok rfl (aCons_ok rfl (aNil_ap _ _))) (mkC_ap m3 (by rw [sizeLine_eq]; simp)))
  have s7 : S_law_7 A [some .scr, some (.cell j), some (.tup (txs P)), some (.cell m0.length), some (.cell m3.length), none, none, none] (m3 ++ [O.lst [.int 0, .tup (txs P)]]) = .nx [some .scr, some (.cell j), some (.tup (txs P)), some (.cell m0.length), some (.cell m3.length), some (.cell (m3.length + 1)), none, none] (m3 ++ [O.lst [.int 0, .tup (txs P)]] ++ [.dT []]) := sSet_ok (by rw [l4]; rfl)
  have s8 := law_8 (A := A) G b1 b2 b3 (e1 := some (.cell j)) (e2 := some (.tup (txs P))) (e4 := some (.cell m3.length)) (e5 := some (.cell (m3.length + 1))) (e6 := none)
  generalize m3 ++ [O.lst [.int 0, .tup (txs P)]] ++ [.dT []] = m5 at *
  obtain ⟨b, m6, e6, r0, r1, c6, p6⟩ := tk (A := A) 30 (by decide) (by decide) p5
  have S6 := S5.ch p5 c6 (by omega)
  have hr : rng1 [.int (1 + b)] m6 = .ok (intsD 0 (1 + b).toNat) m6 := PU.rng1_ap (by omega)
  have hlen : (intsD 0 (1 + b).toNat).length = (1 + b).toNat := by simp [intsD]
  obtain ⟨env, m7, e7, i7⟩ := loop_inv (put := gSet 6) (body := sSeq (S_law_9 A) (S_law_10 A)) (I := fun i env m' => ∃ e6 t V P' L, env = [some .scr, some (.cell j), some (.tup (txs P)), some (.cell m0.length), some (.cell m3.length), some (.cell (m3.length + 1)), e6, none] ∧ S4 A m' (newC m0.length P) m3.length (m3.length + 1) i t P' V L) (intsD 0 (1 + b).toNat) 0 [some .scr, some (.cell j), some (.tup (txs P)), some (.cell m0.length), some (.cell m3.length), some (.cell (m3.length + 1)), none, none] m6 ⟨none, 0, _, P, [], rfl, S6⟩ (fun i d env m' hd hI => by
    obtain ⟨e6, t, V, P', L, rfl, HS⟩ := hI
    have hi : i < (1 + b).toNat := by rw [← hlen]; exact (List.getElem?_eq_some_iff.mp hd).1
    have hd : d = .int (i : Int) := by
      have : (intsD 0 (1 + b).toNat)[i]? = some (.int (0 + (i : Int))) := by simp [intsD, hi]
      rw [this, Int.zero_add] at hd
      exact (Option.some.inj hd).symm
    subst hd
    rw [Nat.zero_add] at HS
    obtain ⟨m8, t', P2, V', L', q, HS'⟩ := law_turn F G F2 HS (by omega) (k := i) (by omega) (e1 := some (.cell j)) (e2 := some (.tup (txs P))) (e7 := none)
    rw [Nat.zero_add]
    exact ⟨[some .scr, some (.cell j), some (.tup (txs P)), some (.cell m0.length), some (.cell m3.length), some (.cell (m3.length + 1)), some (.int (i : Int)), none], [some .scr, some (.cell j), some (.tup (txs P)), some (.cell m0.length), some (.cell m3.length), some (.cell (m3.length + 1)), some (.int (i : Int)), none], m8, rfl, q, some (.int (i : Int)), t', V', P2, L', rfl, HS'⟩)
  obtain ⟨e6', t, V, P', L, rfl, S7⟩ := i7
  rw [Nat.zero_add, hlen] at S7
  obtain ⟨m9, V9, q9, S9⟩ := stands_call F G F2 S7 (by omega) (env := [some .scr, some (.cell j), some (.tup (txs P)), some (.cell m0.length), some (.cell m3.length), some (.cell (m3.length + 1)), e6', none]) rfl rfl rfl
  have it : (iArgs rng1 (aCons (eOp addD (eC (.int 1)) (eCall (fun ds m => if ds.length = 2 then G_l_take A ds m else .no) (aCons (eVar 1) (aCons (eC (.int 30)) aNil)))) aNil)) [some .scr, some (.cell j), some (.tup (txs P)), some (.cell m0.length), some (.cell m3.length), some (.cell (m3.length + 1)), none, none] m5 = .ok (intsD 0 (1 + b).toNat) m6 := by
    rw [iArgs_ap, aCons_ok (d := .int (1 + b)) (by rw [eOp_ap, eC_ap, R.bind_ok, tkE rfl rfl e6, R.bind_ok]; rfl) (aNil_ap _ _), R.bind_ok, hr]
  have ck := check_of (A := A) G (mk_sum (m := m9) F G (env := [some .scr, some (.cell j), some (.tup (txs P)), some (.cell m0.length), some (.cell m3.length), some (.cell (m3.length + 1)), e6', none]))
  refine ⟨newM A m9 [] "sum", ?_⟩
  show retS (sSeq (S_law_0 A) (sSeq (S_law_1 A) (sSeq (S_law_2 A) (sSeq (S_law_5 A) (sSeq (S_law_6 A) (sSeq (S_law_7 A) (sSeq (S_law_8 A) (sSeq (S_law_11 A) (sRet _)))))))) [some .scr, none, none, none, none, none, none, none] m) = _
  rw [sSeq_ap, s0, S.bind_nx, sSeq_ap, s1, S.bind_nx, sk, sSeq_ap, s6, S.bind_nx, sSeq_ap, s7, S.bind_nx, sSeq_ap, s8, S.bind_nx, sSeq_ap]
  unfold S_law_11
  rw [sFor_ap, it, R.to_ok, e7, S.bind_nx, sRet_ap, eAnd_ap, q9, R.bind_ok, asTru_bl, R.bind_ok, if_pos rfl, eOp_ap, ck, R.bind_ok, eC_ap, R.bind_ok, show eqD false (.str "sum") (.str "sum") (newM A m9 [] "sum") = .ok (.bl true) (newM A m9 [] "sum") by simp]
  rfl
end
end K21

namespace K21
open PySem PySem.Spec L2 DL PU
theorem law_true (A : Amb) (h : A.ns.length ≤ 63) (hx : (clsB A.K (He.ga A.K "Hall") "clock" && (clsB A.K (He.ga A.K "Hall") "lists" && (clsB A.K (He.ga A.K "Hall") "forms" && (clsB A.K (He.ga A.K "Hall") "finders" && (clsB A.K (He.ga A.K "Hall") "path" && (clsB A.K (He.ga A.K "Hall") "log" && (clsB A.K (He.ga A.K "Hall") "stores" && (clsB A.K (He.ga A.K "Hall") "table" && (clsB A.K (He.ga A.K "Hall") "by_hand" && (clsB A.K (He.ga A.K "Hall") "marks" && (clsB A.K (He.ga A.K "Hall") "texts" && (clsB A.K (He.ga A.K "Lists") "by_store" && (clsB A.K (He.ga A.K "Forms") "check" && (clsB A.K (He.ga A.K "Forms") "made" && (clsB A.K (He.ga A.K "Forms") "kept" && (clsB A.K (He.ga A.K "Forms") "by_place" && (clsB A.K (He.ga A.K "Along") "word" && (clsB A.K (He.ga A.K "Store") "name" && (clsB A.K (He.ga A.K "Store") "changed" && (clsB A.K (He.ga A.K "Store") "entries" && (isoB A.K (He.ga A.K "Store") && decide (PySem.W.kitOne A.K (.ref (He.ga A.K "Store")) (.ref (He.ga A.K "Store")) = some true)))))))))))))))))))))) = true) : ∃ m', G_law A [.scr] [] = .ok (.bl true) m' := by
  simp only [Bool.and_eq_true] at hx
  obtain ⟨h1, h2, h3, h4, h5, h6, h7, h8, h9, h10, h11, h12, h13, h14, h15, h16, h17, h18, h19, h20, h21, h22⟩ := hx
  exact law_all ⟨h7, h2, h5, h12, h18, h19, h20⟩ ⟨h1, h2, h3, h4, h5, h6, h7, h8, h9, h10, h11, h12, h13, h14, h15, h16, h17⟩ ⟨h21, of_decide_eq_true h22⟩ []
end K21

namespace K21
open PySem PySem.Spec PyProof.Rows L2 DL
theorem facts {P : Program} {w : World} {K : PySem.W.Frag} {h : Heap} {mg : Str → Option Value} {f : Addr} (X : K.In h) (G : h.Ns mainGlobals mg) (hfa : mg ("law" : Str) = some (.ref f)) (cx : SaysX Q21.ex Q21.fa Q21.fn K) :
    ∃ fd : FuncData, (∀ (s : Shared) (v : Value), BindsTo s fd ⟨[v], []⟩ [("_law_script", v)]) ∧ ∀ base : Heap, K.In base → base.Ns mainGlobals mg → ∀ q : Addr × List Int, FnOk P w K mg base (L2.CX P w) 8 f fd ["_law_script"] (spD ⟨K, q.1, q.2⟩ 1 (G_law ⟨K, q.1, q.2⟩)) := by
  obtain ⟨hex, c⟩ := cx
  have hex := Bool.and_eq_true_iff.mp hex
  have T : Txt K mg := ⟨He.free_ok X G (c.fact 33 (f := .free "LookupError") rfl),
    He.free_ok X G (c.fact 34 (f := .free "ValueError") rfl),
    He.free_ok X G (c.fact 35 (f := .free "all") rfl),
    He.free_ok X G (c.fact 36 (f := .free "bool") rfl),
    He.free_ok X G (c.fact 37 (f := .free "int") rfl),
    He.free_ok X G (c.fact 38 (f := .free "isinstance") rfl),
    He.free_ok X G (c.fact 39 (f := .free "len") rfl),
    He.free_ok X G (c.fact 40 (f := .free "range") rfl),
    He.free_ok X G (c.fact 41 (f := .free "set") rfl),
    He.free_ok X G (c.fact 42 (f := .free "sorted") rfl),
    He.free_ok X G (c.fact 43 (f := .free "str") rfl),
    He.free_ok X G (c.fact 44 (f := .free "tuple") rfl),
    He.int_ok X G (c.fact 45 (f := .int "MOST_LETTERS" 8) rfl),
    He.int_ok X G (c.fact 46 (f := .int "MOST_PARTS" 4) rfl),
    tupB_ok (Bool.and_eq_true_iff.mp (Bool.and_eq_true_iff.mp (Bool.and_eq_true_iff.mp (Bool.and_eq_true_iff.mp (Bool.and_eq_true_iff.mp (Bool.and_eq_true_iff.mp hex.1).2).2).2).2).2).1,
    He.glo_ok X G (c.fact 70 (f := .glo "CHECKS") rfl),
    tupB_ok (Bool.and_eq_true_iff.mp (Bool.and_eq_true_iff.mp (Bool.and_eq_true_iff.mp (Bool.and_eq_true_iff.mp (Bool.and_eq_true_iff.mp (Bool.and_eq_true_iff.mp hex.1).2).2).2).2).2).2,
    He.glo_ok X G (c.fact 47 (f := .glo "NoLine") rfl),
    He.glo_ok X G (c.fact 48 (f := .glo "NoName") rfl),
    He.glo_ok X G (c.fact 49 (f := .glo "NoStore") rfl),
    He.glo_ok X G (c.fact 50 (f := .glo "Store") rfl),
    errVB_ok (List.all_eq_true.mp (Bool.and_eq_true_iff.mp hex.1).1 "NoLine" (by decide)) (He.glo_ok X G (c.fact 47 (f := .glo "NoLine") rfl)),
    errVB_ok (List.all_eq_true.mp (Bool.and_eq_true_iff.mp hex.1).1 "NoName" (by decide)) (He.glo_ok X G (c.fact 48 (f := .glo "NoName") rfl)),
    errVB_ok (List.all_eq_true.mp (Bool.and_eq_true_iff.mp hex.1).1 "NoStore" (by decide)) (He.glo_ok X G (c.fact 49 (f := .glo "NoStore") rfl)),
    bn_LE (Bool.and_eq_true_iff.mp (Bool.and_eq_true_iff.mp (Bool.and_eq_true_iff.mp (Bool.and_eq_true_iff.mp hex.1).2).2).2).1 (He.free_ok X G (c.fact 33 (f := .free "LookupError") rfl)),
    bn_VE (Bool.and_eq_true_iff.mp (Bool.and_eq_true_iff.mp (Bool.and_eq_true_iff.mp (Bool.and_eq_true_iff.mp (Bool.and_eq_true_iff.mp hex.1).2).2).2).2).1 (He.free_ok X G (c.fact 34 (f := .free "ValueError") rfl))⟩
  obtain ⟨fd_is_part, F_is_part⟩ := c.def_ 0 (d := Q21.d_is_part) rfl
  obtain ⟨fd_check_path, F_check_path⟩ := c.def_ 1 (d := Q21.d_check_path) rfl
  obtain ⟨fd_Lists_init, F_Lists_init⟩ := c.def_ 2 (d := Q21.d_Lists_init) rfl
  obtain ⟨fd_Forms_init, F_Forms_init⟩ := c.def_ 3 (d := Q21.d_Forms_init) rfl
  obtain ⟨fd_Along_init, F_Along_init⟩ := c.def_ 4 (d := Q21.d_Along_init) rfl
  obtain ⟨fd_Store_init, F_Store_init⟩ := c.def_ 5 (d := Q21.d_Store_init) rfl
  obtain ⟨fd_Hall_init, F_Hall_init⟩ := c.def_ 6 (d := Q21.d_Hall_init) rfl
  obtain ⟨fd_l_mixed, F_l_mixed⟩ := c.def_ 7 (d := Q21.d_l_mixed) rfl
  obtain ⟨fd_l_cell, F_l_cell⟩ := c.def_ 8 (d := Q21.d_l_cell) rfl
  obtain ⟨fd_l_take, F_l_take⟩ := c.def_ 9 (d := Q21.d_l_take) rfl
  obtain ⟨fd_Hall_store_or_new, F_Hall_store_or_new⟩ := c.def_ 10 (d := Q21.d_Hall_store_or_new) rfl
  obtain ⟨fd_Hall_store, F_Hall_store⟩ := c.def_ 11 (d := Q21.d_Hall_store) rfl
  obtain ⟨fd_Store_names, F_Store_names⟩ := c.def_ 12 (d := Q21.d_Store_names) rfl
  obtain ⟨fd_Hall_told, F_Hall_told⟩ := c.def_ 13 (d := Q21.d_Hall_told) rfl
  obtain ⟨fd_Hall_hands, F_Hall_hands⟩ := c.def_ 14 (d := Q21.d_Hall_hands) rfl
  obtain ⟨fd_is_name, F_is_name⟩ := c.def_ 15 (d := Q21.d_is_name) rfl
  obtain ⟨fd_check_name, F_check_name⟩ := c.def_ 16 (d := Q21.d_check_name) rfl
  obtain ⟨fd_Store_entry, F_Store_entry⟩ := c.def_ 17 (d := Q21.d_Store_entry) rfl
  obtain ⟨fd_l_stands, F_l_stands⟩ := c.def_ 18 (d := Q21.d_l_stands) rfl
  obtain ⟨fd_l_text_drawn, F_l_text_drawn⟩ := c.def_ 19 (d := Q21.d_l_text_drawn) rfl
  obtain ⟨fd_NoBody_init, F_NoBody_init⟩ := c.def_ 20 (d := Q21.d_NoBody_init) rfl
  obtain ⟨fd_Store_put, F_Store_put⟩ := c.def_ 21 (d := Q21.d_Store_put) rfl
  obtain ⟨fd_Hall_put, F_Hall_put⟩ := c.def_ 22 (d := Q21.d_Hall_put) rfl
  obtain ⟨fd_l_part_drawn, F_l_part_drawn⟩ := c.def_ 23 (d := Q21.d_l_part_drawn) rfl
  obtain ⟨fd_l_name_drawn, F_l_name_drawn⟩ := c.def_ 24 (d := Q21.d_l_name_drawn) rfl
  obtain ⟨fd_is_number_from, F_is_number_from⟩ := c.def_ 25 (d := Q21.d_is_number_from) rfl
  obtain ⟨fd_Hall_tick, F_Hall_tick⟩ := c.def_ 26 (d := Q21.d_Hall_tick) rfl
  obtain ⟨fd_Hall_set_path, F_Hall_set_path⟩ := c.def_ 27 (d := Q21.d_Hall_set_path) rfl
  obtain ⟨fd_NotFound_init, F_NotFound_init⟩ := c.def_ 28 (d := Q21.d_NotFound_init) rfl
  obtain ⟨fd_Store_take, F_Store_take⟩ := c.def_ 29 (d := Q21.d_Store_take) rfl
  obtain ⟨fd_Hall_take, F_Hall_take⟩ := c.def_ 30 (d := Q21.d_Hall_take) rfl
  obtain ⟨fd_l_deed, F_l_deed⟩ := c.def_ 31 (d := Q21.d_l_deed) rfl
  obtain ⟨fd_law, F_law⟩ := c.def_ 32 (d := Q21.d_law) rfl
  have e := hfa.symm.trans (He.glo_ok X G (c.fact 32 (f := .glo "law") rfl))
  cases e
  have b := FunD.bindsA (ps := ["_law_script"]) F_law fun _ _ _ _ _ _ us hl => match us, hl with | [_], _ => rfl
  refine ⟨fd_law, fun s v => b s [v] rfl, fun base _ _ q => ?_⟩
  have o_is_part : OwnX P w ⟨K, q.1, q.2⟩ mg base "is_part" ["thing"] 1 (G_is_part ⟨K, q.1, q.2⟩) _ fd_is_part := ⟨He.glo_ok X G (c.fact 0 (f := .glo "is_part") rfl), F_is_part.kp, FunD.bindsN F_is_part fun _ _ _ _ _ _ us hl => match us, hl with | [_], _ => rfl, ok_is_part (A := ⟨K, q.1, q.2⟩) T F_is_part ⟩
  have o_check_path : OwnX P w ⟨K, q.1, q.2⟩ mg base "check_path" ["path"] 2 (G_check_path ⟨K, q.1, q.2⟩) _ fd_check_path := ⟨He.glo_ok X G (c.fact 1 (f := .glo "check_path") rfl), F_check_path.kp, FunD.bindsN F_check_path fun _ _ _ _ _ _ us hl => match us, hl with | [_], _ => rfl, ok_check_path (A := ⟨K, q.1, q.2⟩) T F_check_path o_is_part⟩
  have o_Lists_init : OwnI P w ⟨K, q.1, q.2⟩ mg base "Lists" ["self"] 1 (G_Lists_init ⟨K, q.1, q.2⟩) _ fd_Lists_init := ⟨He.glo_ok X G (c.fact 2 (f := .glo "Lists") rfl), He.mkr_ok (c.fact 51 (f := .mkr "Lists") rfl), ok_Lists_init (A := ⟨K, q.1, q.2⟩) T F_Lists_init ⟩
  have kb_Lists_init_1_ : KBp K fd_Lists_init ["self"] 1 [] [0] [] := kb_all F_Lists_init 1 [] [0] fun _ _ _ _ _ _ us ws h1 h2 => match us, ws, h1, h2 with | [_], [], _, _ => rfl
  have o_Forms_init : OwnI P w ⟨K, q.1, q.2⟩ mg base "Forms" ["self", "check"] 1 (G_Forms_init ⟨K, q.1, q.2⟩) _ fd_Forms_init := ⟨He.glo_ok X G (c.fact 3 (f := .glo "Forms") rfl), He.mkr_ok (c.fact 52 (f := .mkr "Forms") rfl), ok_Forms_init (A := ⟨K, q.1, q.2⟩) T F_Forms_init ⟩
  have kb_Forms_init_1_check : KBp K fd_Forms_init ["self", "check"] 1 ["check"] [0, 1] [] := kb_all F_Forms_init 1 ["check"] [0, 1] fun _ _ _ _ _ _ us ws h1 h2 => match us, ws, h1, h2 with | [_], [_], _, _ => rfl
  have o_Along_init : OwnI P w ⟨K, q.1, q.2⟩ mg base "Along" ["self"] 1 (G_Along_init ⟨K, q.1, q.2⟩) _ fd_Along_init := ⟨He.glo_ok X G (c.fact 4 (f := .glo "Along") rfl), He.mkr_ok (c.fact 53 (f := .mkr "Along") rfl), ok_Along_init (A := ⟨K, q.1, q.2⟩) T F_Along_init ⟩
  have kb_Along_init_1_ : KBp K fd_Along_init ["self"] 1 [] [0] [] := kb_all F_Along_init 1 [] [0] fun _ _ _ _ _ _ us ws h1 h2 => match us, ws, h1, h2 with | [_], [], _, _ => rfl
  have o_Store_init : OwnI P w ⟨K, q.1, q.2⟩ mg base "Store" ["self", "name"] 2 (G_Store_init ⟨K, q.1, q.2⟩) _ fd_Store_init := ⟨He.glo_ok X G (c.fact 5 (f := .glo "Store") rfl), He.mkr_ok (c.fact 54 (f := .mkr "Store") rfl), ok_Store_init (A := ⟨K, q.1, q.2⟩) T F_Store_init o_is_part⟩
  have kb_Store_init_2_ : KBp K fd_Store_init ["self", "name"] 2 [] [0, 1] [] := kb_all F_Store_init 2 [] [0, 1] fun _ _ _ _ _ _ us ws h1 h2 => match us, ws, h1, h2 with | [_, _], [], _, _ => rfl
  have o_Hall_init : OwnI P w ⟨K, q.1, q.2⟩ mg base "Hall" ["self", "path", "check"] 4 (G_Hall_init ⟨K, q.1, q.2⟩) _ fd_Hall_init := ⟨He.glo_ok X G (c.fact 6 (f := .glo "Hall") rfl), He.mkr_ok (c.fact 55 (f := .mkr "Hall") rfl), ok_Hall_init (A := ⟨K, q.1, q.2⟩) T F_Hall_init o_check_path o_Lists_init o_Forms_init o_Along_init o_Store_init kb_Lists_init_1_ kb_Forms_init_1_check kb_Along_init_1_ kb_Store_init_2_⟩
  have kb_Hall_init_1_path : KBp K fd_Hall_init ["self", "path", "check"] 1 ["path"] [0, 1, 2] [.str "stamp"] := kb_miss F_Hall_init 1 ["path"] [0, 1, 2] [("check", .str "stamp")] (by simp [Q21.d_Hall_init, He.DefD.kws]) (by simp [Q21.d_Hall_init, He.DefD.kws, He.Dv.v]) fun _ _ _ _ _ _ us ws mv h1 h2 h3 => match us, ws, mv, h1, h2, h3 with | [_], [_], [_], _, _, _ => ⟨_, _, _, _, _, _, rfl, rfl, rfl⟩
  have kb_Hall_init_1_ : KBp K fd_Hall_init ["self", "path", "check"] 1 [] [0, 1, 2] [.ref (dfA K "Hall" "path"), .str "stamp"] := kb_miss F_Hall_init 1 [] [0, 1, 2] [("path", .ref (dfA K "Hall" "path")), ("check", .str "stamp")] (by simp [Q21.d_Hall_init, He.DefD.kws]) (by simp [Q21.d_Hall_init, He.DefD.kws, He.Dv.v]) fun _ _ _ _ _ _ us ws mv h1 h2 h3 => match us, ws, mv, h1, h2, h3 with | [_], [], [_, _], _, _, _ => ⟨_, _, _, _, _, _, rfl, rfl, ⟨_, _, _, _, _, _, rfl, rfl, rfl⟩⟩
  have kb_Hall_init_1_check : KBp K fd_Hall_init ["self", "path", "check"] 1 ["check"] [0, 2, 1] [.ref (dfA K "Hall" "path")] := kb_miss F_Hall_init 1 ["check"] [0, 2, 1] [("path", .ref (dfA K "Hall" "path"))] (by simp [Q21.d_Hall_init, He.DefD.kws]) (by simp [Q21.d_Hall_init, He.DefD.kws, He.Dv.v]) fun _ _ _ _ _ _ us ws mv h1 h2 h3 => match us, ws, mv, h1, h2, h3 with | [_], [_], [_], _, _, _ => ⟨_, _, _, _, _, _, rfl, rfl, rfl⟩
  have o_l_mixed : OwnX P w ⟨K, q.1, q.2⟩ mg base "_law_mixed" ["_law_cell_here", "_law_k"] 1 (G_l_mixed ⟨K, q.1, q.2⟩) _ fd_l_mixed := ⟨He.glo_ok X G (c.fact 7 (f := .glo "_law_mixed") rfl), F_l_mixed.kp, FunD.bindsN F_l_mixed fun _ _ _ _ _ _ us hl => match us, hl with | [_, _], _ => rfl, ok_l_mixed (A := ⟨K, q.1, q.2⟩) T F_l_mixed ⟩
  have o_l_cell : OwnX P w ⟨K, q.1, q.2⟩ mg base "_law_cell" ["_law_script", "_law_k"] 2 (G_l_cell ⟨K, q.1, q.2⟩) _ fd_l_cell := ⟨He.glo_ok X G (c.fact 8 (f := .glo "_law_cell") rfl), F_l_cell.kp, FunD.bindsN F_l_cell fun _ _ _ _ _ _ us hl => match us, hl with | [_, _], _ => rfl, ok_l_cell (A := ⟨K, q.1, q.2⟩) T F_l_cell o_l_mixed⟩
  have o_l_take : OwnX P w ⟨K, q.1, q.2⟩ mg base "_law_take" ["_law_pile", "_law_size"] 1 (G_l_take ⟨K, q.1, q.2⟩) _ fd_l_take := ⟨He.glo_ok X G (c.fact 9 (f := .glo "_law_take") rfl), F_l_take.kp, FunD.bindsN F_l_take fun _ _ _ _ _ _ us hl => match us, hl with | [_, _], _ => rfl, ok_l_take (A := ⟨K, q.1, q.2⟩) T F_l_take ⟩
  have o_Hall_store_or_new : OwnM P w ⟨K, q.1, q.2⟩ mg base "Hall" "store_or_new" ["self", "part"] 4 (G_Hall_store_or_new ⟨K, q.1, q.2⟩) _ fd_Hall_store_or_new := ⟨He.cls_ok (c.fact 56 (f := .cls "Hall") rfl), He.meth_ok (c.fact 58 (f := .meth "Hall" "store_or_new") rfl), ok_Hall_store_or_new (A := ⟨K, q.1, q.2⟩) T F_Hall_store_or_new o_is_part o_Store_init kb_Store_init_2_⟩
  have kb_Hall_store_or_new_2_ : KBp K fd_Hall_store_or_new ["self", "part"] 2 [] [0, 1] [] := kb_all F_Hall_store_or_new 2 [] [0, 1] fun _ _ _ _ _ _ us ws h1 h2 => match us, ws, h1, h2 with | [_, _], [], _, _ => rfl
  have o_Hall_store : OwnM P w ⟨K, q.1, q.2⟩ mg base "Hall" "store" ["self", "part"] 5 (G_Hall_store ⟨K, q.1, q.2⟩) _ fd_Hall_store := ⟨He.cls_ok (c.fact 56 (f := .cls "Hall") rfl), He.meth_ok (c.fact 59 (f := .meth "Hall" "store") rfl), ok_Hall_store (A := ⟨K, q.1, q.2⟩) T F_Hall_store o_Hall_store_or_new kb_Hall_store_or_new_2_⟩
  have kb_Hall_store_2_ : KBp K fd_Hall_store ["self", "part"] 2 [] [0, 1] [] := kb_all F_Hall_store 2 [] [0, 1] fun _ _ _ _ _ _ us ws h1 h2 => match us, ws, h1, h2 with | [_, _], [], _, _ => rfl
  have kb_Hall_store_1_part : KBp K fd_Hall_store ["self", "part"] 1 ["part"] [0, 1] [] := kb_all F_Hall_store 1 ["part"] [0, 1] fun _ _ _ _ _ _ us ws h1 h2 => match us, ws, h1, h2 with | [_], [_], _, _ => rfl
  have o_Store_names : OwnM P w ⟨K, q.1, q.2⟩ mg base "Store" "names" ["self"] 1 (G_Store_names ⟨K, q.1, q.2⟩) _ fd_Store_names := ⟨He.cls_ok (c.fact 57 (f := .cls "Store") rfl), He.meth_ok (c.fact 60 (f := .meth "Store" "names") rfl), ok_Store_names (A := ⟨K, q.1, q.2⟩) T F_Store_names ⟩
  have kb_Store_names_1_ : KBp K fd_Store_names ["self"] 1 [] [0] [] := kb_all F_Store_names 1 [] [0] fun _ _ _ _ _ _ us ws h1 h2 => match us, ws, h1, h2 with | [_], [], _, _ => rfl
  have o_Hall_told : OwnM P w ⟨K, q.1, q.2⟩ mg base "Hall" "told" ["self"] 1 (G_Hall_told ⟨K, q.1, q.2⟩) _ fd_Hall_told := ⟨He.cls_ok (c.fact 56 (f := .cls "Hall") rfl), He.meth_ok (c.fact 61 (f := .meth "Hall" "told") rfl), ok_Hall_told (A := ⟨K, q.1, q.2⟩) T F_Hall_told ⟩
  have kb_Hall_told_1_ : KBp K fd_Hall_told ["self"] 1 [] [0] [] := kb_all F_Hall_told 1 [] [0] fun _ _ _ _ _ _ us ws h1 h2 => match us, ws, h1, h2 with | [_], [], _, _ => rfl
  have o_Hall_hands : OwnM P w ⟨K, q.1, q.2⟩ mg base "Hall" "hands" ["self"] 1 (G_Hall_hands ⟨K, q.1, q.2⟩) _ fd_Hall_hands := ⟨He.cls_ok (c.fact 56 (f := .cls "Hall") rfl), He.meth_ok (c.fact 62 (f := .meth "Hall" "hands") rfl), ok_Hall_hands (A := ⟨K, q.1, q.2⟩) T F_Hall_hands ⟩
  have kb_Hall_hands_1_ : KBp K fd_Hall_hands ["self"] 1 [] [0] [] := kb_all F_Hall_hands 1 [] [0] fun _ _ _ _ _ _ us ws h1 h2 => match us, ws, h1, h2 with | [_], [], _, _ => rfl
  have o_is_name : OwnX P w ⟨K, q.1, q.2⟩ mg base "is_name" ["thing"] 2 (G_is_name ⟨K, q.1, q.2⟩) _ fd_is_name := ⟨He.glo_ok X G (c.fact 15 (f := .glo "is_name") rfl), F_is_name.kp, FunD.bindsN F_is_name fun _ _ _ _ _ _ us hl => match us, hl with | [_], _ => rfl, ok_is_name (A := ⟨K, q.1, q.2⟩) T F_is_name o_is_part⟩
  have o_check_name : OwnX P w ⟨K, q.1, q.2⟩ mg base "check_name" ["name"] 3 (G_check_name ⟨K, q.1, q.2⟩) _ fd_check_name := ⟨He.glo_ok X G (c.fact 16 (f := .glo "check_name") rfl), F_check_name.kp, FunD.bindsN F_check_name fun _ _ _ _ _ _ us hl => match us, hl with | [_], _ => rfl, ok_check_name (A := ⟨K, q.1, q.2⟩) T F_check_name o_is_name⟩
  have o_Store_entry : OwnM P w ⟨K, q.1, q.2⟩ mg base "Store" "entry" ["self", "name"] 4 (G_Store_entry ⟨K, q.1, q.2⟩) _ fd_Store_entry := ⟨He.cls_ok (c.fact 57 (f := .cls "Store") rfl), He.meth_ok (c.fact 63 (f := .meth "Store" "entry") rfl), ok_Store_entry (A := ⟨K, q.1, q.2⟩) T F_Store_entry o_check_name⟩
  have kb_Store_entry_2_ : KBp K fd_Store_entry ["self", "name"] 2 [] [0, 1] [] := kb_all F_Store_entry 2 [] [0, 1] fun _ _ _ _ _ _ us ws h1 h2 => match us, ws, h1, h2 with | [_, _], [], _, _ => rfl
  have o_l_stands : OwnX P w ⟨K, q.1, q.2⟩ mg base "_law_stands" ["_law_hall", "_law_lies", "_law_clock", "_law_path_told"] 6 (G_l_stands ⟨K, q.1, q.2⟩) _ fd_l_stands := ⟨He.glo_ok X G (c.fact 18 (f := .glo "_law_stands") rfl), F_l_stands.kp, FunD.bindsN F_l_stands fun _ _ _ _ _ _ us hl => match us, hl with | [_, _, _, _], _ => rfl, ok_l_stands (A := ⟨K, q.1, q.2⟩) T F_l_stands o_Hall_store o_Store_names o_Store_entry o_Hall_told o_Hall_hands kb_Hall_store_2_ kb_Store_names_1_ kb_Hall_store_1_part kb_Store_entry_2_ kb_Hall_told_1_ kb_Hall_hands_1_⟩
  have o_l_text_drawn : OwnX P w ⟨K, q.1, q.2⟩ mg base "_law_text_drawn" ["_law_pile"] 2 (G_l_text_drawn ⟨K, q.1, q.2⟩) _ fd_l_text_drawn := ⟨He.glo_ok X G (c.fact 19 (f := .glo "_law_text_drawn") rfl), F_l_text_drawn.kp, FunD.bindsN F_l_text_drawn fun _ _ _ _ _ _ us hl => match us, hl with | [_], _ => rfl, ok_l_text_drawn (A := ⟨K, q.1, q.2⟩) T F_l_text_drawn o_l_take⟩
  have kbi_NoBody : KBp K fd_NoBody_init ["self", "row", "trail"] 2 [] [0, 1, 2] [.ref (trA K "NoBody")] := kb_miss F_NoBody_init 2 [] [0, 1, 2] [("trail", .ref (trA K "NoBody"))] (by simp [Q21.d_NoBody_init, He.DefD.kws]) (by simp [Q21.d_NoBody_init, He.DefD.kws, He.Dv.v]) fun _ _ _ _ _ _ us ws mv h1 h2 h3 => match us, ws, mv, h1, h2, h3 with | [_, _], [], [_], _, _, _ => ⟨_, _, _, _, _, _, rfl, rfl, rfl⟩
  have o_NoBody_init := iniX_ok (P := P) (w := w) (sa := q.1) (ns := q.2) (base := base) (Bool.and_eq_true_iff.mp (Bool.and_eq_true_iff.mp hex.1).2).1 (He.glo_ok X G (c.fact 20 (f := .glo "NoBody") rfl)) (ok_NoBody_init (A := ⟨K, q.1, q.2⟩) T F_NoBody_init) kbi_NoBody
  have o_Store_put : OwnM P w ⟨K, q.1, q.2⟩ mg base "Store" "put" ["self", "name", "text", "pack", "at"] 4 (G_Store_put ⟨K, q.1, q.2⟩) _ fd_Store_put := ⟨He.cls_ok (c.fact 57 (f := .cls "Store") rfl), He.meth_ok (c.fact 64 (f := .meth "Store" "put") rfl), ok_Store_put (A := ⟨K, q.1, q.2⟩) T F_Store_put o_check_name o_NoBody_init⟩
  have kb_Store_put_3_pack_at : KBp K fd_Store_put ["self", "name", "text", "pack", "at"] 3 ["pack", "at"] [0, 1, 2, 3, 4] [] := kb_all F_Store_put 3 ["pack", "at"] [0, 1, 2, 3, 4] fun _ _ _ _ _ _ us ws h1 h2 => match us, ws, h1, h2 with | [_, _, _], [_, _], _, _ => rfl
  have kb_Store_put_3_at : KBp K fd_Store_put ["self", "name", "text", "pack", "at"] 3 ["at"] [0, 1, 2, 4, 3] [.bl false] := kb_miss F_Store_put 3 ["at"] [0, 1, 2, 4, 3] [("pack", .bl false)] (by simp [Q21.d_Store_put, He.DefD.kws]) (by simp [Q21.d_Store_put, He.DefD.kws, He.Dv.v]) fun _ _ _ _ _ _ us ws mv h1 h2 h3 => match us, ws, mv, h1, h2, h3 with | [_, _, _], [_], [_], _, _, _ => ⟨_, _, _, _, _, _, rfl, rfl, rfl⟩
  have o_Hall_put : OwnM P w ⟨K, q.1, q.2⟩ mg base "Hall" "put" ["self", "part", "name", "text", "pack"] 5 (G_Hall_put ⟨K, q.1, q.2⟩) _ fd_Hall_put := ⟨He.cls_ok (c.fact 56 (f := .cls "Hall") rfl), He.meth_ok (c.fact 65 (f := .meth "Hall" "put") rfl), ok_Hall_put (A := ⟨K, q.1, q.2⟩) T F_Hall_put o_Hall_store_or_new o_Store_put kb_Hall_store_or_new_2_ kb_Store_put_3_pack_at⟩
  have kb_Hall_put_4_ : KBp K fd_Hall_put ["self", "part", "name", "text", "pack"] 4 [] [0, 1, 2, 3, 4] [.bl false] := kb_miss F_Hall_put 4 [] [0, 1, 2, 3, 4] [("pack", .bl false)] (by simp [Q21.d_Hall_put, He.DefD.kws]) (by simp [Q21.d_Hall_put, He.DefD.kws, He.Dv.v]) fun _ _ _ _ _ _ us ws mv h1 h2 h3 => match us, ws, mv, h1, h2, h3 with | [_, _, _, _], [], [_], _, _, _ => ⟨_, _, _, _, _, _, rfl, rfl, rfl⟩
  have kb_Hall_put_1_text_part_pack_name : KBp K fd_Hall_put ["self", "part", "name", "text", "pack"] 1 ["text", "part", "pack", "name"] [0, 2, 4, 1, 3] [] := kb_all F_Hall_put 1 ["text", "part", "pack", "name"] [0, 2, 4, 1, 3] fun _ _ _ _ _ _ us ws h1 h2 => match us, ws, h1, h2 with | [_], [_, _, _, _], _, _ => rfl
  have o_l_part_drawn : OwnX P w ⟨K, q.1, q.2⟩ mg base "_law_part_drawn" ["_law_pile"] 2 (G_l_part_drawn ⟨K, q.1, q.2⟩) _ fd_l_part_drawn := ⟨He.glo_ok X G (c.fact 23 (f := .glo "_law_part_drawn") rfl), F_l_part_drawn.kp, FunD.bindsN F_l_part_drawn fun _ _ _ _ _ _ us hl => match us, hl with | [_], _ => rfl, ok_l_part_drawn (A := ⟨K, q.1, q.2⟩) T F_l_part_drawn o_l_take⟩
  have o_l_name_drawn : OwnX P w ⟨K, q.1, q.2⟩ mg base "_law_name_drawn" ["_law_pile", "_law_most"] 3 (G_l_name_drawn ⟨K, q.1, q.2⟩) _ fd_l_name_drawn := ⟨He.glo_ok X G (c.fact 24 (f := .glo "_law_name_drawn") rfl), F_l_name_drawn.kp, FunD.bindsN F_l_name_drawn fun _ _ _ _ _ _ us hl => match us, hl with | [_, _], _ => rfl, ok_l_name_drawn (A := ⟨K, q.1, q.2⟩) T F_l_name_drawn o_l_take o_l_part_drawn⟩
  have o_is_number_from : OwnX P w ⟨K, q.1, q.2⟩ mg base "is_number_from" ["thing", "least"] 1 (G_is_number_from ⟨K, q.1, q.2⟩) _ fd_is_number_from := ⟨He.glo_ok X G (c.fact 25 (f := .glo "is_number_from") rfl), F_is_number_from.kp, FunD.bindsN F_is_number_from fun _ _ _ _ _ _ us hl => match us, hl with | [_, _], _ => rfl, ok_is_number_from (A := ⟨K, q.1, q.2⟩) T F_is_number_from ⟩
  have o_Hall_tick : OwnM P w ⟨K, q.1, q.2⟩ mg base "Hall" "tick" ["self", "by"] 2 (G_Hall_tick ⟨K, q.1, q.2⟩) _ fd_Hall_tick := ⟨He.cls_ok (c.fact 56 (f := .cls "Hall") rfl), He.meth_ok (c.fact 66 (f := .meth "Hall" "tick") rfl), ok_Hall_tick (A := ⟨K, q.1, q.2⟩) T F_Hall_tick o_is_number_from⟩
  have kb_Hall_tick_1_ : KBp K fd_Hall_tick ["self", "by"] 1 [] [0, 1] [(.int 1)] := kb_pos (dvs := [(.int 1)]) F_Hall_tick (by simp) 1 [] [0, 1] 0 fun _ _ _ _ _ _ _ us ws its h1 h2 h3 => match us, ws, its, h1, h2, h3 with | [_], [], [_], _, _, _ => ⟨_, rfl, rfl⟩
  have kb_Hall_tick_2_ : KBp K fd_Hall_tick ["self", "by"] 2 [] [0, 1] [] := kb_pos (dvs := [(.int 1)]) F_Hall_tick (by simp) 2 [] [0, 1] 1 fun _ _ _ _ _ _ _ us ws its h1 h2 h3 => match us, ws, its, h1, h2, h3 with | [_, _], [], [_], _, _, _ => ⟨_, rfl, rfl⟩
  have o_Hall_set_path : OwnM P w ⟨K, q.1, q.2⟩ mg base "Hall" "set_path" ["self", "path"] 6 (G_Hall_set_path ⟨K, q.1, q.2⟩) _ fd_Hall_set_path := ⟨He.cls_ok (c.fact 56 (f := .cls "Hall") rfl), He.meth_ok (c.fact 67 (f := .meth "Hall" "set_path") rfl), ok_Hall_set_path (A := ⟨K, q.1, q.2⟩) T F_Hall_set_path o_check_path o_Hall_store kb_Hall_store_2_⟩
  have kb_Hall_set_path_1_path : KBp K fd_Hall_set_path ["self", "path"] 1 ["path"] [0, 1] [] := kb_all F_Hall_set_path 1 ["path"] [0, 1] fun _ _ _ _ _ _ us ws h1 h2 => match us, ws, h1, h2 with | [_], [_], _, _ => rfl
  have kbi_NotFound : KBp K fd_NotFound_init ["self", "name", "trail"] 2 [] [0, 1, 2] [.ref (trA K "NotFound")] := kb_miss F_NotFound_init 2 [] [0, 1, 2] [("trail", .ref (trA K "NotFound"))] (by simp [Q21.d_NotFound_init, He.DefD.kws]) (by simp [Q21.d_NotFound_init, He.DefD.kws, He.Dv.v]) fun _ _ _ _ _ _ us ws mv h1 h2 h3 => match us, ws, mv, h1, h2, h3 with | [_, _], [], [_], _, _, _ => ⟨_, _, _, _, _, _, rfl, rfl, rfl⟩
  have o_NotFound_init := iniX_ok (P := P) (w := w) (sa := q.1) (ns := q.2) (base := base) (Bool.and_eq_true_iff.mp (Bool.and_eq_true_iff.mp (Bool.and_eq_true_iff.mp hex.1).2).2).1 (He.glo_ok X G (c.fact 28 (f := .glo "NotFound") rfl)) (ok_NotFound_init (A := ⟨K, q.1, q.2⟩) T F_NotFound_init) kbi_NotFound
  have o_Store_take : OwnM P w ⟨K, q.1, q.2⟩ mg base "Store" "take" ["self", "name", "at"] 4 (G_Store_take ⟨K, q.1, q.2⟩) _ fd_Store_take := ⟨He.cls_ok (c.fact 57 (f := .cls "Store") rfl), He.meth_ok (c.fact 68 (f := .meth "Store" "take") rfl), ok_Store_take (A := ⟨K, q.1, q.2⟩) T F_Store_take o_check_name o_NotFound_init⟩
  have kb_Store_take_2_at : KBp K fd_Store_take ["self", "name", "at"] 2 ["at"] [0, 1, 2] [] := kb_all F_Store_take 2 ["at"] [0, 1, 2] fun _ _ _ _ _ _ us ws h1 h2 => match us, ws, h1, h2 with | [_, _], [_], _, _ => rfl
  have o_Hall_take : OwnM P w ⟨K, q.1, q.2⟩ mg base "Hall" "take" ["self", "part", "name"] 5 (G_Hall_take ⟨K, q.1, q.2⟩) _ fd_Hall_take := ⟨He.cls_ok (c.fact 56 (f := .cls "Hall") rfl), He.meth_ok (c.fact 69 (f := .meth "Hall" "take") rfl), ok_Hall_take (A := ⟨K, q.1, q.2⟩) T F_Hall_take o_Store_take o_Hall_store_or_new kb_Store_take_2_at kb_Hall_store_or_new_2_⟩
  have kb_Hall_take_1_name_part : KBp K fd_Hall_take ["self", "part", "name"] 1 ["name", "part"] [0, 2, 1] [] := kb_all F_Hall_take 1 ["name", "part"] [0, 2, 1] fun _ _ _ _ _ _ us ws h1 h2 => match us, ws, h1, h2 with | [_], [_, _], _, _ => rfl
  have o_l_deed : OwnX P w ⟨K, q.1, q.2⟩ mg base "_law_deed" ["_law_pile", "_law_hall", "_law_lies", "_law_state"] 7 (G_l_deed ⟨K, q.1, q.2⟩) _ fd_l_deed := ⟨He.glo_ok X G (c.fact 31 (f := .glo "_law_deed") rfl), F_l_deed.kp, FunD.bindsN F_l_deed fun _ _ _ _ _ _ us hl => match us, hl with | [_, _, _, _], _ => rfl, ok_l_deed (A := ⟨K, q.1, q.2⟩) T F_l_deed o_l_take o_l_name_drawn o_l_text_drawn o_Hall_tick o_Hall_put o_Store_put o_Hall_store o_Hall_take o_Hall_set_path kb_Hall_tick_1_ kb_Hall_tick_2_ kb_Hall_put_4_ kb_Hall_put_1_text_part_pack_name kb_Store_put_3_at kb_Hall_store_2_ kb_Hall_take_1_name_part kb_Hall_set_path_1_path⟩
  exact ok_law (A := ⟨K, q.1, q.2⟩) T F_law o_l_cell o_l_take o_l_stands o_l_deed o_Hall_init kb_Hall_init_1_path kb_Hall_init_1_ kb_Hall_init_1_check
theorem close {P : Program} {w : World} {K : PySem.W.Frag} {h : Heap} {mg : Str → Option Value} {f : Addr} (X : K.In h) (G : h.Ns mainGlobals mg) (hfa : mg ("law" : Str) = some (.ref f)) (c : SaysX Q21.ex Q21.fa Q21.fn K) :
    ∃ (K : PySem.W.Frag) (fd : FuncData) (sp : Sp), K.In h ∧ (∀ (s : Shared) (u : Value), BindsTo s fd ⟨[u], []⟩ [("_law_script", u)]) ∧
        (∀ (H : Hp) (a : Addr) (ns : List Int), ns.length ≤ 63 → Only H → SqL K H a (ns.map V.int) → sp [.ref a] H (fun v _ => v = .bl true) fun _ _ _ => False) ∧
        ∀ base : Heap, K.In base → base.Ns mainGlobals mg → FnOk P w K mg base CX0 8 f fd ["_law_script"] sp := by
  obtain ⟨fd, b, F⟩ := facts (P := P) (w := w) X G hfa c
  have hx := (Bool.and_eq_true_iff.mp c.1).2
  exact ⟨K, fd, _, X, b, fun H a ns hl _ hS => law_spK (g := fun A => G_law A) (fun sa ns h => law_true ⟨K, sa, ns⟩ h hx) hl hS, fun base h1 h2 => fnOk_cx0 (fnOk_ex (F base h1 h2))⟩
end K21
open PySem PySem.W PySem.Calls PyProof.Rows
set_option maxRecDepth 100000 in
set_option maxHeartbeats 8000000 in
theorem PySem.Challenge.cw_loadhall_k21_halls_and_their_stores_holds : PySem.Challenge.rw_loadhall_k21_halls_and_their_stores.Holds := by
  w_on; o_law
  have said : (OpenLaw.row PySem.Challenge.rw_loadhall_k21_halls_and_their_stores).wellSaid = true := Q21.said
  refine HandSHeadRun.head_any (r := OpenLaw.row PySem.Challenge.rw_loadhall_k21_halls_and_their_stores) (q := view (OpenLaw.row PySem.Challenge.rw_loadhall_k21_halls_and_their_stores).prog [143]) (H := Q21.hk) (ob := Q21.ob) (M := 20000) (loose := Q21.loose) (d := HandSHeadRun.topDef (OpenLaw.row PySem.Challenge.rw_loadhall_k21_halls_and_their_stores).prog 143) (kwd := []) Q21.ob_eq
    (by kernel_rfl) (fun s => by kernel_rfl) Q21.run (by kernel_rfl) (by kernel_rfl) (by kernel_rfl) (by rfl) (by first | assumption | decide +kernel) (by decide +kernel) Q21.bare ?hw ?hc
  case hw => w_witness2
  case hc =>
    refine L2.walk_ofE (l := PySem.Challenge.rw_loadhall_k21_halls_and_their_stores) (n := 63) (k := 8) (x := "_law_script") (CX := L2.CX0) rfl (by decide) (by kernel_rfl) ⟨rfl, by decide, by decide⟩ ?F (fun _ _ _ _ z => z)
    intro w mg fa h Y G hmg0
    obtain ⟨K, KX, c⟩ := Y
    have hmg : mg ("law" : PySem.Str) = some (.ref fa) := by
      have e : (HandSHeadRun.topDef (OpenLaw.row PySem.Challenge.rw_loadhall_k21_halls_and_their_stores).prog 143).name = ("law" : PySem.Str) := by kernel_rfl
      rw [← e]
      exact hmg0
    exact K21.close KX G hmg c
