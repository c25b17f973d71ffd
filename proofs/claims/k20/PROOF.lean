import PyProof.Rows.All
import PyProof.ReprReads
import HandS.ForMost
import HandS.IsInst
import HandS.Wide
import HandS.Zip
import HandS.SortInts
import HandS.More
import HandS.TupAny
import HandS.Defaults
import HandS.Star
import HandS.Conv
import PyProof.Rows.RuleB_pow
import HandS.Steps
import PyProof.ReprLen
import PyProof.Rows.ReprR
import HandS.Ends
import KE.GoesEnum
import HandS.Iter
import HandS.Style
import KE.KMathGC
import HandS.Gcd
import HandS.SetFor
import HandS.Strs
import HandS.TupMul
import HandS.WordsDict
import KE.KDictPairs
import HandS.ListItems
import HandS.Small
import KE.DataMinMax
import KE.SortData
import PyProof.Rows.RowBridgeK
import HandS.ExcOwn
import HandS.WordsExc
import HandS.TryOnly
import HandS.TryMany
import HandS.ExcIs
import KE.KStateDown
import HandS.Head0
import HandS.Head1
import HandS.Head2
import HandS.Head3
import HandS.HeadEnd
import HandS.HeadHook1
import HandS.HeadHook2
import PySem.Challenge.RW_changesums_k20_errors_of_briefs
set_option Elab.async false
set_option linter.all false
set_option maxRecDepth 100000
set_option maxHeartbeats 800000
namespace He
open PySem PySem.Spec PyProof.Rows L2
abbrev AlB : Type := AlD × Bool
def obsB (as : List Addr) (fa : List Fa) (fn : List DefD) (ex : PySem.W.Frag → List Bool) (g : Addr → Option Obj) : AlB := (obsD fa fn (frG g as), (ex (frG g as)).all id)
structure SaysB (fa : List Fa) (fn : List DefD) (ex : PySem.W.Frag → List Bool) (K : PySem.W.Frag) : Prop where
  d : SaysD fa fn K
  more : (ex K).all id = true
def hookB (as : List Addr) (fa : List Fa) (fn : List DefD) (ex : PySem.W.Frag → List Bool) : PySem.W.Hook where
  α := AlB
  obs := fun s => obsB as fa fn ex s.heap.get?
  val := fun _ => (valD fn, true)
  says := fun _ h => ∃ K : PySem.W.Frag, K.In h ∧ SaysB fa fn ex K
  of := fun _ _ e => ⟨_, frG_in, ⟨congrArg (fun z : AlB => z.1) e, congrArg (fun z : AlB => z.2) e⟩⟩
  keeps := fun _ _ _ ⟨K, hK, c⟩ k => ⟨K, PySem.W.Frag.In.keeps hK k, c⟩
theorem obsB_eq {as : List Addr} {fa : List Fa} {fn : List DefD} {ex : PySem.W.Frag → List Bool} {g : Addr → Option Obj} {s : Shared} (h : ∀ a, g a = s.heap.get? a) : obsB as fa fn ex g = (hookB as fa fn ex).obs s := by
  have e : g = s.heap.get? := funext h
  rw [e] <;> rfl
theorem SaysB.ex {fa : List Fa} {fn : List DefD} {ex : PySem.W.Frag → List Bool} {K : PySem.W.Frag} (c : SaysB fa fn ex K) (i : Nat) {b : Bool} (h : (ex K)[i]? = some b := by rfl) : b = true :=
  List.all_eq_true.mp c.more b (List.mem_of_getElem? h)
end He
namespace Lw
open PySem PySem.Spec PyProof.Rows L2
def topS (i : Nat) : Stmt := PySem.Challenge.pw_changesums_k20_errors_of_briefs.main.body.getD i (.Pass ⟨0, 0, 0, 0⟩)
abbrev s__law_jar : Stmt := topS 86
abbrev s__law_gather : Stmt := topS 88
abbrev s__law_pick : Stmt := topS 87
abbrev s__law_amount : Stmt := topS 89
abbrev s__law_book : Stmt := topS 90
abbrev s__law_any : Stmt := topS 92
abbrev s__law_numbers : Stmt := topS 93
abbrev s__law_wide : Stmt := topS 91
abbrev s__law_drawn : Stmt := topS 102
abbrev s__law_odd : Stmt := topS 94
abbrev s__law_no_number : Stmt := topS 97
abbrev s__law_no_places : Stmt := topS 101
abbrev s__law_no_book : Stmt := topS 95
abbrev s_is_an_integer : Stmt := topS 19
abbrev s_is_change : Stmt := topS 32
abbrev s_is_ledger : Stmt := topS 33
abbrev s_check_ledger : Stmt := topS 34
abbrev s_Ledger__init__ : Stmt := inClass (topS 79) 0
abbrev s__law_no_numbers : Stmt := topS 96
abbrev s_is_sums : Stmt := topS 49
abbrev s_check_sums : Stmt := topS 50
abbrev s_Sums__init__ : Stmt := inClass (topS 83) 0
abbrev s__law_bad : Stmt := topS 103
abbrev s_convolved : Stmt := topS 29
abbrev s_from_roots : Stmt := topS 30
abbrev s_divided : Stmt := topS 27
abbrev s_value_of : Stmt := topS 26
abbrev s_fractions_at : Stmt := topS 67
abbrev s_first_sums : Stmt := topS 52
abbrev s_only_ledger : Stmt := topS 68
abbrev s_ledger_in_span : Stmt := topS 70
abbrev s_brief : Stmt := topS 72
abbrev s_is_made : Stmt := topS 71
abbrev s_check_key : Stmt := topS 21
abbrev s_in_span : Stmt := topS 73
abbrev s_are_keys : Stmt := topS 65
abbrev s_check_keys : Stmt := topS 66
abbrev s_on_keys : Stmt := topS 74
abbrev s_is_from : Stmt := topS 20
abbrev s_check_number : Stmt := topS 23
abbrev s_least_blind : Stmt := topS 75
abbrev s_first_apart : Stmt := topS 55
abbrev s_without_step : Stmt := topS 76
abbrev s_cleared : Stmt := topS 77
abbrev s__law_call : Stmt := topS 98
abbrev s__law_said : Stmt := topS 99
abbrev s__law_kin : Stmt := topS 100
abbrev s_law : Stmt := topS 104
/-! ### what the top has left -/
def fnL0 : List He.DefD := [⟨("_law_jar", none), "_law_jar", "_law_jar", defArgs s__law_jar, defBody s__law_jar, defScope s__law_jar, [], []⟩,
    ⟨("_law_gather", none), "_law_gather", "_law_gather", defArgs s__law_gather, defBody s__law_gather, defScope s__law_gather, [], []⟩,
    ⟨("_law_pick", none), "_law_pick", "_law_pick", defArgs s__law_pick, defBody s__law_pick, defScope s__law_pick, [], []⟩,
    ⟨("_law_amount", none), "_law_amount", "_law_amount", defArgs s__law_amount, defBody s__law_amount, defScope s__law_amount, [], []⟩,
    ⟨("_law_book", none), "_law_book", "_law_book", defArgs s__law_book, defBody s__law_book, defScope s__law_book, [], []⟩,
    ⟨("_law_any", none), "_law_any", "_law_any", defArgs s__law_any, defBody s__law_any, defScope s__law_any, [], []⟩,
    ⟨("_law_numbers", none), "_law_numbers", "_law_numbers", defArgs s__law_numbers, defBody s__law_numbers, defScope s__law_numbers, [], []⟩,
    ⟨("_law_wide", none), "_law_wide", "_law_wide", defArgs s__law_wide, defBody s__law_wide, defScope s__law_wide, [], []⟩,
    ⟨("_law_drawn", none), "_law_drawn", "_law_drawn", defArgs s__law_drawn, defBody s__law_drawn, defScope s__law_drawn, [], []⟩,
    ⟨("_law_odd", none), "_law_odd", "_law_odd", defArgs s__law_odd, defBody s__law_odd, defScope s__law_odd, [], []⟩,
    ⟨("_law_no_number", none), "_law_no_number", "_law_no_number", defArgs s__law_no_number, defBody s__law_no_number, defScope s__law_no_number, [], []⟩,
    ⟨("_law_no_places", none), "_law_no_places", "_law_no_places", defArgs s__law_no_places, defBody s__law_no_places, defScope s__law_no_places, [], []⟩,
    ⟨("_law_no_book", none), "_law_no_book", "_law_no_book", defArgs s__law_no_book, defBody s__law_no_book, defScope s__law_no_book, [], []⟩,
    ⟨("is_an_integer", none), "is_an_integer", "is_an_integer", defArgs s_is_an_integer, defBody s_is_an_integer, defScope s_is_an_integer, [], []⟩,
    ⟨("is_change", none), "is_change", "is_change", defArgs s_is_change, defBody s_is_change, defScope s_is_change, [], []⟩,
    ⟨("is_ledger", none), "is_ledger", "is_ledger", defArgs s_is_ledger, defBody s_is_ledger, defScope s_is_ledger, [], []⟩,
    ⟨("check_ledger", none), "check_ledger", "check_ledger", defArgs s_check_ledger, defBody s_check_ledger, defScope s_check_ledger, [], []⟩,
    ⟨("Ledger", some "__init__"), "__init__", "Ledger.__init__", defArgs s_Ledger__init__, defBody s_Ledger__init__, defScope s_Ledger__init__, [.adr (He.dflAt ("Ledger", some "__init__") 0)], []⟩,
    ⟨("_law_no_numbers", none), "_law_no_numbers", "_law_no_numbers", defArgs s__law_no_numbers, defBody s__law_no_numbers, defScope s__law_no_numbers, [], []⟩,
    ⟨("is_sums", none), "is_sums", "is_sums", defArgs s_is_sums, defBody s_is_sums, defScope s_is_sums, [], []⟩,
    ⟨("check_sums", none), "check_sums", "check_sums", defArgs s_check_sums, defBody s_check_sums, defScope s_check_sums, [], []⟩,
    ⟨("Sums", some "__init__"), "__init__", "Sums.__init__", defArgs s_Sums__init__, defBody s_Sums__init__, defScope s_Sums__init__, [], []⟩,
    ⟨("_law_bad", none), "_law_bad", "_law_bad", defArgs s__law_bad, defBody s__law_bad, defScope s__law_bad, [], []⟩,
    ⟨("convolved", none), "convolved", "convolved", defArgs s_convolved, defBody s_convolved, defScope s_convolved, [], []⟩,
    ⟨("from_roots", none), "from_roots", "from_roots", defArgs s_from_roots, defBody s_from_roots, defScope s_from_roots, [], []⟩]
def fnL1 : List He.DefD := [⟨("divided", none), "divided", "divided", defArgs s_divided, defBody s_divided, defScope s_divided, [], []⟩,
    ⟨("value_of", none), "value_of", "value_of", defArgs s_value_of, defBody s_value_of, defScope s_value_of, [], []⟩,
    ⟨("fractions_at", none), "fractions_at", "fractions_at", defArgs s_fractions_at, defBody s_fractions_at, defScope s_fractions_at, [], []⟩,
    ⟨("first_sums", none), "first_sums", "first_sums", defArgs s_first_sums, defBody s_first_sums, defScope s_first_sums, [], []⟩,
    ⟨("only_ledger", none), "only_ledger", "only_ledger", defArgs s_only_ledger, defBody s_only_ledger, defScope s_only_ledger, [], []⟩,
    ⟨("ledger_in_span", none), "ledger_in_span", "ledger_in_span", defArgs s_ledger_in_span, defBody s_ledger_in_span, defScope s_ledger_in_span, [], []⟩,
    ⟨("brief", none), "brief", "brief", defArgs s_brief, defBody s_brief, defScope s_brief, [], []⟩,
    ⟨("is_made", none), "is_made", "is_made", defArgs s_is_made, defBody s_is_made, defScope s_is_made, [], []⟩,
    ⟨("check_key", none), "check_key", "check_key", defArgs s_check_key, defBody s_check_key, defScope s_check_key, [], []⟩,
    ⟨("in_span", none), "in_span", "in_span", defArgs s_in_span, defBody s_in_span, defScope s_in_span, [], []⟩,
    ⟨("are_keys", none), "are_keys", "are_keys", defArgs s_are_keys, defBody s_are_keys, defScope s_are_keys, [], []⟩,
    ⟨("check_keys", none), "check_keys", "check_keys", defArgs s_check_keys, defBody s_check_keys, defScope s_check_keys, [], []⟩,
    ⟨("on_keys", none), "on_keys", "on_keys", defArgs s_on_keys, defBody s_on_keys, defScope s_on_keys, [], []⟩,
    ⟨("is_from", none), "is_from", "is_from", defArgs s_is_from, defBody s_is_from, defScope s_is_from, [], []⟩,
    ⟨("check_number", none), "check_number", "check_number", defArgs s_check_number, defBody s_check_number, defScope s_check_number, [], []⟩,
    ⟨("least_blind", none), "least_blind", "least_blind", defArgs s_least_blind, defBody s_least_blind, defScope s_least_blind, [], []⟩,
    ⟨("first_apart", none), "first_apart", "first_apart", defArgs s_first_apart, defBody s_first_apart, defScope s_first_apart, [], []⟩,
    ⟨("without_step", none), "without_step", "without_step", defArgs s_without_step, defBody s_without_step, defScope s_without_step, [], []⟩,
    ⟨("cleared", none), "cleared", "cleared", defArgs s_cleared, defBody s_cleared, defScope s_cleared, [], []⟩,
    ⟨("_law_call", none), "_law_call", "_law_call", defArgs s__law_call, defBody s__law_call, defScope s__law_call, [], []⟩,
    ⟨("_law_said", none), "_law_said", "_law_said", defArgs s__law_said, defBody s__law_said, defScope s__law_said, [], []⟩,
    ⟨("_law_kin", none), "_law_kin", "_law_kin", defArgs s__law_kin, defBody s__law_kin, defScope s__law_kin, [], []⟩,
    ⟨("law", none), "law", "law", defArgs s_law, defBody s_law, defScope s_law, [], []⟩]
def fnL : List He.DefD := fnL0 ++ (fnL1)
def faL0 : List He.Fa := [.glo "_law_jar",
    .glo "_law_gather",
    .glo "_law_pick",
    .glo "_law_amount",
    .glo "_law_book",
    .glo "_law_any",
    .glo "_law_numbers",
    .glo "_law_wide",
    .glo "_law_drawn",
    .glo "_law_odd",
    .glo "_law_no_number",
    .glo "_law_no_places",
    .glo "_law_no_book",
    .glo "is_an_integer",
    .glo "is_change",
    .glo "is_ledger",
    .glo "check_ledger",
    .glo "Ledger",
    .mkr "Ledger",
    .cls "Ledger",
    .noat "Ledger" "_pairs",
    .glo "_law_no_numbers",
    .glo "is_sums",
    .glo "check_sums",
    .glo "Sums"]
def faL1 : List He.Fa := [.mkr "Sums",
    .cls "Sums",
    .noat "Sums" "_numbers",
    .glo "_law_bad",
    .glo "convolved",
    .glo "from_roots",
    .glo "divided",
    .glo "value_of",
    .glo "fractions_at",
    .glo "first_sums",
    .glo "only_ledger",
    .glo "ledger_in_span",
    .glo "brief",
    .glo "is_made",
    .glo "check_key",
    .glo "in_span",
    .glo "are_keys",
    .glo "check_keys",
    .glo "on_keys",
    .glo "is_from",
    .glo "check_number",
    .glo "least_blind",
    .glo "first_apart",
    .glo "without_step",
    .glo "cleared"]
def faL2 : List He.Fa := [.glo "_law_call",
    .glo "_law_said",
    .glo "_law_kin",
    .glo "law",
    .glo "InvalidKey",
    .exc "InvalidKey",
    .glo "InvalidKeys",
    .exc "InvalidKeys",
    .glo "InvalidLedger",
    .exc "InvalidLedger",
    .glo "InvalidNumber",
    .exc "InvalidNumber",
    .glo "InvalidSums",
    .exc "InvalidSums",
    .glo "InvalidWidth",
    .exc "InvalidWidth",
    .glo "SumsError",
    .exc "SumsError",
    .free "ValueError",
    .free "abs",
    .free "all",
    .free "any",
    .free "bool",
    .free "dict",
    .free "enumerate"]
def faL3 : List He.Fa := [.free "int",
    .free "isinstance",
    .free "len",
    .free "list",
    .free "max",
    .free "min",
    .free "range",
    .free "set",
    .free "sorted",
    .free "sum",
    .free "tuple",
    .free "zip"]
def faL : List He.Fa := faL0 ++ (faL1 ++ (faL2 ++ (faL3)))
def exL0 (K : PySem.W.Frag) : List Bool := [He.eqO (PySem.W.findIn K (.ref (He.ga K "Ledger")) "__class__") (some (some (.builtin "object.__class__"))),
    decide (PySem.W.mroIn K (He.ga K "Ledger") (.type "object") = some true),
    decide (PySem.W.subIn K (.ref (He.ga K "Ledger")) (.type "tuple") = some false),
    decide (PySem.W.subIn K (.ref (He.ga K "Ledger")) (.type "int") = some false),
    He.eqO (PySem.W.findIn K (.ref (He.ga K "Sums")) "__class__") (some (some (.builtin "object.__class__"))),
    decide (PySem.W.mroIn K (He.ga K "Sums") (.type "object") = some true),
    decide (PySem.W.subIn K (.ref (He.ga K "Sums")) (.type "tuple") = some false),
    decide (PySem.W.subIn K (.ref (He.ga K "Sums")) (.type "int") = some false),
    He.eqO (PySem.W.specialIn K (.builtin "object.__class__") "__get__") (some (some (.builtin "getset_descriptor.__get__"))),
    decide (PySem.W.takesIn K (.builtin "object.__class__") = some true),
    PySem.W.hasDictIn K (He.ga K "InvalidKey"),
    PySem.W.hasDictIn K (He.ga K "InvalidKeys"),
    PySem.W.hasDictIn K (He.ga K "InvalidLedger"),
    PySem.W.hasDictIn K (He.ga K "InvalidNumber"),
    PySem.W.hasDictIn K (He.ga K "InvalidSums"),
    PySem.W.hasDictIn K (He.ga K "InvalidWidth"),
    PySem.W.hasDictIn K (He.ga K "SumsError"),
    He.eqO (PySem.W.findIn K (.ref (He.ga K "InvalidKey")) "__getattribute__") (some (some (.builtin "BaseException.__getattribute__"))),
    He.eqO (PySem.W.findIn K (.ref (He.ga K "InvalidKey")) "__getattr__") (some none),
    He.eqO (PySem.W.findIn K (.ref (He.ga K "InvalidKey")) "__class__") (some (some (.builtin "object.__class__"))),
    decide (PySem.W.mroIn K (He.ga K "InvalidKey") (.type "object") = some true),
    decide (PySem.W.subIn K (.ref (He.ga K "InvalidKey")) (.type "ValueError") = some true),
    He.eqO (PySem.W.findIn K (.ref (He.ga K "InvalidKeys")) "__getattribute__") (some (some (.builtin "BaseException.__getattribute__"))),
    He.eqO (PySem.W.findIn K (.ref (He.ga K "InvalidKeys")) "__getattr__") (some none),
    He.eqO (PySem.W.findIn K (.ref (He.ga K "InvalidKeys")) "__class__") (some (some (.builtin "object.__class__")))]
def exL1 (K : PySem.W.Frag) : List Bool := [decide (PySem.W.mroIn K (He.ga K "InvalidKeys") (.type "object") = some true),
    decide (PySem.W.subIn K (.ref (He.ga K "InvalidKeys")) (.type "ValueError") = some true),
    He.eqO (PySem.W.findIn K (.ref (He.ga K "InvalidLedger")) "__getattribute__") (some (some (.builtin "BaseException.__getattribute__"))),
    He.eqO (PySem.W.findIn K (.ref (He.ga K "InvalidLedger")) "__getattr__") (some none),
    He.eqO (PySem.W.findIn K (.ref (He.ga K "InvalidLedger")) "__class__") (some (some (.builtin "object.__class__"))),
    decide (PySem.W.mroIn K (He.ga K "InvalidLedger") (.type "object") = some true),
    decide (PySem.W.subIn K (.ref (He.ga K "InvalidLedger")) (.type "ValueError") = some true),
    He.eqO (PySem.W.findIn K (.ref (He.ga K "InvalidNumber")) "__getattribute__") (some (some (.builtin "BaseException.__getattribute__"))),
    He.eqO (PySem.W.findIn K (.ref (He.ga K "InvalidNumber")) "__getattr__") (some none),
    He.eqO (PySem.W.findIn K (.ref (He.ga K "InvalidNumber")) "__class__") (some (some (.builtin "object.__class__"))),
    decide (PySem.W.mroIn K (He.ga K "InvalidNumber") (.type "object") = some true),
    decide (PySem.W.subIn K (.ref (He.ga K "InvalidNumber")) (.type "ValueError") = some true),
    He.eqO (PySem.W.findIn K (.ref (He.ga K "InvalidSums")) "__getattribute__") (some (some (.builtin "BaseException.__getattribute__"))),
    He.eqO (PySem.W.findIn K (.ref (He.ga K "InvalidSums")) "__getattr__") (some none),
    He.eqO (PySem.W.findIn K (.ref (He.ga K "InvalidSums")) "__class__") (some (some (.builtin "object.__class__"))),
    decide (PySem.W.mroIn K (He.ga K "InvalidSums") (.type "object") = some true),
    decide (PySem.W.subIn K (.ref (He.ga K "InvalidSums")) (.type "ValueError") = some true),
    He.eqO (PySem.W.findIn K (.ref (He.ga K "InvalidWidth")) "__getattribute__") (some (some (.builtin "BaseException.__getattribute__"))),
    He.eqO (PySem.W.findIn K (.ref (He.ga K "InvalidWidth")) "__getattr__") (some none),
    He.eqO (PySem.W.findIn K (.ref (He.ga K "InvalidWidth")) "__class__") (some (some (.builtin "object.__class__"))),
    decide (PySem.W.mroIn K (He.ga K "InvalidWidth") (.type "object") = some true),
    decide (PySem.W.subIn K (.ref (He.ga K "InvalidWidth")) (.type "ValueError") = some true),
    decide (PySem.W.subIn K (.ref (He.ga K "InvalidKey")) (.ref (He.ga K "InvalidKey")) = some true),
    decide (PySem.W.subIn K (.ref (He.ga K "InvalidKey")) (.ref (He.ga K "InvalidKeys")) = some false),
    decide (PySem.W.subIn K (.ref (He.ga K "InvalidKey")) (.ref (He.ga K "InvalidLedger")) = some false)]
def exL2 (K : PySem.W.Frag) : List Bool := [decide (PySem.W.subIn K (.ref (He.ga K "InvalidKey")) (.ref (He.ga K "InvalidNumber")) = some false),
    decide (PySem.W.subIn K (.ref (He.ga K "InvalidKey")) (.ref (He.ga K "InvalidSums")) = some false),
    decide (PySem.W.subIn K (.ref (He.ga K "InvalidKey")) (.ref (He.ga K "InvalidWidth")) = some false),
    decide (PySem.W.subIn K (.ref (He.ga K "InvalidKey")) (.ref (He.ga K "SumsError")) = some true),
    decide (PySem.W.subIn K (.ref (He.ga K "InvalidKeys")) (.ref (He.ga K "InvalidKey")) = some false),
    decide (PySem.W.subIn K (.ref (He.ga K "InvalidKeys")) (.ref (He.ga K "InvalidKeys")) = some true),
    decide (PySem.W.subIn K (.ref (He.ga K "InvalidKeys")) (.ref (He.ga K "InvalidLedger")) = some false),
    decide (PySem.W.subIn K (.ref (He.ga K "InvalidKeys")) (.ref (He.ga K "InvalidNumber")) = some false),
    decide (PySem.W.subIn K (.ref (He.ga K "InvalidKeys")) (.ref (He.ga K "InvalidSums")) = some false),
    decide (PySem.W.subIn K (.ref (He.ga K "InvalidKeys")) (.ref (He.ga K "InvalidWidth")) = some false),
    decide (PySem.W.subIn K (.ref (He.ga K "InvalidKeys")) (.ref (He.ga K "SumsError")) = some true),
    decide (PySem.W.subIn K (.ref (He.ga K "InvalidLedger")) (.ref (He.ga K "InvalidKey")) = some false),
    decide (PySem.W.subIn K (.ref (He.ga K "InvalidLedger")) (.ref (He.ga K "InvalidKeys")) = some false),
    decide (PySem.W.subIn K (.ref (He.ga K "InvalidLedger")) (.ref (He.ga K "InvalidLedger")) = some true),
    decide (PySem.W.subIn K (.ref (He.ga K "InvalidLedger")) (.ref (He.ga K "InvalidNumber")) = some false),
    decide (PySem.W.subIn K (.ref (He.ga K "InvalidLedger")) (.ref (He.ga K "InvalidSums")) = some false),
    decide (PySem.W.subIn K (.ref (He.ga K "InvalidLedger")) (.ref (He.ga K "InvalidWidth")) = some false),
    decide (PySem.W.subIn K (.ref (He.ga K "InvalidLedger")) (.ref (He.ga K "SumsError")) = some true),
    decide (PySem.W.subIn K (.ref (He.ga K "InvalidNumber")) (.ref (He.ga K "InvalidKey")) = some false),
    decide (PySem.W.subIn K (.ref (He.ga K "InvalidNumber")) (.ref (He.ga K "InvalidKeys")) = some false),
    decide (PySem.W.subIn K (.ref (He.ga K "InvalidNumber")) (.ref (He.ga K "InvalidLedger")) = some false),
    decide (PySem.W.subIn K (.ref (He.ga K "InvalidNumber")) (.ref (He.ga K "InvalidNumber")) = some true),
    decide (PySem.W.subIn K (.ref (He.ga K "InvalidNumber")) (.ref (He.ga K "InvalidSums")) = some false),
    decide (PySem.W.subIn K (.ref (He.ga K "InvalidNumber")) (.ref (He.ga K "InvalidWidth")) = some false),
    decide (PySem.W.subIn K (.ref (He.ga K "InvalidNumber")) (.ref (He.ga K "SumsError")) = some true)]
def exL3 (K : PySem.W.Frag) : List Bool := [decide (PySem.W.subIn K (.ref (He.ga K "InvalidSums")) (.ref (He.ga K "InvalidKey")) = some false),
    decide (PySem.W.subIn K (.ref (He.ga K "InvalidSums")) (.ref (He.ga K "InvalidKeys")) = some false),
    decide (PySem.W.subIn K (.ref (He.ga K "InvalidSums")) (.ref (He.ga K "InvalidLedger")) = some false),
    decide (PySem.W.subIn K (.ref (He.ga K "InvalidSums")) (.ref (He.ga K "InvalidNumber")) = some false),
    decide (PySem.W.subIn K (.ref (He.ga K "InvalidSums")) (.ref (He.ga K "InvalidSums")) = some true),
    decide (PySem.W.subIn K (.ref (He.ga K "InvalidSums")) (.ref (He.ga K "InvalidWidth")) = some false),
    decide (PySem.W.subIn K (.ref (He.ga K "InvalidSums")) (.ref (He.ga K "SumsError")) = some true),
    decide (PySem.W.subIn K (.ref (He.ga K "InvalidWidth")) (.ref (He.ga K "InvalidKey")) = some false),
    decide (PySem.W.subIn K (.ref (He.ga K "InvalidWidth")) (.ref (He.ga K "InvalidKeys")) = some false),
    decide (PySem.W.subIn K (.ref (He.ga K "InvalidWidth")) (.ref (He.ga K "InvalidLedger")) = some false),
    decide (PySem.W.subIn K (.ref (He.ga K "InvalidWidth")) (.ref (He.ga K "InvalidNumber")) = some false),
    decide (PySem.W.subIn K (.ref (He.ga K "InvalidWidth")) (.ref (He.ga K "InvalidSums")) = some false),
    decide (PySem.W.subIn K (.ref (He.ga K "InvalidWidth")) (.ref (He.ga K "InvalidWidth")) = some true),
    decide (PySem.W.subIn K (.ref (He.ga K "InvalidWidth")) (.ref (He.ga K "SumsError")) = some true),
    He.eqO (PySem.W.nsIn K mainGlobals "comb") (some (some (.builtin "math.comb")))]
def exL (K : PySem.W.Frag) : List Bool := exL0 K ++ (exL1 K ++ (exL2 K ++ (exL3 K)))
def asL0 : List Addr := [3,
    6,
    4,
    49,
    59,
    72,
    84,
    96,
    108,
    120,
    132,
    144,
    156,
    168,
    180,
    192,
    204,
    216,
    228,
    237,
    244,
    251,
    258,
    265,
    272,
    279,
    286,
    293,
    298,
    305,
    310,
    317,
    322,
    329,
    334]
def asL1 : List Addr := [339,
    344,
    349,
    354,
    359,
    366,
    373,
    378,
    383,
    388,
    393,
    400,
    407,
    412,
    419,
    424,
    429,
    436,
    441,
    446,
    451,
    456,
    463,
    470,
    475,
    480,
    487,
    492,
    497,
    504,
    511,
    518,
    525,
    532,
    537]
def asL2 : List Addr := [544,
    549,
    742,
    753,
    760,
    767,
    900,
    911,
    918,
    925,
    930,
    937,
    944,
    951,
    958,
    963,
    970,
    977,
    984,
    991,
    998,
    1005,
    1012,
    1017,
    1022,
    1029,
    1034,
    0,
    48,
    58,
    71,
    83,
    95,
    107,
    119]
def asL3 : List Addr := [131,
    143,
    155,
    167,
    179,
    191,
    203,
    215,
    227,
    236,
    243,
    250,
    257,
    264,
    271,
    278,
    285,
    292,
    297,
    304,
    309,
    316,
    321,
    328,
    333,
    338,
    343,
    348,
    353,
    358,
    365,
    372,
    377,
    382,
    387]
def asL4 : List Addr := [392,
    399,
    406,
    411,
    418,
    423,
    428,
    435,
    440,
    445,
    450,
    455,
    462,
    469,
    474,
    479,
    486,
    491,
    496,
    503,
    510,
    517,
    524,
    531,
    536,
    543,
    548,
    741,
    752,
    759,
    766,
    899,
    910,
    917,
    924]
def asL5 : List Addr := [929,
    936,
    943,
    950,
    957,
    962,
    969,
    976,
    983,
    990,
    997,
    1004,
    1011,
    1016,
    1021,
    1028,
    1033,
    43,
    44,
    45,
    46,
    47,
    57,
    60,
    70,
    82,
    94,
    106,
    118,
    130,
    142,
    154,
    166,
    178,
    190]
def asL6 : List Addr := [202,
    214,
    226,
    231,
    232,
    233,
    234,
    235,
    238,
    239,
    240,
    241,
    242,
    245,
    246,
    247,
    248,
    249,
    252,
    253,
    254,
    255,
    256,
    259,
    260,
    261,
    262,
    263,
    266,
    267,
    268,
    269,
    270,
    273,
    274]
def asL7 : List Addr := [275,
    276,
    277,
    280,
    281,
    282,
    283,
    284,
    287,
    288,
    289,
    290,
    291,
    294,
    295,
    296,
    299,
    300,
    301,
    302,
    303,
    306,
    307,
    308,
    311,
    312,
    313,
    314,
    315,
    318,
    319,
    320,
    323,
    324,
    325]
def asL8 : List Addr := [326,
    327,
    330,
    331,
    332,
    335,
    336,
    337,
    340,
    341,
    342,
    345,
    346,
    347,
    350,
    351,
    352,
    355,
    356,
    357,
    360,
    361,
    362,
    363,
    364,
    367,
    368,
    369,
    370,
    371,
    374,
    375,
    376,
    379,
    380]
def asL9 : List Addr := [381,
    384,
    385,
    386,
    389,
    390,
    391,
    394,
    395,
    396,
    397,
    398,
    401,
    402,
    403,
    404,
    405,
    408,
    409,
    410,
    413,
    414,
    415,
    416,
    417,
    420,
    421,
    422,
    425,
    426,
    427,
    430,
    431,
    432,
    433]
def asL10 : List Addr := [434,
    437,
    438,
    439,
    442,
    443,
    444,
    447,
    448,
    449,
    452,
    453,
    454,
    457,
    458,
    459,
    460,
    461,
    464,
    465,
    466,
    467,
    468,
    471,
    472,
    473,
    476,
    477,
    478,
    481,
    482,
    483,
    484,
    485,
    488]
def asL11 : List Addr := [489,
    490,
    493,
    494,
    495,
    498,
    499,
    500,
    501,
    502,
    505,
    506,
    507,
    508,
    509,
    512,
    513,
    514,
    515,
    516,
    519,
    520,
    521,
    522,
    523,
    526,
    527,
    528,
    529,
    530,
    533,
    534,
    535,
    538,
    539]
def asL12 : List Addr := [540,
    541,
    542,
    545,
    546,
    547,
    565,
    573,
    580,
    587,
    594,
    601,
    606,
    613,
    620,
    627,
    634,
    641,
    648,
    655,
    662,
    669,
    676,
    683,
    690,
    697,
    704,
    711,
    718,
    725,
    732,
    739,
    740,
    743,
    744]
def asL13 : List Addr := [747,
    748,
    749,
    750,
    751,
    754,
    755,
    756,
    757,
    758,
    761,
    762,
    763,
    764,
    765,
    781,
    790,
    799,
    806,
    813,
    820,
    827,
    834,
    841,
    848,
    855,
    862,
    869,
    876,
    883,
    890,
    897,
    898,
    901,
    902]
def asL14 : List Addr := [905,
    906,
    907,
    908,
    909,
    912,
    913,
    914,
    915,
    916,
    919,
    920,
    921,
    922,
    923,
    926,
    927,
    928,
    931,
    932,
    933,
    934,
    935,
    938,
    939,
    940,
    941,
    942,
    945,
    946,
    947,
    948,
    949,
    952,
    953]
def asL15 : List Addr := [954,
    955,
    956,
    959,
    960,
    961,
    964,
    965,
    966,
    967,
    968,
    971,
    972,
    973,
    974,
    975,
    978,
    979,
    980,
    981,
    982,
    985,
    986,
    987,
    988,
    989,
    992,
    993,
    994,
    995,
    996,
    999,
    1000,
    1001,
    1002]
def asL16 : List Addr := [1003,
    1006,
    1007,
    1008,
    1009,
    1010,
    1013,
    1014,
    1015,
    1018,
    1019,
    1020,
    1023,
    1024,
    1025,
    1026,
    1027,
    1030,
    1031,
    1032,
    564,
    558,
    572,
    579,
    586,
    593,
    600,
    605,
    612,
    619,
    626,
    633,
    640,
    647,
    654]
def asL17 : List Addr := [661,
    668,
    675,
    682,
    689,
    696,
    703,
    710,
    717,
    724,
    731,
    738,
    780,
    788,
    789,
    798,
    805,
    812,
    819,
    826,
    833,
    840,
    847,
    854,
    861,
    868,
    875,
    882,
    889,
    896,
    559,
    560,
    561,
    562,
    563]
def asL18 : List Addr := [557,
    571,
    574,
    575,
    576,
    577,
    578,
    581,
    582,
    583,
    584,
    585,
    588,
    589,
    590,
    591,
    592,
    595,
    596,
    597,
    598,
    599,
    602,
    603,
    604,
    607,
    608,
    609,
    610,
    611,
    614,
    615,
    616,
    617,
    618]
def asL19 : List Addr := [621,
    622,
    623,
    624,
    625,
    628,
    629,
    630,
    631,
    632,
    635,
    636,
    637,
    638,
    639,
    642,
    643,
    644,
    645,
    646,
    649,
    650,
    651,
    652,
    653,
    656,
    657,
    658,
    659,
    660,
    663,
    664,
    665,
    666,
    667]
def asL20 : List Addr := [670,
    671,
    672,
    673,
    674,
    677,
    678,
    679,
    680,
    681,
    684,
    685,
    686,
    687,
    688,
    691,
    692,
    693,
    694,
    695,
    698,
    699,
    700,
    701,
    702,
    705,
    706,
    707,
    708,
    709,
    712,
    713,
    714,
    715,
    716]
def asL21 : List Addr := [719,
    720,
    721,
    722,
    723,
    726,
    727,
    728,
    729,
    730,
    733,
    734,
    735,
    736,
    737,
    775,
    776,
    777,
    778,
    779,
    787,
    791,
    797,
    800,
    801,
    802,
    803,
    804,
    807,
    808,
    809,
    810,
    811,
    814,
    815]
def asL22 : List Addr := [816,
    817,
    818,
    821,
    822,
    823,
    824,
    825,
    828,
    829,
    830,
    831,
    832,
    835,
    836,
    837,
    838,
    839,
    842,
    843,
    844,
    845,
    846,
    849,
    850,
    851,
    852,
    853,
    856,
    857,
    858,
    859,
    860,
    863,
    864]
def asL23 : List Addr := [865,
    866,
    867,
    870,
    871,
    872,
    873,
    874,
    877,
    878,
    879,
    880,
    881,
    884,
    885,
    886,
    887,
    888,
    891,
    892,
    893,
    894,
    895]
def asL : List Addr := asL0 ++ (asL1 ++ (asL2 ++ (asL3 ++ (asL4 ++ (asL5 ++ (asL6 ++ (asL7 ++ (asL8 ++ (asL9 ++ (asL10 ++ (asL11 ++ (asL12 ++ (asL13 ++ (asL14 ++ (asL15 ++ (asL16 ++ (asL17 ++ (asL18 ++ (asL19 ++ (asL20 ++ (asL21 ++ (asL22 ++ (asL23)))))))))))))))))))))))
def nmL0 : List PySem.Str := ["_wall",
    "SumsError",
    "InvalidLedger",
    "InvalidKey",
    "InvalidAmount",
    "InvalidNumber",
    "InvalidStep",
    "InvalidWidth",
    "InvalidPlaces",
    "InvalidSums",
    "InvalidKeys",
    "InvalidIndex",
    "OtherLength",
    "NotMade",
    "NotALedger",
    "NotSums",
    "is_an_integer",
    "is_from",
    "check_key",
    "check_amount",
    "check_number",
    "check_step",
    "value_of",
    "divided",
    "convolved"]
def nmL1 : List PySem.Str := ["from_roots",
    "is_change",
    "is_ledger",
    "check_ledger",
    "summed",
    "amount_at",
    "with_amount",
    "weight",
    "added",
    "less",
    "scaled",
    "multiplied",
    "product",
    "power",
    "moved",
    "folded",
    "cut",
    "is_sums",
    "check_sums",
    "check_two",
    "first_sums",
    "first_powers",
    "multiplied_sums",
    "first_apart",
    "sums_of"]
def nmL2 : List PySem.Str := ["with_change",
    "sums_added",
    "sums_less",
    "sums_scaled",
    "sums_product",
    "sums_moved",
    "sums_quotient",
    "are_keys",
    "check_keys",
    "fractions_at",
    "only_ledger",
    "ledger_in_span",
    "is_made",
    "brief",
    "in_span",
    "on_keys",
    "least_blind",
    "without_step",
    "cleared",
    "Ledger",
    "pairs_of",
    "times_operand",
    "moved_back",
    "Sums",
    "numbers_of"]
def nmL3 : List PySem.Str := ["_law_jar",
    "_law_pick",
    "_law_gather",
    "_law_amount",
    "_law_book",
    "_law_wide",
    "_law_any",
    "_law_numbers",
    "_law_odd",
    "_law_no_book",
    "_law_no_numbers",
    "_law_no_number",
    "_law_call",
    "_law_said",
    "_law_kin",
    "_law_no_places",
    "_law_drawn",
    "_law_bad"]
def nmL : List PySem.Str := nmL0 ++ (nmL1 ++ (nmL2 ++ (nmL3)))
abbrev RWo : PySem.W.OpenRow := PySem.W.OpenLaw.row PySem.Challenge.rw_changesums_k20_errors_of_briefs
abbrev hkB : PySem.W.Hook := He.hookB asL faL fnL exL
def obB (s : PySem.W.SharedT) : He.AlB := He.obsB asL faL fnL exL (HandSHeadRun.getT s)
theorem obB_eq (s : PySem.W.SharedT) : obB s = hkB.obs s.abs := He.obsB_eq (HandSHeadRun.getT_eq s)
set_option maxHeartbeats 0 in
theorem runB (w : World) : HandSHeadRun.RunEqI RWo (PySem.W.view RWo.prog [0, 104]) hkB obB 20000 nmL w := by
  unfold HandSHeadRun.RunEqI
  kernel_rfl
end Lw
set_option Elab.async false
set_option linter.all false
set_option maxRecDepth 100000
set_option maxHeartbeats 4000000
namespace Cr
open PySem PySem.Spec PyProof.Rows L2 L2

/-! ### data in the heap -/
def notPair : PyData → Bool
  | .tuple [.int _, .int _] => false
  | _ => true
/-- no ledger: its first item is no pair of ints -/
def lax : List PyData → Bool
  | [] => true
  | d :: _ => notPair d
/-- a tuple at a: its object is known to have no dict of its own, but where no ledger is told -/
def Tp (H : Hp) (a : Addr) (xs : List V) (ds : List PyData) : Prop := (∃ o : Obj, o.dict = none ∧ H a = some (.frz o (.tup xs))) ∨ (lax ds = true ∧ H a = some (.tup xs))
theorem Tp.rd {H : Hp} {a : Addr} {xs : List V} {ds : List PyData} (h : Tp H a xs ds) : Rd H a (.tup xs) := by
  rcases h with ⟨o, _, e⟩ | ⟨_, e⟩
  · exact .inr ⟨o, e⟩
  · exact .inl e
theorem Tp.mono {H H' : Hp} {a : Addr} {xs : List V} {ds : List PyData} (s : Same H H') (h : Tp H a xs ds) : Tp H' a xs ds := by
  rcases h with ⟨o, d, e⟩ | ⟨d, e⟩
  · exact .inl ⟨o, d, s _ _ e⟩
  · exact .inr ⟨d, s _ _ e⟩
theorem Tp.new {H : Hp} {a : Addr} {xs : List V} {ds : List PyData} {o : Obj} (h : o.dict = none) : Tp (upd H a (.frz o (.tup xs))) a xs ds := .inl ⟨o, h, upd_same⟩
/-- a tuple of written items -/
def tTup (t : TA) : TE := fun σ H Q => t σ H fun xs H1 => xs.length ≤ sizeLine ∧ ∀ (p : Addr) (o : Obj), o.dict = none → H1 p = none → Q (.ref p) (upd H1 p (.frz o (.tup xs)))
theorem pe_tup {X : Cx} {es : List Expr} {t : TA} {k : Nat} {pos : Pos} (h : PA X es t) : PE X (.Tuple es k pos) (tTup t) := by
  constructor
  intro pins s σ H Q I hq
  refine wpAny_Tuple_spliced (thn (h.run pos pins s σ H _ I hq) fun us t1 ⟨xs, G, I1, r, z, q⟩ => ⟨by rw [← r.length]; exact z, ?_⟩)
  have nf : G t1.heap.objs.size = none := I1.hok.fresh (Nat.le_refl _)
  have eq : (t1.heap.push { cls := .type "tuple", data := .seq us.toArray }).get? t1.heap.objs.size = some { cls := .type "tuple", data := .seq us.toArray } := Heap.get?_push_size _ rfl
  refine ⟨.ref t1.heap.objs.size, _, I1.laid (t' := t1.toks) (o := .frz { cls := .type "tuple", data := .seq us.toArray } (.tup xs)) (fun b u e => Heap.get?_push_of_some _ e) (Nat.le_refl _) ?_, rfl, q _ _ rfl nf⟩
  exact ⟨eq, z, us, r, _, eq, rfl, _, rfl⟩
/-- an own instance of the class at C, as data -/
abbrev insD (C : Addr) : PyData := .dict [(.int (C : Int), .none)]
mutual
inductive Dq (H : Hp) : V → PyData → Prop
  | non : Dq H .non .none
  | bl (b : Bool) : Dq H (.bl b) (.bool b)
  | int (i : Int) : Dq H (.int i) (.int i)
  | str (x : Str) : Dq H (.str x) (.str x)
  | lst {a : Addr} {xs : List V} {ds : List PyData} : H a = some (.lst xs) → DqAll H xs ds → Dq H (.ref a) (.list ds)
  | tup {a : Addr} {xs : List V} {ds : List PyData} : Tp H a xs ds → DqAll H xs ds → Dq H (.ref a) (.tuple ds)
  | dic {a : Addr} : H a = some (.dK []) → Dq H (.ref a) (.dict [])
  | ins {a C dx : Addr} {fs : List (Str × V)} : H a = some (.ins C dx fs) → Dq H (.ref a) (insD C)
inductive DqAll (H : Hp) : List V → List PyData → Prop
  | nil : DqAll H [] []
  | cons {v : V} {vs : List V} {d : PyData} {ds : List PyData} : Dq H v d → DqAll H vs ds → DqAll H (v :: vs) (d :: ds)
end
section
variable {K : PySem.W.Frag} {H H' : Hp}
mutual
theorem Dq.mono (e : Same H H') : ∀ (d : PyData) (v : V), Dq H v d → Dq H' v d
  | .none, _, h => by cases h; exact .non
  | .bool b, _, h => by cases h; exact .bl b
  | .int i, _, h => by cases h; exact .int i
  | .str x, _, h => by cases h; exact .str x
  | .list ds, _, h => by
    cases h with
    | lst hs ha => exact .lst (e _ _ hs) (DqAll.mono e ds _ ha)
  | .tuple ds, _, h => by
    cases h with
    | tup hs ha => exact .tup (hs.mono e) (DqAll.mono e ds _ ha)
  | .dict _, _, h => by
    cases h with
    | dic hs => exact .dic (e _ _ hs)
    | ins hs => exact .ins (e _ _ hs)
theorem DqAll.mono (e : Same H H') : ∀ (ds : List PyData) (vs : List V), DqAll H vs ds → DqAll H' vs ds
  | [], _, h => by cases h; exact .nil
  | d :: ds, _, h => by
    cases h with
    | cons h1 h2 => exact .cons (Dq.mono e d _ h1) (DqAll.mono e ds _ h2)
end
mutual
theorem Dq.dp (K : PySem.W.Frag) : ∀ (d : PyData) (v : V), d.hasDict = false → Dq H v d → Dp K H v d
  | .none, _, _, h => by cases h; exact .non
  | .bool b, _, _, h => by cases h; exact .bl b
  | .int i, _, _, h => by cases h; exact .int i
  | .str x, _, _, h => by cases h; exact .str x
  | .list ds, _, n, h => by
    cases h with
    | lst hs ha => exact .lst (.inl (.inl hs)) (DqAll.dp K ds _ (by simpa [PyData.hasDict] using n) ha)
  | .tuple ds, _, n, h => by
    cases h with
    | tup hs ha => exact .tup (.inl hs.rd) (DqAll.dp K ds _ (by simpa [PyData.hasDict] using n) ha)
  | .dict _, _, n, h => by simp [PyData.hasDict] at n
theorem DqAll.dp (K : PySem.W.Frag) : ∀ (ds : List PyData) (vs : List V), PyData.hasDictAll ds = false → DqAll H vs ds → DpAll K H vs ds
  | [], _, _, h => by cases h; exact .nil
  | d :: ds, _, n, h => by
    cases h with
    | cons h1 h2 =>
      simp only [PyData.hasDictAll, Bool.or_eq_false_iff] at n
      exact .cons (Dq.dp K d _ n.1 h1) (DqAll.dp K ds _ n.2 h2)
end
theorem no_dict {d : PyData} (s : SeqAt.shaped d = true) : d.hasDict = false := PyData.hasDict_of_canLay d (by unfold SeqAt.shaped at s; rw [Bool.and_eq_true] at s; exact s.1)
theorem DqAll.length : ∀ {vs : List V} {ds : List PyData}, DqAll H vs ds → vs.length = ds.length
  | [], _, h => by cases h; rfl
  | v :: vs, _, h => by
    cases h with
    | cons h1 h2 => exact congrArg (· + 1) (DqAll.length h2)
theorem DqAll.get : ∀ {vs : List V} {ds : List PyData} {i : Nat} {d : PyData}, DqAll H vs ds → ds[i]? = some d → ∃ v, vs[i]? = some v ∧ Dq H v d
  | [], _, i, d, h, e => by cases h; simp at e
  | v :: vs, _, 0, d, h, e => by
    cases h with
    | cons h1 h2 => simp at e; subst e; exact ⟨v, rfl, h1⟩
  | v :: vs, _, i + 1, d, h, e => by
    cases h with
    | cons h1 h2 => obtain ⟨w, a, b⟩ := DqAll.get (i := i) h2 (by simpa using e); exact ⟨w, by simpa using a, b⟩
theorem DqAll.get' : ∀ {vs : List V} {ds : List PyData} {i : Nat} {v : V}, DqAll H vs ds → vs[i]? = some v → ∃ d, ds[i]? = some d ∧ Dq H v d
  | [], _, i, d, h, e => by cases h; simp at e
  | v :: vs, _, 0, d, h, e => by
    cases h with
    | cons h1 h2 => simp at e; subst e; exact ⟨_, rfl, h1⟩
  | v :: vs, _, i + 1, d, h, e => by
    cases h with
    | cons h1 h2 => obtain ⟨w, a, b⟩ := DqAll.get' (i := i) h2 (by simpa using e); exact ⟨w, by simpa using a, b⟩
theorem DqAll.append : ∀ {vs : List V} {ds : List PyData} {ws : List V} {es : List PyData}, DqAll H vs ds → DqAll H ws es → DqAll H (vs ++ ws) (ds ++ es)
  | [], _, _, _, h, g => by cases h; exact g
  | v :: vs, _, _, _, h, g => by
    cases h with
    | cons h1 h2 => exact .cons h1 (DqAll.append h2 g)
theorem DqAll.drop : ∀ {vs : List V} {ds : List PyData} (n : Nat), DqAll H vs ds → DqAll H (vs.drop n) (ds.drop n)
  | _, _, 0, h => h
  | [], _, _ + 1, h => by cases h; exact .nil
  | v :: vs, _, n + 1, h => by
    cases h with
    | cons h1 h2 => exact DqAll.drop n h2
theorem DqAll.take : ∀ {vs : List V} {ds : List PyData} (n : Nat), DqAll H vs ds → DqAll H (vs.take n) (ds.take n)
  | _, _, 0, h => .nil
  | [], _, _ + 1, h => by cases h; exact .nil
  | v :: vs, _, n + 1, h => by
    cases h with
    | cons h1 h2 => exact .cons h1 (DqAll.take n h2)
theorem DqAll.ints : ∀ {vs : List V} {ns : List Int}, DqAll H vs (ns.map PyData.int) → vs = ns.map V.int
  | [], [], _ => rfl
  | [], _ :: _, h => by cases h
  | _ :: _, [], h => by cases h
  | v :: vs, n :: ns, h => by
    cases h with
    | cons h1 h2 => cases h1; rw [DqAll.ints h2]; rfl
theorem DqAll.bls : ∀ {vs : List V} {ns : List Bool}, DqAll H vs (ns.map PyData.bool) → vs = ns.map V.bl
  | [], [], _ => rfl
  | [], _ :: _, h => by cases h
  | _ :: _, [], h => by cases h
  | v :: vs, n :: ns, h => by
    cases h with
    | cons h1 h2 => cases h1; rw [DqAll.bls h2]; rfl
theorem DqAll.ofInts : ∀ ns : List Int, DqAll H (ns.map V.int) (ns.map PyData.int)
  | [] => .nil
  | n :: ns => .cons (.int n) (DqAll.ofInts ns)
theorem Dq.intOf {v : V} {i : Int} (h : Dq H v (.int i)) : v = .int i := by cases h; rfl
theorem Dq.blOf {v : V} {i : Bool} (h : Dq H v (.bool i)) : v = .bl i := by cases h; rfl
theorem Dq.nonOf {v : V} (h : Dq H v .none) : v = .non := by cases h; rfl
theorem Dq.tupOf {v : V} {ds : List PyData} (h : Dq H v (.tuple ds)) : ∃ a xs, v = .ref a ∧ Tp H a xs ds ∧ DqAll H xs ds := by
  cases h with
  | tup h1 h2 => exact ⟨_, _, rfl, h1, h2⟩
theorem Dq.lstOf {v : V} {ds : List PyData} (h : Dq H v (.list ds)) : ∃ a xs, v = .ref a ∧ H a = some (.lst xs) ∧ DqAll H xs ds := by
  cases h with
  | lst h1 h2 => exact ⟨_, _, rfl, h1, h2⟩
end

theorem same_upd {H : Hp} {p : Addr} {o : HO} (h : H p = none) : Same H (upd H p o) := fun b x e => by
  rw [upd_ne (ne_of_none e h)]
  exact e
theorem _root_.L2.Same.upd2 {H H' : Hp} {p : Addr} {o : HO} (e : Same H H') : Same (upd H p o) (upd H' p o) := fun b x q => by
  by_cases hb : b = p
  · subst hb; rw [upd_same] at q ⊢; exact q
  · rw [upd_ne hb] at q ⊢; exact e b x q
/-- an untracked place may change -/
theorem _root_.L2.Same.out {H H' : Hp} {p : Addr} {o : HO} (e : Same H H') (h : H p = none) : Same H (upd H' p o) := fun b x q => by
  rw [upd_ne (ne_of_none q h)]
  exact e b x q

/-! ### slots, the jar, the state -/
inductive Sl where
  | any
  | dat (d : PyData)
  | adr (p : Addr)
  | dic (m : List (Int × Int))
  | scr (K : PySem.W.Frag) (ns : List Int)
/-- a dict of ints -/
def mdict (m : List (Int × Int)) : List (Key × V) := m.map fun x => (Sum.inl x.1, V.int x.2)
def SlOk (H : Hp) : V → Sl → Prop
  | _, .any => True
  | v, .dat d => Dq H v d
  | v, .adr p => v = .ref p
  | v, .dic m => ∃ p, v = .ref p ∧ H p = some (.dK (mdict m))
  | v, .scr K ns => ∃ p, v = .ref p ∧ SqL K H p (ns.map V.int)
theorem SlOk.mono {H H' : Hp} (e : Same H H') : ∀ {v : V} {s : Sl}, SlOk H v s → SlOk H' v s
  | _, .any, _ => trivial
  | _, .dat d, h => Dq.mono e d _ h
  | _, .adr _, h => h
  | _, .dic _, h => by
    obtain ⟨p, a, b⟩ := h
    exact ⟨p, a, e _ _ b⟩
  | _, .scr K ns, h => by
    obtain ⟨p, a, b⟩ := h
    exact ⟨p, a, Same.seq e b⟩
def Sg (H : Hp) (σ : L2.St) (δ : List Sl) : Prop := σ.length = δ.length ∧ ∀ (i : Nat) (s : Sl), δ[i]? = some s → s ≠ .any → ∃ v, σ[i]? = some (some v) ∧ SlOk H v s
theorem Sg.mono {H H' : Hp} {σ : L2.St} {δ : List Sl} (e : Same H H') (h : Sg H σ δ) : Sg H' σ δ := ⟨h.1, fun i s a b => by
  obtain ⟨v, p, q⟩ := h.2 i s a b
  exact ⟨v, p, q.mono e⟩⟩
theorem Sg.set {H : Hp} {σ : L2.St} {δ : List Sl} {v : V} {s : Sl} (h : Sg H σ δ) (i : Nat) (r : SlOk H v s) : Sg H (σ.set i (some v)) (δ.set i s) := by
  refine ⟨by rw [List.length_set, List.length_set]; exact h.1, fun j t a b => ?_⟩
  by_cases hj : i = j
  · subst hj
    by_cases hl : i < δ.length
    · rw [List.getElem?_set_self hl] at a
      cases a
      exact ⟨v, by rw [List.getElem?_set_self (by rw [h.1]; exact hl)], r⟩
    · rw [List.getElem?_eq_none (by rw [List.length_set]; omega)] at a; cases a
  · rw [List.getElem?_set_ne hj] at a ⊢
    exact h.2 j t a b
theorem Sg.get {H : Hp} {σ : L2.St} {δ : List Sl} {i : Nat} {d : PyData} (h : Sg H σ δ) (e : δ[i]? = some (.dat d)) : ∃ v, σ[i]? = some (some v) ∧ Dq H v d := h.2 i _ e (fun z => by cases z)
theorem Sg.getA {H : Hp} {σ : L2.St} {δ : List Sl} {i : Nat} {p : Addr} (h : Sg H σ δ) (e : δ[i]? = some (.adr p)) : σ[i]? = some (some (.ref p)) := by
  obtain ⟨v, a, b⟩ := h.2 i _ e (fun z => by cases z)
  rw [a]; rw [show v = .ref p from b]
/-- less is known -/
theorem Sg.weak {H : Hp} {σ : L2.St} {δ δ' : List Sl} (h : Sg H σ δ) (hl : δ'.length = δ.length) (hw : ∀ (i : Nat) (s : Sl), δ'[i]? = some s → s = Sl.any ∨ δ[i]? = some s) : Sg H σ δ' := ⟨by rw [h.1, hl], fun i s a b => by
  rcases hw i s a with e | e
  · exact absurd e b
  · exact h.2 i s e b⟩

def Jar (n : Nat) (H : Hp) (p : Addr) : Prop := ∃ x y z : Int, H p = some (.lst [.int x, .int y, .int z]) ∧ 0 ≤ y ∧ y < 2 ^ 140 ∧ 0 ≤ z ∧ z + n ≤ 1000000000
theorem Jar.mono {n m : Nat} {H : Hp} {p : Addr} (h : Jar n H p) (l : m ≤ n) : Jar m H p := by
  obtain ⟨x, y, z, a, b, c, d, e⟩ := h
  exact ⟨x, y, z, a, b, c, d, by omega⟩
theorem Jar.ne {n : Nat} {H : Hp} {p : Addr} (h : Jar n H p) : H p ≠ none := by
  obtain ⟨x, y, z, a, _⟩ := h
  rw [a]; exact fun z => by cases z
theorem Jar.same {n : Nat} {H H' : Hp} {p : Addr} (h : Jar n H p) (e : ∀ o, H p = some o → H' p = some o) : Jar n H' p := by
  obtain ⟨x, y, z, a, r⟩ := h
  exact ⟨x, y, z, e _ a, r⟩

structure Gr (q : Option Addr) (H H1 Hk H2 : Hp) : Prop where
  k : Same H Hk
  a : Same Hk H2
  s : ∀ b o, q ≠ some b → H1 b = some o → H2 b = some o
  f : ∀ b, H b = none → H1 b ≠ none → Hk b = none
  t : ∀ b, H1 b ≠ none → H2 b ≠ none
theorem Gr.refl {q : Option Addr} {H H1 : Hp} (e : Same H H1) : Gr q H H1 H H1 := ⟨Same.refl H, e, fun _ _ _ h => h, fun _ h _ => h, fun _ h => h⟩
theorem Gr.trans {q : Option Addr} {H H1 Hk H2 Hk' H3 : Hp} (x : Gr q H H1 Hk H2) (y : Gr q Hk H2 Hk' H3) : Gr q H H1 Hk' H3 :=
  ⟨x.k.trans y.k, y.a, fun b o n h => y.s b o n (x.s b o n h), fun b h h1 => y.f b (x.f b h h1) (x.t b h1), fun b h => y.t b (x.t b h)⟩
theorem Gr.none_to {q : Option Addr} {H H1 Hk H2 : Hp} (x : Gr none H H1 Hk H2) : Gr q H H1 Hk H2 := ⟨x.k, x.a, fun b o _ h => x.s b o (fun z => by cases z) h, x.f, x.t⟩
/-- a new object, known at once -/
theorem Gr.new {q : Option Addr} {H H1 : Hp} {p : Addr} {o : HO} (e : Same H H1) (h : H1 p = none) : Gr q H H1 (upd H p o) (upd H1 p o) := by
  have hn : H p = none := e.free h
  refine ⟨same_upd hn, e.upd2, fun b u _ q => by rw [upd_ne (ne_of_none q h)]; exact q, fun b q z => ?_, fun b z => ?_⟩
  · rw [upd_ne (fun w => z (by rw [w]; exact h))]; exact q
  · rw [upd_ne (fun w => z (by rw [w]; exact h))]; exact z
/-- a new object, not known -/
theorem Gr.cell {q : Option Addr} {H H1 : Hp} {p : Addr} {o : HO} (e : Same H H1) (h : H1 p = none) : Gr q H H1 H (upd H1 p o) := by
  have hn : H p = none := e.free h
  refine ⟨Same.refl H, e.out hn, fun b u _ q => by rw [upd_ne (ne_of_none q h)]; exact q, fun b q z => q, fun b z => ?_⟩
  rw [upd_ne (fun w => z (by rw [w]; exact h))]; exact z
/-- a cell of ours changes -/
theorem Gr.put {q : Option Addr} {H H1 Hk H2 : Hp} {p : Addr} {o : HO} (x : Gr q H H1 Hk H2) (h : H1 p = none) (hk : Hk p = none) : Gr q H H1 Hk (upd H2 p o) := by
  refine ⟨x.k, x.a.out hk, fun b u n z => ?_, x.f, fun b z => ?_⟩
  · rw [upd_ne (ne_of_none z h)]; exact x.s b u n z
  · rw [upd_ne (fun w => z (by rw [w]; exact h))]; exact x.t b z
/-- a cell of ours becomes known -/
theorem Gr.freeze {q : Option Addr} {H H1 Hk H2 : Hp} {p : Addr} {o : HO} (x : Gr q H H1 Hk H2) (h : H1 p = none) (hk : Hk p = none) (e : H2 p = some o) : Gr q H H1 (upd Hk p o) H2 := by
  refine ⟨x.k.trans (same_upd hk), fun b u z => ?_, x.s, fun b z w => ?_, x.t⟩
  · by_cases hb : b = p
    · subst hb; rw [upd_same] at z; rw [← z]; exact e
    · rw [upd_ne hb] at z; exact x.a b u z
  · rw [upd_ne (fun v => w (by rw [v]; exact h))]; exact x.f b z w

structure Ok (q : Option Addr) (n : Nat) (H H1 : Hp) : Prop where
  a : Same H H1
  kf : ∀ p, q = some p → H p = none
  j : ∀ p, q = some p → Jar n H1 p
theorem Ok.mono {q : Option Addr} {n m : Nat} {H H1 : Hp} (h : Ok q n H H1) (l : m ≤ n) : Ok q m H H1 := ⟨h.a, h.kf, fun p e => (h.j p e).mono l⟩
/-- behind a step that leaves the jar -/
theorem Ok.go {q : Option Addr} {n : Nat} {H H1 Hk H2 : Hp} (h : Ok q n H H1) (g : Gr none H H1 Hk H2) : Ok q n Hk H2 :=
  ⟨g.a, fun p e => g.f p (h.kf p e) (h.j p e).ne, fun p e => (h.j p e).same fun o z => g.s p o (fun w => by cases w) z⟩
theorem Ok.cell {q : Option Addr} {n : Nat} {H H1 : Hp} {p : Addr} {o : HO} (h : Ok q n H H1) (hk : H p = none) (hq : q ≠ some p) : Ok q n H (upd H1 p o) :=
  ⟨h.a.out hk, h.kf, fun r e => (h.j r e).same fun u z => by rw [upd_ne (fun w => hq (by rw [← w]; exact e))]; exact z⟩

/-- the state of a def that runs: from its entry (A0, B0) -/
structure At (q : Option Addr) (n : Nat) (δ : List Sl) (A0 B0 : Hp) (σ : L2.St) (Hk H1 : Hp) : Prop where
  ok : Ok q n Hk H1
  sg : Sg Hk σ δ
  gr : Gr q A0 B0 Hk H1
theorem At.go {q : Option Addr} {n m : Nat} {δ δ' : List Sl} {A0 B0 : Hp} {σ σ' : L2.St} {Hk H1 Hk' H2 : Hp} (s : At q n δ A0 B0 σ Hk H1) (g : Gr q Hk H1 Hk' H2) (o : Ok q m Hk' H2) (sg : Sg Hk' σ' δ') : At q m δ' A0 B0 σ' Hk' H2 := ⟨o, sg, s.gr.trans g⟩
theorem At.mono {q : Option Addr} {n m : Nat} {δ : List Sl} {A0 B0 : Hp} {σ : L2.St} {Hk H1 : Hp} (s : At q n δ A0 B0 σ Hk H1) (l : m ≤ n) : At q m δ A0 B0 σ Hk H1 := ⟨s.ok.mono l, s.sg, s.gr⟩
theorem At.weak {q : Option Addr} {n : Nat} {δ δ' : List Sl} {A0 B0 : Hp} {σ : L2.St} {Hk H1 : Hp} (s : At q n δ A0 B0 σ Hk H1) (hl : δ'.length = δ.length) (hw : ∀ (i : Nat) (s : Sl), δ'[i]? = some s → s = Sl.any ∨ δ[i]? = some s) : At q n δ' A0 B0 σ Hk H1 := ⟨s.ok, s.sg.weak hl hw, s.gr⟩

/-! ### judgements -/
def J (q : Option Addr) (δ : List Sl) (te : TE) (c : Nat) (Φ : PyData → Prop) : Prop :=
  ∀ (σ : L2.St) (H H1 : Hp) (n : Nat), Sg H σ δ → Ok q (n + c) H H1 → ∀ Q : VK, (∀ d v Hk H2, Gr q H H1 Hk H2 → Ok q n Hk H2 → Φ d → Dq Hk v d → Q v H2) → te σ H1 Q
abbrev E (q : Option Addr) (δ : List Sl) (te : TE) (d : PyData) : Prop := J q δ te 0 (fun x => x = d)
def TJ (q : Option Addr) (δ : List Sl) (tt : TT) (c : Nat) (Φ : Bool → Prop) : Prop :=
  ∀ (σ : L2.St) (H H1 : Hp) (n : Nat), Sg H σ δ → Ok q (n + c) H H1 → ∀ Q : Bool → Hp → Prop, (∀ b Hk H2, Gr q H H1 Hk H2 → Ok q n Hk H2 → Φ b → Q b H2) → tt σ H1 Q
abbrev TB (q : Option Addr) (δ : List Sl) (tt : TT) (b : Bool) : Prop := TJ q δ tt 0 (fun x => x = b)
def VS (H : Hp) (vs : List V) (sls : List Sl) : Prop := vs.length = sls.length ∧ ∀ (i : Nat) (s : Sl), sls[i]? = some s → ∃ v, vs[i]? = some v ∧ SlOk H v s
theorem VS.mono {H H' : Hp} {vs : List V} {sls : List Sl} (e : Same H H') (h : VS H vs sls) : VS H' vs sls := ⟨h.1, fun i s a => by
  obtain ⟨v, p, q⟩ := h.2 i s a
  exact ⟨v, p, q.mono e⟩⟩
theorem VS.nil {H : Hp} : VS H [] [] := ⟨rfl, fun i s e => by simp at e⟩
theorem VS.cons {H : Hp} {v : V} {vs : List V} {s : Sl} {sls : List Sl} (h : SlOk H v s) (t : VS H vs sls) : VS H (v :: vs) (s :: sls) := ⟨by rw [List.length_cons, List.length_cons, t.1], fun i u e => by
  cases i with
  | zero => simp at e; subst e; exact ⟨v, rfl, h⟩
  | succ i => obtain ⟨w, a, b⟩ := t.2 i u (by simpa using e); exact ⟨w, by simpa using a, b⟩⟩
theorem VS.dats {H : Hp} : ∀ {vs : List V} {ds : List PyData}, VS H vs (ds.map Sl.dat) → DqAll H vs ds
  | [], [], _ => .nil
  | [], _ :: _, h => by have := h.1; simp at this
  | _ :: _, [], h => by have := h.1; simp at this
  | v :: vs, d :: ds, h => by
    obtain ⟨w, a, b⟩ := h.2 0 (.dat d) rfl
    have e : v = w := by simpa using a
    subst e
    exact .cons b (VS.dats (ds := ds) ⟨by have := h.1; simpa using this, fun i s e => by
      obtain ⟨x, p, q⟩ := h.2 (i + 1) s (by simpa using e)
      exact ⟨x, by simpa using p, q⟩⟩)
def AJ (q : Option Addr) (δ : List Sl) (ta : TA) (c : Nat) (Φ : List Sl → Prop) : Prop :=
  ∀ (σ : L2.St) (H H1 : Hp) (n : Nat), Sg H σ δ → Ok q (n + c) H H1 → ∀ Q : List V → Hp → Prop, (∀ sls vs Hk H2, Gr q H H1 Hk H2 → Ok q n Hk H2 → Φ sls → VS Hk vs sls → Q vs H2) → ta σ H1 Q
abbrev AE (q : Option Addr) (δ : List Sl) (ta : TA) (sls : List Sl) : Prop := AJ q δ ta 0 (fun x => x = sls)

section
variable {K : PySem.W.Frag} {q : Option Addr} {δ : List Sl} {te ta tb tc : TE} {tt tu : TT} {c c1 c2 c3 : Nat} {Φ Φ1 Φ2 Φ3 : PyData → Prop} {d d1 d2 : PyData}

theorem J.imp (h : J q δ te c Φ) (i : ∀ d, Φ d → Φ1 d) : J q δ te c Φ1 := fun σ H H1 n sg o Q k => h σ H H1 n sg o Q fun d v Hk H2 g o' p r => k d v Hk H2 g o' (i d p) r
theorem J.cost (h : J q δ te c Φ) (l : c ≤ c1) : J q δ te c1 Φ := fun σ H H1 n sg o Q k => h σ H H1 n sg (o.mono (by omega)) Q k
theorem J.to (h : J q δ te c Φ) (l : c ≤ c1) (i : ∀ d, Φ d → Φ1 d) : J q δ te c1 Φ1 := (h.cost l).imp i
theorem TJ.imp {Φ Φ1 : Bool → Prop} (h : TJ q δ tt c Φ) (i : ∀ d, Φ d → Φ1 d) : TJ q δ tt c Φ1 := fun σ H H1 n sg o Q k => h σ H H1 n sg o Q fun d Hk H2 g o' p => k d Hk H2 g o' (i d p)
theorem TJ.cost {Φ : Bool → Prop} (h : TJ q δ tt c Φ) (l : c ≤ c1) : TJ q δ tt c1 Φ := fun σ H H1 n sg o Q k => h σ H H1 n sg (o.mono (by omega)) Q k
theorem AJ.cost {ta : TA} {Φ : List Sl → Prop} (h : AJ q δ ta c Φ) (l : c ≤ c1) : AJ q δ ta c1 Φ := fun σ H H1 n sg o Q k => h σ H H1 n sg (o.mono (by omega)) Q k
theorem AJ.imp {ta : TA} {Φ Φ1 : List Sl → Prop} (h : AJ q δ ta c Φ) (i : ∀ d, Φ d → Φ1 d) : AJ q δ ta c Φ1 := fun σ H H1 n sg o Q k => h σ H H1 n sg o Q fun d v Hk H2 g o' p r => k d v Hk H2 g o' (i d p) r
theorem e_is (h : E q δ te d) (e : d = d1) : E q δ te d1 := by rw [← e]; exact h
theorem tb_is {a b : Bool} (h : TB q δ tt a) (e : a = b) : TB q δ tt b := by rw [← e]; exact h

/-! names and constants -/
theorem e_var {i : Nat} (e : δ[i]? = some (.dat d)) : E q δ (tVar i) d := fun σ H H1 n sg o Q k => by
  obtain ⟨v, a, b⟩ := sg.get e
  exact ⟨v, a, k d v H H1 (Gr.refl o.a) o rfl b⟩
theorem e_c {v : V} (h : ∀ H, Dq H v d) : E q δ (tC v) d := fun σ H H1 n sg o Q k => k d v H H1 (Gr.refl o.a) o rfl (h H)
theorem e_int {i : Int} : E q δ (tC (.int i)) (.int i) := e_c fun _ => .int i
theorem e_bl {i : Bool} : E q δ (tC (.bl i)) (.bool i) := e_c fun _ => .bl i
theorem e_non : E q δ (tC .non) .none := e_c fun _ => .non
theorem e_str {x : Str} : E q δ (tC (.str x)) (.str x) := e_c fun _ => .str x

/-! operators -/
def RJ (r : R2) (a b : PyData) (Φ : PyData → Prop) : Prop := ∀ (x y : V) (H H1 : Hp), Dq H x a → Dq H y b → Same H H1 → ∀ Q : VK, (∀ d v Hk H2, Gr none H H1 Hk H2 → Φ d → Dq Hk v d → Q v H2) → r x y H1 Q
theorem j_op {r : R2} (ha : J q δ ta c1 Φ1) (hb : J q δ tb c2 Φ2) (hr : ∀ a b, Φ1 a → Φ2 b → RJ r a b Φ) : J q δ (tOp r ta tb) (c2 + c1) Φ := fun σ H H1 n sg o Q k =>
  ha σ H H1 (n + c2) sg (by rw [Nat.add_assoc]; exact o) _ fun a x Hk H2 g o1 pa da => hb σ Hk H2 n (sg.mono g.k) o1 _ fun b y Hk' H3 g' o2 pb db =>
    hr a b pa pb x y Hk' H3 (Dq.mono g'.k _ _ da) db g'.a _ fun d v Hk2 H4 g2 p r => k d v Hk2 H4 ((g.trans g').trans g2.none_to) (o2.go g2) p r
theorem e_op {r : R2} (ha : E q δ ta d1) (hb : E q δ tb d2) (hr : RJ r d1 d2 Φ) : J q δ (tOp r ta tb) 0 Φ := j_op ha hb fun a b pa pb => by subst pa; subst pb; exact hr
/-- scalars -/
def vd : V → PyData
  | .bl b => .bool b
  | .int i => .int i
  | .str x => .str x
  | _ => .none
def sc : V → Bool
  | .bl _ => true
  | .int _ => true
  | .str _ => true
  | .non => true
  | _ => false
theorem sc_dq {H : Hp} : ∀ {v : V}, sc v = true → Dq H v (vd v)
  | .bl b, _ => .bl b
  | .int i, _ => .int i
  | .str x, _ => .str x
  | .non, _ => .non
  | .byt _, h => nomatch h
  | .flt _, h => nomatch h
  | .ref _, h => nomatch h
  | .ty _, h => nomatch h
theorem rj_I0 {g : Int → Int → V} {i j : Int} (hs : sc (g i j) = true) (hp : Φ (vd (g i j))) : RJ (rI0 g) (.int i) (.int j) Φ := fun x y H H1 hx hy e Q k => by
  rw [hx.intOf, hy.intOf]
  exact ⟨i, j, rfl, rfl, k _ _ H H1 (Gr.refl e) hp (sc_dq hs)⟩
theorem rj_I {C : Int → Int → Prop} {g : Int → Int → V} {i j : Int} (hc : C i j) (hs : sc (g i j) = true) (hp : Φ (vd (g i j))) : RJ (rI C g) (.int i) (.int j) Φ := fun x y H H1 hx hy e Q k => by
  rw [hx.intOf, hy.intOf]
  exact ⟨i, j, rfl, rfl, hc, k _ _ H H1 (Gr.refl e) hp (sc_dq hs)⟩
theorem e_I0 {g : Int → Int → V} {i j : Int} (ha : E q δ ta (.int i)) (hb : E q δ tb (.int j)) (hs : sc (g i j) = true := by rfl) : E q δ (tOp (rI0 g) ta tb) (vd (g i j)) := e_op ha hb (rj_I0 hs rfl)
theorem e_I {C : Int → Int → Prop} {g : Int → Int → V} {i j : Int} (ha : E q δ ta (.int i)) (hb : E q δ tb (.int j)) (hc : C i j) (hs : sc (g i j) = true := by rfl) : E q δ (tOp (rI C g) ta tb) (vd (g i j)) := e_op ha hb (rj_I hc hs rfl)
/-- ints that are not told -/
abbrev IntP (P : Int → Prop) : PyData → Prop := fun d => ∃ i, P i ∧ d = .int i
theorem j_I0 {P1 P2 : Int → Prop} {g : Int → Int → V} (ha : J q δ ta c1 (IntP P1)) (hb : J q δ tb c2 (IntP P2)) (hp : ∀ i j, P1 i → P2 j → Φ (vd (g i j))) (hs : ∀ i j, sc (g i j) = true := by intro _ _; rfl) : J q δ (tOp (rI0 g) ta tb) (c2 + c1) Φ :=
  j_op ha hb fun a b ⟨i, pi, ea⟩ ⟨j, pj, eb⟩ => by subst ea; subst eb; exact rj_I0 (hs i j) (hp i j pi pj)
theorem E.intP {i : Int} (h : E q δ te (.int i)) : J q δ te 0 (IntP (fun x => x = i)) := h.imp fun d e => ⟨i, rfl, e⟩
theorem e_un {g : Int → V} {i : Int} (ha : E q δ ta (.int i)) (hs : sc (g i) = true := by rfl) : E q δ (tUn (rU g) ta) (vd (g i)) := fun σ H H1 n sg o Q k =>
  ha σ H H1 n sg o _ fun a x Hk H2 g' o1 pa da => by
    subst pa
    rw [da.intOf]
    exact ⟨i, rfl, k _ _ Hk H2 g' o1 rfl (sc_dq hs)⟩
/-- == and != of data -/
theorem e_eqD (ha : E q δ ta d1) (hb : E q δ tb d2) (s1 : SeqAt.shaped d1 = true) (s2 : SeqAt.shaped d2 = true) : E q δ (tOp (rEqD K) ta tb) (.bool (PyData.eqv d1 d2)) := e_op ha hb fun x y H H1 hx hy e Q k =>
  ⟨d1, d2, Dq.dp K _ _ (no_dict s1) (Dq.mono e _ _ hx), Dq.dp K _ _ (no_dict s2) (Dq.mono e _ _ hy), s1, s2, k _ _ H H1 (Gr.refl e) rfl (.bl _)⟩
theorem e_neD (ha : E q δ ta d1) (hb : E q δ tb d2) (s1 : SeqAt.shaped d1 = true) (s2 : SeqAt.shaped d2 = true) : E q δ (tOp (rNeD K) ta tb) (.bool (!PyData.eqv d1 d2)) := e_op ha hb fun x y H H1 hx hy e Q k =>
  ⟨d1, d2, Dq.dp K _ _ (no_dict s1) (Dq.mono e _ _ hx), Dq.dp K _ _ (no_dict s2) (Dq.mono e _ _ hy), s1, s2, k _ _ H H1 (Gr.refl e) rfl (.bl _)⟩
/-- items -/
theorem dq_atI {H : Hp} {vs : List V} {ds : List PyData} {i : Int} {d : PyData} (h : DqAll H vs ds) (e : atI ds i = some d) : ∃ v, atI vs i = some v ∧ Dq H v d := by
  unfold atI at e ⊢
  rw [h.length]
  cases hx : ixN ds.length i with
  | none => rw [hx] at e; cases e
  | some j =>
    rw [hx] at e
    obtain ⟨v, a, b⟩ := h.get (i := j) (d := d) e
    exact ⟨v, a, b⟩
theorem rj_ixT {ds : List PyData} {i : Int} (e : atI ds i = some d) (hp : Φ d) : RJ (rIxT K) (.tuple ds) (.int i) Φ := fun x y H H1 hx hy e1 Q k => by
  obtain ⟨a, xs, rfl, h1, h2⟩ := hx.tupOf
  obtain ⟨v, hv, dv⟩ := dq_atI h2 e
  rw [hy.intOf]
  exact ⟨a, xs, i, v, rfl, rfl, .inl (h1.mono e1).rd, hv, k d v H H1 (Gr.refl e1) hp dv⟩
theorem rj_ixL {ds : List PyData} {i : Int} (e : atI ds i = some d) (hp : Φ d) : RJ (rIxL K) (.list ds) (.int i) Φ := fun x y H H1 hx hy e1 Q k => by
  obtain ⟨a, xs, rfl, h1, h2⟩ := hx.lstOf
  obtain ⟨v, hv, dv⟩ := dq_atI h2 e
  rw [hy.intOf]
  exact ⟨a, xs, i, v, rfl, rfl, .inl (.inl (e1 _ _ h1)), hv, k d v H H1 (Gr.refl e1) hp dv⟩
/-- a + b of lists -/
theorem rj_cat {ds es : List PyData} (hl : ds.length + es.length ≤ 1000000) (hp : Φ (.list (ds ++ es))) : RJ rCat (.list ds) (.list es) Φ := fun x y H H1 hx hy e1 Q k => by
  obtain ⟨a, xs, rfl, h1, h2⟩ := hx.lstOf
  obtain ⟨b, ys, rfl, g1, g2⟩ := hy.lstOf
  refine ⟨a, b, xs, ys, rfl, rfl, e1 _ _ h1, e1 _ _ g1, Nat.le_trans (by rw [h2.length, g2.length]; exact hl) (by rw [sizeLine_eq]; decide), fun p hn => ?_⟩
  have g := Gr.new (q := none) (o := .lst (xs ++ ys)) e1 hn
  exact k _ _ _ _ g hp (.lst upd_same (DqAll.mono g.k _ _ (h2.append g2)))
/-! tests -/
abbrev BoolP (P : Bool → Prop) : PyData → Prop := fun d => ∃ b, P b ∧ d = .bool b
theorem tj_test {Φ : Bool → Prop} (h : J q δ te c (BoolP Φ)) : TJ q δ (tTest te) c Φ := fun σ H H1 n sg o Q k => h σ H H1 n sg o _ fun d v Hk H2 g o1 ⟨b, pb, e⟩ dv => by
  subst e
  exact ⟨b, dv.blOf, k b Hk H2 g o1 pb⟩
theorem tj_B {Φ : Bool → Prop} (h : J q δ te c (BoolP Φ)) : TJ q δ (tB te) c Φ := fun σ H H1 n sg o Q k => h σ H H1 n sg o _ fun d v Hk H2 g o1 ⟨b, pb, e⟩ dv => by
  subst e
  exact ⟨b, dv.blOf, k b Hk H2 g o1 pb⟩
theorem E.boolP {b : Bool} (h : E q δ te (.bool b)) : J q δ te 0 (BoolP (fun x => x = b)) := h.imp fun d e => ⟨b, rfl, e⟩
theorem tb_test {b : Bool} (h : E q δ te (.bool b)) : TB q δ (tTest te) b := tj_test h.boolP
theorem tb_B {b : Bool} (h : E q δ te (.bool b)) : TB q δ (tB te) b := tj_B h.boolP
theorem tb_and {a b : Bool} (h1 : TB q δ tt a) (h2 : a = true → TB q δ tu b) : TB q δ (tAnd tt tu) (a && b) := fun σ H H1 n sg o Q k => h1 σ H H1 n sg o _ fun x Hk H2 g o1 e => by
  subst e
  cases x with
  | true => exact iteT (h2 rfl σ Hk H2 n (sg.mono g.k) o1 _ fun b Hk' H3 g' o2 e => k _ Hk' H3 (g.trans g') o2 (by rw [e, Bool.true_and]))
  | false => exact iteF (k _ Hk H2 g o1 (by rw [Bool.false_and]))
theorem tb_or {a b : Bool} (h1 : TB q δ tt a) (h2 : a = false → TB q δ tu b) : TB q δ (tOr tt tu) (a || b) := fun σ H H1 n sg o Q k => h1 σ H H1 n sg o _ fun x Hk H2 g o1 e => by
  subst e
  cases x with
  | true => exact iteT (k _ Hk H2 g o1 (by rw [Bool.true_or]))
  | false => exact iteF (h2 rfl σ Hk H2 n (sg.mono g.k) o1 _ fun b Hk' H3 g' o2 e => k _ Hk' H3 (g.trans g') o2 (by rw [e, Bool.false_or]))
theorem tb_not {a : Bool} (h1 : TB q δ tt a) : TB q δ (tNot tt) (!a) := fun σ H H1 n sg o Q k => h1 σ H H1 n sg o _ fun x Hk H2 g o1 e => k _ Hk H2 g o1 (by rw [e])
theorem tb_yes : TB q δ tYes true := fun σ H H1 n sg o Q k => k true H H1 (Gr.refl o.a) o rfl
theorem e_andV {a b : Bool} (h1 : E q δ ta (.bool a)) (h2 : a = true → E q δ tb (.bool b)) : E q δ (tAndV ta tb) (.bool (a && b)) := fun σ H H1 n sg o Q k => h1 σ H H1 n sg o _ fun x v Hk H2 g o1 e dv => by
  subst e
  refine ⟨a, dv.blOf, ?_⟩
  cases a with
  | true => exact iteT (h2 rfl σ Hk H2 n (sg.mono g.k) o1 _ fun b Hv Hk' H3 g' o2 e dv' => k _ Hv Hk' H3 (g.trans g') o2 (by rw [e, Bool.true_and]) dv')
  | false => exact iteF (k (.bool false) _ Hk H2 g o1 (by rw [Bool.false_and]) (.bl false))
theorem e_notV {a : Bool} (h1 : E q δ ta (.bool a)) : E q δ (tNotV ta) (.bool (!a)) := fun σ H H1 n sg o Q k => h1 σ H H1 n sg o _ fun x v Hk H2 g o1 e dv => by
  subst e
  exact ⟨a, dv.blOf, k (.bool (!a)) _ Hk H2 g o1 rfl (.bl _)⟩
theorem e_if {b : Bool} (h : TB q δ tt b) (h1 : b = true → E q δ ta d) (h2 : b = false → E q δ tb d) : E q δ (tIf tt ta tb) d := fun σ H H1 n sg o Q k => h σ H H1 n sg o _ fun x Hk H2 g o1 e => by
  subst e
  cases x with
  | true => exact iteT (h1 rfl σ Hk H2 n (sg.mono g.k) o1 _ fun b Hv Hk' H3 g' o2 e dv' => k _ Hv Hk' H3 (g.trans g') o2 e dv')
  | false => exact iteF (h2 rfl σ Hk H2 n (sg.mono g.k) o1 _ fun b Hv Hk' H3 g' o2 e dv' => k _ Hv Hk' H3 (g.trans g') o2 e dv')
theorem j_if {P : Bool → Prop} (h : TJ q δ tt c P) (h1 : P true → J q δ ta c1 Φ) (h2 : P false → J q δ tb c1 Φ) : J q δ (tIf tt ta tb) (c1 + c) Φ := fun σ H H1 n sg o Q k => h σ H H1 (n + c1) sg (by rw [Nat.add_assoc]; exact o) _ fun x Hk H2 g o1 e => by
  cases x with
  | true => exact iteT (h1 e σ Hk H2 n (sg.mono g.k) o1 _ fun b Hv Hk' H3 g' o2 e dv' => k _ Hv Hk' H3 (g.trans g') o2 e dv')
  | false => exact iteF (h2 e σ Hk H2 n (sg.mono g.k) o1 _ fun b Hv Hk' H3 g' o2 e dv' => k _ Hv Hk' H3 (g.trans g') o2 e dv')

/-! arguments, displays -/
theorem ae_nil : AE q δ tNil [] := fun σ H H1 n sg o Q k => k [] [] H H1 (Gr.refl o.a) o rfl VS.nil
theorem aj_cons {tr : TA} {Φr Φ' : List Sl → Prop} (h : J q δ te c1 Φ1) (hr : AJ q δ tr c2 Φr) (hp : ∀ d sls, Φ1 d → Φr sls → Φ' (.dat d :: sls)) : AJ q δ (tCons te tr) (c2 + c1) Φ' := fun σ H H1 n sg o Q k =>
  h σ H H1 (n + c2) sg (by rw [Nat.add_assoc]; exact o) _ fun d v Hk H2 g o1 p dv => hr σ Hk H2 n (sg.mono g.k) o1 _ fun sls vs Hk' H3 g' o2 pr hv => k _ _ Hk' H3 (g.trans g') o2 (hp d sls p pr) (VS.cons (Dq.mono g'.k _ _ dv) hv)
theorem ae_cons {tr : TA} {sls : List Sl} (h : E q δ te d) (hr : AE q δ tr sls) : AE q δ (tCons te tr) (.dat d :: sls) := aj_cons h hr fun _ _ a b => by rw [a, b]
/-- an address handed on -/
theorem aj_adr {tr : TA} {Φr Φ' : List Sl → Prop} {i : Nat} {p : Addr} (e : δ[i]? = some (.adr p)) (hr : AJ q δ tr c2 Φr) (hp : ∀ sls, Φr sls → Φ' (.adr p :: sls)) : AJ q δ (tCons (tVar i) tr) c2 Φ' := fun σ H H1 n sg o Q k =>
  ⟨.ref p, sg.getA e, hr σ H H1 n sg o _ fun sls vs Hk' H3 g' o2 pr hv => k _ _ Hk' H3 g' o2 (hp sls pr) (VS.cons rfl hv)⟩
theorem ae_adr {tr : TA} {sls : List Sl} {i : Nat} {p : Addr} (e : δ[i]? = some (.adr p)) (hr : AE q δ tr sls) : AE q δ (tCons (tVar i) tr) (.adr p :: sls) := aj_adr e hr fun _ b => by rw [b]
theorem AE.to {ta : TA} {sls : List Sl} {Φ : List Sl → Prop} (h : AE q δ ta sls) (p : Φ sls) : AJ q δ ta 0 Φ := h.imp fun _ e => by rw [e]; exact p
theorem j_tup {ta : TA} {Ψ : List PyData → Prop} (h : AJ q δ ta c (fun sls => ∃ ds : List PyData, sls = ds.map Sl.dat ∧ ds.length ≤ 1000000 ∧ Ψ ds)) : J q δ (tTup ta) c (fun d => ∃ ds, Ψ ds ∧ d = .tuple ds) := fun σ H H1 n sg o Q k =>
  h σ H H1 n sg o _ fun sls vs Hk H2 g o1 ⟨ds, e, hl, p⟩ hv => by
    subst e
    have hd := hv.dats
    refine ⟨Nat.le_trans (by rw [hd.length]; exact hl) (by rw [sizeLine_eq]; decide), fun a ob od hn => ?_⟩
    have g1 := Gr.new (q := none) (o := .frz ob (.tup vs)) g.a hn
    exact k _ _ _ _ (g.trans g1.none_to) (o1.go g1) ⟨ds, p, rfl⟩ (.tup (Tp.new od) (DqAll.mono g1.k _ _ hd))
theorem j_lst {ta : TA} {Ψ : List PyData → Prop} (h : AJ q δ ta c (fun sls => ∃ ds : List PyData, sls = ds.map Sl.dat ∧ ds.length ≤ 1000000 ∧ Ψ ds)) : J q δ (tLst ta) c (fun d => ∃ ds, Ψ ds ∧ d = .list ds) := fun σ H H1 n sg o Q k =>
  h σ H H1 n sg o _ fun sls vs Hk H2 g o1 ⟨ds, e, hl, p⟩ hv => by
    subst e
    have hd := hv.dats
    refine ⟨Nat.le_trans (by rw [hd.length]; exact hl) (by rw [sizeLine_eq]; decide), fun a hn => ?_⟩
    have g1 := Gr.new (q := none) (o := .lst vs) g.a hn
    exact k _ _ _ _ (g.trans g1.none_to) (o1.go g1) ⟨ds, p, rfl⟩ (.lst upd_same (DqAll.mono g1.k _ _ hd))
theorem e_tup {ta : TA} {ds : List PyData} (h : AE q δ ta (ds.map Sl.dat)) (hl : ds.length ≤ 1000000 := by simp) : E q δ (tTup ta) (.tuple ds) := (j_tup (Ψ := fun x => x = ds) (h.to ⟨ds, rfl, hl, rfl⟩)).imp fun d ⟨x, a, b⟩ => by rw [b, a]
theorem e_lst {ta : TA} {ds : List PyData} (h : AE q δ ta (ds.map Sl.dat)) (hl : ds.length ≤ 1000000 := by simp) : E q δ (tLst ta) (.list ds) := (j_lst (Ψ := fun x => x = ds) (h.to ⟨ds, rfl, hl, rfl⟩)).imp fun d ⟨x, a, b⟩ => by rw [b, a]

/-! calls of defs -/
abbrev RelX := Option Addr → List Sl → Nat → (PyData → Prop) → Prop
def spX (R : RelX) : Sp := fun vs H Q _ => ∃ (q : Option Addr) (Hk : Hp) (sls : List Sl) (n c : Nat) (Φ : PyData → Prop), Ok q (n + c) Hk H ∧ VS Hk vs sls ∧ R q sls c Φ ∧
  ∀ d v Hk' H2, Gr q Hk H Hk' H2 → Ok q n Hk' H2 → Φ d → Dq Hk' v d → Q v H2
theorem j_call {R : RelX} {E : XK} {ta : TA} {Φa : List Sl → Prop} (ha : AJ q δ ta c1 Φa) (hr : ∀ sls, Φa sls → R q sls c Φ) : J q δ (tCall (spX R) [] E ta) (c + c1) Φ := fun σ H H1 n sg o Q k =>
  ha σ H H1 (n + c) sg (by rw [Nat.add_assoc]; exact o) _ fun sls vs Hk H2 g o1 p hv => by
    show spX R (vs ++ []) H2 Q E
    rw [List.append_nil]
    exact ⟨q, Hk, sls, n, c, Φ, o1, hv, hr sls p, fun d v Hk' H3 g' o2 pd dv => k d v Hk' H3 (g.trans g') o2 pd dv⟩
theorem j_callD {R : RelX} {E : XK} {ta : TA} {Φa : List Sl → Prop} (ha : AJ q δ ta c1 Φa) (hr : ∀ sls, Φa sls → ∃ Φ', R q sls c Φ' ∧ ∀ d, Φ' d → Φ d) : J q δ (tCall (spX R) [] E ta) (c + c1) Φ := fun σ H H1 n sg o Q k =>
  ha σ H H1 (n + c) sg (by rw [Nat.add_assoc]; exact o) _ fun sls vs Hk H2 g o1 p hv => by
    show spX R (vs ++ []) H2 Q E
    rw [List.append_nil]
    obtain ⟨Φ', r, i⟩ := hr sls p
    exact ⟨q, Hk, sls, n, c, Φ', o1, hv, r, fun d v Hk' H3 g' o2 pd dv => k d v Hk' H3 (g.trans g') o2 (i d pd) dv⟩
end
end Cr

set_option Elab.async false
set_option linter.all false
set_option maxRecDepth 100000
set_option maxHeartbeats 4000000
/-! ### rules that the layer lacks -/
namespace L2
open PySem PySem.Spec PyProof.Rows
section
variable {X : Cx}
def CPowW (i j : Int) : Prop := 0 ≤ j ∧ (Builtin.Int.intBits i : Int) * j ≤ 2 ^ 27
theorem op_powW : OpR X (binaryOp .Pow) (rI CPowW fun i j => .int (i ^ j.toNat)) := opI fun _ _ _ _ _ _ _ hc q => pow_int hc.1 hc.2 q
theorem pow_ok {i j : Int} {a : Nat} (ha : i.natAbs < 2 ^ a) (h0 : 0 < a) (hj : 0 ≤ j) (h : (a : Int) * j ≤ 2 ^ 27) : CPowW i j := by
  refine ⟨hj, ?_⟩
  have x := PySem.Flt.log2_lt_of h0 ha
  have b : (Builtin.Int.intBits i : Int) ≤ a := by
    unfold Builtin.Int.intBits
    split <;> omega
  exact Int.le_trans (Int.mul_le_mul_of_nonneg_right b hj) h
/-- f(k = v, ..) -/
theorem pe_callK0 {CX : CXT} {k : Nat} {f : Addr} {fd : FuncData} {ps ks : List Str} {sp : Sp} {E : XK} {x : Str} {p pos : Pos} {kws : List Keyword} {tk : TA} {g : List Value → List Value → List Value} {gV : List V → List V → List V}
    (F : FnOk X.prog X.w X.K X.mg X.base CX k f fd ps sp) (hr : Room k X.A) (hg : Gl X x) (hm : X.mg x = some (.ref f)) (hk : PySem.W.keepIn X.K (.ref f) = true) (hb : KBinds X.K fd ps ks g gV) (hx : Passes CX X E)
    (hkw : PK X kws tk) (hall : (backToKw pos (keywordEach kws X.env)).all (·.1.isSome) = true := by rfl) (hks : (backToKw pos (keywordEach kws X.env)).filterMap (·.1) = ks := by rfl)
    (hdb : (x == ("__debug__" : Str)) = false := by decide)
    (hpl : ((backTo pos (starEach [] X.env)).any (·.1) || (backToKw pos (keywordEach kws X.env)).any (·.1.isNone)) = false := by rfl) :
    PE X (.Call (.Name x p) [] kws pos) (tCallK sp gV E tNil tk) := by
  refine ⟨fun pins s σ H Q I h => ?_⟩
  refine wpAny_Call_Name_kw (ld_glob I hg hm ?_ hdb)
  refine PySem.W.callWith_KW0 (h₀ := X.base) I.ok.mod.kin hk hall (thn (hkw.run pos pins s σ H _ I h) fun ws s2 ⟨zs, H2, I2, rz, q2⟩ => ⟨I2.kIn, ?_⟩) hpl
  rw [hks]
  exact run_fnk F hr hb hx I2 .nil rz q2
end
end L2
namespace Cr
open PySem PySem.Spec PyProof.Rows L2
section
variable {X : Cx}
/-! tuples that are laid: known to have no dict of their own -/
def LaidT (H : Hp) (xs : List V) (Q : VK) : Prop := ∀ (p : Addr) (o : Obj), o.dict = none → H p = none → Q (.ref p) (upd H p (.frz o (.tup xs)))
theorem laidT {pins : List (Addr × Obj)} {σ : L2.St} {H : Hp} {s : Shared} {xs : List V} {us : List Value} {Q : VK} {k : Nat} (I : Inv X pins σ H s) (r : Vals xs us) (hz : xs.length ≤ sizeLine) (q : LaidT H xs Q) :
    EP X pins σ Q (.ref s.heap.objs.size) { s with heap := s.heap.push { cls := .type "tuple", data := .seq us.toArray k } } := by
  have eq : (s.heap.push { cls := .type "tuple", data := .seq us.toArray k }).get? s.heap.objs.size = some { cls := .type "tuple", data := .seq us.toArray k } := Heap.get?_push_size _ rfl
  refine ⟨.ref s.heap.objs.size, _, I.laid (t' := s.toks) (o := .frz { cls := .type "tuple", data := .seq us.toArray k } (.tup xs)) (fun b u e => Heap.get?_push_of_some _ e) (Nat.le_refl _) ?_, rfl, q _ _ rfl (I.hok.fresh (Nat.le_refl _))⟩
  exact ⟨eq, hz, us, r, _, eq, rfl, _, rfl⟩
def rCatA (K : PySem.W.Frag) : R2 := fun x y H Q => ∃ a b xs ys, x = .ref a ∧ y = .ref b ∧ SqT K H a xs ∧ SqT K H b ys ∧ xs.length + ys.length ≤ sizeLine ∧
  (xs = [] → Q (.ref b) H) ∧ (xs ≠ [] → ys = [] → Q (.ref a) H) ∧ (xs ≠ [] → ys ≠ [] → LaidT H (xs ++ ys) Q)
theorem op_catA : OpR X (binaryOp .Add) (rCatA X.K) := by
  intro pins s σ H x y v u Q I rx ry h
  obtain ⟨a, b, xs, ys, rfl, rfl, ha, hb, hz, q0, q1, q2⟩ := h
  cases rx
  cases ry
  obtain ⟨us, r1, p1, _⟩ := I.tuple ha
  obtain ⟨ws, r2, p2, _⟩ := I.tuple hb
  by_cases hx : xs = []
  · subst hx
    cases r1
    exact cat_tup0 p1 p2 ⟨.ref b, H, I, rfl, q0 rfl⟩
  · have le : us.length + ws.length ≤ sizeLine := by rw [← r1.length, ← r2.length]; exact hz
    refine HT.cat_tup p1 p2 (fun z => hx (r1.nil_iff.mp z)) (fun z => ⟨.ref a, H, I, rfl, q1 hx (r2.nil_iff.mp z)⟩) (fun z => ?_) le
    exact laidT I (r1.append r2) (by rw [List.length_append]; exact hz) (q2 hx fun w => z (r2.nil_iff.mpr w))
def rSlA (K : PySem.W.Frag) : V → Option Int → Option Int → Hp → VK → Prop := fun x lo hi H Q => ∃ a xs, x = .ref a ∧ SqT K H a xs ∧
  (HT.sIx xs.length 0 lo = 0 ∧ HT.sIx xs.length xs.length hi = xs.length → Q (.ref a) H) ∧ (¬ (HT.sIx xs.length 0 lo = 0 ∧ HT.sIx xs.length xs.length hi = xs.length) → LaidT H (cutV xs lo hi) Q)
theorem sl_tupA : SlR X (rSlA X.K) := by
  intro pins s σ H x v vl vu lo hi sl Q I rx hs pl pu h
  obtain ⟨a, xs, rfl, hx, q1, q2⟩ := h
  cases rx
  obtain ⟨us, r, ht, hz⟩ := I.tuple hx
  have le : us.toArray.size = xs.length := by rw [List.size_toArray]; exact r.length.symm
  refine ⟨"tuple", _, PyProof.Rows.slot_tuple_getitem.lookup, ht.typeIs, ?_⟩
  by_cases hw : HT.sIx xs.length 0 lo = 0 ∧ HT.sIx xs.length xs.length hi = xs.length
  · exact getItem_tuple_whole ht hs pl pu (by rw [le]; exact hw) ⟨.ref a, H, I, rfl, q1 hw⟩
  · refine HT.getItem_tuple_cut ht hs pl pu (by rw [le]; exact hw) ?_ (by rw [le]; exact hz)
    rw [le]
    exact laidT I ((r.drop (HT.sIx xs.length 0 lo)).take (HT.sIx xs.length xs.length hi - HT.sIx xs.length 0 lo)) (Nat.le_trans (cutV_length xs lo hi) hz) (q2 hw)
/-- tuple(xs) -/
def rTupQ (K : PySem.W.Frag) : List V → Hp → VK → Prop := fun xs H Q => ∃ p ys, xs = [.ref p] ∧ ((SqL K H p ys ∧ LaidT H ys Q) ∨ (SqT K H p ys ∧ Q (.ref p) H))
theorem call_tupQ : CallR X (.type "tuple") (rTupQ X.K) := by
  intro pins s σ H xs us Q I r h
  obtain ⟨p, ys, rfl, h⟩ := h
  obtain ⟨u, rfl, rx⟩ := vals1 r
  cases rx
  rcases h with ⟨hq, q⟩ | ⟨hq, q⟩
  · obtain ⟨ws, r', pl, hz⟩ := I.list hq
    have le := r'.length
    refine call_tuple_list pl.isList (fun h' kp => ?_) (by simp only [List.size_toArray] <;> omega)
    have I1 : Inv X pins σ H { s with heap := h' } := I.kept (t' := s.toks) kp
    exact laidT I1 r' hz q
  · obtain ⟨ws, r', pl, hz⟩ := I.tuple hq
    exact call_tuple_same pl ⟨.ref p, H, I, rfl, q⟩
end
end Cr
namespace L2
open PySem PySem.Spec PyProof.Rows
section
variable {X : Cx}
/-- + of ints, lists, tuples -/
def rAddU (K : PySem.W.Frag) : R2 := fun x y H Q => rI0 (fun i j => .int (i + j)) x y H Q ∨ rCat x y H Q ∨ Cr.rCatA K x y H Q
theorem op_addU : OpR X (binaryOp .Add) (rAddU X.K) := by
  intro pins s σ H x y v u Q I rx ry h
  rcases h with h | h | h
  · exact op_add pins s σ H x y v u Q I rx ry h
  · exact op_cat pins s σ H x y v u Q I rx ry h
  · exact Cr.op_catA pins s σ H x y v u Q I rx ry h
/-- * of ints (great ones), a list times an int -/
def rMulU : R2 := fun x y H Q => rI CMulW (fun i j => .int (i * j)) x y H Q ∨ rRep x y H Q
theorem op_mulU : OpR X (binaryOp .Mult) rMulU := by
  intro pins s σ H x y v u Q I rx ry h
  rcases h with h | h
  · exact op_mulW pins s σ H x y v u Q I rx ry h
  · exact op_rep pins s σ H x y v u Q I rx ry h
/-- slices of lists and tuples -/
def rSlU (K : PySem.W.Frag) : V → Option Int → Option Int → Hp → VK → Prop := fun x lo hi H Q => rSlL K x lo hi H Q ∨ Cr.rSlA K x lo hi H Q
theorem sl_U : SlR X (rSlU X.K) := by
  intro pins s σ H x v vl vu lo hi sl Q I rx hs pl pu h
  rcases h with h | h
  · exact sl_list pins s σ H x v vl vu lo hi sl Q I rx hs pl pu h
  · exact Cr.sl_tupA pins s σ H x v vl vu lo hi sl Q I rx hs pl pu h
/-- isinstance, both kinds -/
def rIsiU (K : PySem.W.Frag) : List V → Hp → VK → Prop := fun xs H Q => rIsi K xs H Q ∨ rIsiT K xs H Q
theorem call_isiU : CallR X (.builtin "isinstance") (rIsiU X.K) := by
  intro pins s σ H xs us Q I r h
  rcases h with h | h
  · exact call_isi pins s σ H xs us Q I r h
  · exact call_isiT pins s σ H xs us Q I r h
/-- sorted(d), the keys ints, any number of them; sorted(xs) of ints -/
def rSrtDI : List V → Hp → VK → Prop := fun xs H Q => ∃ (a : Addr) (kvs : List (Key × V)) (ks : List Int), xs = [.ref a] ∧ Rd H a (.dK kvs) ∧ kvs.map (·.1) = ks.map Sum.inl ∧
    ∀ (ys : List Int) (p : Addr), ys.Perm ks → ys.Pairwise (· ≤ ·) → H p = none → Q (.ref p) (upd H p (.lst (ys.map V.int)))
/-- the keys that the dict hands out, as ints -/
theorem srt_keys {ks : List Int} {kvs : List (Key × Value)} {out : Array Value} (hk : kvs.map Prod.fst = ks.map Sum.inl) (hn : out.size = kvs.length)
    (hg : ∀ (j : Nat) (v : Value), out[j]? = some v → ∃ (k : Key) (x : Value), kvs[j]? = some (k, x) ∧ keyIs k v = true) : IntsAre out.toList ks := by
  have n1 : kvs.length = ks.length := by simpa using congrArg List.length hk
  refine ints_each (by simp [hn, n1]) ?_
  intro j v hv
  obtain ⟨k, x, h1, h2⟩ := hg j v (by simpa using hv)
  have h3 : (ks.map Sum.inl : List Key)[j]? = some k := by rw [← hk]; simp [h1]
  rw [List.getElem?_map] at h3
  obtain ⟨y, h4, rfl⟩ := Option.map_eq_some_iff.mp h3
  obtain ⟨t, rfl⟩ := Value.isInt_shape (show Value.isInt y v = true from h2)
  exact ⟨y, t, h4, rfl⟩
set_option maxHeartbeats 8000000 in
theorem call_sortedDIa (hcalm : X.calm = true) : CallR X (.builtin "sorted") rSrtDI := by
  rintro pins s σ H _ us Q I r ⟨a, kvs, ks, rfl, hd, hks, q⟩
  obtain ⟨_, rfl, ⟨⟩⟩ := vals1 r
  obtain ⟨z, lo, vs, rel, ⟨ep, hat⟩⟩ : kvs.length ≤ sizeLine ∧ (a == sysModules) = false ∧ ∃ vs, KV kvs vs ∧ ∃ ep, s.heap.DictAt (mixKind X.prog X.w) a vs ep :=
    let ⟨z, lo, vs, rel, dd⟩ := dk_rd I.hok hd; ⟨z, lo, vs, rel, dd.dictAt⟩
  have hm : vs.map Prod.fst = ks.map Sum.inl := Eq.trans (Eq.symm rel.keys) hks
  have hn : vs.length = ks.length := by simpa using congrArg List.length hm
  have hsz : vs.length ≤ sizeLine := by have e := Paired.length rel; omega
  refine Calls.call_function_entry kind_sorted plain_sorted entry_sorted (args_sorted1 _) (show wpAny _ _ (Builtin.«sorted» _) _ _ _ from ?_)
  rw [Builtin.«sorted»]
  refine wpAny_bind (wpAny_pure (wpAny_bind (PySem.W.kdu_collect (PySem.W.kdl_dict lo) (I.ok.hd hcalm) hat hsz ?_)))
  rintro h1 t1 out keep ⟨g1, g2⟩
  have hI : IntsAre out.toList ks := srt_keys hm g1 fun j v e => let ⟨k, x, p1, p2⟩ := g2 j v e; ⟨k, x, p1, p2⟩
  have ho : out.toList.length ≤ sizeLine := by simp [g1]; exact hsz
  have J1 : Inv X pins σ H { s with heap := h1, toks := t1 } := I.kept keep
  have new : (h1.push (seqObj "list" out.toList.toArray 0)).get? h1.objs.size = some (seqObj "list" out.toList.toArray 0) := Heap.get?_push_size _ rfl
  refine wpAny_bind (wpAny_newList (show wpAny _ _ _ _ _ { s with heap := h1.push (seqObj "list" out.toList.toArray 0), toks := t1 } from ?_) ho)
  refine wpAny_bind (wpAny_holding (wpAny_call_entry slot_list_sort ⟨_, new, rfl⟩ entry_list_sort ?_ (args_list_sort _)))
  refine SrtO.list_sort_ord SrtO.swo_int new ho (fun h => SrtO.ints_sortable hI h) fun o2 a1 a2 => ⟨_, rfl, ?_⟩
  obtain ⟨b1, b2, b3⟩ := SrtO.ints_out hI a1 a2
  obtain ⟨e2, he2⟩ := sortedHeap_at (out := o2.toArray) new
  have hl : ((o2.map SrtO.iv).map V.int).length ≤ sizeLine := by rw [List.length_map, b2.length_eq]; omega
  have laid : ObjOk X.prog X.w (upd H h1.objs.size (.lst ((o2.map SrtO.iv).map V.int))) (sortedHeap (h1.push (seqObj "list" out.toList.toArray 0)) h1.objs.size out.toList o2.toArray) h1.objs.size (.lst ((o2.map SrtO.iv).map V.int)) :=
    ⟨hl, o2, e2, vals_of_ints b1, he2⟩
  refine wpAny_pure ⟨_, rfl, .ref h1.objs.size, _, J1.laid (t' := t1) ?_ (Nat.le_refl _) laid, rfl, q _ _ b2 b3 (J1.hok.fresh (Nat.le_refl _))⟩
  intro b u hb
  have lt : b < h1.objs.size := Heap.lt_size hb
  exact (sortedHeap_old (Nat.ne_of_lt lt) (Nat.lt_trans lt (by rw [size_push']; exact Nat.lt_succ_self _))).trans (Heap.get?_push_of_some _ hb)
end
end L2

set_option Elab.async false
set_option linter.all false
set_option maxRecDepth 100000
set_option maxHeartbeats 4000000
namespace Cr
open PySem PySem.Spec PyProof.Rows L2

section
variable {K : PySem.W.Frag} {q : Option Addr} {δ δ' : List Sl} {te ta tb tc : TE} {tt tu : TT} {c c1 c2 c3 : Nat} {Φ Φ1 Φ2 Φ3 : PyData → Prop} {d d1 d2 : PyData}

/-! ### the wide operators -/
theorem RJ.to {r r' : R2} {a b : PyData} (h : RJ r a b Φ) (e : ∀ x y H Q, r x y H Q → r' x y H Q) : RJ r' a b Φ := fun x y H H1 hx hy s Q k => e _ _ _ _ (h x y H H1 hx hy s Q k)
theorem rj_addI {i j : Int} (hp : Φ (.int (i + j))) : RJ (rAddU K) (.int i) (.int j) Φ := (rj_I0 (g := fun i j => .int (i + j)) rfl hp).to fun _ _ _ _ h => .inl h
theorem e_addI {i j : Int} (ha : E q δ ta (.int i)) (hb : E q δ tb (.int j)) : E q δ (tOp (rAddU K) ta tb) (.int (i + j)) := e_op ha hb (rj_addI rfl)
theorem j_addI {P1 P2 : Int → Prop} (ha : J q δ ta c1 (IntP P1)) (hb : J q δ tb c2 (IntP P2)) (hp : ∀ i j, P1 i → P2 j → Φ (.int (i + j))) : J q δ (tOp (rAddU K) ta tb) (c2 + c1) Φ :=
  j_op ha hb fun a b ⟨i, pi, ea⟩ ⟨j, pj, eb⟩ => by subst ea; subst eb; exact rj_addI (hp i j pi pj)
theorem e_catL {ds es : List PyData} (ha : E q δ ta (.list ds)) (hb : E q δ tb (.list es)) (hl : ds.length + es.length ≤ 1000000) : E q δ (tOp (rAddU K) ta tb) (.list (ds ++ es)) := e_op ha hb (RJ.to (rj_cat (Φ := fun x => x = .list (ds ++ es)) hl rfl) fun _ _ _ _ h => .inr (.inl h))
theorem rj_catT {ds es : List PyData} (hl : ds.length + es.length ≤ 1000000) (hp : Φ (.tuple (ds ++ es))) : RJ (rCatA K) (.tuple ds) (.tuple es) Φ := fun x y H H1 hx hy e1 Q k => by
  obtain ⟨a, xs, rfl, h1, h2⟩ := hx.tupOf
  obtain ⟨b, ys, rfl, g1, g2⟩ := hy.tupOf
  refine ⟨a, b, xs, ys, rfl, rfl, .inl (h1.mono e1).rd, .inl (g1.mono e1).rd, Nat.le_trans (by rw [h2.length, g2.length]; exact hl) (by rw [sizeLine_eq]; decide), fun e => ?_, fun _ e => ?_, fun _ _ p ob od hn => ?_⟩
  · subst e
    have e2 : ds = [] := List.length_eq_zero_iff.mp h2.length.symm
    subst e2
    exact k _ _ H H1 (Gr.refl e1) hp hy
  · subst e
    have e2 : es = [] := List.length_eq_zero_iff.mp g2.length.symm
    subst e2
    rw [List.append_nil] at hp
    exact k _ _ H H1 (Gr.refl e1) hp hx
  · have g := Gr.new (q := none) (o := .frz ob (.tup (xs ++ ys))) e1 hn
    exact k _ _ _ _ g hp (.tup (Tp.new od) (DqAll.mono g.k _ _ (h2.append g2)))
theorem e_catT {ds es : List PyData} (ha : E q δ ta (.tuple ds)) (hb : E q δ tb (.tuple es)) (hl : ds.length + es.length ≤ 1000000) : E q δ (tOp (rAddU K) ta tb) (.tuple (ds ++ es)) := e_op ha hb (RJ.to (rj_catT (Φ := fun x => x = .tuple (ds ++ es)) hl rfl) fun _ _ _ _ h => .inr (.inr h))
theorem rj_mulI {i j : Int} (hc : CMulW i j) (hp : Φ (.int (i * j))) : RJ rMulU (.int i) (.int j) Φ := (rj_I (g := fun i j => .int (i * j)) hc rfl hp).to fun _ _ _ _ h => .inl h
theorem e_mulI {i j : Int} (ha : E q δ ta (.int i)) (hb : E q δ tb (.int j)) (hc : CMulW i j) : E q δ (tOp rMulU ta tb) (.int (i * j)) := e_op ha hb (rj_mulI hc rfl)
theorem j_mulI {P1 P2 : Int → Prop} (ha : J q δ ta c1 (IntP P1)) (hb : J q δ tb c2 (IntP P2)) (hc : ∀ i j, P1 i → P2 j → CMulW i j) (hp : ∀ i j, P1 i → P2 j → Φ (.int (i * j))) : J q δ (tOp rMulU ta tb) (c2 + c1) Φ :=
  j_op ha hb fun a b ⟨i, pi, ea⟩ ⟨j, pj, eb⟩ => by subst ea; subst eb; exact rj_mulI (hc i j pi pj) (hp i j pi pj)
theorem e_subI {i j : Int} (ha : E q δ ta (.int i)) (hb : E q δ tb (.int j)) : E q δ (tOp (rI0 fun i j => .int (i - j)) ta tb) (.int (i - j)) := e_I0 ha hb
theorem j_subI {P1 P2 : Int → Prop} (ha : J q δ ta c1 (IntP P1)) (hb : J q δ tb c2 (IntP P2)) (hp : ∀ i j, P1 i → P2 j → Φ (.int (i - j))) : J q δ (tOp (rI0 fun i j => .int (i - j)) ta tb) (c2 + c1) Φ := j_I0 ha hb hp
theorem e_ltI {i j : Int} (ha : E q δ ta (.int i)) (hb : E q δ tb (.int j)) : E q δ (tOp (rI0 fun i j => .bl (decide (i < j))) ta tb) (.bool (decide (i < j))) := e_I0 ha hb
theorem e_gtI {i j : Int} (ha : E q δ ta (.int i)) (hb : E q δ tb (.int j)) : E q δ (tOp (rI0 fun i j => .bl (decide (j < i))) ta tb) (.bool (decide (j < i))) := e_I0 ha hb
theorem e_geI {i j : Int} (ha : E q δ ta (.int i)) (hb : E q δ tb (.int j)) : E q δ (tOp (rI0 fun i j => .bl (decide (j ≤ i))) ta tb) (.bool (decide (j ≤ i))) := e_I0 ha hb
theorem e_mod {i j : Int} (ha : E q δ ta (.int i)) (hb : E q δ tb (.int j)) (hc : j ≠ 0) : E q δ (tOp (rI (fun _ j => j ≠ 0) fun i j => .int (i.fmod j)) ta tb) (.int (i.fmod j)) := e_I ha hb hc
theorem e_fdiv {i j : Int} (ha : E q δ ta (.int i)) (hb : E q δ tb (.int j)) (hc : CDivW i j) : E q δ (tOp (rI CDivW fun i j => .int (i / j)) ta tb) (.int (i / j)) := e_I ha hb hc
theorem e_pow {i j : Int} (ha : E q δ ta (.int i)) (hb : E q δ tb (.int j)) (hc : CPowW i j) : E q δ (tOp (rI CPowW fun i j => .int (i ^ j.toNat)) ta tb) (.int (i ^ j.toNat)) := e_I ha hb hc
theorem e_eqDI {i j : Int} (ha : E q δ ta (.int i)) (hb : E q δ tb (.int j)) : E q δ (tOp (rEqD K) ta tb) (.bool (i == j)) := e_eqD ha hb rfl rfl
theorem e_neDI {i j : Int} (ha : E q δ ta (.int i)) (hb : E q δ tb (.int j)) : E q δ (tOp (rNeD K) ta tb) (.bool (!(i == j))) := e_neD ha hb rfl rfl
theorem e_neDB {i j : Bool} (ha : E q δ ta (.bool i)) (hb : E q δ tb (.bool j)) : E q δ (tOp (rNeD K) ta tb) (.bool (!(i == j))) := e_neD ha hb rfl rfl
theorem rj_eqD (s1 : SeqAt.shaped d1 = true) (s2 : SeqAt.shaped d2 = true) (hp : Φ (.bool (PyData.eqv d1 d2))) : RJ (rEqD K) d1 d2 Φ := fun x y H H1 hx hy e Q k =>
  ⟨d1, d2, Dq.dp K _ _ (no_dict s1) (Dq.mono e _ _ hx), Dq.dp K _ _ (no_dict s2) (Dq.mono e _ _ hy), s1, s2, k _ _ H H1 (Gr.refl e) hp (.bl _)⟩
theorem j_eqDI {P1 P2 : Int → Prop} (ha : J q δ ta c1 (IntP P1)) (hb : J q δ tb c2 (IntP P2)) (hp : ∀ i j, P1 i → P2 j → Φ (.bool (i == j))) : J q δ (tOp (rEqD K) ta tb) (c2 + c1) Φ :=
  j_op ha hb fun a b ⟨i, pi, ea⟩ ⟨j, pj, eb⟩ => by subst ea; subst eb; exact rj_eqD rfl rfl (hp i j pi pj)
/-- subscripts -/
theorem e_iT {ds : List PyData} {i : Int} (ha : E q δ ta (.tuple ds)) (hb : E q δ tb (.int i)) (e : atI ds i = some d) : E q δ (tOp (rIx K) ta tb) d := e_op ha hb (RJ.to (rj_ixT (Φ := fun x => x = d) e rfl) fun _ _ _ _ h => .inr (.inl h))
theorem e_iL {ds : List PyData} {i : Int} (ha : E q δ ta (.list ds)) (hb : E q δ tb (.int i)) (e : atI ds i = some d) : E q δ (tOp (rIx K) ta tb) d := e_op ha hb (RJ.to (rj_ixL (Φ := fun x => x = d) e rfl) fun _ _ _ _ h => .inl h)
theorem j_iL {P : Int → Prop} {Ψ : List PyData → Prop} (ha : J q δ ta c1 (fun d => ∃ ds, Ψ ds ∧ d = .list ds)) (hb : J q δ tb c2 (IntP P)) (e : ∀ ds i, Ψ ds → P i → ∃ d, atI ds i = some d ∧ Φ d) : J q δ (tOp (rIx K) ta tb) (c2 + c1) Φ :=
  j_op ha hb fun a b ⟨ds, pi, ea⟩ ⟨j, pj, eb⟩ => by
    subst ea; subst eb
    obtain ⟨d, h1, h2⟩ := e ds j pi pj
    exact (rj_ixL h1 h2).to fun _ _ _ _ h => .inl h
/-! ### built-in calls -/
def RCJ (r : List V → Hp → VK → Prop) (ds : List PyData) (Φ : PyData → Prop) : Prop := ∀ (vs : List V) (H H1 : Hp), DqAll H vs ds → Same H H1 → ∀ Q : VK, (∀ d v Hk H2, Gr none H H1 Hk H2 → Φ d → Dq Hk v d → Q v H2) → r vs H1 Q
theorem j_cb {r : List V → Hp → VK → Prop} {ta : TA} {Ψ : List PyData → Prop} (h : AJ q δ ta c (fun sls => ∃ ds : List PyData, sls = ds.map Sl.dat ∧ Ψ ds)) (hr : ∀ ds, Ψ ds → RCJ r ds Φ) : J q δ (tCB r ta) c Φ := fun σ H H1 n sg o Q k =>
  h σ H H1 n sg o _ fun sls vs Hk H2 g o1 ⟨ds, e, p⟩ hv => by
    subst e
    exact hr ds p vs Hk H2 hv.dats g.a Q fun d v Hk' H3 g' pd dv => k d v Hk' H3 (g.trans g'.none_to) (o1.go g') pd dv
theorem e_cb {r : List V → Hp → VK → Prop} {ta : TA} {ds : List PyData} (h : AE q δ ta (ds.map Sl.dat)) (hr : RCJ r ds (fun x => x = d)) : E q δ (tCB r ta) d := j_cb (Ψ := fun x => x = ds) (h.to ⟨ds, rfl, rfl⟩) fun _ e => by rw [e]; exact hr
theorem j_cb1 {r : List V → Hp → VK → Prop} {te : TE} {Ψ : PyData → Prop} (h : J q δ te c Ψ) (hr : ∀ d, Ψ d → RCJ r [d] Φ) : J q δ (tCB r (tCons te tNil)) c Φ :=
  (j_cb (Ψ := fun ds => ∃ d, Ψ d ∧ ds = [d]) ((aj_cons h ae_nil fun d sls p e => ⟨[d], by rw [e]; rfl, d, p, rfl⟩)) fun ds ⟨d, p, e⟩ => by rw [e]; exact hr d p).cost (by omega)
theorem e_cb1 {r : List V → Hp → VK → Prop} {te : TE} (h : E q δ te d1) (hr : RCJ r [d1] (fun x => x = d)) : E q δ (tCB r (tCons te tNil)) d := e_cb (ds := [d1]) (ae_cons h ae_nil) hr
theorem DqAll.one {H : Hp} {vs : List V} {d : PyData} (h : DqAll H vs [d]) : ∃ v, vs = [v] ∧ Dq H v d := by
  cases h with
  | cons h1 h2 => cases h2; exact ⟨_, rfl, h1⟩
theorem DqAll.two {H : Hp} {vs : List V} {d e : PyData} (h : DqAll H vs [d, e]) : ∃ v w, vs = [v, w] ∧ Dq H v d ∧ Dq H w e := by
  cases h with
  | cons h1 h2 =>
    obtain ⟨w, rfl, h3⟩ := h2.one
    exact ⟨_, w, rfl, h1, h3⟩
/-- len -/
def rLenQ (K : PySem.W.Frag) : List V → Hp → VK → Prop := fun xs H Q => ∃ p ys, xs = [.ref p] ∧ (SqL K H p ys ∨ SqT K H p ys) ∧ Q (.int ys.length) H
theorem call_lenQ {X : Cx} : CallR X (.builtin "len") (rLenQ X.K) := call_len_seq
theorem rc_lenL {ds : List PyData} (hp : Φ (.int ds.length)) : RCJ (rLenQ K) [.list ds] Φ := fun vs H H1 h e Q k => by
  obtain ⟨v, rfl, h1⟩ := h.one
  obtain ⟨a, xs, rfl, h2, h3⟩ := h1.lstOf
  refine ⟨a, xs, rfl, .inl (.inl (.inl (e _ _ h2))), ?_⟩
  rw [h3.length]
  exact k _ _ H H1 (Gr.refl e) hp (.int _)
theorem rc_lenT {ds : List PyData} (hp : Φ (.int ds.length)) : RCJ (rLenQ K) [.tuple ds] Φ := fun vs H H1 h e Q k => by
  obtain ⟨v, rfl, h1⟩ := h.one
  obtain ⟨a, xs, rfl, h2, h3⟩ := h1.tupOf
  refine ⟨a, xs, rfl, .inr (.inl (h2.mono e).rd), ?_⟩
  rw [h3.length]
  exact k _ _ H H1 (Gr.refl e) hp (.int _)
theorem e_lenL {ds : List PyData} (h : E q δ te (.list ds)) : E q δ (tCB (rLenQ K) (tCons te tNil)) (.int ds.length) := e_cb1 h (rc_lenL rfl)
theorem e_lenT {ds : List PyData} (h : E q δ te (.tuple ds)) : E q δ (tCB (rLenQ K) (tCons te tNil)) (.int ds.length) := e_cb1 h (rc_lenT rfl)
/-- sum, all of lists -/
theorem rc_sum {ns : List Int} (hp : Φ (.int ns.sum)) : RCJ (rSum K) [.list (ns.map .int)] Φ := fun vs H H1 h e Q k => by
  obtain ⟨v, rfl, h1⟩ := h.one
  obtain ⟨a, xs, rfl, h2, h3⟩ := h1.lstOf
  have e2 := DqAll.ints h3
  subst e2
  exact ⟨a, ns, rfl, .inl (.inl (e _ _ h2)), k _ _ H H1 (Gr.refl e) hp (.int _)⟩
theorem e_sum {ns : List Int} (h : E q δ te (.list (ns.map .int))) : E q δ (tCB (rSum K) (tCons te tNil)) (.int ns.sum) := e_cb1 h (rc_sum rfl)
theorem rc_all {bs : List Bool} (hp : Φ (.bool (bs.all id))) : RCJ (rAll K) [.list (bs.map .bool)] Φ := fun vs H H1 h e Q k => by
  obtain ⟨v, rfl, h1⟩ := h.one
  obtain ⟨a, xs, rfl, h2, h3⟩ := h1.lstOf
  have e2 := DqAll.bls h3
  subst e2
  exact ⟨a, bs, rfl, .inl (.inl (e _ _ h2)), k _ _ H H1 (Gr.refl e) hp (.bl _)⟩
theorem e_all {bs : List Bool} (h : E q δ te (.list (bs.map .bool))) : E q δ (tCB (rAll K) (tCons te tNil)) (.bool (bs.all id)) := e_cb1 h (rc_all rfl)
/-- abs, max, min, int -/
def rAbsQ : List V → Hp → VK → Prop := fun xs H Q => ∃ i, xs = [.int i] ∧ Q (.int (if i < 0 then -i else i)) H
theorem call_absQ {X : Cx} : CallR X (.builtin "abs") rAbsQ := call_abs
def rMaxQ : List V → Hp → VK → Prop := fun xs H Q => ∃ i j, xs = [.int i, .int j] ∧ Q (.int (if j > i then j else i)) H
theorem call_maxQ {X : Cx} (hc : X.calm = true) : CallR X (.builtin "max") rMaxQ := call_max2 hc
def rMinQ : List V → Hp → VK → Prop := fun xs H Q => ∃ i j, xs = [.int i, .int j] ∧ Q (.int (if j < i then j else i)) H
theorem call_minQ {X : Cx} (hc : X.calm = true) : CallR X (.builtin "min") rMinQ := call_min2 hc
def rIntQ : List V → Hp → VK → Prop := fun xs H Q => (∃ i, xs = [.int i] ∧ Q (.int i) H) ∨ ∃ k, xs = [.bl k] ∧ Q (.int (if k then 1 else 0)) H
theorem call_intQ {X : Cx} : CallR X (.type "int") rIntQ := call_int1
theorem rc_abs {i : Int} (hp : Φ (.int (if i < 0 then -i else i))) : RCJ rAbsQ [.int i] Φ := fun vs H H1 h e Q k => by
  obtain ⟨v, rfl, h1⟩ := h.one
  rw [h1.intOf]
  exact ⟨i, rfl, k _ _ H H1 (Gr.refl e) hp (.int _)⟩
theorem e_abs {i : Int} (h : E q δ te (.int i)) : E q δ (tCB rAbsQ (tCons te tNil)) (.int (if i < 0 then -i else i)) := e_cb1 h (rc_abs rfl)
theorem rc_int {i : Int} (hp : Φ (.int i)) : RCJ rIntQ [.int i] Φ := fun vs H H1 h e Q k => by
  obtain ⟨v, rfl, h1⟩ := h.one
  rw [h1.intOf]
  exact .inl ⟨i, rfl, k _ _ H H1 (Gr.refl e) hp (.int _)⟩
theorem e_intI {i : Int} (h : E q δ te (.int i)) : E q δ (tCB rIntQ (tCons te tNil)) (.int i) := e_cb1 h (rc_int rfl)
theorem e_max {i j : Int} (h : E q δ ta (.int i)) (h2 : E q δ tb (.int j)) : E q δ (tCB rMaxQ (tCons ta (tCons tb tNil))) (.int (if j > i then j else i)) := e_cb (ds := [.int i, .int j]) (ae_cons h (ae_cons h2 ae_nil)) fun vs H H1 h e Q k => by
  obtain ⟨v, w, rfl, h1, h2⟩ := h.two
  rw [h1.intOf, h2.intOf]
  exact ⟨i, j, rfl, k _ _ H H1 (Gr.refl e) rfl (.int _)⟩
/-- tuple(xs), list(xs) -/
def rLstQ (K : PySem.W.Frag) : List V → Hp → VK → Prop := fun xs H Q => ∃ p ys, xs = [.ref p] ∧ (SqL K H p ys ∨ SqT K H p ys) ∧ ∀ l, H l = none → Q (.ref l) (upd H l (.lst ys))
theorem call_lstQ {X : Cx} : CallR X (.type "list") (rLstQ X.K) := call_list_of
theorem rc_tupL {ds : List PyData} (hp : Φ (.tuple ds)) : RCJ (rTupQ K) [.list ds] Φ := fun vs H H1 h e Q k => by
  obtain ⟨v, rfl, h1⟩ := h.one
  obtain ⟨a, xs, rfl, h2, h3⟩ := h1.lstOf
  refine ⟨a, xs, rfl, .inl ⟨.inl (.inl (e _ _ h2)), fun l ob od hn => ?_⟩⟩
  have g := Gr.new (q := none) (o := .frz ob (.tup xs)) e hn
  exact k _ _ _ _ g hp (.tup (Tp.new od) (DqAll.mono g.k _ _ h3))
theorem e_tupL {ds : List PyData} (h : E q δ te (.list ds)) : E q δ (tCB (rTupQ K) (tCons te tNil)) (.tuple ds) := e_cb1 h (rc_tupL rfl)
theorem rc_lstT {ds : List PyData} (hp : Φ (.list ds)) : RCJ (rLstQ K) [.tuple ds] Φ := fun vs H H1 h e Q k => by
  obtain ⟨v, rfl, h1⟩ := h.one
  obtain ⟨a, xs, rfl, h2, h3⟩ := h1.tupOf
  refine ⟨a, xs, rfl, .inr (.inl (h2.mono e).rd), fun l hn => ?_⟩
  have g := Gr.new (q := none) (o := .lst xs) e hn
  exact k _ _ _ _ g hp (.lst upd_same (DqAll.mono g.k _ _ h3))
theorem e_lstT {ds : List PyData} (h : E q δ te (.tuple ds)) : E q δ (tCB (rLstQ K) (tCons te tNil)) (.list ds) := e_cb1 h (rc_lstT rfl)
/-! ### isinstance -/
def tyN : PyData → String
  | .none => "NoneType"
  | .bool _ => "bool"
  | .int _ => "int"
  | .str _ => "str"
  | .list _ => "list"
  | .tuple _ => "tuple"
  | .dict _ => "dict"
/-- no instance -/
def top : PyData → Bool
  | .dict (_ :: _) => false
  | _ => true
theorem dq_ty {H : Hp} : ∀ {d : PyData} {v : V}, top d = true → Dq H v d → TyX K H v (.type (tyN d))
  | .none, _, ht, h => by cases h; exact .base .non
  | .bool b, _, ht, h => by cases h; exact .base (.bl b)
  | .int i, _, ht, h => by cases h; exact .base (.int i)
  | .str x, _, ht, h => by cases h; exact .base (.str x)
  | .list _, _, ht, h => by
    cases h with
    | lst h1 _ => exact .base (.lst h1)
  | .tuple _, _, ht, h => by
    cases h with
    | tup h1 _ =>
      rcases h1 with ⟨o, _, h1⟩ | ⟨_, h1⟩
      · exact .fTuple h1
      · exact .base (.tup h1)
  | .dict _, _, ht, h => by
    cases h with
    | dic h1 => exact .base (.dK h1)
    | ins h1 => cases ht
theorem e_isi {n : String} {r : Bool} (h : E q δ te d) (hk : kitB (tyN d) n = some r) (ht : top d = true := by first | rfl | assumption) : E q δ (tCB (rIsiU K) (tCons te (tCons (tC (.ty n)) tNil))) (.bool r) := fun σ H H1 m sg o Q k =>
  h σ H H1 m sg o _ fun x v Hk H2 g o1 e dv => by
    subst e
    exact .inl ⟨v, .ty n, .type (tyN x), .type n, r, rfl, .ty n, dq_ty ht (Dq.mono g.a _ _ dv), kit_ty hk, k _ _ Hk H2 g o1 rfl (.bl r)⟩
/-! ### slices -/
def TOj (δ : List Sl) (q : Option Addr) (to : TO) (o : Option Int) : Prop := ∀ (σ : L2.St) (H H1 : Hp) (n : Nat), Sg H σ δ → Ok q n H H1 → ∀ Q : Option Int → Hp → Prop, (∀ Hk H2, Gr q H H1 Hk H2 → Ok q n Hk H2 → Q o H2) → to σ H1 Q
theorem to_none : TOj δ q tNoPart none := fun σ H H1 n sg o Q k => k H H1 (Gr.refl o.a) o
theorem to_some {i : Int} (h : E q δ te (.int i)) : TOj δ q (tPart te) (some i) := fun σ H H1 n sg o Q k => h σ H H1 n sg o _ fun d v Hk H2 g o1 e dv => by
  subst e
  exact ⟨i, dv.intOf, k Hk H2 g o1⟩
def cutD (xs : List PyData) (lo hi : Option Int) : List PyData := (xs.drop (HT.sIx xs.length 0 lo)).take (HT.sIx xs.length xs.length hi - HT.sIx xs.length 0 lo)
theorem e_slL {tl th : TO} {lo hi : Option Int} {ds : List PyData} (h : E q δ te (.list ds)) (h1 : TOj δ q tl lo) (h2 : TOj δ q th hi) : E q δ (tSl (rSlU K) te tl th) (.list (cutD ds lo hi)) := fun σ H H1 n sg o Q k =>
  h σ H H1 n sg o _ fun d v Hk H2 g o1 e dv => h1 σ Hk H2 n (sg.mono g.k) o1 _ fun Hk2 H3 g2 o2 => h2 σ Hk2 H3 n (sg.mono (g.k.trans g2.k)) o2 _ fun Hk3 H4 g3 o3 => by
    subst e
    obtain ⟨a, xs, rfl, e1, e2⟩ := (Dq.mono (g2.k.trans g3.k) _ _ dv).lstOf
    refine .inl ⟨a, xs, rfl, .inl (.inl (g3.a _ _ e1)), fun p hn => ?_⟩
    have g4 := Gr.new (q := none) (o := .lst (cutV xs lo hi)) g3.a hn
    refine k _ _ _ _ (((g.trans g2).trans g3).trans g4.none_to) (o3.go g4) rfl (.lst upd_same (DqAll.mono g4.k _ _ ?_))
    unfold cutV
    rw [e2.length]
    exact (e2.drop _).take _
theorem e_slT {tl th : TO} {lo hi : Option Int} {ds : List PyData} (h : E q δ te (.tuple ds)) (h1 : TOj δ q tl lo) (h2 : TOj δ q th hi) : E q δ (tSl (rSlU K) te tl th) (.tuple (cutD ds lo hi)) := fun σ H H1 n sg o Q k =>
  h σ H H1 n sg o _ fun d v Hk H2 g o1 e dv => h1 σ Hk H2 n (sg.mono g.k) o1 _ fun Hk2 H3 g2 o2 => h2 σ Hk2 H3 n (sg.mono (g.k.trans g2.k)) o2 _ fun Hk3 H4 g3 o3 => by
    subst e
    have dv' := Dq.mono (g2.k.trans g3.k) _ _ dv
    obtain ⟨a, xs, rfl, e1, e2⟩ := dv'.tupOf
    have hl := e2.length
    refine .inr ⟨a, xs, rfl, .inl (e1.mono g3.a).rd, fun hw => ?_, fun hw p ob od hn => ?_⟩
    · have ec : cutD ds lo hi = ds := by
        unfold cutD
        rw [← hl, hw.1, hw.2, List.drop_zero, Nat.sub_zero, hl, List.take_length]
      rw [ec] at k
      exact k _ _ _ _ ((g.trans g2).trans g3) o3 rfl dv'
    · have g4 := Gr.new (q := none) (o := .frz ob (.tup (cutV xs lo hi))) g3.a hn
      refine k _ _ _ _ (((g.trans g2).trans g3).trans g4.none_to) (o3.go g4) rfl (.tup (Tp.new od) (DqAll.mono g4.k _ _ ?_))
      unfold cutV
      rw [hl]
      exact (e2.drop _).take _

/-! ### keyword calls -/
theorem j_callK {R : RelX} {E : XK} {ta tk : TA} {gV : List V → List V → List V} {gS : List Sl → List Sl → List Sl} {Φa Φk : List Sl → Prop} (ha : AJ q δ ta c1 Φa) (hk : AJ q δ tk c2 Φk)
    (hg : ∀ (H : Hp) (vs zs : List V) (ss us : List Sl), VS H vs ss → VS H zs us → Φa ss → Φk us → VS H (gV vs zs) (gS ss us)) (hr : ∀ ss us, Φa ss → Φk us → R q (gS ss us) c Φ) : J q δ (tCallK (spX R) gV E ta tk) (c + c2 + c1) Φ := fun σ H H1 n sg o Q k =>
  ha σ H H1 (n + (c + c2)) sg (by rw [Nat.add_assoc]; exact o) _ fun sls vs Hk H2 g o1 p hv => hk σ Hk H2 (n + c) (sg.mono g.k) (by rw [Nat.add_assoc]; exact o1) _ fun us zs Hk' H3 g' o2 pk hz =>
    ⟨q, Hk', gS sls us, n, c, Φ, o2, hg Hk' vs zs sls us (hv.mono g'.k) hz p pk, hr sls us p pk, fun d v Hk2 H4 g2 o3 pd dv => k d v Hk2 H4 ((g.trans g').trans g2) o3 pd dv⟩
end
end Cr

namespace L2
open PySem PySem.Spec PyProof.Rows L2
/-! ### the rules with the written part named (within a comprehension's block it is the def's) -/
section
variable {X : Cx} {K : PySem.W.Frag}
theorem k_addU (h : X.K = K) : OpR X (binaryOp .Add) (rAddU K) := h ▸ op_addU
theorem k_eqD (h : X.K = K) (hu : X.A.units + 64 < cLine) : OpR X (compareOp .Eq) (rEqD K) := h ▸ op_eqD hu
theorem k_neD (h : X.K = K) (hu : X.A.units + 64 < cLine) : OpR X (compareOp .NotEq) (rNeD K) := h ▸ op_neD hu
theorem k_ix (h : X.K = K) : IxR X (rIx K) := h ▸ ix_seq
theorem k_sl (h : X.K = K) : SlR X (rSlU K) := h ▸ sl_U
theorem k_isi (h : X.K = K) : CallR X (.builtin "isinstance") (rIsiU K) := h ▸ call_isiU
theorem k_len (h : X.K = K) : CallR X (.builtin "len") (Cr.rLenQ K) := h ▸ Cr.call_lenQ
theorem k_sum (h : X.K = K) (hc : X.calm = true) : CallR X (.builtin "sum") (rSum K) := h ▸ cr_sum hc
theorem k_all (h : X.K = K) (hc : X.calm = true) : CallR X (.builtin "all") (rAll K) := h ▸ cr_all hc
theorem k_tup (h : X.K = K) : CallR X (.type "tuple") (Cr.rTupQ K) := h ▸ Cr.call_tupQ
theorem k_lst (h : X.K = K) : CallR X (.type "list") (Cr.rLstQ K) := h ▸ Cr.call_lstQ
theorem k_pgTup {es : List Expr} {k : Nat} {pos : Pos} {t : TGs} {n : Nat} (h : X.K = K) (hc : X.calm = true) (hg : PGs X es t) (hn : (assignEach es X.env).length = n := by rfl) (hst : (assignEach es X.env).findIdx? (·.1) = none := by rfl) :
    PG X (.Tuple es k pos) (gTup K n t) := h ▸ pg_tup hc hg hn hst
theorem k_piList {tg l : Expr} {tl : TE} (h : X.K = K) (hl : PE X l tl) : PI X tg l (iList K tl) := h ▸ pi_list hl
theorem k_piTup {tg l : Expr} {tl : TE} (h : X.K = K) (hl : PE X l tl) : PI X tg l (iTup K tl) := h ▸ pi_tup hl
theorem k_piZip {a b : Expr} {ta : TA} {p pos tpos : Pos} {elts : List Expr} {kk : Nat} (h : X.K = K) (hg : Gl X "zip") (hm : X.mg "zip" = none) (ha : PA X [a, b] ta)
    (hs : starEach [a, b] X.env = (false, eval a X.env) :: starEach [b] X.env := by rfl) (hp : (backTo pos (starEach [b] X.env)).any (·.1) = false := by rfl) :
    PI X (.Tuple elts kk tpos) (.Call (.Name "zip" p) [a, b] [] pos) (RZ.iZipA K ta) := h ▸ RZ.pi_zipA hg hm ha hs hp
end
end L2

set_option Elab.async false
set_option linter.all false
set_option maxRecDepth 100000
set_option maxHeartbeats 4000000
namespace Cr
open PySem PySem.Spec PyProof.Rows L2

/-! ### what is walked -/
def WalkD (Jt : It) (items : List PyData) (HkW : Hp) : Prop := ∀ (i : Nat) (Hk H : Hp), Same HkW Hk → Same Hk H →
  (i < items.length → Jt.go i H ∧ ∀ v H', Jt.yld i H v H' → ∃ Hk', Gr none Hk H Hk' H' ∧ ∃ d, items[i]? = some d ∧ Dq Hk' v d) ∧ (items.length ≤ i → Jt.stop i H)
def IJ (q : Option Addr) (δ : List Sl) (wi : TI) (c : Nat) (Φ : List PyData → Prop) : Prop :=
  ∀ (σ : L2.St) (H H1 : Hp) (n : Nat), Sg H σ δ → Ok q (n + c) H H1 → ∀ R : It → Hp → Prop, (∀ items Jt Hk H2, Gr q H H1 Hk H2 → Ok q n Hk H2 → Φ items → WalkD Jt items Hk → R Jt H2) → wi σ H1 R
abbrev IE (q : Option Addr) (δ : List Sl) (wi : TI) (items : List PyData) : Prop := IJ q δ wi 0 (fun x => x = items)
section
variable {K : PySem.W.Frag} {q : Option Addr} {δ δ' : List Sl} {te ta tb tc : TE} {tt tu : TT} {c c1 c2 c3 : Nat} {Φ Φ1 Φ2 Φ3 : PyData → Prop} {d d1 d2 : PyData} {wi : TI}
theorem SqL.of1 {H : Hp} {a : Addr} {xs : List V} (h : H a = some (.lst xs)) : SqL K H a xs := .inl (.inl h)
theorem walk_lst {H : Hp} {a : Addr} {xs : List V} {ds : List PyData} (h : H a = some (.lst xs)) (hd : DqAll H xs ds) : WalkD (Itl K a) ds H := fun i Hk H' s1 s2 => by
  have e := s2 _ _ (s1 _ _ h)
  refine ⟨fun hi => ⟨?_, fun v H2 y => ?_⟩, fun hi => ⟨xs, SqL.of1 e, by rw [hd.length]; exact hi⟩⟩
  · exact ⟨xs, xs[i]'(by rw [hd.length]; exact hi), SqL.of1 e, List.getElem?_eq_getElem _⟩
  · obtain ⟨rfl, y2⟩ := y
    have e2 := y2 xs (SqL.of1 e)
    obtain ⟨d, g1, g2⟩ := hd.get' e2
    exact ⟨Hk, Gr.refl s2, d, g1, Dq.mono s1 _ _ g2⟩
theorem walk_tup {H : Hp} {a : Addr} {xs : List V} {ds es : List PyData} (h : Tp H a xs es) (hd : DqAll H xs ds) : WalkD (Itt K a) ds H := fun i Hk H' s1 s2 => by
  have e := ((h.mono s1).mono s2).rd
  refine ⟨fun hi => ⟨?_, fun v H2 y => ?_⟩, fun hi => ⟨xs, .inl e, by rw [hd.length]; exact hi⟩⟩
  · exact ⟨xs, xs[i]'(by rw [hd.length]; exact hi), .inl e, List.getElem?_eq_getElem _⟩
  · obtain ⟨rfl, y2⟩ := y
    have e2 := y2 xs (.inl e)
    obtain ⟨d, g1, g2⟩ := hd.get' e2
    exact ⟨Hk, Gr.refl s2, d, g1, Dq.mono s1 _ _ g2⟩
def rng (lo : Int) (n : Nat) : List PyData := (List.range n).map fun i => .int (lo + (i : Nat))
theorem rng_len (lo : Int) (n : Nat) : (rng lo n).length = n := by unfold rng; rw [List.length_map, List.length_range]
theorem rng_get {lo : Int} {n i : Nat} (h : i < n) : (rng lo n)[i]? = some (.int (lo + (i : Nat))) := by
  unfold rng
  rw [List.getElem?_map, List.getElem?_range h]; rfl
theorem rng_get' {lo : Int} {n i : Nat} {d : PyData} (h : (rng lo n)[i]? = some d) : i < n ∧ d = .int (lo + (i : Nat)) := by
  have hl : i < n := by
    have := (List.getElem?_eq_some_iff.mp h).1
    rw [rng_len] at this; exact this
  rw [rng_get hl] at h
  exact ⟨hl, (Option.some.inj h).symm⟩
theorem walk_rng {H : Hp} {lo : Int} {n : Nat} : WalkD (Itr lo n) (rng lo n) H := fun i Hk H' s1 s2 => by
  rw [rng_len]
  refine ⟨fun hi => ⟨hi, fun v H2 y => ?_⟩, fun hi => hi⟩
  obtain ⟨rfl, rfl⟩ := y
  exact ⟨Hk, Gr.refl s2, _, rng_get hi, .int _⟩
def zipD : List PyData → List PyData → List PyData
  | a :: as, b :: bs => .tuple [a, b] :: zipD as bs
  | _, _ => []
theorem zipD_get : ∀ (as bs : List PyData) (i : Nat) (a b : PyData), as[i]? = some a → bs[i]? = some b → (zipD as bs)[i]? = some (.tuple [a, b])
  | [], _, _, _, _, h, _ => by simp at h
  | _ :: _, [], _, _, _, _, h => by simp at h
  | a :: as, b :: bs, 0, x, y, h1, h2 => by simp at h1 h2; subst h1; subst h2; rfl
  | a :: as, b :: bs, i + 1, x, y, h1, h2 => zipD_get as bs i x y (by simpa using h1) (by simpa using h2)
theorem zipD_len : ∀ (as bs : List PyData), (zipD as bs).length = min as.length bs.length
  | [], bs => by simp [zipD]
  | _ :: _, [] => by simp [zipD]
  | a :: as, b :: bs => by
    show (zipD as bs).length + 1 = _
    rw [zipD_len as bs, List.length_cons, List.length_cons]; omega
theorem walk_zipT {H : Hp} {a b : Addr} {xs ys : List V} {ds es : List PyData} {fs gs : List PyData} (np : ∀ d ∈ ds, notPair d = true) (h : Tp H a xs fs) (hd : DqAll H xs ds) (h2 : Tp H b ys gs) (he : DqAll H ys es) : WalkD (RZ.ItzT K a b) (zipD ds es) H := fun i Hk H' s1 s2 => by
  have e := ((h.mono s1).mono s2).rd
  have e2 := ((h2.mono s1).mono s2).rd
  have hl1 := hd.length
  have hl2 := he.length
  rw [zipD_len]
  refine ⟨fun hi => ?_, fun hi => ⟨xs, ys, .inl e, .inl e2, by omega⟩⟩
  have g1 : xs[i]? = some (xs[i]'(by omega)) := List.getElem?_eq_getElem _
  have g2 : ys[i]? = some (ys[i]'(by omega)) := List.getElem?_eq_getElem _
  refine ⟨⟨xs, ys, _, _, .inl e, .inl e2, g1, g2⟩, fun v H2 y => ?_⟩
  obtain ⟨T, x, y, rfl, hT, rfl, f1, f2⟩ := y
  obtain ⟨d1, p1, p2⟩ := hd.get' (f1 xs (.inl e))
  obtain ⟨d2, p3, p4⟩ := he.get' (f2 ys (.inl e2))
  have g := Gr.new (q := none) (o := .tup [x, y]) s2 hT
  refine ⟨_, g, _, zipD_get ds es i d1 d2 p1 p3, .tup (.inr ⟨np d1 (List.mem_of_getElem? p1), upd_same⟩) (.cons (Dq.mono (s1.trans g.k) _ _ p2) (.cons (Dq.mono (s1.trans g.k) _ _ p4) .nil))⟩

theorem ij_lst {Ψ : List PyData → Prop} (h : J q δ te c (fun d => ∃ ds, Ψ ds ∧ d = .list ds)) : IJ q δ (iList K te) c Ψ := fun σ H H1 n sg o R k =>
  h σ H H1 n sg o _ fun d v Hk H2 g o1 ⟨ds, p, e⟩ dv => by
    subst e
    obtain ⟨a, xs, rfl, h1, h2⟩ := dv.lstOf
    exact ⟨a, rfl, ⟨xs, SqL.of1 (g.a _ _ h1)⟩, k ds _ Hk H2 g o1 p (walk_lst h1 h2)⟩
theorem ij_tup {Ψ : List PyData → Prop} (h : J q δ te c (fun d => ∃ ds, Ψ ds ∧ d = .tuple ds)) : IJ q δ (iTup K te) c Ψ := fun σ H H1 n sg o R k =>
  h σ H H1 n sg o _ fun d v Hk H2 g o1 ⟨ds, p, e⟩ dv => by
    subst e
    obtain ⟨a, xs, rfl, h1, h2⟩ := dv.tupOf
    exact ⟨a, rfl, ⟨xs, .inl (h1.mono g.a).rd⟩, k ds _ Hk H2 g o1 p (walk_tup h1 h2)⟩
theorem ie_lst {ds : List PyData} (h : E q δ te (.list ds)) : IE q δ (iList K te) ds := ij_lst (h.imp fun d e => ⟨ds, rfl, e⟩)
theorem ie_tup {ds : List PyData} (h : E q δ te (.tuple ds)) : IE q δ (iTup K te) ds := ij_tup (h.imp fun d e => ⟨ds, rfl, e⟩)
theorem ij_rng1 {P : Int → Prop} {Ψ : List PyData → Prop} (h : J q δ te c (IntP P)) (hp : ∀ j, P j → (-(2 ^ 62) ≤ j ∧ j < 2 ^ 62) ∧ Ψ (rng 0 j.toNat)) : IJ q δ (iRng1 (tCons te tNil)) c Ψ := fun σ H H1 n sg o R k =>
  h σ H H1 n sg o _ fun d v Hk H2 g o1 ⟨j, p, e⟩ dv => by
    subst e
    rw [dv.intOf]
    exact ⟨j, rfl, (hp j p).1.1, (hp j p).1.2, k _ _ Hk H2 g o1 (hp j p).2 walk_rng⟩
theorem ie_rng1 {j : Int} (h : E q δ te (.int j)) (h1 : -(2 ^ 62) ≤ j) (h2 : j < 2 ^ 62) : IE q δ (iRng1 (tCons te tNil)) (rng 0 j.toNat) := ij_rng1 h.intP fun i e => by subst e; exact ⟨⟨h1, h2⟩, rfl⟩
theorem ie_zipT {ds es : List PyData} (h : E q δ ta (.tuple ds)) (h2 : E q δ tb (.tuple es)) (np : ∀ d ∈ ds, notPair d = true := by intro d hd; obtain ⟨x, _, rfl⟩ := List.mem_map.mp hd; rfl) : IE q δ (RZ.iZipA K (tCons ta (tCons tb tNil))) (zipD ds es) := fun σ H H1 n sg o R k =>
  h σ H H1 n sg o _ fun d v Hk H2 g o1 e dv => h2 σ Hk H2 n (sg.mono g.k) o1 _ fun d' v' Hk' H3 g' o2 e' dv' => by
    subst e; subst e'
    obtain ⟨a, xs, rfl, p1, p2⟩ := (Dq.mono g'.k _ _ dv).tupOf
    obtain ⟨b, ys, rfl, p3, p4⟩ := dv'.tupOf
    exact ⟨a, b, xs, ys, rfl, .inr ⟨.inl (p1.mono g'.a).rd, .inl (p3.mono g'.a).rd, k _ _ Hk' H3 (g.trans g') o2 rfl (walk_zipT np p1 p2 p3 p4)⟩⟩

/-! ### targets -/
def GB (δ : List Sl) (g : TG) (d : PyData) (δ' : List Sl) (vs : List Nat) : Prop := ∀ (σ : L2.St) (H H1 : Hp) (v : V), Sg H σ δ → Same H H1 → Dq H v d → ∀ Q : L2.St → Hp → Prop, (∀ σ', Sg H σ' δ' → σ'.length = σ.length → (∀ k, k ∉ vs → σ'[k]? = σ[k]?) → Q σ' H1) → g v σ H1 Q
theorem gb_name {i : Nat} {vs : List Nat} (h : i ∈ vs) : GB δ (gName i) d (δ.set i (.dat d)) vs := fun σ H H1 v sg s dv Q k =>
  k _ (sg.set i (s := .dat d) dv) (List.length_set ..) fun j hj => List.getElem?_set_ne (fun e => hj (by rw [← e]; exact h))
theorem gb_tup2 {i j : Nat} {vs : List Nat} (h : i ∈ vs) (h' : j ∈ vs) : GB δ (gTup K 2 (gCons (gName i) (gCons (gName j) gNil))) (.tuple [d1, d2]) ((δ.set i (.dat d1)).set j (.dat d2)) vs := fun σ H H1 v sg s dv Q k => by
  obtain ⟨a, xs, rfl, h1, h2⟩ := dv.tupOf
  obtain ⟨x, y, rfl, dx, dy⟩ := h2.two
  refine ⟨a, [x, y], rfl, .inl (h1.mono s).rd, rfl, x, [y], rfl, y, [], rfl, rfl, k _ ((sg.set i (s := .dat d1) dx).set j (s := .dat d2) dy) (by rw [List.length_set, List.length_set]) fun l hl => ?_⟩
  rw [List.getElem?_set_ne (fun e => hl (by rw [← e]; exact h')), List.getElem?_set_ne (fun e => hl (by rw [← e]; exact h))]

/-! ### comprehensions -/
def wipeD (δ : List Sl) : List Nat → List Sl
  | [] => δ
  | v :: vs => (wipeD δ vs).set v .any
theorem Sg.wipe {H : Hp} {σ : L2.St} {δ : List Sl} (h : Sg H σ δ) : ∀ vs : List Nat, Sg H (wipe σ vs) (wipeD δ vs)
  | [] => h
  | v :: vs => by
    have ih := Sg.wipe h vs
    refine ⟨by show ((L2.wipe σ vs).set v none).length = ((wipeD δ vs).set v .any).length; rw [List.length_set, List.length_set]; exact ih.1, fun i s a b => ?_⟩
    change ((wipeD δ vs).set v .any)[i]? = some s at a
    change ∃ x, ((L2.wipe σ vs).set v none)[i]? = some (some x) ∧ SlOk H x s
    by_cases hi : v = i
    · subst hi
      by_cases hl : v < (wipeD δ vs).length
      · rw [List.getElem?_set_self hl] at a
        exact absurd (Option.some.inj a).symm b
      · rw [List.getElem?_eq_none (by rw [List.length_set]; omega)] at a; cases a
    · rw [List.getElem?_set_ne hi] at a ⊢
      exact ih.2 i s a b
theorem wipe_get (σ : L2.St) : ∀ (vs : List Nat) (i : Nat), (wipe σ vs)[i]? = if i ∈ vs then (if i < σ.length then some none else none) else σ[i]?
  | [], i => by simp [wipe]
  | v :: vs, i => by
    show ((L2.wipe σ vs).set v none)[i]? = _
    have ih := wipe_get σ vs i
    by_cases hi : v = i
    · subst hi
      rw [if_pos (by simp)]
      by_cases hl : v < σ.length
      · rw [List.getElem?_set_self (by rw [wipe_length]; exact hl), if_pos hl]
      · rw [List.getElem?_eq_none (by rw [List.length_set, wipe_length]; omega), if_neg hl]
    · rw [List.getElem?_set_ne hi, ih]
      have e : (i ∈ v :: vs) ↔ i ∈ vs := by simp [Ne.symm hi]
      by_cases hm : i ∈ vs
      · rw [if_pos hm, if_pos (e.mpr hm)]
      · rw [if_neg hm, if_neg (fun z => hm (e.mp z))]
theorem wipe_eq {σ σ' : L2.St} {vs : List Nat} (hl : σ'.length = σ.length) (h : ∀ k, k ∉ vs → σ'[k]? = (wipe σ vs)[k]?) : wipe σ' vs = wipe σ vs := by
  refine List.ext_getElem? fun i => ?_
  rw [wipe_get, wipe_get]
  by_cases hm : i ∈ vs
  · rw [if_pos hm, if_pos hm, hl]
  · rw [if_neg hm, if_neg hm, h i hm, wipe_get, if_neg hm]
/-- pure elements: b tells which are taken, f what they give; the items told by a list of one's own -/
theorem j_lc {α : Type} {emb : α → PyData} {wi : TI} {g : TG} {vs : List Nat} {Ψ : List α → Prop} (hw : IJ q δ wi c (fun items => ∃ xs, Ψ xs ∧ items = xs.map emb)) (b : α → Bool) (f : α → PyData)
    (hz : ∀ xs, Ψ xs → xs.length ≤ 1000000) (he : ∀ xs, Ψ xs → ∀ x ∈ xs, ∃ δ', GB (wipeD δ vs) g (emb x) δ' vs ∧ TB q δ' tt (b x) ∧ (b x = true → E q δ' te (f x))) :
    J q δ (tLc wi g tt te vs) c (fun r => ∃ xs, Ψ xs ∧ r = .list ((xs.filter b).map f)) := fun σ H H1 n sg o Q k =>
  hw σ H H1 n sg o _ fun items Jt HkW H2 g0 o0 pi wk D hD => by
    obtain ⟨xs, pi, ei⟩ := pi
    have hlen : items.length = xs.length := by rw [ei, List.length_map]
    have hDk : HkW D = none := g0.a.free hD
    have hDq : q ≠ some D := fun e => (o0.j D e).ne hD
    have g1 : Gr q HkW H2 HkW (upd H2 D (.lst [])) := Gr.cell g0.a hD
    refine ⟨fun i m H' => m = items.length - i ∧ i ≤ items.length ∧ ∃ Hk' vs, Gr q HkW H2 Hk' H' ∧ Ok q n Hk' H' ∧ Hk' D = none ∧ H' D = some (.lst vs) ∧ DqAll Hk' vs (((xs.take i).filter b).map f),
      ⟨items.length, by simp, Nat.zero_le _, HkW, [], g1, o0.cell hDk hDq, hDk, upd_same, .nil⟩, ?_⟩
    rintro i m H' ⟨rfl, hi, Hk', ys, gr, ok, hDn, hl, hd⟩
    by_cases hlt : i < items.length
    · obtain ⟨go, yl⟩ := (wk i Hk' H' gr.k ok.a).1 hlt
      refine .inr ⟨go, fun H'' => ∃ Hk3 ys', Gr q HkW H2 Hk3 H'' ∧ Ok q n Hk3 H'' ∧ Hk3 D = none ∧ H'' D = some (.lst ys') ∧ DqAll Hk3 ys' (((xs.take (i + 1)).filter b).map f), fun H'' p => ⟨items.length - (i + 1), by omega, rfl, hlt, p⟩, fun v H'' y => ?_⟩
      obtain ⟨Hk2, g2, d, ed, dx⟩ := yl v H'' y
      obtain ⟨x, ex, rfl⟩ : ∃ x, xs[i]? = some x ∧ emb x = d := by
        rw [ei, List.getElem?_map] at ed
        exact Option.map_eq_some_iff.mp ed
      obtain ⟨δ', hgb, htb, hte⟩ := he xs pi x (List.mem_of_getElem? ex)
      have ok2 := ok.go g2
      have sgw : Sg Hk2 (wipe σ vs) (wipeD δ vs) := ((sg.mono g0.k).mono (gr.k.trans g2.k)).wipe vs
      have hD2 : Hk2 D = none := g2.f D hDn (by rw [hl]; exact fun z => by cases z)
      have hl2 : H'' D = some (.lst ys) := g2.s D _ (fun z => by cases z) hl
      have hd2 := DqAll.mono g2.k _ _ hd
      have gr2 := gr.trans g2.none_to
      have hx : xs.take (i + 1) = xs.take i ++ [x] := by
        rw [List.take_add_one, ex]; rfl
      refine hgb (wipe σ vs) Hk2 H'' v sgw g2.a dx _ fun σ' sg' hl' hk' => ⟨wipe_eq (by rw [hl', wipe_length]) hk', ?_⟩
      · refine htb σ' Hk2 H'' n sg' ok2 _ fun b' Hk3 H3 g3 o3 eb => ?_
        have hD3 : Hk3 D = none := g3.f D hD2 (by rw [hl2]; exact fun z => by cases z)
        have hl3 : H3 D = some (.lst ys) := g3.s D _ hDq hl2
        have hd3 := DqAll.mono g3.k _ _ hd2
        have gr3 := gr2.trans g3
        cases hb : b x with
        | true =>
          rw [hb] at eb
          subst eb
          refine iteT (hte hb σ' Hk3 H3 n (sg'.mono g3.k) o3 _ fun y w Hk4 H4 g4 o4 ey dw => ?_)
          subst ey
          have hD4 : Hk4 D = none := g4.f D hD3 (by rw [hl3]; exact fun z => by cases z)
          have hl4 : H4 D = some (.lst ys) := g4.s D _ hDq hl3
          have hd4 := DqAll.mono g4.k _ _ hd3
          refine ⟨ys, hl4, ?_, Hk4, ys ++ [w], (gr3.trans g4).put hD hD4, o4.cell hD4 hDq, hD4, upd_same, ?_⟩
          · rw [hd4.length, List.length_map]
            have z1 := List.length_filter_le b (xs.take i)
            rw [List.length_take] at z1
            have z2 := hz xs pi
            rw [sizeLine_eq]; omega
          · rw [hx, List.filter_append, List.map_append, List.filter_cons, if_pos hb]
            exact hd4.append (.cons dw .nil)
        | false =>
          rw [hb] at eb
          subst eb
          refine iteF ⟨Hk3, ys, gr3, o3, hD3, hl3, ?_⟩
          rw [hx, List.filter_append, List.map_append, List.filter_cons, if_neg (by rw [hb]; exact Bool.false_ne_true)]
          show DqAll Hk3 ys (_ ++ [])
          rw [List.append_nil]
          exact hd3
    · have e : i = items.length := by omega
      subst e
      refine .inl ⟨(wk _ Hk' H' gr.k ok.a).2 (Nat.le_refl _), ?_⟩
      rw [hlen, List.take_length] at hd
      have gf := gr.freeze hD hDn hl
      refine k _ _ _ _ (g0.trans gf) ⟨gf.a, fun p e => ?_, ok.j⟩ ⟨xs, pi, rfl⟩ (.lst upd_same (DqAll.mono (same_upd hDn) _ _ hd))
      rw [upd_ne (fun z => hDq (by rw [← z]; exact e))]
      exact ok.kf p e
theorem e_lc {α : Type} {emb : α → PyData} {wi : TI} {g : TG} {vs : List Nat} {xs : List α} (hw : IE q δ wi (xs.map emb)) (b : α → Bool) (f : α → PyData) (hz : xs.length ≤ 1000000)
    (he : ∀ x ∈ xs, ∃ δ', GB (wipeD δ vs) g (emb x) δ' vs ∧ TB q δ' tt (b x) ∧ (b x = true → E q δ' te (f x))) : E q δ (tLc wi g tt te vs) (.list ((xs.filter b).map f)) :=
  (j_lc (Ψ := fun ys => ys = xs) (fun σ H H1 n sg o R k => hw σ H H1 n sg o R fun items Jt Hk H2 g o' e w => k items Jt Hk H2 g o' ⟨xs, rfl, e⟩ w) b f (fun ys e => by rw [e]; exact hz) (fun ys e => by rw [e]; exact he)).imp fun d ⟨ys, e, r⟩ => by rw [r, e]
theorem e_lc1 {α : Type} {emb : α → PyData} {wi : TI} {g : TG} {vs : List Nat} {xs : List α} (hw : IE q δ wi (xs.map emb)) (f : α → PyData) (hz : xs.length ≤ 1000000)
    (he : ∀ x ∈ xs, ∃ δ', GB (wipeD δ vs) g (emb x) δ' vs ∧ E q δ' te (f x)) : E q δ (tLc wi g tYes te vs) (.list (xs.map f)) := by
  have h := e_lc (tt := tYes) hw (fun _ => true) f hz fun x hx => by
    obtain ⟨δ', a, b⟩ := he x hx
    exact ⟨δ', a, tb_yes, fun _ => b⟩
  rw [show xs.filter (fun _ => true) = xs from List.filter_eq_self.mpr fun _ _ => rfl] at h
  exact h
end
end Cr

set_option Elab.async false
set_option linter.all false
set_option maxRecDepth 100000
set_option maxHeartbeats 4000000
namespace Cr
open PySem PySem.Spec PyProof.Rows L2
section
variable {K : PySem.W.Frag} {q : Option Addr} {n : Nat} {δ δ' : List Sl} {te ta tb tc : TE} {tt tu : TT} {c c1 c2 c3 : Nat} {Φ Φ1 Φ2 Φ3 : PyData → Prop} {d d1 d2 : PyData} {wi : TI} {A0 B0 Hk H1 : Hp} {σ : L2.St} {D : Ends} {ts tz : TS} {g : TG}

/-! ### statements -/
theorem s_seq (h : ts { D with nx := tz D } σ H1) : tSeq ts tz D σ H1 := h
theorem s_asg {i : Nat} (h : J q δ te c Φ) (s : At q (n + c) δ A0 B0 σ Hk H1) (k : ∀ d σ' Hk' H2, Φ d → Gr q Hk H1 Hk' H2 → At q n (δ.set i (.dat d)) A0 B0 σ' Hk' H2 → D.nx σ' H2) : tAsg te (gName i) D σ H1 :=
  h σ Hk H1 n s.sg s.ok _ fun d v Hk' H2 g o p dv => k d _ Hk' H2 p g ⟨o, (s.sg.mono g.k).set i (s := .dat d) dv, s.gr.trans g⟩
theorem s_asgE {i : Nat} (h : E q δ te d) (s : At q n δ A0 B0 σ Hk H1) (k : ∀ σ' Hk' H2, Gr q Hk H1 Hk' H2 → At q n (δ.set i (.dat d)) A0 B0 σ' Hk' H2 → D.nx σ' H2) : tAsg te (gName i) D σ H1 :=
  s_asg (c := 0) h s fun d' σ' Hk' H2 e g a => by subst e; exact k σ' Hk' H2 g a
theorem s_drop (h : J q δ te c Φ) (s : At q (n + c) δ A0 B0 σ Hk H1) (k : ∀ Hk' H2, Gr q Hk H1 Hk' H2 → At q n δ A0 B0 σ Hk' H2 → D.nx σ H2) : tDrop te D σ H1 :=
  h σ Hk H1 n s.sg s.ok _ fun d v Hk' H2 g o p dv => k Hk' H2 g ⟨o, s.sg.mono g.k, s.gr.trans g⟩
/-- what the promise asks of the end -/
abbrev Fin (q : Option Addr) (n : Nat) (A0 B0 : Hp) (Φ : PyData → Prop) (Q : VK) : Prop := ∀ d v Hk' H2, Gr q A0 B0 Hk' H2 → Ok q n Hk' H2 → Φ d → Dq Hk' v d → Q v H2
theorem s_ret {m : Nat} (h : J q δ te c Φ) (s : At q m δ A0 B0 σ Hk H1) (hm : n + c ≤ m) (f : Fin q n A0 B0 Φ1 D.rt) (i : ∀ d, Φ d → Φ1 d) : tRet te D σ H1 :=
  h σ Hk H1 n s.sg (s.ok.mono hm) _ fun d v Hk' H2 g o p dv => f d v Hk' H2 (s.gr.trans g) o (i d p) dv
theorem s_retE {m : Nat} (h : E q δ te d) (s : At q m δ A0 B0 σ Hk H1) (hm : n ≤ m) (f : Fin q n A0 B0 Φ1 D.rt) (i : Φ1 d) : tRet te D σ H1 := s_ret (c := 0) h s hm f fun _ e => by rw [e]; exact i
/-- the end without a return -/
theorem s_end {m : Nat} {Q : VK} (s : At q m δ A0 B0 σ Hk H1) (hm : n ≤ m) (f : Fin q n A0 B0 Φ1 Q) (i : Φ1 .none) : Q .non H1 := f _ _ Hk H1 s.gr (s.ok.mono hm) i .non
theorem s_if {P : Bool → Prop} {t1 t2 : TS} (h : TJ q δ tt c P) (s : At q (n + c) δ A0 B0 σ Hk H1) (k1 : P true → ∀ Hk' H2, Gr q Hk H1 Hk' H2 → At q n δ A0 B0 σ Hk' H2 → t1 D σ H2) (k2 : P false → ∀ Hk' H2, Gr q Hk H1 Hk' H2 → At q n δ A0 B0 σ Hk' H2 → t2 D σ H2) : tIfS tt t1 t2 D σ H1 :=
  h σ Hk H1 n s.sg s.ok _ fun b Hk' H2 g o p => by
    cases b with
    | true => exact iteT (k1 p Hk' H2 g ⟨o, s.sg.mono g.k, s.gr.trans g⟩)
    | false => exact iteF (k2 p Hk' H2 g ⟨o, s.sg.mono g.k, s.gr.trans g⟩)
theorem s_ifB {b : Bool} {t1 t2 : TS} (h : TB q δ tt b) (s : At q n δ A0 B0 σ Hk H1) (k1 : b = true → ∀ Hk' H2, Gr q Hk H1 Hk' H2 → At q n δ A0 B0 σ Hk' H2 → t1 D σ H2) (k2 : b = false → ∀ Hk' H2, Gr q Hk H1 Hk' H2 → At q n δ A0 B0 σ Hk' H2 → t2 D σ H2) : tIfS tt t1 t2 D σ H1 :=
  s_if (c := 0) h s (fun e => k1 e.symm) (fun e => k2 e.symm)
/-- if it does not hold, nothing happens (a raise that is never reached) -/
theorem s_ifNo {t1 : TS} (h : TB q δ tt false) (s : At q n δ A0 B0 σ Hk H1) (k2 : ∀ Hk' H2, Gr q Hk H1 Hk' H2 → At q n δ A0 B0 σ Hk' H2 → D.nx σ H2) : tIfS tt t1 tNext D σ H1 :=
  s_ifB h s (fun e => by cases e) (fun _ Hk' H2 g a => k2 Hk' H2 g a)
/-- a, b = x, y -/
theorem s_par {i j : Nat} {ta : TA} {Ψ : PyData → PyData → Prop} (h : AJ q δ ta c (fun sls => ∃ a b, sls = [.dat a, .dat b] ∧ Ψ a b)) (s : At q (n + c) δ A0 B0 σ Hk H1)
    (k : ∀ a b σ' Hk' H2, Ψ a b → Gr q Hk H1 Hk' H2 → At q n ((δ.set i (.dat a)).set j (.dat b)) A0 B0 σ' Hk' H2 → D.nx σ' H2) : tPar i j ta D σ H1 :=
  h σ Hk H1 n s.sg s.ok _ fun sls vs Hk' H2 g o ⟨a, b, e, p⟩ hv => by
    subst e
    obtain ⟨x, y, rfl, dx, dy⟩ := (VS.dats (ds := [a, b]) hv).two
    exact ⟨x, y, rfl, k a b _ Hk' H2 p g ⟨o, ((s.sg.mono g.k).set i (s := .dat a) dx).set j (s := .dat b) dy, s.gr.trans g⟩⟩
/-! ### loops -/
theorem s_for {tb : TS} {Ψ : List PyData → Prop} (hw : IJ q δ wi c Ψ) (s : At q (n + c) δ A0 B0 σ Hk H1)
    (k : ∀ items HkW H2, Ψ items → Gr q Hk H1 HkW H2 → At q n δ A0 B0 σ HkW H2 → ∃ P : Nat → L2.St → Hp → Hp → Prop, P 0 σ HkW H2 ∧ (∀ i σ' Hk' H', P i σ' Hk' H' → Same HkW Hk' ∧ Same Hk' H') ∧
      (∀ i d σ' Hk' H', items[i]? = some d → P i σ' Hk' H' → ∀ v Hk2 H2', Gr none Hk' H' Hk2 H2' → Dq Hk2 v d → g v σ' H2' fun σ2 H3 => tb { D with nx := fun σ3 H4 => ∃ Hk3, P (i + 1) σ3 Hk3 H4, ct := fun σ3 H4 => ∃ Hk3, P (i + 1) σ3 Hk3 H4, bk := D.nx } σ2 H3) ∧
      (∀ σ' Hk' H', P items.length σ' Hk' H' → D.nx σ' H')) : tFor wi g tb D σ H1 :=
  hw σ Hk H1 n s.sg s.ok _ fun items Jt HkW H2 g0 o0 pi wk => by
    obtain ⟨P, p0, ps, pt, pe⟩ := k items HkW H2 pi g0 ⟨o0, s.sg.mono g0.k, s.gr.trans g0⟩
    refine ⟨fun i m σ' H' => m = items.length - i ∧ i ≤ items.length ∧ ∃ Hk', P i σ' Hk' H', ⟨items.length, by simp, Nat.zero_le _, HkW, p0⟩, ?_⟩
    rintro i m σ' H' ⟨rfl, hi, Hk', p⟩
    obtain ⟨s1, s2⟩ := ps i σ' Hk' H' p
    by_cases hlt : i < items.length
    · obtain ⟨go, yl⟩ := (wk i Hk' H' s1 s2).1 hlt
      refine .inr ⟨go, fun σ3 H4 => ∃ Hk3, P (i + 1) σ3 Hk3 H4, fun σ3 H4 p => ⟨items.length - (i + 1), by omega, rfl, hlt, p⟩, fun v H'' y => ?_⟩
      obtain ⟨Hk2, g2, d, ed, dv⟩ := yl v H'' y
      exact pt i d σ' Hk' H' ed p v Hk2 H'' g2 dv
    · have e : i = items.length := by omega
      subst e
      exact .inl ⟨(wk _ Hk' H' s1 s2).2 (Nat.le_refl _), pe σ' Hk' H' p⟩
end

/-! ### the same with something behind -/
section
variable {K : PySem.W.Frag} {q : Option Addr} {n : Nat} {δ δ' : List Sl} {te ta tb tc : TE} {tt tu : TT} {c c1 c2 c3 : Nat} {Φ Φ1 Φ2 Φ3 : PyData → Prop} {d d1 d2 : PyData} {wi : TI} {A0 B0 Hk H1 : Hp} {σ : L2.St} {D : Ends} {ts tz : TS} {g : TG}
theorem q_asg {i : Nat} (h : J q δ te c Φ) (s : At q (n + c) δ A0 B0 σ Hk H1) (k : ∀ d σ' Hk' H2, Φ d → Gr q Hk H1 Hk' H2 → At q n (δ.set i (.dat d)) A0 B0 σ' Hk' H2 → tz D σ' H2) : tSeq (tAsg te (gName i)) tz D σ H1 := s_asg (D := { D with nx := tz D }) h s k
theorem q_asgE {i : Nat} (h : E q δ te d) (s : At q n δ A0 B0 σ Hk H1) (k : ∀ σ' Hk' H2, Gr q Hk H1 Hk' H2 → At q n (δ.set i (.dat d)) A0 B0 σ' Hk' H2 → tz D σ' H2) : tSeq (tAsg te (gName i)) tz D σ H1 := s_asgE (D := { D with nx := tz D }) h s k
theorem q_asgX {i : Nat} (h : E q δ te d) (s : At q n δ A0 B0 σ Hk H1) (k : ∀ v Hk' H2, Gr q Hk H1 Hk' H2 → At q n (δ.set i (.dat d)) A0 B0 (σ.set i (some v)) Hk' H2 → Dq Hk' v d → tz D (σ.set i (some v)) H2) : tSeq (tAsg te (gName i)) tz D σ H1 :=
  h σ Hk H1 n s.sg s.ok _ fun d' v Hk' H2 g o p dv => by
    subst p
    exact k v Hk' H2 g ⟨o, (s.sg.mono g.k).set i (s := .dat d') dv, s.gr.trans g⟩ dv
theorem q_drop (h : J q δ te c Φ) (s : At q (n + c) δ A0 B0 σ Hk H1) (k : ∀ Hk' H2, Gr q Hk H1 Hk' H2 → At q n δ A0 B0 σ Hk' H2 → tz D σ H2) : tSeq (tDrop te) tz D σ H1 := s_drop (D := { D with nx := tz D }) h s k
theorem q_if {P : Bool → Prop} {t1 t2 : TS} (h : TJ q δ tt c P) (s : At q (n + c) δ A0 B0 σ Hk H1) (k1 : P true → ∀ Hk' H2, Gr q Hk H1 Hk' H2 → At q n δ A0 B0 σ Hk' H2 → t1 { D with nx := tz D } σ H2) (k2 : P false → ∀ Hk' H2, Gr q Hk H1 Hk' H2 → At q n δ A0 B0 σ Hk' H2 → t2 { D with nx := tz D } σ H2) : tSeq (tIfS tt t1 t2) tz D σ H1 := s_if (D := { D with nx := tz D }) h s k1 k2
theorem q_when {P : Bool → Prop} {t1 : TS} (h : TJ q δ tt c P) (s : At q (n + c) δ A0 B0 σ Hk H1) (k1 : P true → ∀ Hk' H2, Gr q Hk H1 Hk' H2 → At q n δ A0 B0 σ Hk' H2 → t1 { D with nx := tz D } σ H2) (k2 : P false → ∀ Hk' H2, Gr q Hk H1 Hk' H2 → At q n δ A0 B0 σ Hk' H2 → tz D σ H2) : tSeq (tIfS tt t1 tNext) tz D σ H1 := s_if (D := { D with nx := tz D }) h s k1 k2
theorem q_whenB {b : Bool} {t1 : TS} (h : TB q δ tt b) (s : At q n δ A0 B0 σ Hk H1) (k1 : b = true → ∀ Hk' H2, Gr q Hk H1 Hk' H2 → At q n δ A0 B0 σ Hk' H2 → t1 { D with nx := tz D } σ H2) (k2 : b = false → ∀ Hk' H2, Gr q Hk H1 Hk' H2 → At q n δ A0 B0 σ Hk' H2 → tz D σ H2) : tSeq (tIfS tt t1 tNext) tz D σ H1 := s_ifB (D := { D with nx := tz D }) h s k1 k2
theorem q_ifNo {t1 : TS} (h : TB q δ tt false) (s : At q n δ A0 B0 σ Hk H1) (k2 : ∀ Hk' H2, Gr q Hk H1 Hk' H2 → At q n δ A0 B0 σ Hk' H2 → tz D σ H2) : tSeq (tIfS tt t1 tNext) tz D σ H1 := s_ifNo (D := { D with nx := tz D }) h s k2
theorem s_ifNoJ {t1 : TS} (h : TJ q δ tt c (fun b => b = false)) (s : At q (n + c) δ A0 B0 σ Hk H1) (k2 : ∀ Hk' H2, Gr q Hk H1 Hk' H2 → At q n δ A0 B0 σ Hk' H2 → D.nx σ H2) : tIfS tt t1 tNext D σ H1 :=
  s_if h s (fun e => by cases e) fun _ Hk' H2 g a => k2 Hk' H2 g a
theorem q_par {i j : Nat} {ta : TA} {Ψ : PyData → PyData → Prop} (h : AJ q δ ta c (fun sls => ∃ a b, sls = [.dat a, .dat b] ∧ Ψ a b)) (s : At q (n + c) δ A0 B0 σ Hk H1)
    (k : ∀ a b σ' Hk' H2, Ψ a b → Gr q Hk H1 Hk' H2 → At q n ((δ.set i (.dat a)).set j (.dat b)) A0 B0 σ' Hk' H2 → tz D σ' H2) : tSeq (tPar i j ta) tz D σ H1 := s_par (D := { D with nx := tz D }) h s k
theorem q_for {tb : TS} {Ψ : List PyData → Prop} (hw : IJ q δ wi c Ψ) (s : At q (n + c) δ A0 B0 σ Hk H1)
    (k : ∀ items HkW H2, Ψ items → Gr q Hk H1 HkW H2 → At q n δ A0 B0 σ HkW H2 → ∃ P : Nat → L2.St → Hp → Hp → Prop, P 0 σ HkW H2 ∧ (∀ i σ' Hk' H', P i σ' Hk' H' → Same HkW Hk' ∧ Same Hk' H') ∧
      (∀ i d σ' Hk' H', items[i]? = some d → P i σ' Hk' H' → ∀ v Hk2 H2', Gr none Hk' H' Hk2 H2' → Dq Hk2 v d → g v σ' H2' fun σ2 H3 => tb { D with nx := fun σ3 H4 => ∃ Hk3, P (i + 1) σ3 Hk3 H4, ct := fun σ3 H4 => ∃ Hk3, P (i + 1) σ3 Hk3 H4, bk := tz D } σ2 H3) ∧
      (∀ σ' Hk' H', P items.length σ' Hk' H' → tz D σ' H')) : tSeq (tFor wi g tb) tz D σ H1 := s_for (D := { D with nx := tz D }) hw s k
end

/-! ### a def -/
theorem start_sg {H : Hp} {N : List Str} {vs : List V} {sls : List Sl} (h : VS H vs sls) (hl : vs.length ≤ N.length) : Sg H (L2.start N vs) (sls ++ List.replicate (N.length - sls.length) .any) := by
  have hl1 := h.1
  refine ⟨by unfold L2.start; simp [hl1], fun i s e ne => ?_⟩
  by_cases hi : i < sls.length
  · rw [List.getElem?_append_left hi] at e
    obtain ⟨v, a, b⟩ := h.2 i s e
    refine ⟨v, ?_, b⟩
    unfold L2.start
    rw [List.getElem?_append_left (by rw [List.length_map]; omega), List.getElem?_map, a]; rfl
  · rw [List.getElem?_append_right (by omega)] at e
    have := List.eq_of_mem_replicate (List.mem_of_getElem? e)
    exact absurd this ne
section
variable {P : Program} {w : World} {K : PySem.W.Frag} {mg : Str → Option Value} {base : Heap}
theorem fn_ok {x qual : Str} {st : Stmt} {f : Addr} {fd : FuncData} {N ps : List Str} {k : Nat} {R : RelX} (F : Fun K x qual st f fd) (S : FnScope N ps (defScope st)) (hN : ps.length ≤ N.length) (len : ∀ q sls c Φ, R q sls c Φ → sls.length = ps.length)
    (body : ∀ (cdv : Value) (A : Around) (outer : List Env) (s : Shared) (B0 : Hp) (E : XK), Room k (A.deeper (envOfC qual (defScope st) s.heap.objs.size f cdv)) →
      ∃ t, PSs (cxOf CX0 P w K mg base N qual (defScope st) f cdv A outer s B0 E).nox (defBody st) t ∧
        ∀ (q : Option Addr) (sls : List Sl) (n c : Nat) (Φ : PyData → Prop) (A0 : Hp) (σ : L2.St) (Q : VK), R q sls c Φ → At q (n + c) (sls ++ List.replicate (N.length - sls.length) .any) A0 B0 σ A0 B0 → Fin q n A0 B0 Φ Q → t { nx := fun _ H' => Q .non H', rt := Q } σ B0) :
    FnOk P w K mg base CX0 (k + 1) f fd ps (spX R) := by
  refine F.ok S (fun vs H Q E h => ?_) (fun cdv A outer s H vs Q E hr h => ?_)
  · obtain ⟨q, Hk, sls, n, c, Φ, o, hv, r, _⟩ := h
    rw [hv.1]; exact len q sls c Φ r
  · obtain ⟨q, Hk, sls, n, c, Φ, o, hv, r, fin⟩ := h
    obtain ⟨t, ht, hq⟩ := body cdv A outer s H E hr
    refine ⟨t, ht, hq q sls n c Φ Hk (L2.start N vs) Q r ⟨o, start_sg hv (by rw [hv.1, len q sls c Φ r]; exact hN), Gr.refl o.a⟩ fin⟩
end
end Cr

set_option linter.all false
set_option maxHeartbeats 4000000
namespace Cr
open PySem PySem.Spec PyProof.Rows L2
def isIntD : PyData → Bool
  | .int _ => true
  | _ => false
def isiInt : PyData → Bool
  | .int _ => true
  | .bool _ => true
  | _ => false
def isiBool : PyData → Bool
  | .bool _ => true
  | _ => false
def isiTup : PyData → Bool
  | .tuple _ => true
  | _ => false
def isiLst : PyData → Bool
  | .list _ => true
  | _ => false
theorem kit_int (d : PyData) : kitB (tyN d) "int" = some (isiInt d) := by
  cases d with
  | none => exact (by decide +kernel : kitB "NoneType" "int" = some false)
  | bool _ => exact (by decide +kernel : kitB "bool" "int" = some true)
  | int _ => exact (by decide +kernel : kitB "int" "int" = some true)
  | str _ => exact (by decide +kernel : kitB "str" "int" = some false)
  | list _ => exact (by decide +kernel : kitB "list" "int" = some false)
  | tuple _ => exact (by decide +kernel : kitB "tuple" "int" = some false)
  | dict _ => exact (by decide +kernel : kitB "dict" "int" = some false)

theorem kit_bool (d : PyData) : kitB (tyN d) "bool" = some (isiBool d) := by
  cases d with
  | none => exact (by decide +kernel : kitB "NoneType" "bool" = some false)
  | bool _ => exact (by decide +kernel : kitB "bool" "bool" = some true)
  | int _ => exact (by decide +kernel : kitB "int" "bool" = some false)
  | str _ => exact (by decide +kernel : kitB "str" "bool" = some false)
  | list _ => exact (by decide +kernel : kitB "list" "bool" = some false)
  | tuple _ => exact (by decide +kernel : kitB "tuple" "bool" = some false)
  | dict _ => exact (by decide +kernel : kitB "dict" "bool" = some false)

theorem kit_tuple (d : PyData) : kitB (tyN d) "tuple" = some (isiTup d) := by
  cases d with
  | none => exact (by decide +kernel : kitB "NoneType" "tuple" = some false)
  | bool _ => exact (by decide +kernel : kitB "bool" "tuple" = some false)
  | int _ => exact (by decide +kernel : kitB "int" "tuple" = some false)
  | str _ => exact (by decide +kernel : kitB "str" "tuple" = some false)
  | list _ => exact (by decide +kernel : kitB "list" "tuple" = some false)
  | tuple _ => exact (by decide +kernel : kitB "tuple" "tuple" = some true)
  | dict _ => exact (by decide +kernel : kitB "dict" "tuple" = some false)

theorem kit_list (d : PyData) : kitB (tyN d) "list" = some (isiLst d) := by
  cases d with
  | none => exact (by decide +kernel : kitB "NoneType" "list" = some false)
  | bool _ => exact (by decide +kernel : kitB "bool" "list" = some false)
  | int _ => exact (by decide +kernel : kitB "int" "list" = some false)
  | str _ => exact (by decide +kernel : kitB "str" "list" = some false)
  | list _ => exact (by decide +kernel : kitB "list" "list" = some true)
  | tuple _ => exact (by decide +kernel : kitB "tuple" "list" = some false)
  | dict _ => exact (by decide +kernel : kitB "dict" "list" = some false)

theorem isInt_eq (d : PyData) : (isiInt d && !isiBool d) = isIntD d := by cases d <;> rfl

/-! ### ledgers -/
def pr (x : Int × Int) : PyData := .tuple [.int x.1, .int x.2]
def pd (l : List (Int × Int)) : List PyData := l.map pr
def led (l : List (Int × Int)) : PyData := .tuple (pd l)
def Led (l : List (Int × Int)) : Prop := l.Pairwise (fun a b => a.1 < b.1) ∧ ∀ x ∈ l, x.2 ≠ 0
theorem pd_len (l : List (Int × Int)) : (pd l).length = l.length := List.length_map ..
def tot : List (Int × Int) → Int → Int
  | [], _ => 0
  | x :: r, k => (if x.1 = k then x.2 else 0) + tot r k
theorem tot_append (a b : List (Int × Int)) (k : Int) : tot (a ++ b) k = tot a k + tot b k := by
  induction a with
  | nil => show tot b k = 0 + tot b k; omega
  | cons x r ih => show (if x.1 = k then x.2 else 0) + tot (r ++ b) k = ((if x.1 = k then x.2 else 0) + tot r k) + tot b k; rw [ih]; omega
theorem tot_no {l : List (Int × Int)} {k : Int} (h : k ∉ l.map (·.1)) : tot l k = 0 := by
  induction l with
  | nil => rfl
  | cons x r ih =>
    rw [List.map_cons, List.mem_cons, not_or] at h
    show (if x.1 = k then x.2 else 0) + tot r k = 0
    rw [if_neg (fun e => h.1 e.symm), ih h.2]; rfl
theorem tot_mem {l : List (Int × Int)} {k : Int} (h : tot l k ≠ 0) : k ∈ l.map (·.1) := by
  by_cases hk : k ∈ l.map (·.1)
  · exact hk
  · exact absurd (tot_no hk) h
/-- sorted, each once -/
def insK (k : Int) : List Int → List Int
  | [] => [k]
  | a :: r => if k < a then k :: a :: r else if k = a then a :: r else a :: insK k r
def usort (l : List Int) : List Int := l.foldr insK []
theorem insK_mem (k x : Int) : ∀ l : List Int, x ∈ insK k l ↔ x = k ∨ x ∈ l
  | [] => by simp [insK]
  | a :: r => by
    unfold insK
    split
    · simp
    · split
      · rename_i h1 h2; subst h2; simp
      · rw [List.mem_cons, insK_mem k x r, List.mem_cons]
        constructor
        · rintro (h | h | h) <;> simp [h]
        · rintro (h | h | h) <;> simp [h]
theorem insK_sorted (k : Int) : ∀ {l : List Int}, l.Pairwise (· < ·) → (insK k l).Pairwise (· < ·)
  | [], _ => by simp [insK]
  | a :: r, h => by
    unfold insK
    obtain ⟨h1, h2⟩ := List.pairwise_cons.mp h
    split
    · rename_i hk
      refine List.pairwise_cons.mpr ⟨fun b hb => ?_, h⟩
      rcases List.mem_cons.mp hb with e | hb
      · rw [e]; exact hk
      · exact Int.lt_trans hk (h1 b hb)
    · split
      · exact h
      · rename_i h3 h4
        refine List.pairwise_cons.mpr ⟨fun b hb => ?_, insK_sorted k h2⟩
        rcases (insK_mem k b r).mp hb with e | hb
        · subst e; omega
        · exact h1 b hb
theorem usort_mem (x : Int) : ∀ l : List Int, x ∈ usort l ↔ x ∈ l
  | [] => by simp [usort]
  | a :: r => by
    show x ∈ insK a (usort r) ↔ _
    rw [insK_mem, usort_mem x r, List.mem_cons]
theorem usort_sorted : ∀ l : List Int, (usort l).Pairwise (· < ·)
  | [] => by simp [usort]
  | a :: r => insK_sorted a (usort_sorted r)
/-- two rising lists with the same members are one -/
theorem rising_eq {α : Type} {f : α → Int} : ∀ {l m : List α}, l.Pairwise (fun a b => f a < f b) → m.Pairwise (fun a b => f a < f b) → (∀ x, x ∈ l ↔ x ∈ m) → l = m
  | [], [], _, _, _ => rfl
  | [], b :: m, _, _, h => by have := (h b).mpr List.mem_cons_self; cases this
  | a :: l, [], _, _, h => by have := (h a).mp List.mem_cons_self; cases this
  | a :: l, b :: m, h1, h2, h => by
    obtain ⟨p1, p2⟩ := List.pairwise_cons.mp h1
    obtain ⟨q1, q2⟩ := List.pairwise_cons.mp h2
    have e : a = b := by
      rcases List.mem_cons.mp ((h a).mp List.mem_cons_self) with e | ha
      · exact e
      · rcases List.mem_cons.mp ((h b).mpr List.mem_cons_self) with e | hb
        · exact e.symm
        · have := q1 a ha; have := p1 b hb; omega
    subst e
    refine congrArg (a :: ·) (rising_eq p2 q2 fun x => ⟨fun hx => ?_, fun hx => ?_⟩)
    · rcases List.mem_cons.mp ((h x).mp (List.mem_cons_of_mem _ hx)) with e | hx'
      · subst e; have := p1 x hx; omega
      · exact hx'
    · rcases List.mem_cons.mp ((h x).mpr (List.mem_cons_of_mem _ hx)) with e | hx'
      · subst e; have := q1 x hx; omega
      · exact hx'
def gather (cs : List (Int × Int)) : List (Int × Int) := ((usort (cs.map (·.1))).filter (fun k => tot cs k != 0)).map (fun k => (k, tot cs k))
theorem gather_mem (cs : List (Int × Int)) (x : Int × Int) : x ∈ gather cs ↔ x.2 = tot cs x.1 ∧ x.2 ≠ 0 := by
  unfold gather
  rw [List.mem_map]
  constructor
  · rintro ⟨k, hk, rfl⟩
    have := (List.mem_filter.mp hk).2
    exact ⟨rfl, by simpa using this⟩
  · rintro ⟨h1, h2⟩
    refine ⟨x.1, List.mem_filter.mpr ⟨(usort_mem _ _).mpr (tot_mem (by rw [← h1]; exact h2)), ?_⟩, by rw [← h1]⟩
    rw [← h1]; simpa using h2
theorem gather_rising (cs : List (Int × Int)) : (gather cs).Pairwise (fun a b => a.1 < b.1) := by
  unfold gather
  rw [List.pairwise_map]
  exact (usort_sorted _).filter _
theorem gather_led (cs : List (Int × Int)) : Led (gather cs) := ⟨gather_rising cs, fun x hx => ((gather_mem cs x).mp hx).2⟩
theorem tot_led {l : List (Int × Int)} (h : l.Pairwise (fun a b => a.1 < b.1)) : ∀ x ∈ l, tot l x.1 = x.2 := by
  induction l with
  | nil => intro x hx; cases hx
  | cons a r ih =>
    obtain ⟨h1, h2⟩ := List.pairwise_cons.mp h
    intro x hx
    show (if a.1 = x.1 then a.2 else 0) + tot r x.1 = x.2
    rcases List.mem_cons.mp hx with e | hx
    · subst e
      rw [if_pos rfl, tot_no]
      · omega
      · intro hm
        obtain ⟨y, hy, ey⟩ := List.mem_map.mp hm
        have := h1 y hy; omega
    · rw [if_neg (by have := h1 x hx; omega), ih h2 x hx]; omega
theorem gather_ext {cs ds : List (Int × Int)} (h : ∀ k, tot cs k = tot ds k) : gather cs = gather ds := rising_eq (f := (·.1)) (gather_rising _) (gather_rising _) fun x => by rw [gather_mem, gather_mem, h]
theorem gather_self {l : List (Int × Int)} (h : Led l) : gather l = l := rising_eq (f := (·.1)) (gather_rising _) h.1 fun x => by
  rw [gather_mem]
  constructor
  · rintro ⟨h1, h2⟩
    have hm := tot_mem (l := l) (k := x.1) (by rw [← h1]; exact h2)
    obtain ⟨y, hy, ey⟩ := List.mem_map.mp hm
    have e2 := tot_led h.1 y hy
    rw [ey, ← h1] at e2
    have : x = y := Prod.ext ey.symm e2
    rw [this]; exact hy
  · intro hx
    exact ⟨(tot_led h.1 x hx).symm, h.2 x hx⟩
theorem gather_len (cs : List (Int × Int)) : (gather cs).length ≤ cs.length := by
  have h1 : ∀ l : List Int, (usort l).length ≤ l.length := fun l => by
    induction l with
    | nil => simp [usort]
    | cons a r ih =>
      have h2 : ∀ (k : Int) (m : List Int), (insK k m).length ≤ m.length + 1 := fun k m => by
        induction m with
        | nil => simp [insK]
        | cons b m ih2 =>
          unfold insK
          split
          · simp
          · split
            · simp
            · simp; exact ih2
      have := h2 a (usort r)
      show (insK a (usort r)).length ≤ r.length + 1
      omega
  unfold gather
  rw [List.length_map]
  exact Nat.le_trans (List.length_filter_le ..) (by have := h1 (cs.map (·.1)); rw [List.length_map] at this; exact this)
/-! ### the dict that is filled -/
def getI (m : List (Int × Int)) (k : Int) : Option Int := (m.find? fun x => decide (x.1 = k)).map (·.2)
def putI (m : List (Int × Int)) (k v : Int) : List (Int × Int) := if (m.any fun x => decide (x.1 = k)) = true then m.map (fun x => if x.1 = k then (x.1, v) else x) else m ++ [(k, v)]
def addI (m : List (Int × Int)) (x : Int × Int) : List (Int × Int) := putI m x.1 ((getI m x.1).getD 0 + x.2)
theorem inl_dec (a b : Int) : decide ((Sum.inl a : Key) = Sum.inl b) = decide (a = b) := by
  by_cases h : a = b
  · subst h; simp
  · rw [decide_eq_false h, decide_eq_false (fun e => h (Sum.inl.inj e))]
theorem mdict_val (m : List (Int × Int)) (k : Int) : valV (mdict m) (Sum.inl k) = (getI m k).map V.int := by
  unfold valV getI mdict
  rw [List.find?_map]
  have : (fun kv : Key × V => decide (kv.1 = Sum.inl k)) ∘ (fun x : Int × Int => ((Sum.inl x.1 : Key), V.int x.2)) = fun x => decide (x.1 = k) := by
    funext x; exact inl_dec x.1 k
  rw [this]
  cases m.find? (fun x => decide (x.1 = k)) <;> rfl
theorem mdict_put (m : List (Int × Int)) (k v : Int) : putK (mdict m) (Sum.inl k) (.int v) = mdict (putI m k v) := by
  unfold putK putI mdict
  rw [List.any_map]
  have : (fun kv : Key × V => decide (kv.1 = Sum.inl k)) ∘ (fun x : Int × Int => ((Sum.inl x.1 : Key), V.int x.2)) = fun x => decide (x.1 = k) := by
    funext x; exact inl_dec x.1 k
  rw [this]
  by_cases h : (m.any fun x => decide (x.1 = k)) = true
  · rw [if_pos h, if_pos h, List.map_map, List.map_map]
    refine List.map_congr_left fun x _ => ?_
    show (if (Sum.inl x.1 : Key) = Sum.inl k then _ else _) = _
    by_cases e : x.1 = k
    · rw [if_pos (by rw [e])]; show _ = ((Sum.inl (if x.1 = k then (x.1, v) else x).1 : Key), V.int (if x.1 = k then (x.1, v) else x).2); rw [if_pos e]
    · rw [if_neg (fun z => e (Sum.inl.inj z))]; show _ = ((Sum.inl (if x.1 = k then (x.1, v) else x).1 : Key), V.int (if x.1 = k then (x.1, v) else x).2); rw [if_neg e]
  · rw [if_neg h, if_neg h, List.map_append]; rfl
theorem getI_none {m : List (Int × Int)} {k : Int} : getI m k = none ↔ k ∉ m.map (·.1) := by
  unfold getI
  rw [Option.map_eq_none_iff, List.find?_eq_none]
  constructor
  · intro h hm
    obtain ⟨y, hy, e⟩ := List.mem_map.mp hm
    exact h y hy (decide_eq_true e)
  · intro h x hx e
    exact h (List.mem_map.mpr ⟨x, hx, of_decide_eq_true e⟩)
theorem any_mem {m : List (Int × Int)} {k : Int} : (m.any fun x => decide (x.1 = k)) = true ↔ k ∈ m.map (·.1) := by simp
theorem putI_keys (m : List (Int × Int)) (k v : Int) : (putI m k v).map (·.1) = if k ∈ m.map (·.1) then m.map (·.1) else m.map (·.1) ++ [k] := by
  unfold putI
  by_cases h : k ∈ m.map (·.1)
  · rw [if_pos (any_mem.mpr h), if_pos h, List.map_map]
    refine List.map_congr_left fun x _ => ?_
    show (if x.1 = k then (x.1, v) else x).1 = x.1
    split <;> rfl
  · rw [if_neg (fun z => h (any_mem.mp z)), if_neg h, List.map_append]; rfl
theorem putI_get (m : List (Int × Int)) (k v j : Int) : getI (putI m k v) j = if j = k then some v else getI m j := by
  have h := valV_put (mdict m) (Sum.inl k : Key) (Sum.inl j) (.int v)
  rw [mdict_put, mdict_val] at h
  have inj : ∀ a b : Option Int, a.map V.int = b.map V.int → a = b := fun a b e => by
    cases a <;> cases b <;> first | rfl | (simp at e; done) | (simp at e; exact congrArg some e)
  refine inj _ _ (h.trans ?_)
  by_cases e : j = k
  · rw [if_pos e, if_pos (by rw [e])]; rfl
  · rw [if_neg e, if_neg (fun z => e (Sum.inl.inj z)), mdict_val]
structure DictOf (p : List (Int × Int)) (m : List (Int × Int)) : Prop where
  nd : (m.map (·.1)).Nodup
  mem : ∀ k, k ∈ m.map (·.1) ↔ k ∈ p.map (·.1)
  get : ∀ k, k ∈ p.map (·.1) → getI m k = some (tot p k)
  len : m.length ≤ p.length
theorem DictOf.nil : DictOf [] [] := ⟨by simp, by simp, by simp, by simp⟩
theorem DictOf.add {p m : List (Int × Int)} (h : DictOf p m) (x : Int × Int) : DictOf (p ++ [x]) (addI m x) := by
  have key : ∀ k, k ∈ (p ++ [x]).map (·.1) ↔ k ∈ p.map (·.1) ∨ k = x.1 := fun k => by simp
  have tt : ∀ k, tot (p ++ [x]) k = tot p k + if x.1 = k then x.2 else 0 := fun k => by
    rw [tot_append]; show _ + ((if x.1 = k then x.2 else 0) + 0) = _; omega
  have gv : (getI m x.1).getD 0 = tot p x.1 := by
    by_cases hx : x.1 ∈ p.map (·.1)
    · rw [h.get _ hx]; rfl
    · rw [getI_none.mpr (fun z => hx ((h.mem _).mp z)), tot_no hx]; rfl
  unfold addI
  refine ⟨?_, fun k => ?_, fun k hk => ?_, ?_⟩
  · rw [putI_keys]
    split
    · exact h.nd
    · rename_i hn
      exact List.nodup_append.mpr ⟨h.nd, by simp, fun a ha b hb => by simp at hb; subst hb; exact fun e => hn (e ▸ ha)⟩
  · rw [putI_keys, key]
    split
    · rename_i hm
      rw [h.mem]
      exact ⟨.inl, fun z => z.elim id fun e => by rw [e]; exact (h.mem _).mp hm⟩
    · rw [List.mem_append, h.mem]; simp
  · rw [putI_get, tt, gv]
    by_cases e : k = x.1
    · rw [if_pos e, if_pos e.symm, e]
    · rw [if_neg e, if_neg (fun z => e z.symm), h.get k (((key k).mp hk).resolve_right e)]
      simp
  · have e := congrArg List.length (putI_keys m x.1 ((getI m x.1).getD 0 + x.2))
    rw [List.length_map] at e
    rw [e, List.length_append]
    have := h.len
    split
    · rw [List.length_map]; simp; omega
    · rw [List.length_append, List.length_map]; simp; omega
theorem sorted_keys {p m : List (Int × Int)} (h : DictOf p m) {ks : List Int} (hp : ks.Perm (m.map (·.1))) (hs : ks.Pairwise (· ≤ ·)) : ks = usort (p.map (·.1)) := by
  have nd : ks.Nodup := hp.nodup_iff.mpr h.nd
  have st : ks.Pairwise (· < ·) := (hs.and nd).imp fun {a b} z => by have := z.1; have := z.2; omega
  refine rising_eq (f := id) st (usort_sorted _) fun x => ?_
  rw [hp.mem_iff, usort_mem, h.mem]
end Cr

set_option Elab.async false
set_option linter.all false
set_option maxRecDepth 100000
set_option maxHeartbeats 4000000
namespace Cr
open PySem PySem.Spec PyProof.Rows L2
section
variable {K : PySem.W.Frag} {q : Option Addr} {n : Nat} {δ δ' : List Sl} {te ta tb tc tk : TE} {tt tu : TT} {c c1 c2 c3 : Nat} {Φ Φ1 Φ2 Φ3 : PyData → Prop} {d d1 d2 : PyData} {wi : TI} {A0 B0 Hk H1 : Hp} {σ : L2.St} {D : Ends} {ts tz : TS} {g : TG}
/-- low <= key < high -/
theorem e_chainI {g g' : Int → Int → Bool} {i j k : Int} (ha : E q δ ta (.int i)) (hb : E q δ tb (.int j)) (hc : g i j = true → E q δ tc (.int k)) :
    E q δ (tChain (rI0 fun i j => .bl (g i j)) (rI0 fun i j => .bl (g' i j)) ta tb tc) (.bool (g i j && g' j k)) := fun σ H H1 n sg o Q kk =>
  ha σ H H1 n sg o _ fun d v Hk H2 g1 o1 e dv => hb σ Hk H2 n (sg.mono g1.k) o1 _ fun d' v' Hk' H3 g2 o2 e' dv' => by
    subst e; subst e'
    rw [dv.intOf, dv'.intOf]
    refine ⟨i, j, rfl, rfl, g i j, rfl, ?_⟩
    cases hg : g i j with
    | true =>
      refine iteT (hc hg σ Hk' H3 n (sg.mono (g1.k.trans g2.k)) o2 _ fun d2 v2 Hk2 H4 g3 o3 e2 dv2 => ?_)
      subst e2
      rw [dv2.intOf]
      exact ⟨j, k, rfl, rfl, kk _ _ Hk2 H4 ((g1.trans g2).trans g3) o3 (by rw [hg, Bool.true_and]) (.bl _)⟩
    | false => exact iteF (kk (.bool false) _ Hk' H3 (g1.trans g2) o2 (by rw [hg, Bool.false_and]) (.bl _))
/-! ### dicts of ints -/
theorem e_dget {i : Nat} {m : List (Int × Int)} {k v : Int} (hi : δ[i]? = some (.dic m)) (hk : E q δ tk (.int k)) (hv : getI m k = some v) : E q δ (tDGet (tVar i) tk) (.int v) := fun σ H H1 n sg o Q kk => by
  obtain ⟨x, a, p, rfl, hp⟩ := sg.2 i _ hi (fun z => by cases z)
  refine ⟨.ref p, a, hk σ H H1 n sg o _ fun d w Hk H2 g o1 e dv => ?_⟩
  subst e
  rw [dv.intOf]
  refine ⟨p, .int v, rfl, ?_, kk _ _ Hk H2 g o1 rfl (.int v)⟩
  have h := DGet.k (H := H2) (a := p) (k := (Sum.inl k : Key)) (g.a _ _ (g.k _ _ hp))
  rw [mdict_val, hv] at h
  exact h
theorem e_sortedD {i : Nat} {m p : List (Int × Int)} (hi : δ[i]? = some (.dic m)) (hd : DictOf p m) : E q δ (tCB rSrtDI (tCons (tVar i) tNil)) (.list ((usort (p.map (·.1))).map .int)) := fun σ H H1 n sg o Q kk => by
  obtain ⟨x, a, b, rfl, hp⟩ := sg.2 i _ hi (fun z => by cases z)
  refine ⟨.ref b, a, b, mdict m, m.map (·.1), rfl, .inl (o.a _ _ hp), by unfold mdict; rw [List.map_map, List.map_map]; rfl, fun ys l hy hs hl => ?_⟩
  have e := sorted_keys hd hy hs
  subst e
  have g1 := Gr.new (q := q) (o := .lst ((usort (p.map (·.1))).map V.int)) o.a hl
  exact kk _ _ _ _ g1 (o.go ⟨g1.k, g1.a, fun b' o' _ h => by rw [upd_ne (ne_of_none h hl)]; exact h, g1.f, g1.t⟩) rfl (.lst upd_same (DqAll.ofInts _))
theorem s_addI {i ik ib : Nat} {p : Addr} {m : List (Int × Int)} {k v : Int} (s : At q n δ A0 B0 σ Hk H1) (hi : δ[i]? = some (.adr p)) (hk : δ[ik]? = some (.dat (.int k))) (hb : δ[ib]? = some (.dat (.int v)))
    (hm : H1 p = some (.dK (mdict m))) (nk : Hk p = none) (nq : q ≠ some p) (nb : B0 p = none) (hl : m.length < 1000000)
    (kont : At q n δ A0 B0 σ Hk (upd H1 p (.dK (mdict (addI m (k, v))))) → D.nx σ (upd H1 p (.dK (mdict (addI m (k, v)))))) :
    sDPut (tVar i) (tVar ik) (tOp (rAddU K) (tDGet2 (tVar i) (tVar ik) (tC (.int 0))) (tVar ib)) D σ H1 := by
  have a1 := s.sg.getA hi
  obtain ⟨w, a2, d2⟩ := s.sg.get hk
  obtain ⟨x, a3, d3⟩ := s.sg.get hb
  have e2 := d2.intOf
  have e3 := d3.intOf
  subst e2; subst e3
  have hg := DGet.k (H := H1) (a := p) (k := (Sum.inl k : Key)) hm
  rw [mdict_val] at hg
  have hv : ((getI m k).map V.int).getD (.int 0) = .int ((getI m k).getD 0) := by cases getI m k <;> rfl
  refine ⟨.ref p, a1, p, rfl, .inl ⟨_, .inl hm⟩, .int k, a2, _, hg, ?_⟩
  refine ⟨.int v, a3, .inl ⟨(getI m k).getD 0, v, hv, rfl, .ref p, a1, .int k, a2, p, _, rfl, DPut.k (k := (Sum.inl k : Key)) hm ?_, ?_⟩⟩
  · unfold mdict; rw [List.length_map, sizeLine_eq]; omega
  · rw [mdict_put]
    exact kont ⟨s.ok.cell nk nq, s.sg, s.gr.put nb nk⟩
/-- the defs that gather changes -/
theorem read_summed {Q : VK} {nx : L2.St → Hp → Prop} (cs : List (Int × Int)) (hl : cs.length ≤ 100000) (s : At q n [.dat (.list (pd cs)), .any, .any, .any] A0 B0 σ A0 B0) (fin : Fin q n A0 B0 (fun x => x = led (gather cs)) Q) :
    tSeq (tAsg tDNewK (gName 1)) (tSeq (tFor (iList K (tVar 0)) (gTup K 2 (gCons (gName 2) (gCons (gName 3) gNil))) (sDPut (tVar 1) (tVar 2) (tOp (rAddU K) (tDGet2 (tVar 1) (tVar 2) (tC (.int 0))) (tVar 3))))
      (tRet (tCB (rTupQ K) (tCons (tLc (iList K (tCB rSrtDI (tCons (tVar 1) tNil))) (gName 2) (tTest (tOp (rNeD K) (tDGet (tVar 1) (tVar 2)) (tC (.int 0)))) (tTup (tCons (tVar 2) (tCons (tDGet (tVar 1) (tVar 2)) tNil))) [2]) tNil)))) { nx := nx, rt := Q } σ B0 := by
  intro p hp
  have hk : A0 p = none := s.ok.a.free hp
  have nq : q ≠ some p := fun e => (s.ok.j p e).ne hp
  -- the new dict is ours
  have s1 : At q n [.dat (.list (pd cs)), .adr p, .any, .any] A0 B0 (σ.set 1 (some (.ref p))) A0 (upd B0 p (.dK (mdict []))) :=
    ⟨s.ok.cell hk nq, s.sg.set 1 (s := .adr p) rfl, Gr.cell s.ok.a hp⟩
  refine q_for (n := n) (c := 0) (ie_lst (e_var rfl)) s1 fun items HkW H2 e g0 s2 => ?_
  subst e
  have hkw : HkW p = none := g0.f p hk (by rw [upd_same]; exact fun z => by cases z)
  have hpw : H2 p = some (.dK (mdict [])) := g0.s p _ nq upd_same
  refine ⟨fun i σ' Hk' H' => Same HkW Hk' ∧ ∃ m, DictOf (cs.take i) m ∧ H' p = some (.dK (mdict m)) ∧ Hk' p = none ∧ At q n [.dat (.list (pd cs)), .adr p, .any, .any] A0 B0 σ' Hk' H', ⟨Same.refl _, [], DictOf.nil, hpw, hkw, s2⟩, ?_, ?_, ?_⟩
  · rintro i σ' Hk' H' ⟨h1, m, _, _, _, st⟩
    exact ⟨h1, st.ok.a⟩
  · rintro i d σ' Hk' H' ed ⟨h1, m, hd, hm, hn, st⟩ v Hk2 H3 g2 dv
    obtain ⟨x, ex, rfl⟩ : ∃ x, cs[i]? = some x ∧ pr x = d := by
      unfold pd at ed
      rw [List.getElem?_map] at ed
      exact Option.map_eq_some_iff.mp ed
    have hn2 : Hk2 p = none := g2.f p hn (by rw [hm]; exact fun z => by cases z)
    have hm2 : H3 p = some (.dK (mdict m)) := g2.s p _ (fun z => by cases z) hm
    refine gb_tup2 (vs := [2, 3]) (by simp) (by simp) σ' Hk2 H3 v (st.sg.mono g2.k) g2.a dv _ fun σ2 sg2 hl2 _ => ?_
    have st2 : At q n _ A0 B0 σ2 Hk2 H3 := ⟨st.ok.go g2, sg2, st.gr.trans g2.none_to⟩
    have hlm : m.length ≤ 100000 := by have h1 := hd.len; rw [List.length_take] at h1; omega
    refine s_addI (p := p) (k := x.1) (v := x.2) st2 rfl rfl rfl hm2 hn2 nq hp (by omega) fun st3 => ⟨Hk2, h1.trans g2.k, addI m x, ?_, upd_same, hn2, ?_⟩
    · rw [List.take_add_one, ex]
      exact hd.add x
    · exact st3.weak rfl fun i s e => by
        match i, e with
        | 0, e => exact .inr e
        | 1, e => exact .inr e
        | 2, e => exact .inl (Option.some.inj e).symm
        | 3, e => exact .inl (Option.some.inj e).symm
        | i + 4, e => exact absurd e (by simp)
  · rintro σ' Hk' H' ⟨h1, m, hd, hm, hn, st⟩
    have hlen : (pd cs).length = cs.length := pd_len cs
    rw [hlen, List.take_length] at hd
    -- the dict stands still from here
    have gf := st.gr.freeze hp hn hm
    have st4 : At q n [.dat (.list (pd cs)), .dic m, .any, .any] A0 B0 σ' (upd Hk' p (.dK (mdict m))) H' := by
      refine ⟨⟨gf.a, fun r e => ?_, st.ok.j⟩, ?_, gf⟩
      · rw [upd_ne (fun z => nq (by rw [← z]; exact e))]; exact st.ok.kf r e
      · have g1 := (st.sg.mono (same_upd (o := .dK (mdict m)) hn)).weak (δ' := [.dat (.list (pd cs)), .any, .any, .any]) rfl fun i s e => by
          match i, e with
          | 0, e => exact .inr e
          | 1, e => exact .inl (Option.some.inj e).symm
          | 2, e => exact .inr e
          | 3, e => exact .inr e
          | i + 4, e => exact absurd e (by simp)
        refine ⟨g1.1, fun i s e ne => ?_⟩
        by_cases hi : i = 1
        · subst hi
          have es : s = .dic m := (Option.some.inj e).symm
          subst es
          exact ⟨.ref p, st.sg.getA rfl, p, rfl, upd_same⟩
        · refine g1.2 i s ?_ ne
          match i, e, hi with
          | 0, e, _ => exact e
          | 2, e, _ => exact e
          | 3, e, _ => exact e
          | 1, _, hi => exact absurd rfl hi
          | i + 4, e, _ => exact absurd e (by simp)
    have hget : ∀ k ∈ usort (cs.map (·.1)), getI m k = some (tot cs k) := fun k hk => hd.get k ((usort_mem k _).mp hk)
    refine s_retE (n := n) (d := led (gather cs)) (Φ1 := fun x => x = led (gather cs)) ?_ st4 (Nat.le_refl _) fin rfl
    refine e_tupL (e_is (e_lc (vs := [2]) (emb := PyData.int) (xs := usort (cs.map (·.1))) (ie_lst (e_sortedD rfl hd)) (fun k => tot cs k != 0) (fun k => pr (k, tot cs k)) ?_ fun k hk => ⟨_, gb_name (by simp), tb_is (tb_test (e_neDI (e_dget (m := m) rfl (e_var rfl) (hget k hk)) e_int)) rfl, fun _ => ?_⟩) ?_)
    · have h1 : (usort (cs.map (·.1))).length ≤ cs.length := by
        have nd : (usort (cs.map (·.1))).Nodup := (usort_sorted _).imp fun {a b} h => by omega
        have e : (usort (cs.map (·.1))) = usort (cs.map (·.1)) := rfl
        have hp := hd.len
        have h2 : (usort (cs.map (·.1))).length ≤ (m.map (·.1)).length := nd.length_le_of_subset fun x hx => (hd.mem x).mpr ((usort_mem x _).mp hx)
        rw [List.length_map] at h2; omega
      omega
    · exact e_tup (ds := [.int k, .int (tot cs k)]) (ae_cons (e_var rfl) (ae_cons (e_dget (m := m) rfl (e_var rfl) (hget k hk)) ae_nil))
    · unfold pd gather
      rw [List.map_map]; rfl
end
end Cr

set_option Elab.async false
set_option linter.all false
set_option maxRecDepth 100000
set_option maxHeartbeats 4000000
namespace Cr
open PySem PySem.Spec PyProof.Rows L2
section
variable {q : Option Addr} {n : Nat} {δ : List Sl} {A0 B0 Hk H1 : Hp} {σ : L2.St}
theorem At.forget (s : At q n δ A0 B0 σ Hk H1) (i : Nat) : At q n (δ.set i .any) A0 B0 σ Hk H1 := s.weak (List.length_set ..) fun j t e => by
  by_cases h : i = j
  · subst h
    by_cases hl : i < δ.length
    · rw [List.getElem?_set_self hl] at e; exact .inl (Option.some.inj e).symm
    · rw [List.getElem?_eq_none (by rw [List.length_set]; omega)] at e; cases e
  · rw [List.getElem?_set_ne h] at e; exact .inr e
end
theorem e_andNo {q : Option Addr} {δ : List Sl} {ta tb : TE} (h : E q δ ta (.bool false)) : E q δ (tAndV ta tb) (.bool false) := e_is (e_andV (b := false) h (fun e => by cases e)) rfl
def Bd (B : Nat) (l : List (Int × Int)) : Prop := ∀ x ∈ l, x.1.natAbs < 2 ^ B ∧ x.2.natAbs < 2 ^ B
def isChangeD : PyData → Bool
  | .tuple [.int _, .int _] => true
  | _ => false
def unpr : PyData → Option (Int × Int)
  | .tuple [.int a, .int b] => some (a, b)
  | _ => none
theorem change_pr {d : PyData} (h : isChangeD d = true) : ∃ x, d = pr x := by
  match d, h with
  | .tuple [.int a, .int b], _ => exact ⟨(a, b), rfl⟩
theorem changes_pd : ∀ {ds : List PyData}, ds.all isChangeD = true → ∃ l, ds = pd l
  | [], _ => ⟨[], rfl⟩
  | d :: ds, h => by
    rw [List.all_cons, Bool.and_eq_true] at h
    obtain ⟨x, rfl⟩ := change_pr h.1
    obtain ⟨l, rfl⟩ := changes_pd h.2
    exact ⟨x :: l, rfl⟩
theorem pd_changes (l : List (Int × Int)) : (pd l).all isChangeD = true := by
  rw [List.all_eq_true]
  intro d hd
  obtain ⟨x, _, rfl⟩ := List.mem_map.mp hd
  rfl
def adj {α : Type} (l : List α) : List (α × α) := l.zip (l.drop 1)
def asc (l : List (Int × Int)) : Bool := (adj l).all fun p => decide (p.1.1 < p.2.1)
def nz (l : List (Int × Int)) : Bool := l.all fun x => !(x.2 == 0)
def isLedD : PyData → Bool
  | .tuple ds => ds.all isChangeD && (asc (ds.filterMap unpr) && nz (ds.filterMap unpr))
  | _ => false
theorem unpr_pd (l : List (Int × Int)) : (pd l).filterMap unpr = l := by
  unfold pd
  rw [List.filterMap_map]
  have : unpr ∘ pr = some := by funext x; rfl
  rw [this, List.filterMap_some]
theorem isLed_led (l : List (Int × Int)) : isLedD (led l) = (asc l && nz l) := by
  show ((pd l).all isChangeD && (asc ((pd l).filterMap unpr) && nz ((pd l).filterMap unpr))) = _
  rw [unpr_pd, pd_changes, Bool.true_and]
theorem adj_of {α : Type} {R : α → α → Prop} : ∀ {l : List α}, l.Pairwise R → ∀ p ∈ adj l, R p.1 p.2
  | [], _, p, h => by simp [adj] at h
  | [a], _, p, h => by simp [adj] at h
  | a :: b :: r, h, p, hp => by
    have e : adj (a :: b :: r) = (a, b) :: adj (b :: r) := rfl
    rw [e] at hp
    obtain ⟨h1, h2⟩ := List.pairwise_cons.mp h
    rcases List.mem_cons.mp hp with e | hp
    · subst e; exact h1 b List.mem_cons_self
    · exact adj_of h2 p hp
theorem led_isLed {l : List (Int × Int)} (h : Led l) : isLedD (led l) = true := by
  rw [isLed_led, Bool.and_eq_true]
  refine ⟨List.all_eq_true.mpr fun p hp => decide_eq_true (adj_of h.1 p hp), List.all_eq_true.mpr fun x hx => ?_⟩
  have := h.2 x hx
  simpa using this
theorem zip_adj (l : List (Int × Int)) : zipD (pd l) (cutD (pd l) (some 1) none) = (adj l).map fun p => .tuple [pr p.1, pr p.2] := by
  have h1 : cutD (pd l) (some 1) none = pd (l.drop 1) := by
    unfold cutD
    rw [show HT.sIx (pd l).length 0 (some 1) = min 1 (pd l).length from HT.sIx_nat _ 0 1, HT.sIx_none, pd_len]
    unfold pd
    rw [← List.map_drop, ← List.map_take]
    cases l with
    | nil => rfl
    | cons a r =>
      rw [show min 1 (a :: r).length = 1 by rw [List.length_cons]; omega]
      rw [List.take_of_length_le (by rw [List.length_drop]; omega)]
  rw [h1]
  have h2 : ∀ a b : List (Int × Int), zipD (pd a) (pd b) = (a.zip b).map fun p => .tuple [pr p.1, pr p.2] := fun a => by
    induction a with
    | nil => intro b; rfl
    | cons x r ih =>
      intro b
      cases b with
      | nil => rfl
      | cons y s => exact congrArg (PyData.tuple [pr x, pr y] :: ·) (ih s)
  exact h2 l (l.drop 1)
theorem bools_map {α : Type} (l : List α) (f : α → Bool) : l.map (fun x => PyData.bool (f x)) = (l.map f).map PyData.bool := by rw [List.map_map]; rfl
theorem all_id_map {α : Type} (l : List α) (f : α → Bool) : (l.map f).all id = l.all f := by rw [List.all_map]; rfl
end Cr

set_option Elab.async false
set_option linter.all false
set_option maxRecDepth 100000
set_option maxHeartbeats 4000000
namespace Cr
open PySem PySem.Spec PyProof.Rows L2
section
variable {K : PySem.W.Frag} {q : Option Addr} {n : Nat} {δ δ' : List Sl} {te ta tb tc tk : TE} {tt tu : TT} {c c1 c2 c3 : Nat} {Φ Φ1 Φ2 Φ3 : PyData → Prop} {d d1 d2 : PyData} {wi : TI} {A0 B0 Hk H1 : Hp} {σ : L2.St} {D : Ends} {ts tz : TS} {g : TG}
/-! ### the script -/
theorem e_lenS {i : Nat} {ns : List Int} (hi : δ[i]? = some (.scr K ns)) : E q δ (tCB (rLenQ K) (tCons (tVar i) tNil)) (.int ns.length) := fun σ H H1 n sg o Q k => by
  obtain ⟨v, a, p, rfl, h⟩ := sg.2 i _ hi (fun z => by cases z)
  refine ⟨.ref p, a, p, ns.map V.int, rfl, .inl (Same.seq o.a h), ?_⟩
  rw [List.length_map]
  exact k _ _ H H1 (Gr.refl o.a) o rfl (.int _)
theorem e_iS {i : Nat} {ns : List Int} {j v : Int} (hi : δ[i]? = some (.scr K ns)) (hb : E q δ tb (.int j)) (e : atI ns j = some v) : E q δ (tOp (rIx K) (tVar i) tb) (.int v) := fun σ H H1 n sg o Q k => by
  obtain ⟨x, a, p, rfl, h⟩ := sg.2 i _ hi (fun z => by cases z)
  refine ⟨.ref p, a, hb σ H H1 n sg o _ fun d w Hk H2 g o1 ed dw => ?_⟩
  subst ed
  rw [dw.intOf]
  refine .inl ⟨p, ns.map V.int, j, .int v, rfl, rfl, Same.seq (g.k.trans g.a) h, ?_, k _ _ Hk H2 g o1 rfl (.int v)⟩
  unfold atI at e ⊢
  rw [List.length_map]
  cases hx : ixN ns.length j with
  | none => rw [hx] at e; cases e
  | some m =>
    rw [hx] at e
    show (ns.map V.int)[m]? = some (.int v)
    rw [List.getElem?_map, show ns[m]? = some v from e]; rfl
/-! ### the jar: its three ints, drawn from in turn -/
def KJ (p : Addr) (L : List V) : Hp := fun b => if b = p then some (.lst L) else none
theorem KJ.at {p : Addr} {L : List V} : KJ p L p = some (.lst L) := if_pos rfl
theorem KJ.same {p : Addr} {L : List V} {H : Hp} (h : H p = some (.lst L)) : Same (KJ p L) H := fun b o e => by
  unfold KJ at e
  split at e
  · rename_i hb; subst hb; rw [h]; exact e
  · cases e
/-- the state seen from the jar alone -/
theorem at_jar {p : Addr} {x y z : Int} {b : PyData} {σ : L2.St} {H : Hp} (h : H p = some (.lst [.int x, .int y, .int z])) (h0 : σ[0]? = some (some (.ref p))) {δr : List Sl} (hs : ∀ H', Sg H' σ (.any :: δr)) :
    At none 0 (.dat (.list [.int x, .int y, .int z]) :: δr) (KJ p [.int x, .int y, .int z]) H σ (KJ p [.int x, .int y, .int z]) H := by
  refine ⟨⟨KJ.same h, fun r e => (by cases e), fun r e => (by cases e)⟩, ⟨(hs (KJ p [])).1, fun i s e ne => ?_⟩, Gr.refl (KJ.same h)⟩
  cases i with
  | zero =>
    have es : s = .dat (.list [.int x, .int y, .int z]) := (Option.some.inj e).symm
    subst es
    exact ⟨.ref p, h0, .lst KJ.at (.cons (.int x) (.cons (.int y) (.cons (.int z) .nil)))⟩
  | succ i => exact (hs _).2 (i + 1) s e ne
/-- xs[j] = e at a list that stands at p -/
theorem s_setAt {p : Addr} {xs : List V} {j : Nat} (h : E none δ te d) (s : At none 0 δ A0 B0 σ Hk H1) (h0 : σ[0]? = some (some (.ref p))) (hp : H1 p = some (.lst xs)) (hj : j < xs.length)
    (k : ∀ v Hk' H2, Dq Hk' v d → Same H1 H2 → (∀ b, H1 b ≠ none → H2 b ≠ none) → D.nx σ (upd H2 p (.lst (xs.set j v)))) : tAsg te (gSub (tVar 0) (tC (.int (j : Int))) rSetL) D σ H1 :=
  h σ Hk H1 0 s.sg s.ok _ fun d' v Hk' H2 g o e dv => by
    subst e
    have sm : Same H1 H2 := fun b o h => g.s b o (fun z => by cases z) h
    exact ⟨.ref p, h0, p, xs, (j : Int), j, rfl, rfl, sm _ _ hp, by unfold ixN; rw [if_pos (by omega), if_pos (by omega)]; simp, k v Hk' H2 dv sm g.t⟩
/-- what a draw leaves -/
structure Drawn1 (p : Addr) (H H2 : Hp) : Prop where
  s : ∀ b o, b ≠ p → H b = some o → H2 b = some o
  t : ∀ b, H b ≠ none → H2 b ≠ none
theorem Drawn1.refl {p : Addr} {H : Hp} : Drawn1 p H H := ⟨fun _ _ _ h => h, fun _ h => h⟩
theorem Drawn1.same {p : Addr} {H H1 H2 : Hp} (a : Drawn1 p H H1) (s : Same H1 H2) (t : ∀ b, H1 b ≠ none → H2 b ≠ none) : Drawn1 p H H2 := ⟨fun b o n h => s b o (a.s b o n h), fun b h => t b (a.t b h)⟩
theorem Drawn1.put {p : Addr} {H H1 : Hp} {o : HO} (a : Drawn1 p H H1) : Drawn1 p H (upd H1 p o) := ⟨fun b u n h => by rw [upd_ne n]; exact a.s b u n h, fun b h => by
  by_cases e : b = p
  · rw [e, upd_same]; exact fun z => by cases z
  · rw [upd_ne e]; exact a.t b h⟩
theorem Drawn1.end {p : Addr} {A0 B0 H2 : Hp} {m : Nat} {x y z : Int} (a : Drawn1 p B0 H2) (ok : Ok (some p) m A0 B0) (h2 : H2 p = some (.lst [.int x, .int y, .int z])) (hy : 0 ≤ y) (hy2 : y < 2 ^ 140) (hz : 0 ≤ z) (hn : z + n ≤ 1000000000) :
    Gr (some p) A0 B0 A0 H2 ∧ Ok (some p) n A0 H2 := by
  have nk := ok.kf p rfl
  have sm : Same A0 H2 := fun b o h => a.s b o (ne_of_none h nk) (ok.a b o h)
  refine ⟨⟨Same.refl _, sm, fun b o nb h => a.s b o (fun e => nb (by rw [e])) h, fun b h _ => h, a.t⟩, sm, ok.kf, fun r e => ?_⟩
  cases e
  exact ⟨x, y, z, h2, hy, hy2, hz, hn⟩
def R_pick : RelX := fun q sls c Φ => c = 1 ∧ ∃ p b, q = some p ∧ 0 < b ∧ b.natAbs < 2 ^ 400 ∧ sls = [.adr p, .dat (.int b)] ∧ Φ = fun d => ∃ i, (0 ≤ i ∧ i < b) ∧ d = .int i
theorem fmod_in {a b : Int} (h : 0 < b) : 0 ≤ a.fmod b ∧ a.fmod b < b := ⟨Int.fmod_nonneg_of_pos a h, Int.fmod_lt_of_pos a h⟩
/-- the text of a draw -/
abbrev tJ (K : PySem.W.Frag) (i : Int) : TE := tOp (rIx K) (tVar 0) (tC (.int i))
abbrev tBlend (K : PySem.W.Frag) (first : TE) (f e m a : Int) : TE := tOp (rI (fun _ j => j ≠ 0) fun i j => .int (i.fmod j)) (tOp (rI CPowW fun i j => .int (i ^ j.toNat)) (tCB rIntQ (tCons (tOp (rAddU K) first (tOp rMulU (tC (.int f)) (tJ K 2))) tNil)) (tC (.int e))) (tOp (rAddU K) (tOp (rI CPowW fun i j => .int (i ^ j.toNat)) (tC (.int 10)) (tC (.int m))) (tC (.int a)))
theorem read_pick {Q : VK} {nx : L2.St → Hp → Prop} {p : Addr} {b : Int} (hb : 0 < b) (hb2 : b.natAbs < 2 ^ 400) (s : At (some p) (n + 1) [.adr p, .dat (.int b), .any, .any] A0 B0 σ A0 B0) (fin : Fin (some p) n A0 B0 (fun d => ∃ i, (0 ≤ i ∧ i < b) ∧ d = .int i) Q) :
    tSeq (tIfS (tTest (tOp (rI0 fun i j => .bl (decide (j < i))) (tJ K 0) (tC (.int 0)))) (tSeq (tAsg (tOp (rI (fun _ j => j ≠ 0) fun i j => .int (i.fmod j)) (tCB rIntQ (tCons (tJ K 0) tNil)) (tVar 1)) (gName 2)) (tSeq (tAsg (tOp (rI CDivW fun i j => .int (i / j)) (tJ K 0) (tVar 1)) (gSub (tVar 0) (tC (.int 0)) rSetL)) (tRet (tVar 2)))) tNext)
      (tSeq (tAsg (tOp (rAddU K) (tJ K 2) (tC (.int 1))) (gSub (tVar 0) (tC (.int 2)) rSetL)) (tSeq (tAsg (tBlend K (tJ K 1) 90019 2 38 183) (gName 3)) (tSeq (tAsg (tBlend K (tVar 3) 1299827 3 39 187) (gName 3))
        (tRet (tOp (rI (fun _ j => j ≠ 0) fun i j => .int (i.fmod j)) (tOp (rI CDivW fun i j => .int (i / j)) (tVar 3) (tC (.int 65536))) (tVar 1)))))) { nx := nx, rt := Q } σ B0 := by
  obtain ⟨x, y, z, hj, hy, hy2, hz, hn⟩ := s.ok.j p rfl
  have h0 : σ[0]? = some (some (.ref p)) := s.sg.getA rfl
  obtain ⟨vb, h1, db⟩ := s.sg.get (i := 1) rfl
  have eb := db.intOf
  subst eb
  have hlen : σ.length = 4 := s.sg.1
  have hs : ∀ H', Sg H' σ [.any, .dat (.int b), .any, .any] := fun H' => ⟨hlen, fun i s e ne => by
    match i, e with
    | 0, e => exact absurd (Option.some.inj e).symm ne
    | 1, e => cases (Option.some.inj e); exact ⟨_, h1, .int b⟩
    | 2, e => exact absurd (Option.some.inj e).symm ne
    | 3, e => exact absurd (Option.some.inj e).symm ne
    | i + 4, e => exact absurd e (by simp)⟩
  have nb : b ≠ 0 := by omega
  have sJ := at_jar (b := .none) hj h0 hs
  refine q_whenB (b := decide (0 < x)) (tb_test (e_gtI (e_iL (e_var rfl) e_int rfl) e_int)) sJ (fun hx Hk1 H1 g1 a1 => ?_) (fun hx Hk1 H1 g1 a1 => ?_)
  · -- digit by digit
    refine q_asgX (e_mod (e_intI (e_iL (e_var rfl) e_int rfl)) (e_var rfl) nb) a1 fun v2 Hk2 H2 g2 a2 dv2 => ?_
    have ev2 := dv2.intOf
    subst ev2
    have j2 : H2 p = some (.lst [.int x, .int y, .int z]) := g2.s _ _ (fun z => by cases z) (g1.s _ _ (fun z => by cases z) hj)
    have d1 : Drawn1 p B0 H2 := (Drawn1.refl.same (fun b o h => g1.s b o (fun z => by cases z) h) g1.t).same (fun b o h => g2.s b o (fun z => by cases z) h) g2.t
    refine s_setAt (D := { nx := _, rt := Q }) (j := 0) (e_fdiv (e_iL (e_var rfl) e_int rfl) (e_var rfl) (wide_div hb hb2 (by omega) (by omega))) a2 (by rw [List.getElem?_set_ne (by omega)]; exact h0) j2 (by simp) fun v Hk3 H3 dv sm tm => ?_
    have ev := dv.intOf
    subst ev
    obtain ⟨ge, oe⟩ := ((d1.same sm tm).put (o := .lst [.int (x / b), .int y, .int z])).end (n := n) s.ok upd_same hy hy2 hz (by omega)
    exact ⟨_, List.getElem?_set_self (by omega), fin _ _ A0 _ ge oe ⟨_, fmod_in hb, rfl⟩ (.int _)⟩
  · -- by the blend
    have j1 : H1 p = some (.lst [.int x, .int y, .int z]) := g1.s _ _ (fun z => by cases z) hj
    have d1 : Drawn1 p B0 H1 := Drawn1.refl.same (fun b o h => g1.s b o (fun z => by cases z) h) g1.t
    refine s_setAt (D := { nx := _, rt := Q }) (j := 2) (e_addI (e_iL (e_var rfl) e_int rfl) e_int) a1 h0 j1 (by simp) fun v Hk2 H2 dv sm tm => ?_
    have ev := dv.intOf
    subst ev
    have d2 : Drawn1 p B0 (upd H2 p (.lst [.int x, .int y, .int (z + 1)])) := (d1.same sm tm).put
    obtain ⟨z1, ez⟩ : ∃ z1, z1 = z + 1 := ⟨_, rfl⟩
    rw [← ez] at d2
    show tSeq _ _ { nx := nx, rt := Q } σ (upd H2 p (.lst [.int x, .int y, .int (z + 1)]))
    rw [← ez]
    have sK := at_jar (p := p) (b := .none) (x := x) (y := y) (z := z1) (H := upd H2 p (.lst [.int x, .int y, .int z1])) upd_same h0 hs
    obtain ⟨m1, em1⟩ : ∃ m : Int, m = (10 : Int) ^ (38 : Int).toNat + 183 := ⟨_, rfl⟩
    obtain ⟨m2, em2⟩ : ∃ m : Int, m = (10 : Int) ^ (39 : Int).toNat + 187 := ⟨_, rfl⟩
    have hm1 : 0 < m1 ∧ m1 < 2 ^ 140 := by rw [em1]; exact ⟨by decide, by decide⟩
    have hm2 : 0 < m2 := by rw [em2]; decide
    refine q_asgX (e_mod (j := m1) (e_pow (i := y + 90019 * z1) (j := 2) (e_intI (e_addI (e_iL (e_var rfl) e_int rfl) (e_mulI e_int (e_iL (e_var rfl) e_int rfl) (wide_mul (a := 17) (b := 40) (by decide) (by omega) (by omega) (by omega) (by omega))))) e_int (pow_ok (a := 150) (by omega) (by omega) (by omega) (by omega))) (e_is (e_addI (e_pow e_int e_int (pow_ok (a := 4) (by decide) (by omega) (by omega) (by omega))) e_int) (by rw [em1])) (by omega)) sK fun v3 Hk3 H3 g3 a3 dv3 => ?_
    have b1 := fmod_in (a := (y + 90019 * z1) ^ (2 : Int).toNat) hm1.1
    obtain ⟨f1, ef1⟩ : ∃ f, f = ((y + 90019 * z1) ^ (2 : Int).toNat).fmod m1 := ⟨_, rfl⟩
    rw [← ef1] at a3 b1
    refine q_asgX (e_mod (j := m2) (e_pow (i := f1 + 1299827 * z1) (j := 3) (e_intI (e_addI (e_var rfl) (e_mulI e_int (e_iL (e_var rfl) e_int rfl) (wide_mul (a := 21) (b := 40) (by decide) (by omega) (by omega) (by omega) (by omega))))) e_int (pow_ok (a := 150) (by omega) (by omega) (by omega) (by omega))) (e_is (e_addI (e_pow e_int e_int (pow_ok (a := 4) (by decide) (by omega) (by omega) (by omega))) e_int) (by rw [em2])) (by omega)) a3 fun v4 Hk4 H4 g4 a4 dv4 => ?_
    obtain ⟨f2, ef2⟩ : ∃ f, f = ((f1 + 1299827 * z1) ^ (3 : Int).toNat).fmod m2 := ⟨_, rfl⟩
    rw [← ef2] at a4
    have d4 : Drawn1 p B0 H4 := (d2.same (fun b o h => g3.s b o (fun z => by cases z) h) g3.t).same (fun b o h => g4.s b o (fun z => by cases z) h) g4.t
    have j4 : H4 p = some (.lst [.int x, .int y, .int z1]) := g4.s _ _ (fun z => by cases z) (g3.s _ _ (fun z => by cases z) upd_same)
    refine e_mod (i := f2 / 65536) (j := b) (e_fdiv (e_var rfl) e_int (wide_div (b := 20) (by omega) (by decide) (by omega) (by omega))) (e_var rfl) nb _ Hk4 H4 0 a4.sg a4.ok _ fun d v Hk5 H5 g5 o5 ed dv5 => ?_
    subst ed
    have ev5 := dv5.intOf
    subst ev5
    have j5 : H5 p = some (.lst [.int x, .int y, .int z1]) := g5.s _ _ (fun z => by cases z) j4
    obtain ⟨ge, oe⟩ := (d4.same (fun b o h => g5.s b o (fun z => by cases z) h) g5.t).end (n := n) s.ok j5 hy hy2 (by omega) (by omega)
    exact fin _ _ A0 _ ge oe ⟨_, fmod_in hb, rfl⟩ (.int _)
end
end Cr

set_option Elab.async false
set_option linter.all false
set_option maxRecDepth 100000
set_option maxHeartbeats 4000000
namespace Cr
open PySem PySem.Spec PyProof.Rows L2
section
variable {K : PySem.W.Frag} {q : Option Addr} {n : Nat} {δ δ' : List Sl} {te ta tb tc tk : TE} {tt tu : TT} {c c1 c2 c3 : Nat} {Φ Φ1 Φ2 Φ3 : PyData → Prop} {d d1 d2 : PyData} {wi : TI} {A0 B0 Hk H1 H2 Hk' : Hp} {σ : L2.St} {D : Ends} {ts tz : TS} {g : TG} {p : Addr} {ds : List PyData}
/-! ### a list of our own that grows -/
structure Cell (q : Option Addr) (B0 Hk H1 : Hp) (p : Addr) (ds : List PyData) : Prop where
  nk : Hk p = none
  nq : q ≠ some p
  nb : B0 p = none
  ex : ∃ xs, H1 p = some (.lst xs) ∧ DqAll Hk xs ds
theorem Cell.go (x : Cell q B0 Hk H1 p ds) (g : Gr q Hk H1 Hk' H2) : Cell q B0 Hk' H2 p ds := by
  obtain ⟨xs, e, h⟩ := x.ex
  exact ⟨g.f p x.nk (by rw [e]; exact fun z => by cases z), x.nq, x.nb, xs, g.s p _ x.nq e, DqAll.mono g.k _ _ h⟩
theorem s_append {i : Nat} (h : J q δ te c Φ) (s : At q (n + c) δ A0 B0 σ Hk H1) (cl : Cell q B0 Hk H1 p ds) (hi : δ[i]? = some (.adr p)) (hl : ds.length < 1000000)
    (k : ∀ d Hk' H2, Φ d → Same Hk Hk' → At q n δ A0 B0 σ Hk' H2 → Cell q B0 Hk' H2 p (ds ++ [d]) → D.nx σ H2) : tDrop (tBM K "list" rAppend (tVar i) (tCons te tNil)) D σ H1 := by
  obtain ⟨xs, e, hd⟩ := cl.ex
  refine ⟨.ref p, s.sg.getA hi, .inl ⟨rfl, xs, .inl (.inl e)⟩, h σ Hk H1 n s.sg s.ok _ fun d v Hk' H2 g o pd dv => ?_⟩
  have cl2 := cl.go g
  have e2 := g.s p _ cl.nq e
  refine ⟨p, xs, v, rfl, rfl, e2, by rw [hd.length, sizeLine_eq]; omega, k d Hk' _ pd g.k ⟨o.cell cl2.nk cl.nq, s.sg.mono g.k, (s.gr.trans g).put cl.nb cl2.nk⟩ ⟨cl2.nk, cl.nq, cl.nb, xs ++ [v], upd_same, (DqAll.mono g.k _ _ hd).append (.cons dv .nil)⟩⟩
theorem q_append {i : Nat} (h : J q δ te c Φ) (s : At q (n + c) δ A0 B0 σ Hk H1) (cl : Cell q B0 Hk H1 p ds) (hi : δ[i]? = some (.adr p)) (hl : ds.length < 1000000)
    (k : ∀ d Hk' H2, Φ d → Same Hk Hk' → At q n δ A0 B0 σ Hk' H2 → Cell q B0 Hk' H2 p (ds ++ [d]) → tz D σ H2) : tSeq (tDrop (tBM K "list" rAppend (tVar i) (tCons te tNil))) tz D σ H1 := s_append (D := { D with nx := tz D }) h s cl hi hl k
/-- x = [] -/
theorem s_newL {i : Nat} (s : At q n δ A0 B0 σ Hk H1) (k : ∀ p H2, At q n (δ.set i (.adr p)) A0 B0 (σ.set i (some (.ref p))) Hk H2 → Cell q B0 Hk H2 p [] → D.nx (σ.set i (some (.ref p))) H2) : tAsg (tLst tNil) (gName i) D σ H1 := by
  refine ⟨Nat.zero_le _, fun p hp => ?_⟩
  have hk : Hk p = none := s.ok.a.free hp
  have hb : B0 p = none := by
    cases e : B0 p with
    | none => rfl
    | some o => exact absurd hp (s.gr.t p (by rw [e]; exact fun z => by cases z))
  have nq : q ≠ some p := fun e => (s.ok.j p e).ne hp
  exact k p _ ⟨s.ok.cell hk nq, s.sg.set i (s := .adr p) rfl, s.gr.put hb hk⟩ ⟨hk, nq, hb, [], upd_same, .nil⟩
theorem q_newL {i : Nat} (s : At q n δ A0 B0 σ Hk H1) (k : ∀ p H2, At q n (δ.set i (.adr p)) A0 B0 (σ.set i (some (.ref p))) Hk H2 → Cell q B0 Hk H2 p [] → tz D (σ.set i (some (.ref p))) H2) : tSeq (tAsg (tLst tNil) (gName i)) tz D σ H1 := s_newL (D := { D with nx := tz D }) s k
/-- x, y = [], e -/
theorem q_parNew {i j : Nat} (h : J q δ te c Φ) (s : At q (n + c) δ A0 B0 σ Hk H1)
    (k : ∀ p d σ' Hk' H2, Φ d → At q n ((δ.set i (.adr p)).set j (.dat d)) A0 B0 σ' Hk' H2 → Cell q B0 Hk' H2 p [] → tz D σ' H2) : tSeq (tPar i j (tCons (tLst tNil) (tCons te tNil))) tz D σ H1 := by
  refine ⟨Nat.zero_le _, fun p hp => ?_⟩
  have hk : Hk p = none := s.ok.a.free hp
  have hb : B0 p = none := by
    cases e : B0 p with
    | none => rfl
    | some o => exact absurd hp (s.gr.t p (by rw [e]; exact fun z => by cases z))
  have nq : q ≠ some p := fun e => (s.ok.j p e).ne hp
  have s1 : At q (n + c) δ A0 B0 σ Hk (upd H1 p (.lst [])) := ⟨s.ok.cell hk nq, s.sg, s.gr.put hb hk⟩
  have c1 : Cell q B0 Hk (upd H1 p (.lst [])) p [] := ⟨hk, nq, hb, [], upd_same, .nil⟩
  refine h σ Hk _ n s1.sg s1.ok _ fun d v Hk' H2 g o pd dv => ?_
  exact ⟨.ref p, v, rfl, k p d _ Hk' H2 pd ⟨o, ((s1.sg.mono g.k).set i (s := .adr p) rfl).set j (s := .dat d) dv, s1.gr.trans g⟩ (c1.go g)⟩
/-- it stands still from here -/
theorem At.freeze {i : Nat} (s : At q n δ A0 B0 σ Hk H1) (cl : Cell q B0 Hk H1 p ds) (hi : δ[i]? = some (.adr p)) : ∃ Hk', Same Hk Hk' ∧ At q n (δ.set i (.dat (.list ds))) A0 B0 σ Hk' H1 := by
  obtain ⟨xs, e, hd⟩ := cl.ex
  have gf := s.gr.freeze cl.nb cl.nk e
  refine ⟨upd Hk p (.lst xs), same_upd cl.nk, ⟨gf.a, fun r er => ?_, s.ok.j⟩, ?_, gf⟩
  · rw [upd_ne (fun z => cl.nq (by rw [← z]; exact er))]; exact s.ok.kf r er
  · have sg := s.sg.mono (same_upd (o := .lst xs) cl.nk)
    refine ⟨by rw [List.length_set]; exact sg.1, fun j t ej ne => ?_⟩
    by_cases hj : i = j
    · subst hj
      have hl : i < δ.length := (List.getElem?_eq_some_iff.mp hi).1
      rw [List.getElem?_set_self hl] at ej
      cases ej
      exact ⟨.ref p, sg.getA hi, .lst upd_same (DqAll.mono (same_upd cl.nk) _ _ hd)⟩
    · rw [List.getElem?_set_ne hj] at ej
      exact sg.2 j t ej ne
/-- return [..] as a list of its own -/
theorem s_retLst {ta : TA} (h : AE q δ ta (ds.map Sl.dat)) (hl : ds.length ≤ 1000000) (s : At q n δ A0 B0 σ Hk H1) (k : ∀ p vs Hk2 H2, Gr q Hk H1 Hk2 H2 → H2 p = none → DqAll Hk2 vs ds → D.rt (.ref p) (upd H2 p (.lst vs))) : tRet (tLst ta) D σ H1 :=
  h σ Hk H1 n s.sg s.ok _ fun sls vs Hk2 H2 g o e hv => by
    subst e
    exact ⟨Nat.le_trans (by rw [hv.dats.length]; exact hl) (by rw [sizeLine_eq]; decide), fun p hp => k p vs Hk2 H2 g hp hv.dats⟩
/-! ### draws -/
theorem j_pick {i : Nat} {b : Int} {E0 : XK} (hi : δ[i]? = some (.adr p)) (h : E (some p) δ te (.int b)) (hb : 0 < b) (hb2 : b.natAbs < 2 ^ 400) : J (some p) δ (tCall (spX R_pick) [] E0 (tCons (tVar i) (tCons te tNil))) 1 (IntP fun x => 0 ≤ x ∧ x < b) :=
  (j_call (R := R_pick) (c := 1) (ae_adr hi (ae_cons h ae_nil)) fun sls e => ⟨rfl, p, b, rfl, hb, hb2, e, rfl⟩).cost (by omega)
theorem j_pickJ {i : Nat} {P : Int → Prop} {E0 : XK} (hi : δ[i]? = some (.adr p)) (h : J (some p) δ te c (IntP P)) (hb : ∀ b, P b → 0 < b ∧ b.natAbs < 2 ^ 400) : J (some p) δ (tCall (spX R_pick) [] E0 (tCons (tVar i) (tCons te tNil))) (1 + c) (IntP fun x => ∃ b, P b ∧ 0 ≤ x ∧ x < b) := by
  have ha : AJ (some p) δ (tCons te tNil) (0 + c) (fun sls => ∃ b, P b ∧ sls = [.dat (.int b)]) := aj_cons h ae_nil fun d sls ⟨b, pb, e⟩ e2 => ⟨b, pb, by rw [e, e2]⟩
  have hb2 : AJ (some p) δ (tCons (tVar i) (tCons te tNil)) (0 + c) (fun sls => ∃ b, P b ∧ sls = [.adr p, .dat (.int b)]) := aj_adr hi ha fun sls ⟨b, pb, e⟩ => ⟨b, pb, by rw [e]⟩
  exact (j_callD (R := R_pick) (c := 1) hb2 fun sls ⟨b, pb, e⟩ => ⟨_, ⟨rfl, p, b, rfl, (hb b pb).1, (hb b pb).2, e, rfl⟩, fun d ⟨i, hi, e⟩ => ⟨i, ⟨b, pb, hi⟩, e⟩⟩).cost (by omega)
end
/-! ### bounds -/
def Amt (M : Int) (l : List (Int × Int)) : Prop := ∀ x ∈ l, -M ≤ x.2 ∧ x.2 ≤ M
theorem tot_bound {M : Int} (hM : 0 ≤ M) : ∀ {l : List (Int × Int)}, Amt M l → ∀ k, -(M * l.length) ≤ tot l k ∧ tot l k ≤ M * l.length
  | [], _, k => by show -(M * 0) ≤ 0 ∧ 0 ≤ M * 0; rw [Int.mul_zero]; omega
  | x :: r, h, k => by
    have ih := tot_bound hM (l := r) (fun y hy => h y (List.mem_cons_of_mem _ hy)) k
    have hx := h x List.mem_cons_self
    have e : M * ((x :: r).length : Int) = M * r.length + M := by rw [List.length_cons, Int.natCast_add, Int.mul_add]; omega
    rw [e]
    show -(M * r.length + M) ≤ (if x.1 = k then x.2 else 0) + tot r k ∧ (if x.1 = k then x.2 else 0) + tot r k ≤ M * r.length + M
    split <;> omega
theorem gather_keys {cs : List (Int × Int)} {P : Int → Prop} (h : ∀ x ∈ cs, P x.1) : ∀ x ∈ gather cs, P x.1 := fun x hx => by
  have h1 := (gather_mem cs x).mp hx
  have h2 := tot_mem (l := cs) (k := x.1) (by rw [← h1.1]; exact h1.2)
  obtain ⟨y, hy, e⟩ := List.mem_map.mp h2
  rw [← e]; exact h y hy
/-! ### what the law holds for one and the same -/
/-- a new jar -/
def spMk (K : PySem.W.Frag) : Sp := fun vs H Q _ => ∃ (a : Addr) (ns : List Int) (t : Int), vs = [.ref a, .int t] ∧ SqL K H a (ns.map V.int) ∧ 0 ≤ t ∧ t ≤ 1000 ∧
  ∀ p H2, Same H H2 → H p = none → Jar 999999999 H2 p → Q (.ref p) H2
end Cr

set_option Elab.async false
set_option linter.all false
set_option maxRecDepth 100000
set_option maxHeartbeats 800000
namespace Cr
open PySem PySem.Spec PyProof.Rows L2
/-! ### shaped data -/
theorem canAll_of : ∀ {ds : List PyData}, (∀ d ∈ ds, d.canLay0 = true) → PyData.canLayAll0 ds = true
  | [], _ => by simp [PyData.canLayAll0]
  | d :: ds, h => by
    rw [PyData.canLayAll0, Bool.and_eq_true]
    exact ⟨h d List.mem_cons_self, canAll_of fun x hx => h x (List.mem_cons_of_mem _ hx)⟩
theorem depthAll_le {k : Nat} : ∀ {ds : List PyData}, (∀ d ∈ ds, d.depth ≤ k) → PyData.depthAll ds ≤ k
  | [], _ => by simp [PyData.depthAll]
  | d :: ds, h => by
    rw [PyData.depthAll]
    exact Nat.max_le.mpr ⟨h d List.mem_cons_self, depthAll_le fun x hx => h x (List.mem_cons_of_mem _ hx)⟩
theorem pr_shape (x : Int × Int) : (pr x).canLay0 = true ∧ (pr x).depth ≤ 2 := by
  unfold pr
  constructor
  · simp [PyData.canLay0, PyData.canLayAll0]
  · simp [PyData.depth, PyData.depthAll]
theorem led_shape (l : List (Int × Int)) : (led l).canLay0 = true ∧ (led l).depth ≤ 3 := by
  unfold led
  constructor
  · rw [PyData.canLay0]
    exact canAll_of fun d hd => by obtain ⟨x, _, rfl⟩ := List.mem_map.mp hd; exact (pr_shape x).1
  · rw [PyData.depth]
    have : PyData.depthAll (pd l) ≤ 2 := depthAll_le fun d hd => by obtain ⟨x, _, rfl⟩ := List.mem_map.mp hd; exact (pr_shape x).2
    omega
theorem shaped_led (l : List (Int × Int)) : SeqAt.shaped (led l) = true := by
  unfold SeqAt.shaped
  rw [Bool.and_eq_true]
  exact ⟨(led_shape l).1, decide_eq_true (by have := (led_shape l).2; omega)⟩
theorem eqv_led_nil (l : List (Int × Int)) : PyData.eqv (led l) (.tuple []) = l.isEmpty := by
  cases l <;> simp [led, pd, PyData.eqv, PyData.eqvAll]
section
variable {K : PySem.W.Frag} {q : Option Addr} {n : Nat} {δ δ' : List Sl} {te ta tb tc tk ti : TE} {tt tu : TT} {c c1 c2 c3 ci : Nat} {Φ Φ1 Φ2 Φ3 : PyData → Prop} {d d1 d2 : PyData} {wi : TI} {A0 B0 Hk H1 H2 Hk' : Hp} {σ : L2.St} {D : Ends} {ts tz : TS} {g : TG} {p : Addr} {ds : List PyData} {P P1 P2 : Int → Prop} {N : Nat}
theorem tj_and {Ψ : Bool → Prop} {a : Bool} (h1 : TB q δ tt a) (h2 : a = true → TJ q δ tu c Ψ) (h0 : a = false → Ψ false) : TJ q δ (tAnd tt tu) c Ψ := fun σ H H1 n sg o Q k => h1 σ H H1 (n + c) sg o _ fun x Hk H2 g o1 e => by
  subst e
  cases x with
  | true => exact iteT (h2 rfl σ Hk H2 n (sg.mono g.k) o1 _ fun b Hk' H3 g' o2 e => k _ Hk' H3 (g.trans g') o2 e)
  | false => exact iteF (k _ Hk H2 g (o1.mono (by omega)) (h0 rfl))
/-! ### menus: [a, b, ..][draw] -/
def AJI (q : Option Addr) (δ : List Sl) (ta : TA) (c N : Nat) (P : Int → Prop) : Prop := AJ q δ ta c (fun sls => ∃ ns : List Int, sls = (ns.map PyData.int).map Sl.dat ∧ ns.length = N ∧ ∀ x ∈ ns, P x)
theorem aji_nil : AJI q δ tNil 0 0 P := AJ.imp ae_nil fun _ e => ⟨[], e, rfl, by simp⟩
theorem aji_cons {tr : TA} (h : J q δ te c1 (IntP P)) (t : AJI q δ tr c2 N P) : AJI q δ (tCons te tr) (c2 + c1) (N + 1) P := aj_cons h t fun d sls ⟨i, pi, e⟩ ⟨ns, e2, hl, hp⟩ => ⟨i :: ns, by rw [e, e2]; rfl, by rw [List.length_cons, hl], fun x hx => by
  rcases List.mem_cons.mp hx with h | h
  · rw [h]; exact pi
  · exact hp x h⟩
theorem j_menu {tl : TA} (h : AJI q δ tl c N P) (hN : N ≤ 1000000) (hi : J q δ ti ci (IntP fun i => 0 ≤ i ∧ i < N)) : J q δ (tOp (rIx K) (tLst tl) ti) (ci + c) (IntP P) := by
  refine j_iL (Ψ := fun ds => ∃ ns : List Int, ds = ns.map PyData.int ∧ ns.length = N ∧ ∀ x ∈ ns, P x) (j_lst (AJ.imp h fun sls ⟨ns, e, hl, hp⟩ => ⟨ns.map PyData.int, e, by rw [List.length_map]; omega, ns, rfl, hl, hp⟩)) hi fun ds i ⟨ns, e, hl, hp⟩ hi => ?_
  subst e
  have hlt : i.toNat < ns.length := by omega
  refine ⟨.int ns[i.toNat], ?_, ns[i.toNat], hp _ (List.getElem_mem hlt), rfl⟩
  have h3 := atI_nat (xs := ns.map PyData.int) (j := i.toNat) (v := .int ns[i.toNat]) (by rw [List.getElem?_map, List.getElem?_eq_getElem hlt]; rfl)
  rw [Int.toNat_of_nonneg hi.1] at h3
  exact h3
theorem E.is {i : Int} (h : E q δ te (.int i)) (hp : P i) : J q δ te 0 (IntP P) := h.imp fun d e => ⟨i, hp, e⟩
theorem J.intImp (h : J q δ te c (IntP P)) (hc : c ≤ c1) (i : ∀ x, P x → P1 x) : J q δ te c1 (IntP P1) := h.to hc fun d ⟨x, px, e⟩ => ⟨x, i x px, e⟩
theorem aj_int {tr : TA} {Φr Φ' : List Sl → Prop} (h : J q δ te c1 (IntP P)) (hr : AJ q δ tr c2 Φr) (hp : ∀ i sls, P i → Φr sls → Φ' (.dat (.int i) :: sls)) : AJ q δ (tCons te tr) (c2 + c1) Φ' := aj_cons h hr fun d sls ⟨i, pi, e⟩ s => by subst e; exact hp i sls pi s
/-! ### comprehensions over a ledger's pairs -/
theorem e_pr {a b : TE} {x y : Int} (h1 : E q δ a (.int x)) (h2 : E q δ b (.int y)) : E q δ (tTup (tCons a (tCons b tNil))) (pr (x, y)) := e_tup (ds := [.int x, .int y]) (ae_cons h1 (ae_cons h2 ae_nil))
/-! ### the same twice -/
/-! ### keyword calls, told -/
theorem VS.inv0 {H : Hp} {vs : List V} (h : VS H vs []) : vs = [] := List.length_eq_zero_iff.mp h.1
theorem VS.inv1 {H : Hp} {vs : List V} {s : Sl} {r : List Sl} (h : VS H vs (s :: r)) : ∃ v t, vs = v :: t ∧ SlOk H v s ∧ VS H t r := by
  cases vs with
  | nil => have := h.1; simp at this
  | cons v t =>
    obtain ⟨w, a, b⟩ := h.2 0 s rfl
    have e : v = w := by simpa using a
    subst e
    exact ⟨v, t, rfl, b, by have := h.1; simpa using this, fun i u e => by
      obtain ⟨x, p, q⟩ := h.2 (i + 1) u (by simpa using e)
      exact ⟨x, by simpa using p, q⟩⟩
/-- if c: x = e, joined -/
theorem q_ifAsg {i : Nat} {P0 : Bool → Prop} {d0 : PyData} (h : TJ q δ tt c P0) (s : At q (n + c1 + c) δ A0 B0 σ Hk H1) (he : P0 true → J q δ te c1 Φ) (hd : δ[i]? = some (.dat d0)) (h0 : P0 false → Φ d0)
    (k : ∀ d σ' Hk' H2, Φ d → At q n (δ.set i (.dat d)) A0 B0 σ' Hk' H2 → tz D σ' H2) : tSeq (tIfS tt (tAsg te (gName i)) tNext) tz D σ H1 :=
  q_when h s (fun e Hk' H2 g a => s_asg (D := { D with nx := tz D }) (he e) a fun d σ' Hk2 H3 pd g2 a2 => k d σ' Hk2 H3 pd a2) fun e Hk' H2 g a => k d0 σ Hk' H2 (h0 e) ((a.mono (by omega)).weak (List.length_set ..) fun j t et => .inr (by
    by_cases hj : i = j
    · subst hj
      have hl : i < δ.length := (List.getElem?_eq_some_iff.mp hd).1
      rw [List.getElem?_set_self hl] at et
      rw [hd]; exact et
    · rw [List.getElem?_set_ne hj] at et; exact et))
/-! ### the law's own level -/
theorem At.reset (s : At q n δ A0 B0 σ Hk H1) : At none 0 δ Hk H1 σ Hk H1 := ⟨⟨s.ok.a, fun p e => (by cases e), fun p e => (by cases e)⟩, s.sg, Gr.refl s.ok.a⟩
def spLaw (K : PySem.W.Frag) : Sp := fun vs H Q _ => ∃ (a : Addr) (ns : List Int), vs = [.ref a] ∧ SqL K H a (ns.map V.int) ∧ ns.length ≤ 63 ∧ ∀ H', Q (.bl true) H'
end
end Cr

set_option Elab.async false
set_option linter.all false
set_option maxRecDepth 100000
set_option maxHeartbeats 4000000
namespace Cr
open PySem PySem.Spec PyProof.Rows L2
/-! ### def f( *v ): all arguments become one tuple -/
section
variable {P : Program} {w : World} {K : PySem.W.Frag} {mg : Str → Option Value} {base : Heap}
end
section
variable {X : Cx} {CX : CXT} {k : Nat} {f : Addr} {sp : Sp} {E : XK} {x : Str} {e : Expr} {es : List Expr} {t : TA} {p pos : Pos}
end
section
variable {K : PySem.W.Frag} {q : Option Addr} {n : Nat} {δ δ' : List Sl} {te ta tb tc tk ti : TE} {tt tu : TT} {c c1 c2 c3 ci : Nat} {Φ Φ1 Φ2 Φ3 : PyData → Prop} {d d1 d2 : PyData} {A0 B0 Hk H1 H2 Hk' : Hp} {σ : L2.St} {D : Ends} {ts tz : TS} {g : TG} {p : Addr} {ds : List PyData} {P P1 P2 : Int → Prop} {N : Nat}
/-! ### [e for a in x for b in y] -/
/-! ### a list that still changes, read within an expression -/
mutual
def plain : PyData → Bool
  | .list _ => false
  | .dict _ => false
  | .tuple ds => plainAll ds
  | _ => true
def plainAll : List PyData → Bool
  | [] => true
  | d :: ds => plain d && plainAll ds
end
section
variable {Ha Hb : Hp}
/-- a tuple, known or not -/
def isT : HO → Prop
  | .tup _ => True
  | .frz _ (.tup _) => True
  | _ => False
mutual
theorem Dq.keep (e : ∀ b u, isT u → Ha b = some u → Hb b = some u) : ∀ (d : PyData) (v : V), plain d = true → Dq Ha v d → Dq Hb v d
  | .none, _, _, h => by cases h; exact .non
  | .bool b, _, _, h => by cases h; exact .bl b
  | .int i, _, _, h => by cases h; exact .int i
  | .str x, _, _, h => by cases h; exact .str x
  | .list ds, _, z, h => Bool.noConfusion (show false = true from z)
  | .tuple ds, _, z, h => by
    cases h with
    | tup hs ha =>
      refine .tup ?_ (DqAll.keep e ds _ z ha)
      rcases hs with ⟨o, d, q⟩ | ⟨d, q⟩
      · exact .inl ⟨o, d, e _ _ trivial q⟩
      · exact .inr ⟨d, e _ _ trivial q⟩
  | .dict _, _, z, h => by simp [plain] at z
theorem DqAll.keep (e : ∀ b u, isT u → Ha b = some u → Hb b = some u) : ∀ (ds : List PyData) (vs : List V), plainAll ds = true → DqAll Ha vs ds → DqAll Hb vs ds
  | [], _, _, h => by cases h; exact .nil
  | d :: ds, _, z, h => by
    have z' : (plain d && plainAll ds) = true := z
    rw [Bool.and_eq_true] at z'
    cases h with
    | cons h1 h2 => exact .cons (Dq.keep e d _ z'.1 h1) (DqAll.keep e ds _ z'.2 h2)
end
end
theorem evalC {i : Nat} {Q : VK} (h : J q (δ.set i (.dat (.list ds))) te c Φ) (s : At q (n + c) δ A0 B0 σ Hk H1) (cl : Cell q B0 Hk H1 p ds) (hi : δ[i]? = some (.adr p)) (pl : ∀ d, Φ d → plain d = true)
    (k : ∀ d v Hk' H2, Φ d → Dq Hk' v d → Gr q Hk H1 Hk' H2 → At q n δ A0 B0 σ Hk' H2 → Cell q B0 Hk' H2 p ds → Q v H2) : te σ H1 Q := by
  obtain ⟨xs, ex, hd⟩ := cl.ex
  have gf := (Gr.refl (q := q) s.ok.a).freeze (o := .lst xs) (p := p)
  have hn := cl.nk
  have sm : Same Hk (upd Hk p (.lst xs)) := same_upd hn
  have smA : Same (upd Hk p (.lst xs)) H1 := fun b u z => by
    by_cases hb : b = p
    · subst hb; rw [upd_same] at z; rw [← z]; exact ex
    · rw [upd_ne hb] at z; exact s.ok.a b u z
  have ok1 : Ok q (n + c) (upd Hk p (.lst xs)) H1 := ⟨smA, fun r er => by rw [upd_ne (fun z => cl.nq (by rw [← z]; exact er))]; exact s.ok.kf r er, s.ok.j⟩
  have sg1 : Sg (upd Hk p (.lst xs)) σ (δ.set i (.dat (.list ds))) := by
    have sg := s.sg.mono sm
    refine ⟨by rw [List.length_set]; exact sg.1, fun j t ej ne => ?_⟩
    by_cases hj : i = j
    · subst hj
      have hl : i < δ.length := (List.getElem?_eq_some_iff.mp hi).1
      rw [List.getElem?_set_self hl] at ej
      cases ej
      exact ⟨.ref p, sg.getA hi, .lst upd_same (DqAll.mono sm _ _ hd)⟩
    · rw [List.getElem?_set_ne hj] at ej
      exact sg.2 j t ej ne
  refine h σ _ H1 n sg1 ok1 _ fun d v Hk2 H2 g o pd dv => ?_
  have e2 : Hk2 p = some (.lst xs) := g.k _ _ upd_same
  have eH2 : H2 p = some (.lst xs) := g.a _ _ e2
  obtain ⟨Hr, eHr⟩ : ∃ Hr : Hp, Hr = fun b => if b = p then none else Hk2 b := ⟨_, rfl⟩
  have rp : Hr p = none := by rw [eHr]; exact if_pos rfl
  have rn : ∀ b, b ≠ p → Hr b = Hk2 b := fun b hb => by rw [eHr]; exact if_neg hb
  have s1 : Same Hk Hr := fun b u z => by
    have hb : b ≠ p := ne_of_none z hn
    rw [rn b hb]; exact g.k b u (by rw [upd_ne hb]; exact z)
  have s2 : Same Hr H2 := fun b u z => by
    by_cases hb : b = p
    · rw [hb, rp] at z; cases z
    · rw [rn b hb] at z; exact g.a b u z
  have gg : Gr q Hk H1 Hr H2 := ⟨s1, s2, g.s, fun b hb h1 => by
    by_cases hbp : b = p
    · rw [hbp]; exact rp
    · rw [rn b hbp]; exact g.f b (by rw [upd_ne hbp]; exact hb) h1, g.t⟩
  refine k d v Hr H2 pd (Dq.keep (fun b ys iz z => ?_) d v (pl d pd) dv) gg ⟨⟨s2, fun r er => ?_, o.j⟩, s.sg.mono s1, s.gr.trans gg⟩ ⟨rp, cl.nq, cl.nb, xs, eH2, DqAll.mono s1 _ _ hd⟩
  · rw [rn b (fun hb => by rw [hb, e2] at z; cases z; exact iz.elim)]; exact z
  · rw [rn r (fun hb => cl.nq (by rw [← hb]; exact er))]; exact o.kf r er
theorem DqAll.set {H : Hp} : ∀ {vs : List V} {ds : List PyData} {v : V} {d : PyData}, DqAll H vs ds → ∀ j : Nat, Dq H v d → DqAll H (vs.set j v) (ds.set j d)
  | [], _, _, _, h, j, dv => by cases h; exact .nil
  | x :: xs, _, _, _, h, 0, dv => by
    cases h with
    | cons h1 h2 => exact .cons dv h2
  | x :: xs, _, _, _, h, j + 1, dv => by
    cases h with
    | cons h1 h2 => exact .cons h1 (DqAll.set h2 j dv)
theorem AE.is {ta : TA} {a b : List Sl} (h : AE q δ ta a) (e : a = b) : AE q δ ta b := by rw [← e]; exact h
end
end Cr

set_option Elab.async false
set_option linter.all false
set_option maxRecDepth 100000
set_option maxHeartbeats 800000
namespace Cr
open PySem PySem.Spec PyProof.Rows L2
theorem cutD_to (xs : List PyData) (n : Nat) : cutD xs none (some (n : Int)) = xs.take n := by
  unfold cutD
  have h0 : HT.sIx xs.length 0 none = 0 := rfl
  rw [h0, List.drop_zero, Nat.sub_zero]
  have h1 : HT.sIx xs.length xs.length (some (n : Int)) = min n xs.length := by
    simp [HT.sIx]
    try omega
  rw [h1]
  by_cases h : n ≤ xs.length
  · rw [Nat.min_eq_left h]
  · rw [Nat.min_eq_right (by omega), List.take_length, List.take_of_length_le (by omega)]
section
variable {K : PySem.W.Frag} {q : Option Addr} {n : Nat} {δ δ' : List Sl} {te ta tb tc tk ti : TE} {tt tu tt1 tt2 tt3 : TT} {c c1 c2 c3 ci : Nat} {Φ Φ1 Φ2 Φ3 : PyData → Prop} {d d1 d2 : PyData} {A0 B0 Hk H1 H2 Hk' : Hp} {σ : L2.St} {D : Ends} {ts tz : TS} {g : TG} {p : Addr} {ds : List PyData}
end
end Cr

set_option Elab.async false
set_option linter.all false
set_option maxRecDepth 100000
set_option maxHeartbeats 800000
namespace Cr
open PySem PySem.Spec PyProof.Rows L2
/-! ### products of ledgers -/
def prodL (a b : List (Int × Int)) : List (Int × Int) := a.flatMap fun x => b.map fun y => (x.1 + y.1, x.2 * y.2)
theorem tot_one (b : List (Int × Int)) (x : Int × Int) (k : Int) : tot (b.map fun y => (x.1 + y.1, x.2 * y.2)) k = tot (b.map fun y => (y.1 + x.1, y.2 * x.2)) k := by
  congr 1
  exact List.map_congr_left fun y _ => by rw [Int.add_comm, Int.mul_comm]
theorem tot_prod_cons (b a : List (Int × Int)) (x : Int × Int) (k : Int) : tot (prodL b (x :: a)) k = tot (b.map fun y => (y.1 + x.1, y.2 * x.2)) k + tot (prodL b a) k := by
  induction b with
  | nil => rfl
  | cons y b ih =>
    show tot ((y.1 + x.1, y.2 * x.2) :: (a.map fun z => (y.1 + z.1, y.2 * z.2)) ++ prodL b (x :: a)) k = tot ((y.1 + x.1, y.2 * x.2) :: b.map fun y => (y.1 + x.1, y.2 * x.2)) k + tot ((a.map fun z => (y.1 + z.1, y.2 * z.2)) ++ prodL b a) k
    rw [List.cons_append]
    show (if y.1 + x.1 = k then y.2 * x.2 else 0) + tot ((a.map fun z => (y.1 + z.1, y.2 * z.2)) ++ prodL b (x :: a)) k = ((if y.1 + x.1 = k then y.2 * x.2 else 0) + tot (b.map fun y => (y.1 + x.1, y.2 * x.2)) k) + tot ((a.map fun z => (y.1 + z.1, y.2 * z.2)) ++ prodL b a) k
    rw [tot_append, tot_append, ih]
    omega
theorem tot_prod_comm (a b : List (Int × Int)) (k : Int) : tot (prodL a b) k = tot (prodL b a) k := by
  induction a with
  | nil =>
    have h : ∀ b : List (Int × Int), prodL b [] = [] := fun b => by
      unfold prodL
      induction b with
      | nil => rfl
      | cons x b ih => rw [List.flatMap_cons, ih]; rfl
    rw [h]; rfl
  | cons x a ih =>
    rw [tot_prod_cons]
    show tot ((b.map fun y => (x.1 + y.1, x.2 * y.2)) ++ prodL a b) k = _
    rw [tot_append, ih, tot_one]
theorem prod_len (a b : List (Int × Int)) : (prodL a b).length = a.length * b.length := by
  unfold prodL
  induction a with
  | nil => simp
  | cons x a ih => rw [List.flatMap_cons, List.length_append, ih, List.length_map, List.length_cons, Nat.add_mul, Nat.one_mul, Nat.add_comm]
/-! ### sums with a weight -/
def wsum (φ : Int → Int) : List (Int × Int) → Int
  | [] => 0
  | x :: r => x.2 * φ x.1 + wsum φ r
def ksum (φ : Int → Int) (f : Int → Int) : List Int → Int
  | [] => 0
  | k :: r => f k * φ k + ksum φ f r
theorem ksum_add (φ f g : Int → Int) : ∀ S : List Int, ksum φ (fun k => f k + g k) S = ksum φ f S + ksum φ g S
  | [] => rfl
  | k :: S => by
    show (f k + g k) * φ k + ksum φ (fun k => f k + g k) S = (f k * φ k + ksum φ f S) + (g k * φ k + ksum φ g S)
    rw [ksum_add φ f g S, Int.add_mul]; omega
theorem ksum_no (φ : Int → Int) (x c : Int) : ∀ S : List Int, x ∉ S → ksum φ (fun k => if x = k then c else 0) S = 0
  | [], _ => rfl
  | k :: S, h => by
    show (if x = k then c else 0) * φ k + _ = 0
    rw [if_neg (fun e => h (by rw [e]; simp)), Int.zero_mul, ksum_no φ x c S fun z => h (by simp [z])]
    rfl
theorem ksum_at (φ : Int → Int) (x c : Int) : ∀ S : List Int, S.Pairwise (· < ·) → x ∈ S → ksum φ (fun k => if x = k then c else 0) S = c * φ x
  | [], _, h => by cases h
  | k :: S, hp, h => by
    have hp' := List.pairwise_cons.mp hp
    show (if x = k then c else 0) * φ k + ksum φ (fun k => if x = k then c else 0) S = c * φ x
    by_cases e : x = k
    · subst e
      rw [if_pos rfl, ksum_no φ x c S fun z => absurd (hp'.1 x z) (by omega), Int.add_zero]
    · rw [if_neg e, Int.zero_mul, Int.zero_add]
      exact ksum_at φ x c S hp'.2 (by
        rcases List.mem_cons.mp h with z | z
        · exact absurd z e
        · exact z)
theorem ksum_zero (φ : Int → Int) : ∀ S : List Int, ksum φ (fun _ => 0) S = 0
  | [] => rfl
  | k :: S => by
    show 0 * φ k + ksum φ (fun _ => 0) S = 0
    rw [ksum_zero φ S, Int.zero_mul]; rfl
theorem wsum_keys (φ : Int → Int) {S : List Int} (hp : S.Pairwise (· < ·)) : ∀ l : List (Int × Int), (∀ x ∈ l, x.1 ∈ S) → wsum φ l = ksum φ (tot l) S
  | [], _ => (ksum_zero φ S).symm
  | x :: l, h => by
    show x.2 * φ x.1 + wsum φ l = ksum φ (fun k => (if x.1 = k then x.2 else 0) + tot l k) S
    rw [ksum_add, ksum_at φ x.1 x.2 S hp (h x (by simp)), wsum_keys φ hp l fun y hy => h y (by simp [hy])]
theorem wsum_append (φ : Int → Int) (a b : List (Int × Int)) : wsum φ (a ++ b) = wsum φ a + wsum φ b := by
  induction a with
  | nil => show wsum φ b = 0 + wsum φ b; omega
  | cons x a ih =>
    show x.2 * φ x.1 + wsum φ (a ++ b) = (x.2 * φ x.1 + wsum φ a) + wsum φ b
    rw [ih]; omega
/-! ### how great amounts are -/
def Amb (B : Nat) (l : List (Int × Int)) : Prop := ∀ x ∈ l, x.2.natAbs < 2 ^ B
theorem Amb.mono {B C : Nat} {l : List (Int × Int)} (h : Amb B l) (hc : B ≤ C) : Amb C l := fun x hx => Nat.lt_of_lt_of_le (h x hx) (Nat.pow_le_pow_right (by decide) hc)
end Cr

set_option Elab.async false
set_option linter.all false
set_option maxRecDepth 100000
set_option maxHeartbeats 800000
namespace Cr
open PySem PySem.Spec PyProof.Rows L2
/-! ### one key's amount -/
end Cr

set_option Elab.async false
set_option linter.all false
set_option maxRecDepth 100000
set_option maxHeartbeats 800000
namespace Cr
open PySem PySem.Spec PyProof.Rows L2
/-! ### repr of a list or a tuple -/
section
variable {K : PySem.W.Frag} {q : Option Addr} {δ : List Sl} {te ta tb : TE} {d : PyData}
end
/-! ### a law that is entered at the caller itself: its guards are known -/
section
variable {P : Program} {w : World} {K : PySem.W.Frag} {mg mb : Str → Option Value} {base : Heap} {k : Nat}
end
section
variable {K : PySem.W.Frag} {q : Option Addr} {n : Nat} {δ : List Sl} {te : TE} {tt : TT} {c c1 : Nat} {Φ : PyData → Prop} {A0 B0 Hk H1 : Hp} {σ : L2.St} {D : Ends} {tz : TS}
end
end Cr

set_option Elab.async false
set_option linter.all false
set_option maxRecDepth 100000
set_option maxHeartbeats 800000
namespace Cr
open PySem PySem.Spec PyProof.Rows L2
section
variable {K : PySem.W.Frag} {q : Option Addr} {n : Nat} {δ δ' : List Sl} {te ta tb tn ti : TE} {tt : TT} {c c1 c2 : Nat} {Φ : PyData → Prop} {d : PyData} {A0 B0 Hk H1 : Hp} {σ : L2.St} {D : Ends} {tz tbody : TS} {g : TG} {p : Addr} {ds : List PyData}
/-- elements that are drawn: each costs c1 at most -/
theorem j_lcD {α : Type} {emb : α → PyData} {wi : TI} {vs : List Nat} {Ψ : List α → Prop} {N : Nat} (hw : IJ q δ wi c (fun items => ∃ xs, Ψ xs ∧ items = xs.map emb)) (hz : ∀ xs, Ψ xs → xs.length ≤ N) (hN : N ≤ 1000000)
    (he : ∀ xs, Ψ xs → ∀ x ∈ xs, ∃ δ', GB (wipeD δ vs) g (emb x) δ' vs ∧ J q δ' te c1 Φ) :
    J q δ (tLc wi g tYes te vs) (c1 * N + c) (fun r => ∃ (xs : List α) (ds : List PyData), Ψ xs ∧ ds.length = xs.length ∧ (∀ d ∈ ds, Φ d) ∧ r = .list ds) := fun σ H H1 n sg o Q k =>
  hw σ H H1 (n + c1 * N) sg (by rw [Nat.add_assoc]; exact o) _ fun items Jt HkW H2 g0 o0 pi wk D hD => by
    obtain ⟨xs, pi, ei⟩ := pi
    have hlen : items.length = xs.length := by rw [ei, List.length_map]
    have hxN := hz xs pi
    have hDk : HkW D = none := g0.a.free hD
    have hDq : q ≠ some D := fun e => (o0.j D e).ne hD
    have g1 : Gr q HkW H2 HkW (upd H2 D (.lst [])) := Gr.cell g0.a hD
    refine ⟨fun i m H' => m = items.length - i ∧ i ≤ items.length ∧ ∃ Hk' vs ds, Gr q HkW H2 Hk' H' ∧ Ok q (n + c1 * (N - i)) Hk' H' ∧ Hk' D = none ∧ H' D = some (.lst vs) ∧ DqAll Hk' vs ds ∧ ds.length = i ∧ ∀ d ∈ ds, Φ d,
      ⟨items.length, by simp, Nat.zero_le _, HkW, [], [], g1, o0.cell hDk hDq, hDk, upd_same, .nil, rfl, by simp⟩, ?_⟩
    rintro i m H' ⟨rfl, hi, Hk', ys, es, gr, ok, hDn, hl, hd, hel, hep⟩
    by_cases hlt : i < items.length
    · obtain ⟨go, yl⟩ := (wk i Hk' H' gr.k ok.a).1 hlt
      refine .inr ⟨go, fun H'' => ∃ Hk3 ys' es', Gr q HkW H2 Hk3 H'' ∧ Ok q (n + c1 * (N - (i + 1))) Hk3 H'' ∧ Hk3 D = none ∧ H'' D = some (.lst ys') ∧ DqAll Hk3 ys' es' ∧ es'.length = i + 1 ∧ ∀ d ∈ es', Φ d, fun H'' p => ⟨items.length - (i + 1), by omega, rfl, hlt, p⟩, fun v H'' y => ?_⟩
      obtain ⟨Hk2, g2, d, ed, dx⟩ := yl v H'' y
      obtain ⟨x, ex, rfl⟩ : ∃ x, xs[i]? = some x ∧ emb x = d := by
        rw [ei, List.getElem?_map] at ed
        exact Option.map_eq_some_iff.mp ed
      obtain ⟨δ', hgb, hte⟩ := he xs pi x (List.mem_of_getElem? ex)
      have hf : n + c1 * (N - i) = (n + c1 * (N - (i + 1))) + c1 := by
        rw [show N - i = (N - (i + 1)) + 1 by omega, Nat.mul_add, Nat.mul_one, Nat.add_assoc]
      rw [hf] at ok
      have ok2 := ok.go g2
      have sgw : Sg Hk2 (wipe σ vs) (wipeD δ vs) := ((sg.mono g0.k).mono (gr.k.trans g2.k)).wipe vs
      have hD2 : Hk2 D = none := g2.f D hDn (by rw [hl]; exact fun z => by cases z)
      have hl2 : H'' D = some (.lst ys) := g2.s D _ (fun z => by cases z) hl
      have hd2 := DqAll.mono g2.k _ _ hd
      have gr2 := gr.trans g2.none_to
      refine hgb (wipe σ vs) Hk2 H'' v sgw g2.a dx _ fun σ' sg' hl' hk' => ⟨wipe_eq (by rw [hl', wipe_length]) hk', ?_⟩
      unfold tYes
      refine iteT (hte σ' Hk2 H'' _ sg' ok2 _ fun y w Hk4 H4 g4 o4 ey dw => ?_)
      have hD4 : Hk4 D = none := g4.f D hD2 (by rw [hl2]; exact fun z => by cases z)
      have hl4 : H4 D = some (.lst ys) := g4.s D _ hDq hl2
      have hd4 := DqAll.mono g4.k _ _ hd2
      refine ⟨ys, hl4, ?_, Hk4, ys ++ [w], es ++ [y], (gr2.trans g4).put hD hD4, o4.cell hD4 hDq, hD4, upd_same, hd4.append (.cons dw .nil), by rw [List.length_append, hel]; rfl, fun z hz => ?_⟩
      · rw [hd4.length, hel, sizeLine_eq]; omega
      · rcases List.mem_append.mp hz with h | h
        · exact hep z h
        · rw [List.mem_singleton.mp h]; exact ey
    · have e : i = items.length := by omega
      subst e
      refine .inl ⟨(wk _ Hk' H' gr.k ok.a).2 (Nat.le_refl _), ?_⟩
      have gf := gr.freeze hD hDn hl
      refine k _ _ _ _ (g0.trans gf) ⟨gf.a, fun p e => ?_, fun p e => (ok.j p e).mono (Nat.le_add_right _ _)⟩ ⟨xs, es, pi, by rw [hel, hlen], hep, rfl⟩ (.lst upd_same (DqAll.mono (same_upd hDn) _ _ hd))
      rw [upd_ne (fun z => hDq (by rw [← z]; exact e))]
      exact ok.kf p e
/-- while: P by a measure -/
theorem q_while (P : Nat → L2.St → Hp → Hp → Prop) (m0 : Nat) (h0 : P m0 σ Hk H1)
    (turn : ∀ m σ' Hk' H', P m σ' Hk' H' → ∃ (δ' : List Sl) (b : Bool) (n' : Nat), TB q δ' tt b ∧ At q n' δ' A0 B0 σ' Hk' H' ∧
      (b = true → ∀ Hk2 H2, Gr q Hk' H' Hk2 H2 → At q n' δ' A0 B0 σ' Hk2 H2 → tbody { D with nx := fun σ3 H4 => ∃ m' Hk3, m' < m ∧ P m' σ3 Hk3 H4, ct := fun σ3 H4 => ∃ m' Hk3, m' < m ∧ P m' σ3 Hk3 H4, bk := tz D } σ' H2) ∧
      (b = false → ∀ Hk2 H2, Gr q Hk' H' Hk2 H2 → At q n' δ' A0 B0 σ' Hk2 H2 → tz D σ' H2)) : tSeq (tWhile tt tbody) tz D σ H1 := by
  refine ⟨fun m σ' H' => ∃ Hk', P m σ' Hk' H', ⟨m0, Hk, h0⟩, ?_⟩
  rintro m σ' H' ⟨Hk', hp⟩
  obtain ⟨δ', b, n', ht, a, k1, k2⟩ := turn m σ' Hk' H' hp
  refine ht σ' Hk' H' n' a.sg a.ok _ fun b' Hk2 H2 g o e => ?_
  subst e
  have a2 : At q n' δ' A0 B0 σ' Hk2 H2 := ⟨o, a.sg.mono g.k, a.gr.trans g⟩
  cases b' with
  | true => exact iteT ⟨_, fun σ3 H4 ⟨m', Hk3, h1, h2⟩ => ⟨m', h1, Hk3, h2⟩, k1 rfl Hk2 H2 g a2⟩
  | false => exact iteF (k2 rfl Hk2 H2 g a2)
/-- xs[e2] = e at a list that still changes -/
theorem s_setCE {i j : Nat} {m : Int} (h : J q (δ.set i (.dat (.list ds))) te c Φ) (s : At q (n + c) δ A0 B0 σ Hk H1) (cl : Cell q B0 Hk H1 p ds) (hi : δ[i]? = some (.adr p)) (pl : ∀ d, Φ d → plain d = true)
    (hx : E q δ ti (.int m)) (hm : m = (j : Int)) (hj : j < ds.length)
    (k : ∀ d Hk' H2, Φ d → Same Hk Hk' → At q n δ A0 B0 σ Hk' H2 → Cell q B0 Hk' H2 p (ds.set j d) → D.nx σ H2) : tAsg te (gSub (tVar i) ti rSetL) D σ H1 := by
  refine evalC h s cl hi pl fun d v Hk' H2 pd dv g a cl2 => ?_
  refine ⟨.ref p, a.sg.getA hi, hx σ Hk' H2 n a.sg a.ok _ fun d' w Hk3 H3 g3 o3 ed dw => ?_⟩
  subst ed
  have ew := dw.intOf
  subst ew
  have cl3 := cl2.go g3
  obtain ⟨xs, ex, hd⟩ := cl3.ex
  refine ⟨p, xs, m, j, rfl, rfl, ex, ?_, k d Hk3 _ pd (g.k.trans g3.k) ⟨o3.cell cl3.nk cl3.nq, a.sg.mono g3.k, (a.gr.trans g3).put cl3.nb cl3.nk⟩ ⟨cl3.nk, cl3.nq, cl3.nb, xs.set j v, upd_same, ?_⟩⟩
  · rw [hm, hd.length]; unfold ixN; rw [if_pos (by omega), if_pos (by omega)]; simp
  · exact DqAll.set hd j (Dq.mono g3.k _ _ dv)
/-- x = [e] * k, a list that changes -/
theorem q_newRep {i : Nat} {ta : TA} {m : Int} {es : List PyData} (h : AE q δ ta (es.map Sl.dat)) (hes : es.length ≤ 1000000) (hk : E q δ tn (.int m)) (h0 : -(2 ^ 63) ≤ m) (h1 : m < 2 ^ 63) (hl : es.length * m.toNat ≤ 1000000) (s : At q n δ A0 B0 σ Hk H1)
    (k : ∀ p Hk' H2, Gr q Hk H1 Hk' H2 → At q n (δ.set i (.adr p)) A0 B0 (σ.set i (some (.ref p))) Hk' H2 → Cell q B0 Hk' H2 p (List.replicate m.toNat es).flatten → tz D (σ.set i (some (.ref p))) H2) : tSeq (tAsg (tOp rMulU (tLst ta) tn) (gName i)) tz D σ H1 := by
  unfold tSeq tAsg tOp
  refine e_lst (ds := es) h hes σ Hk H1 n s.sg s.ok _ fun d x Hk2 H2 g o ed dx => ?_
  subst ed
  refine hk σ Hk2 H2 n (s.sg.mono g.k) o _ fun d' y Hk3 H3 g3 o3 ed dy => ?_
  subst ed
  obtain ⟨a, xs, rfl, e1, e2⟩ := (Dq.mono g3.k _ _ dx).lstOf
  rw [dy.intOf]
  have hall : ∀ r : Nat, DqAll Hk3 (List.replicate r xs).flatten (List.replicate r es).flatten := fun r => by
    induction r with
    | zero => exact .nil
    | succ r ih => rw [List.replicate_succ, List.replicate_succ, List.flatten_cons, List.flatten_cons]; exact e2.append ih
  refine .inr ⟨a, m, xs, rfl, rfl, g3.a _ _ e1, h0, h1, Nat.le_trans (by rw [e2.length]; exact hl) (by rw [sizeLine_eq]; decide), fun r hr => ?_⟩
  have gg := g.trans g3
  have hkn : Hk3 r = none := o3.a.free hr
  have hb : B0 r = none := by
    cases e : B0 r with
    | none => rfl
    | some u => exact absurd hr ((s.gr.trans gg).t r (by rw [e]; exact fun z => by cases z))
  have nq : q ≠ some r := fun e => (o3.j r e).ne hr
  have gc : Gr q Hk H1 Hk3 (upd H3 r (.lst (List.replicate m.toNat xs).flatten)) := gg.trans (Gr.cell o3.a hr)
  exact k r Hk3 _ gc ⟨o3.cell hkn nq, (s.sg.mono gg.k).set i (s := .adr r) rfl, s.gr.trans gc⟩ ⟨hkn, nq, hb, _, upd_same, hall _⟩
end
end Cr

set_option Elab.async false
set_option linter.all false
set_option maxRecDepth 100000
set_option maxHeartbeats 1000000
namespace Cr
open PySem PySem.Spec PyProof.Rows L2
/-! ### enumerate(v) of a tuple -/
theorem enumNew1 {v : Value} {cell : Obj} {G : Heap → Prop} (B : Begins v cell G) :
    Meets (Builtin.«enumerate.__new__» ⟨[.type "enumerate", v], []⟩) (fun _ R t => G t.heap ∧
      R (.ok (.ret (.ref (t.heap.push cell).objs.size))) { t with heap := (t.heap.push cell).push { cls := .type "enumerate", data := .fields #[.none, .bool false, .ref t.heap.objs.size, rawInt 0, .none, .none] } }) :=
  .of_wp fun prog w A R t hh => by
    obtain ⟨hp, gs, ds, tks, os⟩ := t
    obtain ⟨hG, hh⟩ := hh
    have sub1 := sub_enumerate
    have go : ∀ {A2 : Around} {E2 : Value → Shared → Prop} {Q2 : Value → Shared → Prop}, Q2 (.ref hp.objs.size) ⟨hp.push cell, gs, ds, tks, os⟩ → wpAny (model prog w) A2 (pyIter v) Q2 E2 ⟨hp, gs, ds, tks, os⟩ :=
      fun z => B.iter prog w _ _ ⟨hp, gs, ds, tks, os⟩ _ hG z
    wp_walk using go
    refine wpAny_stack_any fun fr => wpAny_pure ?_
    split
    · rename_i cc _ _ _ _ _
      cases (cc == Value.type "enumerate")
      · wp_walk using go
        exact ⟨_, rfl, hh⟩
      · wp_walk using go
        exact ⟨_, rfl, hh⟩
    · wp_walk using go
      exact ⟨_, rfl, hh⟩
theorem callEnum1 {prog : Program} {w : World} {A : Around} {E : Value → Shared → Prop} {t : Shared} {v : Value} {cell : Obj} {G : Heap → Prop} {Q : Value → Shared → Prop} (B : Begins v cell G) (hG : G t.heap)
    (h : ∀ h', IsEnum h' (t.heap.objs.size + 1) t.heap.objs.size 0 .none → h'.get? t.heap.objs.size = some cell → h'.objs.size = t.heap.objs.size + 2 →
      (∀ b u, t.heap.get? b = some u → h'.get? b = some u) → Q (.ref (t.heap.objs.size + 1)) { t with heap := h' }) : wpAny (model prog w) A (call (.type "enumerate") [v]) Q E t := by
  refine callType_new F.called_enumerate (by decide) (F.typeCall_enumerate_1 _) (F.newCall_enumerate_1 _) (fun ob => F.args_object_init_2 ob _) F.entry_enumerate_new (enumNew1 B) ⟨hG, ?_⟩
  have sz : (t.heap.push cell).objs.size = t.heap.objs.size + 1 := Heap.size_push ..
  show _ ∧ _
  rw [sz]
  have ie : IsEnum ((t.heap.push cell).push { cls := .type "enumerate", data := .fields #[.none, .bool false, .ref t.heap.objs.size, rawInt 0, .none, .none] }) (t.heap.objs.size + 1) t.heap.objs.size 0 .none := by
    have z := Heap.get?_push_size (t.heap.push cell) (o := { cls := .type "enumerate", data := .fields #[.none, .bool false, .ref t.heap.objs.size, rawInt 0, .none, .none] }) rfl
    rw [sz] at z
    exact z
  exact ⟨⟨_, ie, rfl⟩, h _ ie (Heap.get?_push_of_some _ (Heap.get?_push_size _ B.free)) (by rw [Heap.size_push, sz]) fun b u z => Heap.get?_push_of_some _ (Heap.get?_push_of_some _ z)⟩
def IteT (K : PySem.W.Frag) (a : Addr) : It :=
  ⟨fun i H => ∃ (xs : List V) (x : V), SqT K H a xs ∧ xs[i]? = some x,
   fun i H v H' => ∃ T x, v = .ref T ∧ H T = none ∧ H' = upd H T (.tup [.int (i : Nat), x]) ∧ ∀ xs, SqT K H a xs → xs[i]? = some x,
   fun i H => ∃ xs : List V, SqT K H a xs ∧ xs.length ≤ i⟩
theorem turnEnumT {P : Program} {w : World} {K : PySem.W.Frag} {elts : List Expr} {kk : Nat} {tpos : Pos} (a e it : Addr) :
    Turn P w K (.Tuple elts kk tpos) (IteT K a) [e, it] e (fun i h => (∃ old, IsEnum h e it ((i : Nat) : Int) old) ∧ h.IsTupleIter it a i ∧ e ≠ it) where
  mem := by simp
  obj := fun i h st b hb => by
    obtain ⟨⟨old, he⟩, ⟨ob, ho, hc, hd⟩, _⟩ := st
    rcases (show b = e ∨ b = it by simpa using hb) with z | z
    · subst z; exact ⟨_, he, fun v y => nomatch y⟩
    · subst z; exact ⟨ob, ho, fun v y => by rw [hd] at y; cases y⟩
  keep := fun i h h' st k => by
    obtain ⟨⟨old, he⟩, hi, hne⟩ := st
    exact ⟨⟨old, k e (by simp) _ he⟩, hi.at fun ob y => k it (by simp) ob y, hne⟩
  item := by
    intro X hP hw hK hc i pins t σ H E I hf st hg
    subst hP hw hK
    obtain ⟨⟨old, he⟩, hit, hne⟩ := st
    obtain ⟨xs, x, hq, hx⟩ := hg
    obtain ⟨its, rv, p, hz⟩ := I.tuple hq
    obtain ⟨u, hu, ru⟩ := rv.get hx
    have le1 : e < t.heap.objs.size := Heap.lt_size he
    have le2 : it < t.heap.objs.size := by obtain ⟨_, y, _⟩ := hit; exact Heap.lt_size y
    have nai : a ≠ it := fun z => by
      subst z
      obtain ⟨o1, y1, _, d1⟩ := hit
      obtain ⟨o2, y2, _, _, d2⟩ := p
      rw [y1] at y2; cases y2
      rw [d1] at d2; cases d2
    have nae : e ≠ a := fun z => by
      subst z
      obtain ⟨o2, y2, c2, _, d2⟩ := p
      have y1 := he
      unfold IsEnum at y1
      rw [y2] at y1; cases y1
      cases d2
    have lt : i < its.toArray.size := by
      have z := (List.getElem?_eq_some_iff.mp hu).1
      simpa using z
    refine wpAny_pyNext_enum_itemD (Draws.tuple (prog := X.prog) (w := X.w) (A := X.A.in1) (I.ok.hd hc) it a nai its.toArray) he ⟨hit, p⟩ lt hne (by simp [hne, nae]) fun y h' tk hy ho' st' hT hsz hk => ?_
    have ey : y = u := by
      have z : its[i]? = some y := by simpa using hy
      rw [hu] at z; exact (Option.some.inj z).symm
    subst ey
    refine ⟨_, rfl, wpAny_letOwnedTupleGo_enum (s := { t with heap := h', toks := tk + 1 }) ho' fun h2 he2 sb => ?_⟩
    have hT2 : h2.get? t.heap.objs.size = some { cls := .type "tuple", data := .seq #[.int i tk, y] } := (sb.2 _ (Nat.ne_of_gt le1)).trans hT
    have new : ObjOk X.prog X.w (upd H t.heap.objs.size (.tup [.int (i : Nat), x])) h2 t.heap.objs.size (.tup [.int (i : Nat), x]) :=
      ⟨by show 2 ≤ sizeLine; decide, [.int i tk, y], .cons ⟨_, rfl⟩ (.cons ru .nil), ⟨_, hT2, rfl, _, rfl⟩⟩
    have I1 : Inv X pins σ (upd H t.heap.objs.size (.tup [.int (i : Nat), x])) { t with heap := h2, toks := tk + 1 } :=
      I.turnedNew (ch := [e, it]) (fun b ob hb z => (sb.2 b (fun w => hb (by simp [w]))).trans (hk b ob (fun w => hb (by simp [w])) (fun w => hb (by simp [w])) z)) hf (Nat.le_refl _) new
    refine ⟨.ref t.heap.objs.size, _, I1, rfl, ⟨_, x, rfl, I.hok.fresh (Nat.le_refl _), rfl, fun zs hzs => ?_⟩, ⟨⟨y, ?_⟩, st'.1.at fun ob z => (sb.2 it (Ne.symm hne)).trans z, hne⟩, fun b hb => ?_⟩
    · rw [I.tuple_inj hzs hq]; exact hx
    · have e1 : ((i + 1 : Nat) : Int) = (i : Int) + 1 := by omega
      rw [e1]; exact he2
    · rcases (show b = e ∨ b = it by simpa using hb) with z | z
      · rw [upd_ne (by rw [z]; exact Nat.ne_of_lt le1)]; exact (hf b hb).1
      · rw [upd_ne (by rw [z]; exact Nat.ne_of_lt le2)]; exact (hf b hb).1
  done := by
    intro X hP hw hK hc i pins t σ H E I hf st hg
    subst hP hw hK
    obtain ⟨⟨old, he⟩, hit, hne⟩ := st
    obtain ⟨xs, hq, hx⟩ := hg
    obtain ⟨its, rv, p, hz⟩ := I.tuple hq
    obtain ⟨f0, f1, f2, f3, f4, f5⟩ := hf it (by simp)
    have hl := rv.length
    have D2 : Draws X.prog X.w X.A.in1 it [it, a] i (fun _ _ => False) (fun j h => j = i ∧ h.IsTupleIter it a i ∧ h.IsTuple a its.toArray) :=
      { live := fun _ _ st => by obtain ⟨_, ⟨ob, ho, _⟩, _⟩ := st; exact ⟨ob, ho⟩,
        frame := fun _ _ _ st k => ⟨st.1, st.2.1.at fun ob z => k it (by simp) ob z, st.2.2.at fun ob z => k a (by simp) ob z⟩,
        item := fun j s Q E lt st _ => absurd st.1 (Nat.ne_of_lt lt),
        done := fun s Q E st hE => wpAny_nextOf_tuple_end (I.ok.hd hc) st.2.1 st.2.2 (by simp; omega) hE }
    exact wpAny_pyNext_enum_endD D2 he ⟨rfl, hit, p⟩ fun h' eb => ⟨rfl, I.turned (t' := t.toks) (fun b o hb z => eb b o hb z) f0 f1 f3 f4 f5⟩
  self := fun A i t Q E st h => by
    obtain ⟨⟨_, he⟩, _⟩ := st
    exact wpAny_pyIter_enum he h
def iEnumT (K : PySem.W.Frag) (ta : TA) : TI := fun σ H R => ta σ H fun vs H1 => ∃ a xs, vs = [.ref a] ∧ SqT K H1 a xs ∧ R (IteT K a) H1
theorem pi_enumT {X : Cx} {K : PySem.W.Frag} {e : Expr} {ta : TA} {p pos tpos : Pos} {elts : List Expr} {kk : Nat} (hK : X.K = K) (hg : Gl X "enumerate") (hm : X.mg "enumerate" = none) (ha : PA X [e] ta) (hs : starEach [e] X.env = [(false, eval e X.env)] := by rfl) :
    PI X (.Tuple elts kk tpos) (.Call (.Name "enumerate" p) [e] [] pos) (iEnumT K ta) := by
  subst hK
  refine ⟨fun pins t σ H R I h => Call_ (ld_blt I hg hm boot_enumerate (PyProof.Rows.callWith_type1 (thn (ha.run pos pins t σ H _ I h) fun us t1 ⟨vs, H1, I1, r1, q1⟩ => ?_) hs rfl))⟩
  obtain ⟨a, xs, ex, hq, q⟩ := q1
  subst ex
  obtain ⟨u, rfl, ru⟩ := vals1 r1
  obtain rfl : u = Value.ref a := ru
  obtain ⟨its, rv, p2, hz⟩ := I1.tuple hq
  refine callEnum1 (begins_tuple a its.toArray) p2 fun h' he hit hsz hk => wpAny_pyIter_enum he ?_
  refine ⟨t1.heap.objs.size + 1, [t1.heap.objs.size + 1, t1.heap.objs.size], _, _, H1, rfl, I1.kept (t' := t1.toks) hk, turnEnumT a (t1.heap.objs.size + 1) t1.heap.objs.size, ⟨⟨.none, he⟩, ⟨_, hit, rfl, rfl⟩, Nat.succ_ne_self _⟩, fun b hb => ?_, q⟩
  have le : t1.heap.objs.size ≤ b := by
    rcases (show b = t1.heap.objs.size + 1 ∨ b = t1.heap.objs.size by simpa using hb) with z | z
    · rw [z]; exact Nat.le_add_right _ _
    · rw [z]; exact Nat.le_refl _
  exact I1.fpOk le (I1.hok.fresh le)
section
variable {K : PySem.W.Frag} {q : Option Addr} {δ : List Sl} {te : TE}
/-- the items: pairs of index and item -/
def enumD (ds : List PyData) : List PyData := (List.range ds.length).zipWith (fun i d => .tuple [.int (i : Nat), d]) ds
theorem enumD_get {ds : List PyData} {i : Nat} {d : PyData} (h : ds[i]? = some d) : (enumD ds)[i]? = some (.tuple [.int (i : Nat), d]) := by
  unfold enumD
  have hi : i < ds.length := (List.getElem?_eq_some_iff.mp h).1
  rw [List.getElem?_zipWith, List.getElem?_range hi, h]
theorem enumD_len (ds : List PyData) : (enumD ds).length = ds.length := by
  unfold enumD
  rw [List.length_zipWith, List.length_range, Nat.min_self]
theorem walk_enumT {H : Hp} {a : Addr} {xs : List V} {ds : List PyData} {fs : List PyData} (h : Tp H a xs fs) (hd : DqAll H xs ds) : WalkD (IteT K a) (enumD ds) H := fun i Hk H' s1 s2 => by
  have e := ((h.mono s1).mono s2).rd
  rw [enumD_len]
  refine ⟨fun hi => ⟨⟨xs, xs[i]'(by rw [hd.length]; exact hi), .inl e, List.getElem?_eq_getElem _⟩, fun v H2 y => ?_⟩, fun hi => ⟨xs, .inl e, by rw [hd.length]; exact hi⟩⟩
  obtain ⟨T, x, rfl, hT, rfl, y2⟩ := y
  obtain ⟨d, g1, g2⟩ := hd.get' (y2 xs (.inl e))
  have g := Gr.new (q := none) (o := .tup [.int (i : Nat), x]) s2 hT
  exact ⟨_, g, _, enumD_get g1, .tup (.inr ⟨rfl, upd_same⟩) (.cons (.int _) (.cons (Dq.mono (s1.trans g.k) _ _ g2) .nil))⟩
theorem ie_enumT {ds : List PyData} (h : E q δ te (.tuple ds)) : IE q δ (iEnumT K (tCons te tNil)) (enumD ds) := fun σ H H1 n sg o R k =>
  h σ H H1 n sg o _ fun d v Hk H2 g o1 ed dv => by
    subst ed
    obtain ⟨a, xs, rfl, h1, h2⟩ := dv.tupOf
    exact ⟨a, xs, rfl, .inl (h1.mono g.a).rd, k _ _ Hk H2 g o1 rfl (walk_enumT h1 h2)⟩
end
end Cr

set_option Elab.async false
set_option linter.all false
set_option maxRecDepth 100000
set_option maxHeartbeats 1000000
namespace Cr
open PySem PySem.Spec PyProof.Rows L2
/-! ### t[::-1] of a tuple -/
theorem revPlaces (n : Nat) : Builtin.Slice.slicePlaces ((n : Int) - 1) (-1) (-1) = n := by
  unfold Builtin.Slice.slicePlaces
  rw [if_neg (by omega)]
  by_cases h : n = 0
  · subst h; rfl
  · rw [if_pos (by omega)]
    have e : ((n : Int) - 1 - -1 - 1) / (- -1) = (n : Int) - 1 := by
      rw [show (- -1 : Int) = 1 from rfl, Int.ediv_one]; omega
    rw [e]; omega
theorem fm_congr {α β : Type} {f g : α → Option β} : ∀ {l : List α}, (∀ x ∈ l, f x = g x) → l.filterMap f = l.filterMap g
  | [], _ => rfl
  | x :: l, h => by
    rw [List.filterMap_cons, List.filterMap_cons, h x (by simp), fm_congr fun y hy => h y (by simp [hy])]
theorem fm_some {α β : Type} (g : α → β) : ∀ l : List α, l.filterMap (fun x => some (g x)) = l.map g
  | [] => rfl
  | x :: l => by rw [List.filterMap_cons, fm_some g l]; rfl
theorem revPick (xs : Array Value) : ((List.range xs.size).filterMap fun (m : Nat) => xs[((xs.size : Int) - 1 + (m : Int) * -1).toNat]?).toArray = xs.toList.reverse.toArray := by
  congr 1
  have h : ∀ m ∈ List.range xs.size, (fun (m : Nat) => xs[((xs.size : Int) - 1 + (m : Int) * -1).toNat]?) m = (fun m => some (xs.toList.reverse.getD m .none)) m := fun m hm => by
    have hm' := List.mem_range.mp hm
    have e : ((xs.size : Int) - 1 + (m : Int) * -1).toNat = xs.size - 1 - m := by omega
    show xs[((xs.size : Int) - 1 + (m : Int) * -1).toNat]? = some (xs.toList.reverse.getD m .none)
    rw [e, List.getD_eq_getElem?_getD, List.getElem?_reverse (by simpa using hm')]
    have hx : xs.size - 1 - m < xs.size := by omega
    simp [hx]
  rw [fm_congr h, fm_some]
  refine List.ext_getElem? fun i => ?_
  rw [List.getElem?_map]
  by_cases hi : i < xs.size
  · rw [List.getElem?_range hi]
    have z : i < xs.toList.reverse.length := by simpa using hi
    simp [List.getD_eq_getElem?_getD, z]
    rw [List.getElem?_eq_getElem z]; rfl
  · rw [List.getElem?_eq_none (by simpa using hi), List.getElem?_eq_none (by simpa using hi)]
    rfl
section
variable {prog : Program} {w : World} {A : Around} {E : Value → Shared → Prop} {s : Shared}
theorem revApplied {sl : Addr} {vl vu vs : Value} {n : Nat} {Q : Int × Int × Nat → Shared → Prop} (hs : s.heap.IsSliceOf sl vl vu vs) (pl : IsPart vl none) (pu : IsPart vu none) (ps : IsPart vs (some (-1)))
    (h : Q ((n : Int) - 1, -1, n) s) : wpAny (model prog w) A (Builtin.Slice.sliceApplied (.ref sl) (pure (n : Int))) Q E s := by
  obtain ⟨ob, ho, hc, hd⟩ := id hs
  unfold Builtin.Slice.sliceApplied Builtin.Slice.sliceFields
  refine wpAny_bind (wpAny_bind (wpAny_field ho hd (x := vl) rfl (wpAny_bind (wpAny_field ho hd (x := vu) rfl (wpAny_bind (wpAny_field ho hd (x := vs) rfl (wpAny_pure ?_)))))))
  refine wpAny_bind (HT.slicePart_ ps ?_)
  show wpAny _ _ (if ((-1 : Int) == 0) = true then _ else _) _ _ s
  rw [if_neg (by decide)]
  refine wpAny_bind (HT.slicePart_ pl (wpAny_bind (HT.slicePart_ pu (wpAny_bind (wpAny_pure ?_)))))
  show wpAny _ _ (pure ((n : Int) - 1, (-1 : Int), Builtin.Slice.slicePlaces ((n : Int) - 1) (-1) (-1))) _ _ s
  rw [revPlaces]
  exact wpAny_pure h
theorem getTupRev {t sl : Addr} {items : Array Value} {vl vu vs : Value} {Q : Value → Shared → Prop} (ht : IsTup s.heap t items) (hs : s.heap.IsSliceOf sl vl vu vs) (pl : IsPart vl none) (pu : IsPart vu none) (ps : IsPart vs (some (-1)))
    (h : Q (.ref s.heap.objs.size) { s with heap := s.heap.push { cls := .type "tuple", data := .seq items.toList.reverse.toArray } }) (hz : items.size ≤ sizeLine) : wpAny (model prog w) A (getItem (.ref t) (.ref sl)) Q E s := by
  have room : sizeOk (.seq items.toList.reverse.toArray) := by
    show items.toList.reverse.toArray.size ≤ sizeLine
    simpa using hz
  obtain ⟨ob, ho, hc, hd⟩ := id hs
  have isSl : s.TypeIs (.ref sl) "slice" := ⟨ob, ho, hc⟩
  unfold getItem
  try with_reducible refine wpAny_holding ?_
  first | refine wpAny_bind (wpAny_pure ?_) | skip
  refine wpAny_bind (wpAny_sequenceKey ht.typeIs (by decide) ?_)
  refine wpAny_bind (wpAny_callSpecial?_slot (name := Str.ofString "__getitem__") ht.typeIs PyProof.Rows.slot_tuple_getitem (wpAny_call_entry PyProof.Rows.slot_tuple_getitem ht.typeIs entry_tuple_getitem ?_ (args_tuple_getitem _ _)))
  show wpAny _ _ (Builtin.Tuple.tupleItemsOf (.ref t) >>= _) _ _ s
  refine wpAny_bind (PyProof.Rows.tupleItemsOf_ ht (wpAny_bind (wpAny_typeOf isSl ?_)))
  rw [if_pos (by decide)]
  refine wpAny_bind (revApplied hs pl pu ps ?_)
  have no : ¬ ((((items.size : Int) - 1) == 0 && (-1 : Int) == 1 && items.size == items.size) = true) := by
    intro z
    rw [Bool.and_eq_true, Bool.and_eq_true] at z
    exact absurd z.1.2 (by decide)
  show wpAny _ _ (if (((items.size : Int) - 1) == 0 && (-1 : Int) == 1 && items.size == items.size) = true then _ else _) _ _ s
  rw [if_neg no, revPick]
  first
    | exact wpAny_bind (m := Builtin.Tuple.tupleExact _) (wpAny_newObj_type (wpAny_pure ⟨_, rfl, wpAny_pure h⟩) room)
    | exact wpAny_bind (m := Builtin.Tuple.tupleExact _) (wpAny_newObj_type (wpAny_bind (wpAny_pure (wpAny_pure ⟨_, rfl, wpAny_pure h⟩))) room)
    | exact wpAny_bind (wpAny_bind (m := Builtin.Tuple.tupleExact _) (wpAny_newObj_type (wpAny_pure (wpAny_pure ⟨_, rfl, wpAny_pure h⟩)) room))
    | exact wpAny_bind (wpAny_bind (m := Builtin.Tuple.tupleExact _) (wpAny_newObj_type (wpAny_pure ⟨_, rfl, wpAny_pure h⟩) room))
end
def tRevT (K : PySem.W.Frag) (te : TE) : TE := fun σ H Q => te σ H fun x H1 => ∃ a xs, x = .ref a ∧ SqT K H1 a xs ∧ LaidT H1 xs.reverse Q
theorem pe_revT {X : Cx} {K : PySem.W.Frag} {e : Expr} {te : TE} {k : Nat} {p1 p2 p3 pos : Pos} (hK : X.K = K) (he : PE X e te) : PE X (.Subscript e (.Slice none none (some (.UnaryOp .USub (.Constant (.int 1) k p1) p2)) p3) pos) (tRevT K te) := by
  subst hK
  refine ⟨fun pins s σ H Q I h => Subscript_ (thn (he.run pins s σ H _ I h) fun v s1 ⟨x, H1, I1, r1, a, xs, ex, hx, q⟩ => ?_)⟩
  subst ex
  obtain rfl : v = Value.ref a := r1
  have step : PO X (some (.UnaryOp .USub (.Constant (.int 1) k p1) p2)) (tPart (tUn (rU fun i => .int (-i)) (tC (.int 1)))) := po_some (pe_un un_neg pe_int)
  refine wpAny_Slice (thn (po_none.run pins s1 σ H1 (fun o H2 => o = none ∧ H2 = H1) I1 ⟨rfl, rfl⟩) fun vl s2 ⟨l, H2, I2, pl, el, e2⟩ => ?_)
  subst el; subst e2
  refine thn (po_none.run pins s2 σ H2 (fun o H3 => o = none ∧ H3 = H2) I2 ⟨rfl, rfl⟩) fun vu s3 ⟨u, H3, I3, pu, eu, e3⟩ => ?_
  subst eu; subst e3
  refine thn (step.run pins s3 σ H3 (fun o H4 => o = some (-1) ∧ H4 = H3) I3 ⟨1, rfl, -1, rfl, rfl, rfl⟩) fun vs s4 ⟨o, H4, I4, ps, eo, e4⟩ => ?_
  subst eo; subst e4
  have I5 : Inv X pins σ H4 { s4 with heap := s4.heap.push { cls := .type "slice", data := .fields #[vl, vu, vs] } } := I4.kept (t' := s4.toks) fun b ob z => Heap.get?_push_of_some _ z
  obtain ⟨its, r, ht, hz⟩ := I5.tuple hx
  have hlen := r.length
  show wpAny (model X.prog X.w) X.A (subscriptTail e (.Slice none none (some (.UnaryOp .USub (.Constant (.int 1) k p1) p2)) p3) (.ref a) (.ref s4.heap.objs.size)) (EP X pins σ Q) X.xe { s4 with heap := s4.heap.push { cls := .type "slice", data := .fields #[vl, vu, vs] } }
  refine tail_any (ops := [.ref a, .ref s4.heap.objs.size]) ht.typeIs PyProof.Rows.slot_tuple_getitem.lookup (getTupRev ht (Heap.IsSliceOf.new _ vl vu vs) pl pu ps ?_ (by rw [List.size_toArray]; omega)) (by with_unfolding_all rfl)
  exact laidT I5 r.reverse (by rw [List.length_reverse]; exact hz) q
section
variable {K : PySem.W.Frag} {q : Option Addr} {δ : List Sl} {te : TE}
theorem DqAll.reverse {H : Hp} : ∀ {vs : List V} {ds : List PyData}, DqAll H vs ds → DqAll H vs.reverse ds.reverse
  | [], _, h => by cases h; exact .nil
  | v :: vs, _, h => by
    cases h with
    | cons h1 h2 => rw [List.reverse_cons, List.reverse_cons]; exact (DqAll.reverse h2).append (.cons h1 .nil)
theorem e_revT {ds : List PyData} (h : E q δ te (.tuple ds)) : E q δ (tRevT K te) (.tuple ds.reverse) := fun σ H H1 n sg o Q k =>
  h σ H H1 n sg o _ fun d v Hk H2 g o1 ed dv => by
    subst ed
    obtain ⟨a, xs, rfl, h1, h2⟩ := dv.tupOf
    refine ⟨a, xs, rfl, .inl (h1.mono g.a).rd, fun p ob od hp => ?_⟩
    have g1 := Gr.new (q := none) (o := .frz ob (.tup xs.reverse)) g.a hp
    exact k _ _ _ _ (g.trans g1.none_to) (o1.go g1) rfl (.tup (Tp.new od) (DqAll.mono g1.k _ _ h2.reverse))
end
end Cr

set_option Elab.async false
set_option linter.all false
set_option maxRecDepth 100000
set_option maxHeartbeats 800000
namespace Cr
open PySem PySem.Spec PyProof.Rows L2
/-! ### polynomials: coefficients by their indexes -/
def enF : Nat → List Int → List (Int × Int)
  | _, [] => []
  | k, a :: f => ((k : Int), a) :: enF (k + 1) f
abbrev en (f : List Int) : List (Int × Int) := enF 0 f
def evalP (f : List Int) (x : Int) : Int := f.foldr (fun a r => r * x + a) 0
def pw (x : Int) (k : Int) : Int := x ^ k.toNat
theorem enF_mem : ∀ {f : List Int} {k : Nat} {y : Int × Int}, y ∈ enF k f → (k : Int) ≤ y.1 ∧ y.1 < (k : Int) + f.length
  | [], _, _, h => by cases h
  | a :: f, k, y, h => by
    rcases List.mem_cons.mp h with e | e
    · subst e; simp; omega
    · have z := enF_mem e
      rw [List.length_cons]
      omega
theorem wsum_enF (x : Int) : ∀ (f : List Int) (k : Nat), wsum (pw x) (enF k f) = x ^ k * evalP f x
  | [], k => by show (0 : Int) = x ^ k * 0; rw [Int.mul_zero]
  | a :: f, k => by
    show a * pw x (k : Int) + wsum (pw x) (enF (k + 1) f) = x ^ k * (evalP f x * x + a)
    rw [wsum_enF x f (k + 1)]
    unfold pw
    rw [Int.toNat_natCast, Int.pow_succ, Int.mul_add, Int.mul_comm a, Int.mul_assoc, Int.mul_comm x (evalP f x)]
    omega
theorem tot_enF : ∀ (f : List Int) (k n : Nat), tot (enF k f) ((k + n : Nat) : Int) = f.getD n 0
  | [], k, n => by simp [enF, tot]
  | a :: f, k, 0 => by
    show (if (k : Int) = ((k + 0 : Nat) : Int) then a else 0) + tot (enF (k + 1) f) ((k + 0 : Nat) : Int) = a
    rw [if_pos (by omega), tot_no fun h => by
      obtain ⟨y, hy, e⟩ := List.mem_map.mp h
      have z := (enF_mem hy).1
      omega]
    omega
  | a :: f, k, n + 1 => by
    show (if (k : Int) = ((k + (n + 1) : Nat) : Int) then a else 0) + tot (enF (k + 1) f) ((k + (n + 1) : Nat) : Int) = f.getD n 0
    rw [if_neg (by omega), show k + (n + 1) = (k + 1) + n by omega, tot_enF f (k + 1) n]
    omega
theorem pw_add {x i j : Int} (hi : 0 ≤ i) (hj : 0 ≤ j) : pw x (i + j) = pw x i * pw x j := by
  unfold pw
  rw [show (i + j).toNat = i.toNat + j.toNat by omega, Int.pow_add]
/-- products, keys from 0 on -/
theorem wsum_prodN (x : Int) {a b : List (Int × Int)} (ha : ∀ y ∈ a, 0 ≤ y.1) (hb : ∀ y ∈ b, 0 ≤ y.1) : wsum (pw x) (prodL a b) = wsum (pw x) a * wsum (pw x) b := by
  have sh : ∀ (y : Int × Int), 0 ≤ y.1 → ∀ b : List (Int × Int), (∀ z ∈ b, 0 ≤ z.1) → wsum (pw x) (b.map fun z => (y.1 + z.1, y.2 * z.2)) = y.2 * pw x y.1 * wsum (pw x) b := fun y hy b => by
    induction b with
    | nil => intro _; show (0 : Int) = _ * 0; rw [Int.mul_zero]
    | cons z b ih =>
      intro hb
      show y.2 * z.2 * pw x (y.1 + z.1) + wsum (pw x) (b.map fun z => (y.1 + z.1, y.2 * z.2)) = y.2 * pw x y.1 * (z.2 * pw x z.1 + wsum (pw x) b)
      rw [ih fun w hw => hb w (by simp [hw]), pw_add hy (hb z (by simp)), Int.mul_add]
      congr 1
      rw [Int.mul_assoc, Int.mul_assoc, Int.mul_left_comm z.2]
  induction a with
  | nil => show (0 : Int) = 0 * _; rw [Int.zero_mul]
  | cons y a ih =>
    show wsum (pw x) ((b.map fun z => (y.1 + z.1, y.2 * z.2)) ++ prodL a b) = (y.2 * pw x y.1 + wsum (pw x) a) * wsum (pw x) b
    rw [wsum_append, ih fun w hw => ha w (by simp [hw]), Int.add_mul, sh y (ha y (by simp)) b hb]
/-- one step of both loops -/
def addAt (r : List Int) (k : Nat) (c : Int) : List Int := r.set k (r.getD k 0 + c)
def addOps : List Int → List (Nat × Int) → List Int
  | r, [] => r
  | r, o :: os => addOps (addAt r o.1 o.2) os
theorem addAt_len (r : List Int) (k : Nat) (c : Int) : (addAt r k c).length = r.length := List.length_set ..
theorem addOps_len : ∀ (os : List (Nat × Int)) (r : List Int), (addOps r os).length = r.length
  | [], _ => rfl
  | o :: os, r => by
    show (addOps (addAt r o.1 o.2) os).length = _
    rw [addOps_len os, addAt_len]
theorem addAt_get {r : List Int} {k : Nat} {c : Int} (hk : k < r.length) (n : Nat) : (addAt r k c).getD n 0 = r.getD n 0 + if (k : Int) = (n : Int) then c else 0 := by
  unfold addAt
  rw [List.getD_eq_getElem?_getD, List.getD_eq_getElem?_getD]
  by_cases h : k = n
  · subst h
    rw [List.getElem?_set_self hk, if_pos rfl]
    simp [List.getD_eq_getElem?_getD]
  · rw [List.getElem?_set_ne h, if_neg (by omega), Int.add_zero]
    simp [List.getD_eq_getElem?_getD]
theorem addOps_get : ∀ (os : List (Nat × Int)) {r : List Int}, (∀ o ∈ os, o.1 < r.length) → ∀ n : Nat, (addOps r os).getD n 0 = r.getD n 0 + tot (os.map fun o => ((o.1 : Int), o.2)) n
  | [], r, _, n => by show r.getD n 0 = r.getD n 0 + 0; omega
  | o :: os, r, h, n => by
    show (addOps (addAt r o.1 o.2) os).getD n 0 = r.getD n 0 + ((if (o.1 : Int) = (n : Int) then o.2 else 0) + tot (os.map fun o => ((o.1 : Int), o.2)) n)
    rw [addOps_get os (fun p hp => by rw [addAt_len]; exact h p (by simp [hp])) n, addAt_get (h o (by simp))]
    omega
theorem evalP_wsum (f : List Int) (x : Int) : evalP f x = wsum (pw x) (en f) := by
  rw [wsum_enF, Int.pow_zero, Int.one_mul]
def opsOf (f g : List Int) : List (Nat × Int) := (List.range f.length).flatMap fun i => (List.range g.length).map fun j => (i + j, f.getD i 0 * g.getD j 0)
/-- what both loops make -/
def conv (f g : List Int) : List Int := addOps (List.replicate (f.length + g.length - 1) 0) (opsOf f g)
theorem enF_range : ∀ (f : List Int) (k : Nat), enF k f = (List.range f.length).map fun i => (((k + i : Nat) : Int), f.getD i 0)
  | [], k => rfl
  | a :: f, k => by
    rw [List.length_cons, List.range_succ_eq_map, List.map_cons, List.map_map]
    show ((k : Int), a) :: enF (k + 1) f = (((k + 0 : Nat) : Int), a) :: _
    rw [enF_range f (k + 1)]
    congr 1
    exact List.map_congr_left fun i _ => by
      show (((k + 1 + i : Nat) : Int), f.getD i 0) = (((k + (i + 1) : Nat) : Int), f.getD i 0)
      rw [show k + 1 + i = k + (i + 1) by omega]
theorem ops_prod (f g : List Int) : (opsOf f g).map (fun o => ((o.1 : Int), o.2)) = prodL (en f) (en g) := by
  unfold opsOf prodL en
  rw [enF_range f 0, enF_range g 0, List.map_flatMap, List.flatMap_map]
  congr 1
  funext i
  rw [List.map_map, List.map_map]
  exact List.map_congr_left fun j _ => by
    show (((i + j : Nat) : Int), f.getD i 0 * g.getD j 0) = (((0 + i : Nat) : Int) + ((0 + j : Nat) : Int), f.getD i 0 * g.getD j 0)
    rw [show ((i + j : Nat) : Int) = ((0 + i : Nat) : Int) + ((0 + j : Nat) : Int) by omega]
theorem ops_lt (f g : List Int) : ∀ o ∈ opsOf f g, o.1 < f.length + g.length - 1 := fun o ho => by
  unfold opsOf at ho
  obtain ⟨i, hi, h⟩ := List.mem_flatMap.mp ho
  obtain ⟨j, hj, rfl⟩ := List.mem_map.mp h
  have h1 := List.mem_range.mp hi
  have h2 := List.mem_range.mp hj
  show i + j < _
  omega
theorem conv_len (f g : List Int) : (conv f g).length = f.length + g.length - 1 := by
  unfold conv
  rw [addOps_len, List.length_replicate]
theorem conv_get (f g : List Int) (n : Nat) : (conv f g).getD n 0 = tot (prodL (en f) (en g)) n := by
  unfold conv
  rw [addOps_get _ (fun o ho => by rw [List.length_replicate]; exact ops_lt f g o ho), ops_prod]
  have z : (List.replicate (f.length + g.length - 1) (0 : Int)).getD n 0 = 0 := by
    rw [List.getD_eq_getElem?_getD, List.getElem?_replicate]
    split <;> rfl
  rw [z]; omega
theorem conv_comm (f g : List Int) : conv f g = conv g f := by
  refine List.ext_getElem (by rw [conv_len, conv_len]; omega) fun n h1 h2 => ?_
  have e1 := conv_get f g n
  have e2 := conv_get g f n
  rw [List.getD_eq_getElem?_getD, List.getElem?_eq_getElem h1] at e1
  rw [List.getD_eq_getElem?_getD, List.getElem?_eq_getElem h2] at e2
  have z := tot_prod_comm (en f) (en g) n
  exact (show (conv f g)[n] = _ from e1).trans (z.trans (show _ = (conv g f)[n] from e2.symm))
theorem ksum_congr (φ f g : Int → Int) : ∀ {S : List Int}, (∀ k ∈ S, f k = g k) → ksum φ f S = ksum φ g S
  | [], _ => rfl
  | k :: S, h => by
    show f k * φ k + ksum φ f S = g k * φ k + ksum φ g S
    rw [h k (by simp), ksum_congr φ f g fun j hj => h j (by simp [hj])]
theorem upto_sorted (N : Nat) : ((List.range N).map fun i => ((i : Nat) : Int)).Pairwise (· < ·) := by
  rw [List.pairwise_map]
  exact List.pairwise_lt_range.imp fun h => by omega
theorem upto_mem {N : Nat} {k : Int} (h0 : 0 ≤ k) (h1 : k < (N : Int)) : k ∈ (List.range N).map fun i => ((i : Nat) : Int) :=
  List.mem_map.mpr ⟨k.toNat, List.mem_range.mpr (by omega), by omega⟩
theorem conv_val (f g : List Int) (x : Int) : evalP (conv f g) x = evalP f x * evalP g x := by
  rw [evalP_wsum, evalP_wsum f, evalP_wsum g, ← wsum_prodN x (fun y hy => by have := (enF_mem hy).1; omega) (fun y hy => by have := (enF_mem hy).1; omega)]
  have hS := upto_sorted (f.length + g.length - 1)
  rw [wsum_keys (pw x) hS (en (conv f g)) fun y hy => ?_, wsum_keys (pw x) hS (prodL (en f) (en g)) fun y hy => ?_]
  · refine ksum_congr _ _ _ fun k hk => ?_
    obtain ⟨n, hn, rfl⟩ := List.mem_map.mp hk
    rw [← conv_get]
    have z := tot_enF (conv f g) 0 n
    rw [Nat.zero_add] at z
    exact z
  · rw [← ops_prod] at hy
    obtain ⟨o, ho, rfl⟩ := List.mem_map.mp hy
    have z := ops_lt f g o ho
    exact upto_mem (by show (0 : Int) ≤ (o.1 : Int); omega) (by show (o.1 : Int) < _; omega)
  · have z := enF_mem hy
    rw [conv_len] at z
    exact upto_mem (by omega) (by omega)
end Cr

set_option Elab.async false
set_option linter.all false
set_option maxRecDepth 100000
set_option maxHeartbeats 800000
namespace Cr
open PySem PySem.Spec PyProof.Rows L2
/-- a polynomial as data -/
def pol (f : List Int) : PyData := .tuple (f.map .int)
def Pl (f : List Int) : Prop := f.getLast? ≠ some 0
def CB (B : Nat) (f : List Int) : Prop := ∀ a ∈ f, a.natAbs < 2 ^ B
theorem pol_len (f : List Int) : (f.map PyData.int).length = f.length := List.length_map ..
theorem pol_shape (f : List Int) : SeqAt.shaped (pol f) = true := by
  unfold SeqAt.shaped
  rw [Bool.and_eq_true]
  refine ⟨?_, decide_eq_true ?_⟩
  · show PyData.canLayAll0 (f.map .int) = true
    exact canAll_of fun d hd => by
      obtain ⟨x, _, rfl⟩ := List.mem_map.mp hd
      rfl
  · have h : PyData.depthAll (f.map PyData.int) ≤ 1 := depthAll_le fun d hd => by
      obtain ⟨x, _, rfl⟩ := List.mem_map.mp hd
      simp [PyData.depth]
    show (PyData.tuple (f.map .int)).depth ≤ 64
    simp only [PyData.depth]
    omega
theorem eqv_pol_nil (f : List Int) : PyData.eqv (pol f) (.tuple []) = f.isEmpty := by
  cases f <;> simp [pol, PyData.eqv, PyData.eqvAll]
theorem evalP_bound {x : Int} (hx : x.natAbs < 2 ^ 60) {B : Nat} : ∀ {f : List Int}, CB B f → (evalP f x).natAbs < 2 ^ (B + 61 * f.length)
  | [], _ => by show (0 : Int).natAbs < _; exact Nat.pos_of_ne_zero (by simp)
  | a :: f, h => by
    have ih := evalP_bound hx (f := f) fun b hb => h b (by simp [hb])
    have ha := h a (by simp)
    show (evalP f x * x + a).natAbs < 2 ^ (B + 61 * (f.length + 1))
    have h1 := Int.natAbs_add_le (evalP f x * x) a
    rw [Int.natAbs_mul] at h1
    have h2 : (evalP f x).natAbs * x.natAbs ≤ 2 ^ (B + 61 * f.length) * 2 ^ 60 := Nat.mul_le_mul (Nat.le_of_lt ih) (Nat.le_of_lt hx)
    have h3 : (2 : Nat) ^ (B + 61 * (f.length + 1)) = 2 ^ (B + 61 * f.length) * 2 ^ 60 * 2 := by
      rw [show B + 61 * (f.length + 1) = (B + 61 * f.length) + 60 + 1 by omega, Nat.pow_add, Nat.pow_add]
    have h4 : (2 : Nat) ^ B ≤ 2 ^ (B + 61 * f.length) * 2 ^ 60 := Nat.le_trans (Nat.pow_le_pow_right (by decide) (Nat.le_add_right B (61 * f.length))) (Nat.le_mul_of_pos_right _ (by decide))
    rw [h3]
    generalize 2 ^ (B + 61 * f.length) * 2 ^ 60 = u at h2 h4
    omega
theorem CB.mono {B C : Nat} {f : List Int} (h : CB B f) (hc : B ≤ C) : CB C f := fun a ha => Nat.lt_of_lt_of_le (h a ha) (Nat.pow_le_pow_right (by decide) hc)
end Cr

set_option Elab.async false
set_option linter.all false
set_option maxRecDepth 100000
set_option maxHeartbeats 800000
namespace Cr
open PySem PySem.Spec PyProof.Rows L2
theorem addOps_append : ∀ (a b : List (Nat × Int)) (r : List Int), addOps r (a ++ b) = addOps (addOps r a) b
  | [], b, r => rfl
  | o :: a, b, r => addOps_append a b (addAt r o.1 o.2)
def rowOps (f g : List Int) (i j : Nat) : List (Nat × Int) := (List.range j).map fun k => (i + k, f.getD i 0 * g.getD k 0)
def rowsOps (f g : List Int) (i : Nat) : List (Nat × Int) := (List.range i).flatMap fun k => rowOps f g k g.length
theorem rowOps_succ (f g : List Int) (i j : Nat) : rowOps f g i (j + 1) = rowOps f g i j ++ [(i + j, f.getD i 0 * g.getD j 0)] := by
  unfold rowOps
  rw [List.range_succ, List.map_append]; rfl
theorem rowsOps_succ (f g : List Int) (i : Nat) : rowsOps f g (i + 1) = rowsOps f g i ++ rowOps f g i g.length := by
  unfold rowsOps
  rw [List.range_succ, List.flatMap_append, List.flatMap_cons, List.flatMap_nil, List.append_nil]
/-- behind i rows and j steps of the next one -/
def part (f g : List Int) (i j : Nat) : List Int := addOps (List.replicate (f.length + g.length - 1) 0) (rowsOps f g i ++ rowOps f g i j)
theorem part_len (f g : List Int) (i j : Nat) : (part f g i j).length = f.length + g.length - 1 := by
  unfold part
  rw [addOps_len, List.length_replicate]
theorem part_step (f g : List Int) (i j : Nat) : part f g i (j + 1) = addAt (part f g i j) (i + j) (f.getD i 0 * g.getD j 0) := by
  unfold part
  rw [rowOps_succ, ← List.append_assoc, addOps_append]; rfl
theorem part_row (f g : List Int) (i : Nat) : part f g i g.length = part f g (i + 1) 0 := by
  unfold part
  rw [rowsOps_succ]
  show _ = addOps _ (_ ++ [])
  rw [List.append_nil]
theorem part_zero (f g : List Int) : part f g 0 0 = List.replicate (f.length + g.length - 1) 0 := rfl
theorem part_end (f g : List Int) : part f g f.length 0 = conv f g := by
  unfold part conv
  show addOps _ (rowsOps f g f.length ++ []) = _
  rw [List.append_nil]; rfl
theorem zeros_data (n : Nat) : (List.replicate n [PyData.int 0]).flatten = (List.replicate n (0 : Int)).map PyData.int := by
  induction n with
  | zero => rfl
  | succ n ih => rw [List.replicate_succ, List.flatten_cons, ih]; rfl
def convP (f g : List Int) : List Int := if f = [] ∨ g = [] then [] else conv f g
theorem enumD_ints {f : List Int} {i : Nat} {d : PyData} (h : (enumD (f.map PyData.int))[i]? = some d) : ∃ hi : i < f.length, d = .tuple [.int (i : Nat), .int (f.getD i 0)] := by
  have hi : i < f.length := by
    have z := (List.getElem?_eq_some_iff.mp h).1
    rw [enumD_len, List.length_map] at z
    exact z
  refine ⟨hi, ?_⟩
  have e : (f.map PyData.int)[i]? = some (.int (f.getD i 0)) := by
    rw [List.getElem?_map, List.getElem?_eq_getElem hi]
    simp [List.getD_eq_getElem?_getD, hi]
  rw [enumD_get e] at h
  exact (Option.some.inj h).symm
theorem getD_mem {f : List Int} {i : Nat} (hi : i < f.length) : f.getD i 0 ∈ f := by
  rw [List.getD_eq_getElem?_getD, List.getElem?_eq_getElem hi]
  exact List.getElem_mem hi
theorem evalP_snoc (x : Int) : ∀ (f : List Int) (a : Int), evalP (f ++ [a]) x = evalP f x + a * x ^ f.length
  | [], a => by show (0 : Int) * x + a = 0 + a * x ^ 0; rw [Int.pow_zero, Int.mul_one, Int.zero_mul]
  | b :: f, a => by
    show evalP (f ++ [a]) x * x + b = (evalP f x * x + b) + a * x ^ (f.length + 1)
    rw [evalP_snoc x f a, Int.add_mul, Int.pow_succ, Int.mul_assoc a]
    omega
theorem tot_amb {cs : List (Int × Int)} {p : Nat} (h : ∀ x ∈ cs, x.2.natAbs ≤ 2 ^ p) (hl : cs.length ≤ 2 ^ 13) (k : Int) : (tot cs k).natAbs < 2 ^ (p + 14) := by
  have h2 := tot_bound (M := ((2 ^ p : Nat) : Int)) (Int.natCast_nonneg _) (l := cs) (fun y hy => by have := h y hy; omega) k
  have h3 : 2 ^ p * cs.length ≤ 2 ^ p * 2 ^ 13 := Nat.mul_le_mul_left _ hl
  have h4 : (2 : Nat) ^ (p + 14) = 2 ^ p * 2 ^ 13 * 2 := by rw [Nat.pow_add, Nat.mul_assoc]
  have h5 : 0 < (2 : Nat) ^ p := Nat.pos_of_ne_zero (by simp)
  have h6 : ((2 ^ p : Nat) : Int) * (cs.length : Int) = ((2 ^ p * cs.length : Nat) : Int) := by rw [Int.natCast_mul]
  rw [h6] at h2
  generalize 2 ^ p * cs.length = u at h2 h3
  have h7 : 0 < 2 ^ p * 2 ^ 13 := Nat.mul_pos h5 (by decide)
  generalize 2 ^ p * 2 ^ 13 = w at h3 h4 h7
  rw [h4]
  omega
theorem enF_CB {B : Nat} : ∀ {f : List Int} {k : Nat}, CB B f → ∀ y ∈ enF k f, y.2.natAbs < 2 ^ B
  | [], _, _, y, hy => by cases hy
  | a :: f, k, h, y, hy => by
    rcases List.mem_cons.mp hy with e | e
    · rw [e]; exact h a (by simp)
    · exact enF_CB (fun b hb => h b (by simp [hb])) y e
theorem enF_len : ∀ (f : List Int) (k : Nat), (enF k f).length = f.length
  | [], _ => rfl
  | a :: f, k => by show (enF (k + 1) f).length + 1 = f.length + 1; rw [enF_len f]
theorem conv_CB {p r : Nat} {f g : List Int} (hf : CB p f) (hg : CB r g) (hl : f.length * g.length ≤ 2 ^ 13) : CB (p + r + 14) (conv f g) := fun a ha => by
  obtain ⟨n, hn, e⟩ := List.mem_iff_getElem.mp ha
  have z := conv_get f g n
  rw [List.getD_eq_getElem?_getD, List.getElem?_eq_getElem hn] at z
  have z' : (conv f g)[n] = _ := z
  rw [← e, z']
  refine tot_amb (fun x hx => ?_) (by rw [prod_len, enF_len, enF_len]; exact hl) _
  obtain ⟨y, hy, hx2⟩ := List.mem_flatMap.mp hx
  obtain ⟨u, hu, rfl⟩ := List.mem_map.mp hx2
  show (y.2 * u.2).natAbs ≤ _
  rw [Int.natAbs_mul, Nat.pow_add]
  exact Nat.mul_le_mul (Nat.le_of_lt (enF_CB hf y hy)) (Nat.le_of_lt (enF_CB hg u hu))
def rootsP (rs : List Int) : List Int := rs.foldl (fun P r => conv P [-r, 1]) [1]
theorem rootsP_snoc (rs : List Int) (r : Int) : rootsP (rs ++ [r]) = conv (rootsP rs) [-r, 1] := by
  unfold rootsP
  rw [List.foldl_append]; rfl
theorem rootsP_len : ∀ (rs : List Int) (n : Nat), n ≤ rs.length → (rootsP (rs.take n)).length = n + 1
  | rs, 0, _ => rfl
  | rs, n + 1, h => by
    rw [List.take_add_one, List.getElem?_eq_getElem h]
    show (rootsP (rs.take n ++ [rs[n]])).length = _
    rw [rootsP_snoc, conv_len, rootsP_len rs n (by omega)]
    rfl
theorem rootsP_CB {rs : List Int} (hr : CB 56 rs) (hl : rs.length ≤ 400) : ∀ n : Nat, n ≤ rs.length → CB (1 + 70 * n) (rootsP (rs.take n))
  | 0, _ => fun a ha => by
    have e : a = 1 := by simpa [rootsP] using ha
    rw [e]; decide
  | n + 1, h => by
    rw [List.take_add_one, List.getElem?_eq_getElem h]
    show CB _ (rootsP (rs.take n ++ [rs[n]]))
    rw [rootsP_snoc]
    have z := conv_CB (rootsP_CB hr hl n (by omega)) (r := 56) (g := [-rs[n], 1]) (fun a ha => by
      simp at ha
      rcases ha with e | e
      · rw [e, Int.natAbs_neg]; exact hr _ (List.getElem_mem h)
      · rw [e]; decide) (by rw [rootsP_len rs n (by omega)]; simp; omega)
    exact z.mono (by omega)
theorem convP_ne {f g : List Int} (hf : f ≠ []) (hg : g ≠ []) : convP f g = conv f g := by
  unfold convP
  rw [if_neg (by simp [hf, hg])]
theorem ints_of {P : Int → Prop} : ∀ {ds : List PyData}, (∀ d ∈ ds, ∃ v, P v ∧ d = .int v) → ∃ r : List Int, ds = r.map .int ∧ ∀ v ∈ r, P v
  | [], _ => ⟨[], rfl, by simp⟩
  | d :: ds, h => by
    obtain ⟨v, hv, e⟩ := h d (by simp)
    obtain ⟨r, e2, hr⟩ := ints_of (ds := ds) fun x hx => h x (by simp [hx])
    exact ⟨v :: r, by rw [e, e2]; rfl, fun x hx => by
      rcases List.mem_cons.mp hx with z | z
      · rw [z]; exact hv
      · exact hr x z⟩
section
variable {K : PySem.W.Frag} {q : Option Addr} {n : Nat} {δ δ' : List Sl} {te : TE} {d : PyData} {A0 B0 Hk H1 : Hp} {σ : L2.St} {D : Ends} {tz : TS} {g : TG} {vs : List Nat}
/-- a target of any kind -/
theorem q_asgG (h : E q δ te d) (hg : GB δ g d δ' vs) (s : At q n δ A0 B0 σ Hk H1) (k : ∀ σ' Hk' H2, Gr q Hk H1 Hk' H2 → At q n δ' A0 B0 σ' Hk' H2 → tz D σ' H2) : tSeq (tAsg te g) tz D σ H1 :=
  h σ Hk H1 n s.sg s.ok _ fun d' v Hk' H2 gg o ed dv => by
    subst ed
    exact hg σ Hk' H2 v (s.sg.mono gg.k) o.a dv _ fun σ' sg' _ _ => k σ' Hk' H2 gg ⟨o, sg', s.gr.trans gg⟩
end
end Cr

set_option Elab.async false
set_option linter.all false
set_option maxRecDepth 100000
set_option maxHeartbeats 800000
namespace Cr
open PySem PySem.Spec PyProof.Rows L2
section
variable {K : PySem.W.Frag} {q : Option Addr} {n : Nat} {δ δ' : List Sl} {te te2 ta tb tc : TE} {tt tu : TT} {c c1 c2 c3 : Nat} {Φ Φ1 Φ2 Φ3 : PyData → Prop} {d d1 d2 : PyData} {A0 B0 Hk H1 : Hp} {σ : L2.St} {D : Ends} {tz t1 : TS} {p : Addr} {ds : List PyData}
end
end Cr
namespace Cr
open PySem PySem.Spec PyProof.Rows L2
section
variable {q : Option Addr} {δ : List Sl} {tt : TT} {c : Nat}
end
end Cr

set_option Elab.async false
set_option linter.all false
set_option maxRecDepth 100000
set_option maxHeartbeats 800000
namespace Cr
open PySem PySem.Spec PyProof.Rows L2
/-! ### sums of powers -/
def tms (l : List (Int × Int)) (j : Nat) : List Int := l.map fun x => x.2 * x.1 ^ j
def psum (l : List (Int × Int)) (j : Nat) : Int := (tms l j).sum
def psums (l : List (Int × Int)) (n : Nat) : List Int := (List.range n).map (psum l)
def Kb (A B : Nat) (l : List (Int × Int)) : Prop := ∀ x ∈ l, x.1.natAbs < 2 ^ A ∧ x.2.natAbs < 2 ^ B
theorem Kb.mono {A B A' B' : Nat} {l : List (Int × Int)} (h : Kb A B l) (ha : A ≤ A') (hb : B ≤ B') : Kb A' B' l := fun x hx => ⟨Nat.lt_of_lt_of_le (h x hx).1 (Nat.pow_le_pow_right (by decide) ha), Nat.lt_of_lt_of_le (h x hx).2 (Nat.pow_le_pow_right (by decide) hb)⟩
theorem psums_len (l : List (Int × Int)) (n : Nat) : (psums l n).length = n := by simp [psums]
theorem psums_succ (l : List (Int × Int)) (n : Nat) : psums l (n + 1) = psums l n ++ [psum l n] := by
  unfold psums; rw [List.range_succ, List.map_append]; rfl
theorem tms_zero (l : List (Int × Int)) : tms l 0 = l.map (·.2) := by
  unfold tms
  exact List.map_congr_left fun x _ => by rw [Int.pow_zero, Int.mul_one]
theorem psum_nil (j : Nat) : psum [] j = 0 := rfl
theorem psum_cons (x : Int × Int) (l : List (Int × Int)) (j : Nat) : psum (x :: l) j = x.2 * x.1 ^ j + psum l j := by
  unfold psum tms; rw [List.map_cons, List.sum_cons]
theorem tm_bits {x : Int × Int} {A B : Nat} (ha : x.1.natAbs < 2 ^ A) (hb : x.2.natAbs < 2 ^ B) (j : Nat) : (x.2 * x.1 ^ j).natAbs < 2 ^ (B + A * j) := by
  induction j with
  | zero => simpa using hb
  | succ j ih =>
    rw [Int.pow_succ, ← Int.mul_assoc, Int.natAbs_mul, show B + A * (j + 1) = (B + A * j) + A by rw [Nat.mul_add, Nat.mul_one, Nat.add_assoc], Nat.pow_add]
    exact Nat.mul_lt_mul'' ih ha
theorem sum_bits {b N : Nat} : ∀ {ns : List Int}, (∀ x ∈ ns, x.natAbs < 2 ^ b) → ns.length ≤ 2 ^ N → ns.sum.natAbs < 2 ^ (b + N + 1) := by
  intro ns h hl
  have z : ∀ ms : List Int, (∀ x ∈ ms, x.natAbs < 2 ^ b) → ms.sum.natAbs ≤ 2 ^ b * ms.length := by
    intro ms
    induction ms with
    | nil => intro _; simp
    | cons m ms ih =>
      intro h
      rw [List.sum_cons, List.length_cons, Nat.mul_add, Nat.mul_one]
      have h1 := ih fun x hx => h x (by simp [hx])
      have h2 := h m (by simp)
      have h3 := Int.natAbs_add_le m ms.sum
      omega
  have z1 := z ns h
  have z2 : 2 ^ b * ns.length ≤ 2 ^ b * 2 ^ N := Nat.mul_le_mul_left _ hl
  rw [← Nat.pow_add] at z2
  have z3 : 2 ^ (b + N) < 2 ^ (b + N + 1) := Nat.pow_lt_pow_right (by decide) (by omega)
  omega
theorem zipD_map {α : Type} (f g : α → PyData) : ∀ l : List α, zipD (l.map f) (l.map g) = l.map fun x => .tuple [f x, g x]
  | [] => rfl
  | x :: l => by
    show .tuple [f x, g x] :: zipD (l.map f) (l.map g) = _
    rw [zipD_map f g l]; rfl
theorem zipD_ints : ∀ f g : List Int, zipD (f.map .int) (g.map .int) = (f.zip g).map pr
  | [], _ => by simp [zipD]
  | _ :: _, [] => by simp [zipD]
  | a :: f, b :: g => by
    show PyData.tuple [.int a, .int b] :: zipD (f.map .int) (g.map .int) = _
    rw [zipD_ints f g]; rfl
/-! ### math.comb -/
def rCombQ : List V → Hp → VK → Prop := fun vs H Q => ∃ a b : Nat, vs = [.int (a : Int), .int (b : Int)] ∧ a ≤ 9000 ∧ b ≤ 9000 ∧ Q (.int (PySem.W.mcComb a b)) H
end Cr

set_option Elab.async false
set_option linter.all false
set_option maxRecDepth 100000
set_option maxHeartbeats 800000
namespace L2
open PySem PySem.Spec PyProof.Rows
section
variable {X : Cx}
theorem call_combQ : CallR X (.builtin "math.comb") Cr.rCombQ := by
  intro pins s σ H vs us Q I r h
  obtain ⟨a, b, rfl, h1, h2, q⟩ := h
  obtain ⟨t, u, rfl⟩ := Vals.int2 r
  exact PySem.W.mc_comb (Int.natCast_nonneg _) (Int.natCast_nonneg _) (by omega) (.inl (by omega)) fun _ => ⟨.int _, H, I.tok _, ⟨_, rfl⟩, q⟩
end
end L2
namespace Cr
open PySem PySem.Spec PyProof.Rows L2
section
variable {K : PySem.W.Frag} {q : Option Addr} {n : Nat} {δ δ' : List Sl} {te ta tb tc tj : TE} {tt : TT} {c c1 c2 c3 : Nat} {Φ Φ1 Φ2 : PyData → Prop} {d : PyData} {wi : TI} {A0 B0 Hk H1 : Hp} {σ : L2.St} {D : Ends} {tz t1 : TS} {g : TG} {p : Addr} {P P1 P2 : Int → Prop}
theorem walk_zipL {H : Hp} {a b : Addr} {xs ys : List V} {ds es : List PyData} (np : ∀ d ∈ ds, notPair d = true) (h : H a = some (.lst xs)) (hd : DqAll H xs ds) (h2 : H b = some (.lst ys)) (he : DqAll H ys es) : WalkD (Itz K a b) (zipD ds es) H := fun i Hk H' s1 s2 => by
  have e := s2 _ _ (s1 _ _ h)
  have e2 := s2 _ _ (s1 _ _ h2)
  have hl1 := hd.length
  have hl2 := he.length
  rw [zipD_len]
  refine ⟨fun hi => ?_, fun hi => ⟨xs, ys, SqL.of1 e, SqL.of1 e2, by omega⟩⟩
  have g1 : xs[i]? = some (xs[i]'(by omega)) := List.getElem?_eq_getElem _
  have g2 : ys[i]? = some (ys[i]'(by omega)) := List.getElem?_eq_getElem _
  refine ⟨⟨xs, ys, _, _, SqL.of1 e, SqL.of1 e2, g1, g2⟩, fun v H2 y => ?_⟩
  obtain ⟨T, x, y, rfl, hT, rfl, f1, f2⟩ := y
  obtain ⟨d1, p1, p2⟩ := hd.get' (f1 xs (SqL.of1 e))
  obtain ⟨d2, p3, p4⟩ := he.get' (f2 ys (SqL.of1 e2))
  have g := Gr.new (q := none) (o := .tup [x, y]) s2 hT
  refine ⟨_, g, _, zipD_get ds es i d1 d2 p1 p3, .tup (.inr ⟨np d1 (List.mem_of_getElem? p1), upd_same⟩) (.cons (Dq.mono (s1.trans g.k) _ _ p2) (.cons (Dq.mono (s1.trans g.k) _ _ p4) .nil))⟩
theorem ie_zipL {ds es : List PyData} (h : E q δ ta (.list ds)) (h2 : E q δ tb (.list es)) (np : ∀ d ∈ ds, notPair d = true := by intro d hd; obtain ⟨x, _, rfl⟩ := List.mem_map.mp hd; rfl) : IE q δ (RZ.iZipA K (tCons ta (tCons tb tNil))) (zipD ds es) := fun σ H H1 n sg o R k =>
  h σ H H1 n sg o _ fun d v Hk H2 g o1 e dv => h2 σ Hk H2 n (sg.mono g.k) o1 _ fun d' v' Hk' H3 g' o2 e' dv' => by
    subst e; subst e'
    obtain ⟨a, xs, rfl, p1, p2⟩ := (Dq.mono g'.k _ _ dv).lstOf
    obtain ⟨b, ys, rfl, p3, p4⟩ := dv'.lstOf
    exact ⟨a, b, xs, ys, rfl, .inl ⟨SqL.of1 (g'.a _ _ p1), SqL.of1 (g'.a _ _ p3), k _ _ Hk' H3 (g.trans g') o2 rfl (walk_zipL np p1 p2 p3 p4)⟩⟩
theorem IE.is {wi : TI} {xs ys : List PyData} (h : IE q δ wi xs) (e : xs = ys) : IE q δ wi ys := by rw [← e]; exact h
theorem e_comb {a b : Nat} (h : E q δ ta (.int (a : Int))) (h2 : E q δ tb (.int (b : Int))) (ha : a ≤ 9000) (hb : b ≤ 9000) : E q δ (tCB rCombQ (tCons ta (tCons tb tNil))) (.int (PySem.W.mcComb a b)) := e_cb (ds := [.int (a : Int), .int (b : Int)]) (ae_cons h (ae_cons h2 ae_nil)) fun vs H H1 h e Q k => by
  obtain ⟨v, w, rfl, h1, h2⟩ := h.two
  rw [h1.intOf, h2.intOf]
  exact ⟨a, b, rfl, ha, hb, k _ _ H H1 (Gr.refl e) rfl (.int _)⟩
theorem aj_two {ta : TE} {tb : TE} (h : J q δ ta c1 (IntP P1)) (h2 : J q δ tb c2 (IntP P2)) : AJ q δ (tCons ta (tCons tb tNil)) (c2 + c1) (fun sls => ∃ ds : List PyData, sls = ds.map Sl.dat ∧ ∃ i j, P1 i ∧ P2 j ∧ ds = [.int i, .int j]) :=
  (aj_int (c1 := c1) (c2 := c2) (Φr := fun sls => ∃ j, P2 j ∧ sls = [.dat (.int j)]) h ((aj_int (c1 := c2) (c2 := 0) (Φr := fun sls => sls = []) h2 ae_nil fun i sls hi e => ⟨i, hi, by rw [e]⟩).cost (by omega)) fun i sls hi ⟨j, hj, e⟩ => ⟨[.int i, .int j], by rw [e]; rfl, i, j, hi, hj, rfl⟩)
theorem j_min (h : J q δ ta c1 (IntP P1)) (h2 : J q δ tb c2 (IntP P2)) (hp : ∀ i j, P1 i → P2 j → P (if j < i then j else i)) : J q δ (tCB rMinQ (tCons ta (tCons tb tNil))) (c2 + c1) (IntP P) :=
  j_cb (Ψ := fun ds => ∃ i j, P1 i ∧ P2 j ∧ ds = [.int i, .int j]) (aj_two h h2) fun ds ⟨i, j, hi, hj, e⟩ vs H H1 h e2 Q k => by
    subst e
    obtain ⟨v, w, rfl, h1, h2⟩ := h.two
    rw [h1.intOf, h2.intOf]
    exact ⟨i, j, rfl, k _ _ H H1 (Gr.refl e2) ⟨_, hp i j hi hj, rfl⟩ (.int _)⟩
theorem j_max (h : J q δ ta c1 (IntP P1)) (h2 : J q δ tb c2 (IntP P2)) (hp : ∀ i j, P1 i → P2 j → P (if j > i then j else i)) : J q δ (tCB rMaxQ (tCons ta (tCons tb tNil))) (c2 + c1) (IntP P) :=
  j_cb (Ψ := fun ds => ∃ i j, P1 i ∧ P2 j ∧ ds = [.int i, .int j]) (aj_two h h2) fun ds ⟨i, j, hi, hj, e⟩ vs H H1 h e2 Q k => by
    subst e
    obtain ⟨v, w, rfl, h1, h2⟩ := h.two
    rw [h1.intOf, h2.intOf]
    exact ⟨i, j, rfl, k _ _ H H1 (Gr.refl e2) ⟨_, hp i j hi hj, rfl⟩ (.int _)⟩
theorem ij_rng2 {Ψ : List PyData → Prop} (h : J q δ ta c1 (IntP P1)) (h2 : J q δ tb c2 (IntP P2)) (hp : ∀ i j, P1 i → P2 j → (-(2 ^ 62) ≤ i ∧ i < 2 ^ 62 ∧ -(2 ^ 62) ≤ j ∧ j < 2 ^ 62) ∧ Ψ (rng i (j - i).toNat)) : IJ q δ (iRng2 (tCons ta (tCons tb tNil))) (c2 + c1) Ψ := fun σ H H1 n sg o R k =>
  aj_two h h2 σ H H1 n sg o _ fun sls vs Hk H2 g o1 ⟨ds, e, i, j, hi, hj, e2⟩ hv => by
    subst e; subst e2
    obtain ⟨v, w, rfl, h1, h2⟩ := hv.dats.two
    rw [h1.intOf, h2.intOf]
    exact ⟨i, j, rfl, (hp i j hi hj).1, k _ _ Hk H2 g o1 (hp i j hi hj).2 walk_rng⟩
theorem ie_rng2 {i j : Int} (h : E q δ ta (.int i)) (h2 : E q δ tb (.int j)) (hp : -(2 ^ 62) ≤ i ∧ i < 2 ^ 62 ∧ -(2 ^ 62) ≤ j ∧ j < 2 ^ 62) : IE q δ (iRng2 (tCons ta (tCons tb tNil))) (rng i (j - i).toNat) :=
  ij_rng2 (c1 := 0) (c2 := 0) h.intP h2.intP fun a b ha hb => by subst ha; subst hb; exact ⟨hp, rfl⟩
theorem len_scr {i : Nat} {ns : List Int} (hi : δ[i]? = some (.scr K ns)) : J q δ (tCB (rLenQ K) (tCons (tVar i) tNil)) 0 (IntP fun x => 0 ≤ x) := (e_lenS hi).imp fun d e => ⟨_, Int.natCast_nonneg _, e⟩
/-- for at in range(max(1, min(len(script), m))) -/
theorem e_ats0 {m : Int} {i : Nat} {ns : List Int} (hi : δ[i]? = some (.scr K ns)) (hm : 1 ≤ m) (hm2 : m ≤ 100) : IJ q δ (iRng1 (tCons (tCB rMaxQ (tCons (tC (.int 1)) (tCons (tCB rMinQ (tCons (tCB (rLenQ K) (tCons (tVar i) tNil)) (tCons (tC (.int m)) tNil))) tNil))) tNil)) 0 (fun items => ∃ k : Nat, k ≤ 100 ∧ items = rng 0 k) :=
  ij_rng1 (P := fun x => 0 ≤ x ∧ x ≤ 100) ((j_max (c1 := 0) (c2 := 0) (P1 := fun x => x = 1) (P2 := fun x => 0 ≤ x ∧ x ≤ 100) e_int.intP ((j_min (c1 := 0) (c2 := 0) (P1 := fun x => 0 ≤ x) (P2 := fun x => x = m) (len_scr hi) e_int.intP fun a b ha hb => by split <;> omega)) fun a b ha hb => by split <;> omega)) fun j hj => ⟨by omega, j.toNat, by omega, rfl⟩
/-- jar = _law_jar(script, e) -/
theorem q_mkJarE {i k : Nat} {E0 : XK} {ns : List Int} {t : Int} (s : At none 0 δ A0 B0 σ Hk H1) (hi : δ[i]? = some (.scr K ns)) (hj : E none δ tj (.int t)) (h0 : 0 ≤ t) (h1 : t ≤ 1000)
    (kont : ∀ p σ' Hk' H2, Same Hk Hk' → At (some p) 999999999 (δ.set k (.adr p)) Hk' H2 σ' Hk' H2 → tz D σ' H2) : tSeq (tAsg (tCall (spMk K) [] E0 (tCons (tVar i) (tCons tj tNil))) (gName k)) tz D σ H1 := by
  obtain ⟨v, a, b, rfl, hS⟩ := s.sg.2 i _ hi (fun z => by cases z)
  refine ⟨.ref b, a, hj σ Hk H1 0 s.sg s.ok _ fun d w Hk' H2 g o ed dw => ?_⟩
  subst ed
  have ew := dw.intOf
  subst ew
  refine ⟨b, ns, t, rfl, Same.seq (g.k.trans g.a) hS, h0, h1, fun p H3 sm hp hJ => ?_⟩
  have hk : Hk' p = none := o.a.free hp
  exact kont p _ Hk' H3 g.k ⟨⟨o.a.trans sm, fun r er => by cases er; exact hk, fun r er => by cases er; exact hJ⟩, (s.sg.mono g.k).set k (s := .adr p) rfl, Gr.refl (o.a.trans sm)⟩
end
/-! ### math of the changes -/
theorem zip_terms (l : List (Int × Int)) (j : Nat) : zipD ((tms l j).map .int) ((l.map (·.1)).map .int) = l.map fun x => pr (x.2 * x.1 ^ j, x.1) := by
  unfold tms
  rw [List.map_map, List.map_map]
  exact zipD_map _ _ l
theorem tms_succ (l : List (Int × Int)) (j : Nat) : tms l (j + 1) = l.map fun x => x.2 * x.1 ^ j * x.1 := by
  unfold tms
  exact List.map_congr_left fun x _ => by rw [Int.pow_succ, Int.mul_assoc]
theorem Kb.one {A B : Nat} {k b : Int} (h : k.natAbs < 2 ^ A) (h2 : b.natAbs < 2 ^ B) : Kb A B [(k, b)] := fun x hx => by
  rw [List.mem_singleton.mp hx]; exact ⟨h, h2⟩
end Cr

set_option Elab.async false
set_option linter.all false
set_option maxRecDepth 100000
set_option maxHeartbeats 800000
namespace Cr
open PySem PySem.Spec PyProof.Rows L2
section
variable {K : PySem.W.Frag} {q : Option Addr} {δ : List Sl} {te ta tb : TE} {c : Nat} {P : Int → Prop}
theorem e_ten {k v : Int} (h0 : 0 ≤ k) (h1 : 4 * k ≤ 2 ^ 27) (e : (10 : Int) ^ k.toNat = v) : E q δ (tOp (rI CPowW fun i j => .int (i ^ j.toNat)) (tC (.int 10)) (tC (.int k))) (.int v) := e_is (e_pow e_int e_int (pow_ok (a := 4) (by decide) (by omega) h0 h1)) (by rw [e])
end
theorem lt_pow {x a b : Nat} (h : x < 2 ^ a) (hab : a ≤ b) : x < 2 ^ b := Nat.lt_of_lt_of_le h (Nat.pow_le_pow_right (by decide) hab)
theorem pd_app (a b : List (Int × Int)) : pd a ++ pd b = pd (a ++ b) := by unfold pd; rw [List.map_append]
end Cr

set_option Elab.async false
set_option linter.all false
set_option maxRecDepth 100000
set_option maxHeartbeats 800000
namespace Cr
open PySem PySem.Spec PyProof.Rows L2
section
variable {K : PySem.W.Frag} {q : Option Addr} {n : Nat} {δ δ' : List Sl} {te ta tb : TE} {tt : TT} {c c1 c2 : Nat} {Φ : PyData → Prop} {d : PyData} {A0 B0 Hk H1 : Hp} {σ : L2.St} {D : Ends} {tz : TS} {P P1 P2 : Int → Prop}
/-- x, y = (e, e2), drawn -/
theorem q_asgT2 {i j : Nat} {ta : TA} {Ψ : PyData → PyData → Prop} (h : AJ q δ ta c (fun sls => ∃ a b, sls = [.dat a, .dat b] ∧ Ψ a b)) (s : At q (n + c) δ A0 B0 σ Hk H1)
    (k : ∀ a b σ' Hk' H2, Ψ a b → Gr q Hk H1 Hk' H2 → At q n ((δ.set i (.dat a)).set j (.dat b)) A0 B0 σ' Hk' H2 → tz D σ' H2) : tSeq (tAsg (tTup ta) (gTup K 2 (gCons (gName i) (gCons (gName j) gNil)))) tz D σ H1 := by
  unfold tSeq tAsg
  exact j_tup (Ψ := fun ds => ∃ a b, ds = [a, b] ∧ Ψ a b) (h.imp fun sls ⟨a, b, e, p⟩ => ⟨[a, b], e, by simp, a, b, rfl, p⟩) σ Hk H1 n s.sg s.ok _ fun d v Hk' H2 g o ⟨ds, ⟨a, b, e, p⟩, ed⟩ dv => by
    subst e; subst ed
    exact gb_tup2 (K := K) (δ := δ) (d1 := a) (d2 := b) (vs := [i, j]) (by simp) (by simp) σ Hk' H2 v (s.sg.mono g.k) o.a dv _ fun σ' sg' _ _ => k a b σ' Hk' H2 p g ⟨o, sg', s.gr.trans g⟩
theorem aj_pair {Ψ1 Ψ2 : PyData → Prop} (h : J q δ ta c1 Ψ1) (h2 : J q δ tb c2 Ψ2) : AJ q δ (tCons ta (tCons tb tNil)) (c2 + c1) (fun sls => ∃ a b, sls = [.dat a, .dat b] ∧ Ψ1 a ∧ Ψ2 b) :=
  (aj_cons (c1 := c1) (c2 := c2) (Φr := fun sls => ∃ b, sls = [.dat b] ∧ Ψ2 b) h ((aj_cons (c1 := c2) (c2 := 0) (Φr := fun sls => sls = []) h2 ae_nil fun d sls p e => ⟨d, by rw [e], p⟩).cost (by omega)) fun d sls p ⟨b, e, p2⟩ => ⟨d, b, by rw [e], p, p2⟩)
/-- [.., ..] over range(n) of elements that are told -/
theorem e_lcR {j : Int} {m : Nat} {i : Nat} {te : TE} {tn : TE} (hn : E q δ tn (.int j)) (hj : j = (m : Int)) (hm : m ≤ 100000) (f : Nat → PyData)
    (he : ∀ k, k < m → E q ((wipeD δ [i]).set i (.dat (.int (0 + (k : Int))))) te (f k)) : E q δ (tLc (iRng1 (tCons tn tNil)) (gName i) tYes te [i]) (.list ((List.range m).map f)) := by
  subst hj
  exact e_lc1 (vs := [i]) (emb := fun k : Nat => PyData.int (0 + (k : Int))) (xs := List.range m) ((ie_rng1 hn (by omega) (by omega)).is rfl) f (by rw [List.length_range]; omega) fun k hk => ⟨_, gb_name (by simp), he k (List.mem_range.mp hk)⟩
end
/-! ### rows of integers -/
def zmul (f g : List Int) : List Int := (f.zip g).map fun x => x.1 * x.2
theorem Kb.take {A B : Nat} {l : List (Int × Int)} (h : Kb A B l) (n : Nat) : Kb A B (l.take n) := fun x hx => h x (List.mem_of_mem_take hx)
end Cr

set_option Elab.async false
set_option linter.all false
set_option maxRecDepth 100000
set_option maxHeartbeats 800000
namespace Cr
open PySem PySem.Spec PyProof.Rows L2
/-! ### numbers of ways -/
def chs : Nat → Nat → Nat
  | _, 0 => 1
  | 0, _ + 1 => 0
  | n + 1, k + 1 => chs n k + chs n (k + 1)
theorem chs_above : ∀ (n k : Nat), n < k → chs n k = 0
  | 0, k + 1, _ => rfl
  | n + 1, k + 1, h => by
    show chs n k + chs n (k + 1) = 0
    rw [chs_above n k (by omega), chs_above n (k + 1) (by omega)]
theorem chs_self : ∀ n : Nat, chs n n = 1
  | 0 => rfl
  | n + 1 => by
    show chs n n + chs n (n + 1) = 1
    rw [chs_self n, chs_above n (n + 1) (by omega)]
theorem chs_zero (n : Nat) : chs n 0 = 1 := by cases n <;> rfl
theorem chs_succ (n k : Nat) : chs (n + 1) (k + 1) = chs n k + chs n (k + 1) := rfl
theorem chs_le : ∀ n k : Nat, chs n k ≤ 2 ^ n
  | 0, 0 => by decide
  | 0, k + 1 => Nat.zero_le _
  | n + 1, 0 => by rw [chs_zero]; exact Nat.one_le_two_pow
  | n + 1, k + 1 => by
    have h1 := chs_le n k
    have h2 := chs_le n (k + 1)
    rw [chs_succ, Nat.pow_succ]; omega
theorem chs_symm : ∀ n k : Nat, k ≤ n → chs n (n - k) = chs n k
  | 0, k, h => by
    have e : k = 0 := by omega
    subst e; rfl
  | n + 1, 0, _ => by rw [Nat.sub_zero, chs_self, chs_zero]
  | n + 1, k + 1, h => by
    rw [Nat.add_sub_add_right]
    by_cases e : k = n
    · subst e; rw [Nat.sub_self, chs_zero, chs_self]
    · have h1 := chs_symm n k (by omega)
      have h2 := chs_symm n (k + 1) (by omega)
      have e2 : n - k = (n - (k + 1)) + 1 := by omega
      rw [e2, chs_succ, ← e2, h1, h2, chs_succ]; omega
theorem fp_shift (m : Int) : ∀ k : Nat, Builtin.Math.fallingProduct (m + 1) (k + 1) = (m + 1) * Builtin.Math.fallingProduct m k
  | 0 => by rw [PySem.W.mc_fp_one, PySem.W.mc_fp_zero, Int.mul_one]
  | k + 1 => by
    rw [PySem.W.mc_fp_succ, fp_shift m k, PySem.W.mc_fp_succ, Int.mul_assoc]
    congr 2
    omega
theorem fp_none : ∀ k : Nat, Builtin.Math.fallingProduct 0 (k + 1) = 0
  | 0 => rfl
  | k + 1 => by rw [PySem.W.mc_fp_succ, fp_none k, Int.zero_mul]
theorem chs_fp : ∀ n k : Nat, (chs n k : Int) * Builtin.Math.fallingProduct (k : Int) k = Builtin.Math.fallingProduct (n : Int) k
  | n, 0 => by rw [chs_zero, PySem.W.mc_fp_zero, PySem.W.mc_fp_zero]; rfl
  | 0, k + 1 => by
    show (0 : Int) * _ = Builtin.Math.fallingProduct 0 (k + 1)
    rw [fp_none, Int.zero_mul]
  | n + 1, k + 1 => by
    have h1 := chs_fp n k
    have h2 := chs_fp n (k + 1)
    rw [PySem.W.mc_fp_succ (n : Int) k] at h2
    have e1 : ((k + 1 : Nat) : Int) = (k : Int) + 1 := rfl
    have e2 : ((n + 1 : Nat) : Int) = (n : Int) + 1 := rfl
    rw [e1, fp_shift] at h2
    rw [chs_succ, e1, e2, fp_shift, fp_shift, Int.natCast_add, Int.add_mul, h2, ← h1]
    generalize Builtin.Math.fallingProduct (k : Int) k = w
    have z : (chs n k : Int) * (((k : Int) + 1) * w) = ((k : Int) + 1) * ((chs n k : Int) * w) := by rw [Int.mul_left_comm]
    rw [z]
    generalize (chs n k : Int) * w = u
    rw [Int.mul_comm u, ← Int.add_mul]
    congr 1
    omega
theorem comb_chs (n k : Nat) : PySem.W.mcComb (n : Int) (k : Int) = (chs n k : Int) := by
  by_cases h : n < k
  · rw [PySem.W.mcComb_above (by omega), chs_above n k h]; rfl
  · obtain ⟨m, hm, hc⟩ : ∃ m : Nat, min (k : Int) ((n : Int) - (k : Int)) = (m : Int) ∧ chs n m = chs n k := by
      by_cases h2 : k ≤ n - k
      · exact ⟨k, by omega, rfl⟩
      · exact ⟨n - k, by omega, chs_symm n k (by omega)⟩
    rw [PySem.W.mcComb_at (Int.natCast_nonneg _) (by omega) hm, Int.toNat_natCast, ← chs_fp n m, hc]
    exact Int.mul_ediv_cancel _ (by
      have := PySem.W.mc_fp_pos (n := (m : Int)) m (Int.le_refl _)
      omega)
/-! ### sums over 0 .. n - 1 -/
def sm : Nat → (Nat → Int) → Int
  | 0, _ => 0
  | n + 1, F => sm n F + F n
theorem sm_congr {F G : Nat → Int} : ∀ {n : Nat}, (∀ i, i < n → F i = G i) → sm n F = sm n G
  | 0, _ => rfl
  | n + 1, h => by
    show sm n F + F n = sm n G + G n
    rw [sm_congr fun i hi => h i (by omega), h n (by omega)]
theorem sm_add (F G : Nat → Int) : ∀ n : Nat, sm n (fun i => F i + G i) = sm n F + sm n G
  | 0 => rfl
  | n + 1 => by
    show sm n _ + (F n + G n) = (sm n F + F n) + (sm n G + G n)
    rw [sm_add F G n]; omega
theorem sm_mul (c : Int) (F : Nat → Int) : ∀ n : Nat, sm n (fun i => c * F i) = c * sm n F
  | 0 => (Int.mul_zero c).symm
  | n + 1 => by
    show sm n _ + c * F n = c * (sm n F + F n)
    rw [sm_mul c F n, Int.mul_add]
theorem sm_zero : ∀ n : Nat, sm n (fun _ => 0) = 0
  | 0 => rfl
  | n + 1 => by show sm n _ + 0 = 0; rw [sm_zero n]; rfl
/-! ### the binomial theorem -/
/-! ### products of rows of sums -/
/-! ### rows of numbers of ways -/
end Cr

set_option Elab.async false
set_option linter.all false
set_option maxRecDepth 100000
set_option maxHeartbeats 800000
namespace Cr
open PySem PySem.Spec PyProof.Rows L2
theorem mul_bits {a b : Int} {p r : Nat} (h : a.natAbs < 2 ^ p) (h2 : b.natAbs < 2 ^ r) : (a * b).natAbs < 2 ^ (p + r) := by
  rw [Int.natAbs_mul, Nat.pow_add]; exact Nat.mul_lt_mul'' h h2
theorem chs_bits (n k : Nat) : ((chs n k : Nat) : Int).natAbs < 2 ^ (n + 1) := by
  have h := chs_le n k
  have h2 : 0 < 2 ^ n := Nat.pos_of_ne_zero (by simp)
  rw [Nat.pow_succ]; omega
theorem CB.getD {B : Nat} {f : List Int} (h : CB B f) (i : Nat) : (f.getD i 0).natAbs < 2 ^ B := by
  by_cases hi : i < f.length
  · exact h _ (Cr.getD_mem hi)
  · rw [List.getD_eq_getElem?_getD, List.getElem?_eq_none (by omega)]
    exact Nat.pos_of_ne_zero (by simp)
section
variable {K : PySem.W.Frag} {q : Option Addr} {n : Nat} {δ δ' : List Sl} {te te2 ta tb : TE} {tt : TT} {c c1 c2 : Nat} {d d2 : PyData} {A0 B0 Hk H1 : Hp} {σ : L2.St} {D : Ends} {tz : TS} {p : Addr} {ds : List PyData} {Ψ : List Int → Prop}
end
end Cr
namespace Cr
open PySem PySem.Spec PyProof.Rows L2
section
variable {K : PySem.W.Frag} {q : Option Addr} {n : Nat} {δ : List Sl} {tt : TT} {c : Nat} {A0 B0 Hk H1 : Hp} {σ : L2.St} {D : Ends} {tz : TS} {p : Addr} {ds : List PyData}
end
end Cr

set_option Elab.async false
set_option linter.all false
set_option maxRecDepth 100000
set_option maxHeartbeats 800000
namespace L2
open PySem PySem.Spec PyProof.Rows
/-- // by any divisor but 0 below 2 ^ 9000 -/
def CDivNW (_ j : Int) : Prop := j ≠ 0 ∧ j.natAbs.log2 < 9000
def rIsNQ : R2 := fun x y H Q => (y = .non ∧ Q (.bl (decide (x = .non))) H) ∨ ∃ b, y = .bl b ∧ Q (.bl (decide (x = .bl b))) H
def rNotNQ : R2 := fun x y H Q => (y = .non ∧ Q (.bl (!decide (x = .non))) H) ∨ ∃ b, y = .bl b ∧ Q (.bl (!decide (x = .bl b))) H
theorem rel_bl {v : Value} {x : V} {b : Bool} (h : RelV x v) : v = .bool b ↔ x = .bl b := by
  constructor
  · intro e
    subst e
    cases x <;> first
      | (cases h; rfl)
      | (obtain ⟨t, h⟩ := h; cases h)
      | exact absurd h (by intro z; cases z)
  · intro e
    subst e
    exact h
theorem rel_plain {v : Value} {x : V} {b : Bool} (h : RelV x v) : plainIs v (.bool b) = true := by
  cases x <;> first
    | (cases h; rfl)
    | (obtain ⟨t, rfl⟩ := h; rfl)
section
variable {X : Cx}
theorem op_fdivNW : OpR X (binaryOp .FloorDiv) (rI CDivNW fun i j => .int (i.fdiv j)) := opI fun i j _ _ _ _ _ hc q => floordiv_int hc.1 q (.inl (PyProof.noPylong_of_log2 hc.2))
theorem op_isBlA : OpR X (compareOp .Is) (fun x y H Q => ∃ b, y = .bl b ∧ Q (.bl (decide (x = .bl b))) H) := by
  intro pins s σ H x y v u Q I rx ry h
  obtain ⟨b, rfl, q⟩ := h
  cases (show u = Value.bool b from ry)
  by_cases e : x = .bl b
  · have e2 := (rel_bl rx).mpr e
    subst e2
    exact wpAny_is_self rfl ⟨.bl true, H, I, rfl, by simpa [e] using q⟩
  · exact wpAny_is_other (rel_plain rx) (fun z => e ((rel_bl rx).mp z)) ⟨.bl false, H, I, rfl, by simpa [e] using q⟩
theorem op_notBlA : OpR X (compareOp .IsNot) (fun x y H Q => ∃ b, y = .bl b ∧ Q (.bl (!decide (x = .bl b))) H) := by
  intro pins s σ H x y v u Q I rx ry h
  obtain ⟨b, rfl, q⟩ := h
  cases (show u = Value.bool b from ry)
  by_cases e : x = .bl b
  · have e2 := (rel_bl rx).mpr e
    subst e2
    exact wpAny_isNot_self rfl ⟨.bl false, H, I, rfl, by simpa [e] using q⟩
  · exact wpAny_isNot_other (rel_plain rx) (fun z => e ((rel_bl rx).mp z)) ⟨.bl true, H, I, rfl, by simpa [e] using q⟩
theorem op_isNQ : OpR X (compareOp .Is) rIsNQ := OpR.or op_isN op_isBlA
theorem op_notNQ : OpR X (compareOp .IsNot) rNotNQ := OpR.or op_notN op_notBlA
end
theorem divNW {i j : Int} {b : Nat} (h : j ≠ 0) (hb : j.natAbs < 2 ^ b) (h0 : 0 < b) (h9 : b ≤ 9000) : CDivNW i j := ⟨h, Nat.lt_of_lt_of_le (PySem.Flt.log2_lt_of h0 hb) h9⟩
end L2
namespace Cr
open PySem PySem.Spec PyProof.Rows L2
def isNonD : PyData → Bool
  | .none => true
  | _ => false
theorem dq_non {H : Hp} {v : V} {d : PyData} (h : Dq H v d) : decide (v = .non) = isNonD d := by
  cases h <;> rfl
section
variable {K : PySem.W.Frag} {q : Option Addr} {n : Nat} {δ δ' : List Sl} {te te2 ta tb : TE} {tt : TT} {c c1 c2 : Nat} {Φ : PyData → Prop} {d d2 : PyData} {A0 B0 Hk H1 : Hp} {σ : L2.St} {D : Ends} {tz : TS} {p : Addr} {ds es : List PyData} {g : TG} {wi : TI}
theorem e_fdivN {i j : Int} (ha : E q δ ta (.int i)) (hb : E q δ tb (.int j)) (hc : CDivNW i j) : E q δ (tOp (rI CDivNW fun i j => .int (i.fdiv j)) ta tb) (.int (i.fdiv j)) := e_I ha hb hc
theorem e_isN (h : E q δ ta d) : E q δ (tOp rIsNQ ta (tC .non)) (.bool (isNonD d)) := e_op (d2 := .none) h (fun σ H H1 n sg o Q k => k .none .non H H1 (Gr.refl o.a) o rfl .non) fun x y H H1 hx hy e Q k =>
  Or.inl ⟨hy.nonOf, by rw [dq_non hx]; exact k (.bool (isNonD d)) _ H H1 (Gr.refl e) rfl (.bl _)⟩
theorem e_notN (h : E q δ ta d) : E q δ (tOp rNotNQ ta (tC .non)) (.bool (!isNonD d)) := e_op (d2 := .none) h (fun σ H H1 n sg o Q k => k .none .non H H1 (Gr.refl o.a) o rfl .non) fun x y H H1 hx hy e Q k =>
  Or.inl ⟨hy.nonOf, by rw [dq_non hx]; exact k (.bool (!isNonD d)) _ H H1 (Gr.refl e) rfl (.bl _)⟩
/-- a new list, not yet known -/
def JN (q : Option Addr) (δ : List Sl) (te : TE) (es : List PyData) : Prop := ∀ (σ : L2.St) (H H1 : Hp) (n : Nat), Sg H σ δ → Ok q n H H1 → ∀ Q : VK, (∀ D xs Hk H2, Gr q H H1 Hk H2 → Ok q n Hk H2 → H1 D = none → Hk D = none → H2 D = some (.lst xs) → DqAll Hk xs es → Q (.ref D) H2) → te σ H1 Q
end
end Cr

set_option Elab.async false
set_option linter.all false
set_option maxRecDepth 100000
set_option maxHeartbeats 800000
namespace Cr
open PySem PySem.Spec PyProof.Rows L2
theorem getD_lt {f : List Int} {i : Nat} (h : i < f.length) : f[i]? = some (f.getD i 0) := by
  rw [List.getElem?_eq_getElem h]; simp [List.getD_eq_getElem?_getD, h]
theorem fdiv_back {a b : Int} (h : a.fmod b = 0) : a.fdiv b * b = a := by
  have := Int.mul_fdiv_add_fmod a b
  rw [h, Int.add_zero, Int.mul_comm] at this
  exact this
end Cr

set_option Elab.async false
set_option linter.all false
set_option maxRecDepth 100000
set_option maxHeartbeats 800000
namespace Cr
open PySem PySem.Spec PyProof.Rows L2
section
variable {K : PySem.W.Frag} {q : Option Addr} {n : Nat} {δ δ' : List Sl} {te te2 ta tb : TE} {tl th : TO} {tt : TT} {c c1 c2 : Nat} {Φ : PyData → Prop} {d d2 : PyData} {lo hi : Option Int} {P1 P2 P : List Int → Prop}
theorem sIx_nat {l d : Nat} (n : Nat) : HT.sIx l d (some (n : Int)) = min n l := by
  unfold HT.sIx
  simp
  omega
theorem cutD_from (xs : List PyData) (n : Nat) : cutD xs (some (n : Int)) none = xs.drop n := by
  unfold cutD
  rw [sIx_nat]
  show (xs.drop (min n xs.length)).take (xs.length - min n xs.length) = _
  by_cases h : n ≤ xs.length
  · rw [Nat.min_eq_left h, List.take_of_length_le (by rw [List.length_drop]; omega)]
  · rw [Nat.min_eq_right (by omega), Nat.sub_self, List.take_zero, List.drop_eq_nil_of_le (by omega)]
theorem drop_int (f : List Int) (n : Nat) : (f.map PyData.int).drop n = (f.drop n).map .int := by rw [List.map_drop]
theorem e_dropI {f : List Int} {m : Int} (h : E q δ te (pol f)) (hn : E q δ te2 (.int m)) (em : m = (n : Int)) : E q δ (tSl (rSlU K) te (tPart te2) tNoPart) (pol (f.drop n)) := by
  subst em
  exact e_is (e_slT h (to_some hn) to_none) (by rw [cutD_from, drop_int]; rfl)
end
end Cr
namespace Cr
open PySem PySem.Spec PyProof.Rows L2
section
variable {q : Option Addr} {δ : List Sl} {te : TE} {c : Nat} {P : Bool → Prop}
theorem _root_.Cr.J.boolAny (h : J q δ te c (BoolP P)) : J q δ te c (BoolP fun _ => True) := h.imp fun d ⟨b, _, e⟩ => ⟨b, trivial, e⟩
end
end Cr

set_option Elab.async false
set_option linter.all false
set_option maxRecDepth 100000
set_option maxHeartbeats 800000
namespace Cr
open PySem PySem.Spec PyProof.Rows L2
theorem evalP_take (f : List Int) (x : Int) : ∀ n : Nat, n ≤ f.length → evalP (f.take n) x = sm n (fun j => f.getD j 0 * x ^ j)
  | 0, _ => rfl
  | n + 1, h => by
    rw [List.take_add_one, getD_lt (by omega)]
    show evalP (f.take n ++ [f.getD n 0]) x = sm n _ + _
    rw [evalP_snoc, evalP_take f x n (by omega), List.length_take, Nat.min_eq_left (by omega)]
theorem evalP_sm (f : List Int) (x : Int) : evalP f x = sm f.length (fun j => f.getD j 0 * x ^ j) := by
  have z := evalP_take f x f.length (Nat.le_refl _)
  rwa [List.take_length] at z
/-- the sums of a polynomial's values -/
theorem wsum_dot (f : List Int) (l : List (Int × Int)) : wsum (evalP f) l = sm f.length (fun j => f.getD j 0 * psum l j) := by
  induction l with
  | nil =>
    show (0 : Int) = _
    rw [sm_congr (G := fun _ => 0) fun i _ => by rw [psum_nil, Int.mul_zero], sm_zero]
  | cons x l ih =>
    show x.2 * evalP f x.1 + wsum (evalP f) l = _
    rw [ih, evalP_sm, ← sm_mul, ← sm_add]
    exact sm_congr fun j _ => by rw [psum_cons, Int.mul_add, Int.mul_left_comm]
def chg : List (Int × Int) → Nat
  | x :: y :: r => (if x.2 * y.2 < 0 then 1 else 0) + chg (y :: r)
  | _ => 0
theorem chg_lt : ∀ {l : List (Int × Int)}, l ≠ [] → chg l < l.length
  | [], h => absurd rfl h
  | [x], _ => Nat.zero_lt_succ _
  | x :: y :: r, _ => by
    have ih := chg_lt (l := y :: r) (by simp)
    show (if _ then 1 else 0) + chg (y :: r) < (y :: r).length + 1
    split <;> omega
theorem pos_mul {a b : Int} (h : 0 < a) (h2 : 0 < b) : 0 < a * b := Int.mul_pos h h2
theorem chg_sign : ∀ {l : List (Int × Int)}, l.Pairwise (fun a b => a.1 < b.1) → (∀ x ∈ l, x.2 ≠ 0) → l ≠ [] →
    ∃ (f : List Int) (s : Int), f.length = chg l + 1 ∧ (∀ z ∈ l, 0 < s * (z.2 * evalP f z.1)) ∧ ∀ x, l.head? = some x → ∀ k : Int, k ≤ x.1 → 0 < s * (x.2 * evalP f k)
  | [], _, _, h => absurd rfl h
  | [x], _, hz, _ => by
    have h0 := hz x (by simp)
    have h1 : evalP [1] = fun k => (0 : Int) * k + 1 := rfl
    have hs : 0 < x.2 * (x.2 * 1) := by
      rw [Int.mul_one]
      by_cases h : 0 < x.2
      · exact pos_mul h h
      · have := pos_mul (a := -x.2) (b := -x.2) (by omega) (by omega)
        rwa [Int.neg_mul_neg] at this
    refine ⟨[1], x.2, rfl, fun z hz' => ?_, fun y hy k _ => ?_⟩
    · rw [List.mem_singleton.mp hz', h1]
      show 0 < x.2 * (x.2 * (0 * _ + 1))
      rw [Int.zero_mul, Int.zero_add]; exact hs
    · have e : x = y := by simpa using hy
      subst e
      rw [h1]
      show 0 < x.2 * (x.2 * (0 * _ + 1))
      rw [Int.zero_mul, Int.zero_add]; exact hs
  | x :: y :: r, hp, hz, _ => by
    have hp2 := List.pairwise_cons.mp hp
    obtain ⟨f, s, hl, ha, hb⟩ := chg_sign (l := y :: r) hp2.2 (fun z h => hz z (by simp [h])) (by simp)
    have hxy : x.1 < y.1 := hp2.1 y (by simp)
    have hy0 := hz y (by simp)
    have hx0 := hz x (by simp)
    have hyk : ∀ k : Int, k ≤ x.1 → 0 < s * (y.2 * evalP f k) := fun k hk => hb y rfl k (by omega)
    by_cases hc : x.2 * y.2 < 0
    · have ev : ∀ k : Int, evalP (conv f [-(2 * x.1 + 1), 2]) k = evalP f k * (2 * k - (2 * x.1 + 1)) := fun k => by
        rw [conv_val]
        congr 1
        show (0 * k + 2) * k + -(2 * x.1 + 1) = _
        rw [Int.zero_mul, Int.zero_add]; omega
      have fl : (conv f [-(2 * x.1 + 1), 2]).length = chg (x :: y :: r) + 1 := by
        rw [conv_len, hl]
        show chg (y :: r) + 1 + 2 - 1 = (if x.2 * y.2 < 0 then 1 else 0) + chg (y :: r) + 1
        rw [if_pos hc]; omega
      have hx : ∀ k : Int, k ≤ x.1 → 0 < s * (x.2 * evalP (conv f [-(2 * x.1 + 1), 2]) k) := fun k hk => by
        rw [ev]
        have h1 := hyk k hk
        have h2 : 0 < (2 * x.1 + 1) - 2 * k := by omega
        have h3 := pos_mul (pos_mul (a := -(x.2 * y.2)) (by omega) h1) h2
        have h4 : 0 < y.2 * y.2 := by
          by_cases h : 0 < y.2
          · exact pos_mul h h
          · have := pos_mul (a := -y.2) (b := -y.2) (by omega) (by omega)
            rwa [Int.neg_mul_neg] at this
        generalize evalP f k = w at h3 ⊢
        have e : -(x.2 * y.2) * (s * (y.2 * w)) * ((2 * x.1 + 1) - 2 * k) = (s * (x.2 * (w * (2 * k - (2 * x.1 + 1))))) * (y.2 * y.2) := by
          rw [show ((2 * x.1 + 1) - 2 * k : Int) = -(2 * k - (2 * x.1 + 1)) by omega]
          generalize (2 * k - (2 * x.1 + 1) : Int) = u
          rw [Int.neg_mul, Int.neg_mul_neg]
          simp only [Int.mul_comm, Int.mul_left_comm, Int.mul_assoc]
        rw [e] at h3
        by_cases hq : 0 < s * (x.2 * (w * (2 * k - (2 * x.1 + 1))))
        · exact hq
        · exfalso
          have := Int.mul_nonneg (a := -(s * (x.2 * (w * (2 * k - (2 * x.1 + 1)))))) (b := y.2 * y.2) (by omega) (Int.le_of_lt h4)
          rw [Int.neg_mul] at this
          omega
      refine ⟨conv f [-(2 * x.1 + 1), 2], s, fl, fun z hz' => ?_, fun w hw k hk => ?_⟩
      · rcases List.mem_cons.mp hz' with e | hm
        · rw [e]; exact hx x.1 (Int.le_refl _)
        · rw [ev]
          have h1 := ha z hm
          have h2 : 0 < 2 * z.1 - (2 * x.1 + 1) := by
            have := hp2.1 z hm
            omega
          have h3 := pos_mul h1 h2
          have e : s * (z.2 * evalP f z.1) * (2 * z.1 - (2 * x.1 + 1)) = s * (z.2 * (evalP f z.1 * (2 * z.1 - (2 * x.1 + 1)))) := by
            rw [Int.mul_assoc, Int.mul_assoc]
          rwa [e] at h3
      · have e : x = w := by simpa using hw
        subst e
        exact hx k hk
    · have hpos : 0 < x.2 * y.2 := by
        have : x.2 * y.2 ≠ 0 := Int.mul_ne_zero hx0 hy0
        omega
      have hx : ∀ k : Int, k ≤ x.1 → 0 < s * (x.2 * evalP f k) := fun k hk => by
        have h1 := hyk k hk
        have h3 := pos_mul hpos h1
        have h4 : 0 < y.2 * y.2 := by
          by_cases h : 0 < y.2
          · exact pos_mul h h
          · have := pos_mul (a := -y.2) (b := -y.2) (by omega) (by omega)
            rwa [Int.neg_mul_neg] at this
        generalize evalP f k = w at h3 ⊢
        have e : x.2 * y.2 * (s * (y.2 * w)) = (s * (x.2 * w)) * (y.2 * y.2) := by
          simp only [Int.mul_comm, Int.mul_left_comm, Int.mul_assoc]
        rw [e] at h3
        by_cases hq : 0 < s * (x.2 * w)
        · exact hq
        · exfalso
          have := Int.mul_nonneg (a := -(s * (x.2 * w))) (b := y.2 * y.2) (by omega) (Int.le_of_lt h4)
          rw [Int.neg_mul] at this
          omega
      refine ⟨f, s, ?_, fun z hz' => ?_, fun w hw k hk => ?_⟩
      · rw [hl]
        show _ = (if x.2 * y.2 < 0 then 1 else 0) + chg (y :: r) + 1
        rw [if_neg hc]; omega
      · rcases List.mem_cons.mp hz' with e | hm
        · rw [e]; exact hx x.1 (Int.le_refl _)
        · exact ha z hm
      · have e : x = w := by simpa using hw
        subst e
        exact hx k hk
theorem wsum_pos (φ : Int → Int) (s : Int) : ∀ {l : List (Int × Int)}, (∀ z ∈ l, 0 < s * (z.2 * φ z.1)) → l ≠ [] → 0 < s * wsum φ l
  | [], _, h => absurd rfl h
  | [x], h, _ => by
    show 0 < s * (x.2 * φ x.1 + 0)
    rw [Int.add_zero]; exact h x (by simp)
  | x :: y :: r, h, _ => by
    have ih := wsum_pos φ s (l := y :: r) (fun z hz => h z (by simp [hz])) (by simp)
    show 0 < s * (x.2 * φ x.1 + wsum φ (y :: r))
    rw [Int.mul_add]
    have := h x (by simp)
    omega
/-- a ledger has a sum other than 0 not behind its changes of sign -/
theorem apart {l : List (Int × Int)} (h : Led l) (hne : l ≠ []) : ∃ j, j ≤ chg l ∧ psum l j ≠ 0 := by
  obtain ⟨f, s, hl, ha, _⟩ := chg_sign h.1 h.2 hne
  have hp := wsum_pos (evalP f) s ha hne
  refine Classical.byContradiction fun hno => ?_
  have hz : ∀ j, j < f.length → psum l j = 0 := fun j hj => Classical.byContradiction fun hj0 => hno ⟨j, by omega, hj0⟩
  rw [wsum_dot, sm_congr (G := fun _ => 0) fun j hj => by rw [hz j hj, Int.mul_zero], sm_zero, Int.mul_zero] at hp
  exact absurd hp (by decide)
def IsBl (l : List (Int × Int)) (j : Nat) : Prop := psum l j ≠ 0 ∧ ∀ i, i < j → psum l i = 0
theorem isBl_of {l : List (Int × Int)} : ∀ {n : Nat}, psum l n ≠ 0 → ∃ j, j ≤ n ∧ IsBl l j := by
  intro n
  induction n using Nat.strongRecOn with
  | ind n ih =>
    intro h
    by_cases hs : ∃ i, i < n ∧ psum l i ≠ 0
    · obtain ⟨i, hi, h0⟩ := hs
      obtain ⟨j, hj, hb⟩ := ih i hi h0
      exact ⟨j, by omega, hb⟩
    · exact ⟨n, Nat.le_refl _, h, fun i hi => Classical.byContradiction fun h0 => hs ⟨i, hi, h0⟩⟩
theorem led_bl {l : List (Int × Int)} (h : Led l) (hne : l ≠ []) : ∃ j, j ≤ chg l ∧ IsBl l j := by
  obtain ⟨n, hn, h0⟩ := apart h hne
  obtain ⟨j, hj, hb⟩ := isBl_of h0
  exact ⟨j, by omega, hb⟩
theorem IsBl.uniq {l : List (Int × Int)} {i j : Nat} (h : IsBl l i) (h2 : IsBl l j) : i = j := by
  by_cases h3 : i < j
  · exact absurd (h2.2 i h3) h.1
  · by_cases h4 : j < i
    · exact absurd (h.2 j h4) h2.1
    · omega
open Classical in
noncomputable def blD (l : List (Int × Int)) : PyData := if h : ∃ j, IsBl l j then .int ((Classical.choose h : Nat) : Int) else .none
theorem blD_is {l : List (Int × Int)} {j : Nat} (h : IsBl l j) : blD l = .int (j : Int) := by
  unfold blD
  rw [dif_pos ⟨j, h⟩, (Classical.choose_spec (⟨j, h⟩ : ∃ j, IsBl l j)).uniq h]
theorem blD_nil : blD [] = .none := by
  unfold blD
  rw [dif_neg fun ⟨j, h⟩ => h.1 (psum_nil j)]
/-! ### changes of sign, told in two ways -/
/-! ### the least blind ledger -/
def sgz (z : Int) : Int := 1 - 2 * z.fmod 2
theorem sgz_abs (z : Int) : (sgz z).natAbs = 1 := by
  unfold sgz
  have h1 := Int.fmod_nonneg_of_pos z (show (0 : Int) < 2 by decide)
  have h2 := Int.fmod_lt_of_pos z (show (0 : Int) < 2 by decide)
  omega
def turn (s : Nat) (f : Int) : List (Int × Int) := (List.range (s + 1)).map fun (k : Nat) => (f + (0 + (k : Int)), (chs s k : Int) * sgz ((s : Int) - (0 + (k : Int))))
theorem Led.sub {a b : List (Int × Int)} (h : Led b) (hs : a.Sublist b) : Led a := ⟨h.1.sublist hs, fun x hx => h.2 x (hs.subset hx)⟩
end Cr
namespace Cr
open PySem PySem.Spec PyProof.Rows L2
section
variable {q : Option Addr} {δ : List Sl} {te : TE}
theorem e_intB {b : Bool} (h : E q δ te (.bool b)) : E q δ (tCB rIntQ (tCons te tNil)) (.int (if b then 1 else 0)) := e_cb1 h fun vs H H1 h e Q k => by
  obtain ⟨v, rfl, h1⟩ := h.one
  rw [h1.blOf]
  exact .inr ⟨b, rfl, k _ _ H H1 (Gr.refl e) rfl (.int _)⟩
end
end Cr

set_option Elab.async false
set_option linter.all false
set_option maxRecDepth 100000
set_option maxHeartbeats 1000001
/-! zip of a tuple and a list -/
namespace Zm
open PySem PySem.Spec PyProof.Rows L2 RZ
section
variable {w : World} {prog : Program}
/-- what a step of an iterator needs and leaves -/
structure Nx (prog : Program) (w : World) (it l : Addr) (x : Value) (G G' : Heap → Prop) : Prop where
  run : ∀ (A : Around) (E : Value → Shared → Prop) (t : Shared) (Q : Value → Shared → Prop), G t.heap → (∀ g, G' g → Heap.SameBut it t.heap g → Q x { t with heap := g }) → wpAny (model prog w) A (Builtin.SmallTypes.nextOf (.ref it)) Q E t
  up : ∀ g g' : Heap, G g → (∀ o, g.get? it = some o → g'.get? it = some o) → (∀ o, g.get? l = some o → g'.get? l = some o) → G g'
  up' : ∀ g g' : Heap, G' g → (∀ o, g.get? it = some o → g'.get? it = some o) → G' g'
theorem nx_tup {it l : Addr} {k : Nat} {xs : Array Value} {x : Value} (hx : xs[k]? = some x) : Nx prog w it l x (fun g => g.IsTupleIter it l k ∧ g.IsTuple l xs) (fun g => g.IsTupleIter it l (k + 1)) where
  run := fun _ _ _ _ c q => nextOf_tuple_item c.1 c.2 hx q
  up := fun _ _ c u v => ⟨c.1.at fun o e => u o e, c.2.at fun o e => v o e⟩
  up' := fun _ _ c u => c.at fun o e => u o e
theorem nx_lst {it l : Addr} {k : Nat} {xs : Array Value} {x : Value} (hx : xs[k]? = some x) : Nx prog w it l x (fun g => g.IsListIter it l k ∧ g.IsList l xs) (fun g => g.IsListIter it l (k + 1)) where
  run := fun _ _ _ _ c q => wpAny_nextOf_list_item c.1 c.2 hx q
  up := fun _ _ c u v => ⟨c.1.at fun o e => u o e, c.2.at fun o e => v o e⟩
  up' := fun _ _ c u => c.at fun o e => u o e
/-- .. and of one that is at its end -/
structure Nd (prog : Program) (w : World) (it l : Addr) (G : Heap → Prop) : Prop where
  run : ∀ (A : Around) (hh : A.handled = none) (E : Value → Shared → Prop) (t : Shared) (Q : Value → Shared → Prop), G t.heap → (∀ g e, Heap.ExtBut it t.heap g → (∃ o, g.get? e = some o ∧ o.cls = .type "StopIteration") → E (.ref e) { t with heap := g }) → wpAny (model prog w) A (Builtin.SmallTypes.nextOf (.ref it)) Q E t
  up : ∀ g g' : Heap, G g → (∀ o, g.get? it = some o → g'.get? it = some o) → (∀ o, g.get? l = some o → g'.get? l = some o) → G g'
theorem nd_tup {it l : Addr} {k : Nat} {xs : Array Value} (hx : xs[k]? = none) : Nd prog w it l (fun g => g.IsTupleIter it l k ∧ g.IsTuple l xs) where
  run := fun _ hh _ _ _ c q => nextOf_tuple_end hh c.1 c.2 hx q
  up := fun _ _ c u v => ⟨c.1.at fun o e => u o e, c.2.at fun o e => v o e⟩
theorem nd_lst {it l : Addr} {k : Nat} {xs : Array Value} (hx : xs[k]? = none) : Nd prog w it l (fun g => g.IsListIter it l k ∧ g.IsList l xs) where
  run := fun _ hh _ _ _ c q => wpAny_nextOf_list_end hh c.1 c.2 hx q
  up := fun _ _ c u v => ⟨c.1.at fun o e => u o e, c.2.at fun o e => v o e⟩
end
section
variable {prog : Program} {w : World} {A : Around} {E : Value → Shared → Prop} {s : Shared} {z TI TO i1 i2 l1 l2 : Addr} {x y a b : Value} {G1 G1' G2 G2' : Heap → Prop}
theorem zip_step {Q : Value → Shared → Prop} (D : ZipApart z TI TO i1 i2 l1 l2) (kz : IsZip s.heap z TI TO .none) (kI : IsPair s.heap TI (.ref i1) (.ref i2)) (kO : IsPair s.heap TO a b)
    (n1 : Nx prog w i1 l1 x G1 G1') (n2 : Nx prog w i2 l2 y G2 G2') (c1 : G1 s.heap) (c2 : G2 s.heap)
    (kont : ∀ g, IsZip g z TI TO (rawInt s.heap.objs.size) → IsPair g TO x y → G1' g → G2' g → IsPair g s.heap.objs.size x y → (∀ c o, c ≠ z → c ≠ TO → c ≠ i1 → c ≠ i2 → s.heap.get? c = some o → g.get? c = some o) → Q (.ref s.heap.objs.size) { s with heap := g }) : wpAny (model prog w) A (Builtin.«zip.__next__» ⟨[.ref z], []⟩) (fun fin s' => ∃ v, fin = .done (.ret v) ∧ Q v s') E s := by
  show wpAny _ _ (field (.ref z) 2 >>= _) _ _ _; refine wpAny_bind (wpAny_field kz rfl (x := .bool false) rfl ?_); show wpAny _ _ (field (.ref z) 3 >>= _) _ _ _
  refine wpAny_bind (wpAny_field kz rfl (x := .ref TI) rfl ?_); refine wpAny_bind (wpAny_seqItems kI rfl ?_)
  show wpAny _ _ (Builtin.SmallTypes.ownedTupleIsFree (.ref z) >>= _) _ _ _; refine wpAny_bind ?_; unfold Builtin.SmallTypes.ownedTupleIsFree
  refine wpAny_bind (wpAny_field kz rfl (x := .none) rfl (wpAny_pure ?_)); simp only [if_true]; refine wpAny_bind (wpAny_rule ?_)
  refine wpAny_bind (wpAny_field kz rfl (x := .ref TO) rfl ?_); refine wpAny_bind (wpAny_setField_rec kz (by simp) fun g1 z1 r1 => ?_)
  have z1' : IsZip g1 z TI TO .ellipsis := z1
  refine wpAny_bind ?_; simp only [List.zipIdx_cons, List.zipIdx_nil, List.forIn_cons, List.forIn_nil]; refine wpAny_bind (wpAny_bind (wpAny_onRaise ?_))
  show wpAny _ _ (Builtin.SmallTypes.nextOf (.ref i1) >>= _) _ _ _; refine wpAny_bind (n1.run A _ _ _ (n1.up _ _ c1 (fun o e => r1.extBut _ _ D.i1z e) fun o e => r1.extBut _ _ D.l1z e) fun g2 d1 r2 => wpAny_pure ?_)
  have O2 : IsPair g2 TO a b := r2.extBut _ _ D.TOi1 (r1.extBut _ _ D.TOz kO)
  refine wpAny_bind (wpAny_seqItems O2 rfl ?_); refine wpAny_bind (wpAny_updateSeq_pair O2 fun g3 O3 r3 => ?_)
  have O3' : IsPair g3 TO x b := O3
  refine wpAny_bind (wpAny_letGo (wpAny_pure ?_)); refine wpAny_bind (wpAny_bind (wpAny_onRaise ?_)); show wpAny _ _ (Builtin.SmallTypes.nextOf (.ref i2) >>= _) _ _ _
  refine wpAny_bind (n2.run A _ _ _ (n2.up _ _ c2 (fun o e => r3.extBut _ _ D.TOi2.symm (r2.extBut _ _ D.i12.symm (r1.extBut _ _ D.i2z e))) fun o e => r3.extBut _ _ D.l2TO (r2.extBut _ _ D.l2i1 (r1.extBut _ _ D.l2z e))) fun g4 d2 r4 => wpAny_pure ?_)
  have O4 : IsPair g4 TO x b := r4.extBut _ _ D.TOi2 O3'
  refine wpAny_bind (wpAny_seqItems O4 rfl ?_); refine wpAny_bind (wpAny_updateSeq_pair O4 fun g5 O5 r5 => ?_)
  have O5' : IsPair g5 TO x y := O5
  refine wpAny_bind (wpAny_letGo (wpAny_pure (wpAny_pure ?_))); refine wpAny_bind (wpAny_seqItems O5' rfl ?_); refine wpAny_bind (wpAny_newTuple ?_)
  have sz : g5.objs.size = s.heap.objs.size := by rw [r5.1, r4.1, r3.1, r2.1, r1.1]
  have z5 : IsZip g5 z TI TO .ellipsis := r5.extBut _ _ D.TOz.symm (r4.extBut _ _ D.i2z.symm (r3.extBut _ _ D.TOz.symm (r2.extBut _ _ D.i1z.symm z1')))
  have k5 : ∀ c o, c ≠ z → c ≠ TO → c ≠ i1 → c ≠ i2 → s.heap.get? c = some o → g5.get? c = some o := fun c o p1 p2 p3 p4 e => r5.extBut _ _ p2 (r4.extBut _ _ p4 (r3.extBut _ _ p2 (r2.extBut _ _ p3 (r1.extBut _ _ p1 e))))
  have e1 : G1' g5 := n1.up' _ _ d1 fun o e => r5.extBut _ _ D.TOi1.symm (r4.extBut _ _ D.i12 (r3.extBut _ _ D.TOi1.symm e))
  have e2 : G2' g5 := n2.up' _ _ d2 fun o e => r5.extBut _ _ D.TOi2.symm e
  have lz : z < g5.objs.size := Heap.lt_size z5
  show wpAny _ _ (Builtin.SmallTypes.ownedTupleHandOut (.ref z) (.ref g5.objs.size) >>= _) _ _ _; refine wpAny_bind ?_; unfold Builtin.SmallTypes.ownedTupleHandOut
  have z6 : IsZip (g5.push { cls := .type "tuple", data := .seq #[x, y] }) z TI TO .ellipsis := Heap.get?_push_of_some _ z5
  refine wpAny_bind (wpAny_setField_rec z6 (by simp) fun g7 z7 r7 => ?_)
  have z7' : IsZip g7 z TI TO (rawInt g5.objs.size) := z7
  refine wpAny_setField_rec z7' (by simp) fun g8 z8 r8 => ?_
  have z8' : IsZip g8 z TI TO (rawInt g5.objs.size) := z8
  have to8 : ∀ c o, c ≠ z → g5.get? c = some o → g8.get? c = some o := fun c o p e => r8.extBut _ _ p (r7.extBut _ _ p (Heap.get?_push_of_some _ e))
  have T8 : IsPair g8 g5.objs.size x y := r8.extBut _ _ (Nat.ne_of_gt lz) (r7.extBut _ _ (Nat.ne_of_gt lz) (Heap.get?_push_size _ rfl))
  rw [sz] at z8' T8
  refine wpAny_pure ⟨_, rfl, ?_⟩; show Q (.ref g5.objs.size) _
  rw [sz]
  exact kont g8 z8' (to8 _ _ D.TOz O5') (n1.up' _ _ e1 fun o e => to8 _ o D.i1z e) (n2.up' _ _ e2 fun o e => to8 _ o D.i2z e) T8 fun c o p1 p2 p3 p4 e => to8 c o p1 (k5 c o p1 p2 p3 p4 e)
theorem zip_stop1 {Q : Fin → Shared → Prop} (hh : A.handled = none) (D : ZipApart z TI TO i1 i2 l1 l2) (kz : IsZip s.heap z TI TO .none) (kI : IsPair s.heap TI (.ref i1) (.ref i2)) (kO : IsPair s.heap TO a b) (n1 : Nd prog w i1 l1 G1) (c1 : G1 s.heap)
    (kont : ∀ g e, (∀ c o, c ≠ z → c ≠ TO → c ≠ i1 → c ≠ i2 → s.heap.get? c = some o → g.get? c = some o) → (∃ o, g.get? e = some o ∧ o.cls = .type "StopIteration") → E (.ref e) { s with heap := g }) : wpAny (model prog w) A (Builtin.«zip.__next__» ⟨[.ref z], []⟩) Q E s := by
  show wpAny _ _ (field (.ref z) 2 >>= _) _ _ _; refine wpAny_bind (wpAny_field kz rfl (x := .bool false) rfl ?_); show wpAny _ _ (field (.ref z) 3 >>= _) _ _ _
  refine wpAny_bind (wpAny_field kz rfl (x := .ref TI) rfl ?_); refine wpAny_bind (wpAny_seqItems kI rfl ?_)
  show wpAny _ _ (Builtin.SmallTypes.ownedTupleIsFree (.ref z) >>= _) _ _ _; refine wpAny_bind ?_; unfold Builtin.SmallTypes.ownedTupleIsFree
  refine wpAny_bind (wpAny_field kz rfl (x := .none) rfl (wpAny_pure ?_)); simp only [if_true]; refine wpAny_bind (wpAny_rule ?_)
  refine wpAny_bind (wpAny_field kz rfl (x := .ref TO) rfl ?_); refine wpAny_bind (wpAny_setField_rec kz (by simp) fun g1 z1 r1 => ?_)
  have z1' : IsZip g1 z TI TO .ellipsis := z1
  refine wpAny_bind ?_; simp only [List.zipIdx_cons, List.zipIdx_nil, List.forIn_cons, List.forIn_nil]; refine wpAny_bind (wpAny_bind (wpAny_onRaise ?_))
  show wpAny _ _ (Builtin.SmallTypes.nextOf (.ref i1) >>= _) _ _ _; refine wpAny_bind (n1.run A hh _ _ _ (n1.up _ _ c1 (fun o e => r1.extBut _ _ D.i1z e) fun o e => r1.extBut _ _ D.l1z e) fun g2 e r2 ⟨oe, he, ce⟩ => ?_)
  have z2 : IsZip g2 z TI TO .ellipsis := r2 _ _ D.i1z.symm z1'
  have ez : e ≠ z := fun q => by rw [q, z2] at he; cases he; simp at ce
  exact wpAny_setField_rec z2 (by simp) fun g3 _ r3 => kont g3 e (fun c o p1 _ p3 _ q => r3.extBut _ _ p1 (r2 _ _ p3 (r1.extBut _ _ p1 q))) ⟨oe, r3.extBut _ _ ez he, ce⟩
theorem zip_stop2 {Q : Fin → Shared → Prop} (hh : A.handled = none) (D : ZipApart z TI TO i1 i2 l1 l2) (kz : IsZip s.heap z TI TO .none) (kI : IsPair s.heap TI (.ref i1) (.ref i2)) (kO : IsPair s.heap TO a b) (n1 : Nx prog w i1 l1 x G1 G1') (n2 : Nd prog w i2 l2 G2) (c1 : G1 s.heap) (c2 : G2 s.heap)
    (kont : ∀ g e, (∀ c o, c ≠ z → c ≠ TO → c ≠ i1 → c ≠ i2 → s.heap.get? c = some o → g.get? c = some o) → (∃ o, g.get? e = some o ∧ o.cls = .type "StopIteration") → E (.ref e) { s with heap := g }) : wpAny (model prog w) A (Builtin.«zip.__next__» ⟨[.ref z], []⟩) Q E s := by
  show wpAny _ _ (field (.ref z) 2 >>= _) _ _ _; refine wpAny_bind (wpAny_field kz rfl (x := .bool false) rfl ?_); show wpAny _ _ (field (.ref z) 3 >>= _) _ _ _
  refine wpAny_bind (wpAny_field kz rfl (x := .ref TI) rfl ?_); refine wpAny_bind (wpAny_seqItems kI rfl ?_)
  show wpAny _ _ (Builtin.SmallTypes.ownedTupleIsFree (.ref z) >>= _) _ _ _; refine wpAny_bind ?_; unfold Builtin.SmallTypes.ownedTupleIsFree
  refine wpAny_bind (wpAny_field kz rfl (x := .none) rfl (wpAny_pure ?_)); simp only [if_true]; refine wpAny_bind (wpAny_rule ?_)
  refine wpAny_bind (wpAny_field kz rfl (x := .ref TO) rfl ?_); refine wpAny_bind (wpAny_setField_rec kz (by simp) fun g1 z1 r1 => ?_)
  have z1' : IsZip g1 z TI TO .ellipsis := z1
  refine wpAny_bind ?_; simp only [List.zipIdx_cons, List.zipIdx_nil, List.forIn_cons, List.forIn_nil]; refine wpAny_bind (wpAny_bind (wpAny_onRaise ?_))
  show wpAny _ _ (Builtin.SmallTypes.nextOf (.ref i1) >>= _) _ _ _; refine wpAny_bind (n1.run A _ _ _ (n1.up _ _ c1 (fun o e => r1.extBut _ _ D.i1z e) fun o e => r1.extBut _ _ D.l1z e) fun g2 d1 r2 => wpAny_pure ?_)
  have O2 : IsPair g2 TO a b := r2.extBut _ _ D.TOi1 (r1.extBut _ _ D.TOz kO)
  refine wpAny_bind (wpAny_seqItems O2 rfl ?_); refine wpAny_bind (wpAny_updateSeq_pair O2 fun g3 O3 r3 => ?_)
  refine wpAny_bind (wpAny_letGo (wpAny_pure ?_)); refine wpAny_bind (wpAny_bind (wpAny_onRaise ?_)); show wpAny _ _ (Builtin.SmallTypes.nextOf (.ref i2) >>= _) _ _ _
  refine wpAny_bind (n2.run A hh _ _ _ (n2.up _ _ c2 (fun o e => r3.extBut _ _ D.TOi2.symm (r2.extBut _ _ D.i12.symm (r1.extBut _ _ D.i2z e))) fun o e => r3.extBut _ _ D.l2TO (r2.extBut _ _ D.l2i1 (r1.extBut _ _ D.l2z e))) fun g4 e r4 ⟨oe, he, ce⟩ => ?_)
  have z4 : IsZip g4 z TI TO .ellipsis := r4 _ _ D.i2z.symm (r3.extBut _ _ D.TOz.symm (r2.extBut _ _ D.i1z.symm z1'))
  have ez : e ≠ z := fun q => by rw [q, z4] at he; cases he; simp at ce
  exact wpAny_setField_rec z4 (by simp) fun g5 _ r5 => kont g5 e (fun c o p1 p2 p3 p4 q => r5.extBut _ _ p1 (r4 _ _ p4 (r3.extBut _ _ p2 (r2.extBut _ _ p3 (r1.extBut _ _ p1 q))))) ⟨oe, r5.extBut _ _ ez he, ce⟩
theorem next_step {Q : Option Value → Shared → Prop} (D : ZipApart z TI TO i1 i2 l1 l2) (kz : IsZip s.heap z TI TO .none) (kI : IsPair s.heap TI (.ref i1) (.ref i2)) (kO : IsPair s.heap TO a b)
    (n1 : Nx prog w i1 l1 x G1 G1') (n2 : Nx prog w i2 l2 y G2 G2') (c1 : G1 s.heap) (c2 : G2 s.heap)
    (kont : ∀ g, IsZip g z TI TO (rawInt s.heap.objs.size) → IsPair g TO x y → G1' g → G2' g → IsPair g s.heap.objs.size x y → (∀ c o, c ≠ z → c ≠ TO → c ≠ i1 → c ≠ i2 → s.heap.get? c = some o → g.get? c = some o) → Q (some (.ref s.heap.objs.size)) { s with heap := g }) : wpAny (model prog w) A (pyNext (.ref z)) Q E s := by
  have ty : s.TypeIs (.ref z) "zip" := ⟨_, kz, rfl⟩
  unfold pyNext
  exact wpAny_bind (wpAny_attempt (wpAny_callSpecial?_slot (name := Str.ofString "__next__") ty F.slot_zip_next (wpAny_call_entry F.slot_zip_next ty F.entry_zip_next (zip_step D kz kI kO n1 n2 c1 c2 fun g p1 p2 p3 p4 p5 p6 => wpAny_pure (kont g p1 p2 p3 p4 p5 p6)) (F.args_zip_next_1 _))))
theorem next_stop {Q : Option Value → Shared → Prop} (kz : IsZip s.heap z TI TO .none)
    (run : ∀ (A' : Around) (E' : Value → Shared → Prop) (R : Fin → Shared → Prop), A'.handled = A.handled → (∀ g e, (∀ c o, c ≠ z → c ≠ TO → c ≠ i1 → c ≠ i2 → s.heap.get? c = some o → g.get? c = some o) → (∃ o, g.get? e = some o ∧ o.cls = .type "StopIteration") → E' (.ref e) { s with heap := g }) → wpAny (model prog w) A' (Builtin.«zip.__next__» ⟨[.ref z], []⟩) R E' s)
    (kont : ∀ g, (∀ c o, c ≠ z → c ≠ TO → c ≠ i1 → c ≠ i2 → s.heap.get? c = some o → g.get? c = some o) → Q none { s with heap := g }) : wpAny (model prog w) A (pyNext (.ref z)) Q E s := by
  have ty : s.TypeIs (.ref z) "zip" := ⟨_, kz, rfl⟩
  unfold pyNext
  refine wpAny_bind (wpAny_attempt (wpAny_callSpecial?_slot (name := Str.ofString "__next__") ty F.slot_zip_next (wpAny_call_entry F.slot_zip_next ty F.entry_zip_next (run _ _ _ rfl fun g e hk he => ?_) (F.args_zip_next_1 _))))
  obtain ⟨o, ho, hc⟩ := he
  exact wpAny_bind (wpAny_isInstance (T := "StopIteration") (b := true) ⟨o, ho, hc⟩ isSubtype_stop (wpAny_pure (kont _ hk)))
end
/-! ### zip(tuple, list) as it is walked -/
def ItzM (K : PySem.W.Frag) (a b : Addr) : It where
  go i H := ∃ (xs ys : List V) (x y : V), SqT K H a xs ∧ SqL K H b ys ∧ xs[i]? = some x ∧ ys[i]? = some y
  yld i H v H' := ∃ T x y, v = .ref T ∧ H T = none ∧ H' = upd H T (.tup [x, y]) ∧ (∀ xs, SqT K H a xs → xs[i]? = some x) ∧ ∀ ys, SqL K H b ys → ys[i]? = some y
  stop i H := ∃ xs ys : List V, SqT K H a xs ∧ SqL K H b ys ∧ (xs.length ≤ i ∨ ys.length ≤ i)
theorem turn_zipM {P : Program} {w : World} {K : PySem.W.Frag} {elts : List Expr} {kk : Nat} {tpos : Pos} {a b z TI TO i1 i2 : Addr} (D : ZipApart z TI TO i1 i2 a b) :
    Turn P w K (.Tuple elts kk tpos) (ItzM K a b) [z, TI, TO, i1, i2] z (fun i h => IsZip h z TI TO .none ∧ IsPair h TI (.ref i1) (.ref i2) ∧ (∃ x y, IsPair h TO x y) ∧ h.IsTupleIter i1 a i ∧ h.IsListIter i2 b i) where
  mem := List.mem_cons_self ..
  obj := fun i h ⟨kz, kI, ⟨x, y, kO⟩, ⟨o1, e1, _, d1⟩, ⟨o2, e2, _, d2⟩⟩ c hc => by
    simp only [List.mem_cons, List.mem_nil_iff, or_false] at hc
    rcases hc with rfl | rfl | rfl | rfl | rfl
    · exact ⟨_, kz, fun v q => nomatch q⟩
    · exact ⟨_, kI, fun v q => nomatch q⟩
    · exact ⟨_, kO, fun v q => nomatch q⟩
    · exact ⟨o1, e1, fun v q => by rw [d1] at q; cases q⟩
    · exact ⟨o2, e2, fun v q => by rw [d2] at q; cases q⟩
  keep := fun i h h' ⟨kz, kI, ⟨x, y, kO⟩, k1, k2⟩ u => ⟨u z (by simp) _ kz, u TI (by simp) _ kI, ⟨x, y, u TO (by simp) _ kO⟩, k1.at fun o e => u i1 (by simp) o e, k2.at fun o e => u i2 (by simp) o e⟩
  item := by
    rintro X rfl rfl rfl hc i pins s σ H E I hf ⟨kz, kI, ⟨x0, y0, kO⟩, k1, k2⟩ ⟨xs, ys, x, y, qx, qy, hx, hy⟩
    obtain ⟨its, rv, p, _⟩ := I.tuple qx
    obtain ⟨its2, rv2, p2, _⟩ := I.list qy
    obtain ⟨u, hu, ru⟩ := rv.get hx; obtain ⟨u2, hu2, ru2⟩ := rv2.get hy
    have lz : z < s.heap.objs.size := Heap.lt_size kz
    refine next_step D kz kI kO (nx_tup (k := i) (xs := its.toArray) (x := u) (by simpa using hu)) (nx_lst (k := i) (xs := its2.toArray) (x := u2) (by simpa using hu2)) ⟨k1, p⟩ ⟨k2, p2.isList⟩ fun g z' TO' k1' k2' hT hk => ?_
    refine ⟨_, rfl, wpAny_letOwnedTupleGo_zip (s := { s with heap := g }) z' fun g2 z2 sb => ?_⟩
    have T2 : g2.get? s.heap.objs.size = some { cls := .type "tuple", data := .seq #[u, u2] } := (sb.2 _ (Nat.ne_of_gt lz)).trans hT
    have nw : ObjOk X.prog X.w (upd H s.heap.objs.size (.tup [x, y])) g2 s.heap.objs.size (.tup [x, y]) := ⟨by show 2 ≤ sizeLine; decide, [u, u2], .cons ru (.cons ru2 .nil), ⟨_, T2, rfl, _, rfl⟩⟩
    have I1 : Inv X pins σ (upd H s.heap.objs.size (.tup [x, y])) { s with heap := g2 } := I.turnedNew (t' := s.toks) (ch := [z, TI, TO, i1, i2]) (fun c o hb e => (sb.2 c fun e' => hb (by simp [e'])).trans (hk c o (fun e' => hb (by simp [e'])) (fun e' => hb (by simp [e'])) (fun e' => hb (by simp [e'])) (fun e' => hb (by simp [e'])) e)) hf (Nat.le_refl _) nw
    refine ⟨.ref s.heap.objs.size, _, I1, rfl, ⟨_, x, y, rfl, I.hok.fresh (Nat.le_refl _), rfl, fun l hl => by rw [I.tuple_inj hl qx]; exact hx, fun l hl => by rw [I.list_inj hl qy]; exact hy⟩, ⟨z2, (sb.2 _ D.TIz).trans (hk _ _ D.TIz D.TITO D.TIi1 D.TIi2 kI), ⟨u, u2, (sb.2 _ D.TOz).trans TO'⟩, k1'.at fun o e => (sb.2 _ D.i1z).trans e, k2'.at fun o e => (sb.2 _ D.i2z).trans e⟩, fun c hcm => ?_⟩
    have hlt : c < s.heap.objs.size := by
      have hcm' := hcm
      simp only [List.mem_cons, List.mem_nil_iff, or_false] at hcm'
      rcases hcm' with rfl | rfl | rfl | rfl | rfl
      · exact lz
      · exact Heap.lt_size kI
      · exact Heap.lt_size kO
      · exact k1.elim fun _ e => Heap.lt_size e.1
      · exact k2.elim fun _ e => Heap.lt_size e.1
    rw [upd_ne (Nat.ne_of_lt hlt)]; exact (hf c hcm).1
  done := by
    rintro X rfl rfl rfl hc i pins s σ H E I hf ⟨kz, kI, ⟨x0, y0, kO⟩, k1, k2⟩ ⟨xs, ys, qx, qy, hend⟩
    obtain ⟨its, rv, p, _⟩ := I.tuple qx
    obtain ⟨its2, rv2, p2, _⟩ := I.list qy
    have m1 := rv.length
    have m2 := rv2.length
    have hh := I.ok.hd hc
    refine next_stop kz (i1 := i1) (i2 := i2) (fun A' E' R hA' kont => ?_) fun g hk => ⟨rfl, I.turnedL (t' := s.toks) (ch := [z, TI, TO, i1, i2]) (fun c o hb e => hk c o (fun e' => hb (by simp [e'])) (fun e' => hb (by simp [e'])) (fun e' => hb (by simp [e'])) (fun e' => hb (by simp [e'])) e) hf⟩
    by_cases h1 : xs.length ≤ i
    · exact zip_stop1 (hA'.trans hh) D kz kI kO (nd_tup (k := i) (xs := its.toArray) (by simp; omega)) ⟨k1, p⟩ kont
    · have h2 : ys.length ≤ i := by rcases hend with h | h; exact absurd h h1; exact h
      exact zip_stop2 (hA'.trans hh) D kz kI kO (nx_tup (k := i) (xs := its.toArray) (x := its[i]'(by omega)) (by first | (simp; done) | (simp; omega))) (nd_lst (k := i) (xs := its2.toArray) (by simp; omega)) ⟨k1, p⟩ ⟨k2, p2.isList⟩ kont
  self := fun A i s Q E st q => wpAny_pyIter_zip st.1 q
/-! ### the call -/
abbrev hp1 (h : Heap) (l1 : Addr) : Heap := h.push { cls := .type "tuple_iterator", data := .fields #[.ref l1, .int 0 0] }
abbrev hp2 (h : Heap) (l1 l2 : Addr) : Heap := (hp1 h l1).push { cls := .type "list_iterator", data := .fields #[.ref l2, .int 0 0] }
abbrev hp3 (h : Heap) (l1 l2 : Addr) : Heap := (hp2 h l1 l2).push { cls := .type "tuple", data := .seq #[.ref h.objs.size, .ref (hp1 h l1).objs.size] }
abbrev hp4 (h : Heap) (l1 l2 : Addr) : Heap := (hp3 h l1 l2).push { cls := .type "tuple", data := .seq #[.none, .none] }
abbrev hp5 (h : Heap) (l1 l2 : Addr) : Heap := (hp4 h l1 l2).push { cls := .type "zip", data := .fields #[.none, .bool false, .bool false, .ref (hp2 h l1 l2).objs.size, .ref (hp3 h l1 l2).objs.size] }
theorem meets_new (l1 l2 : Addr) (xs ys : Array Value) : Meets (Builtin.«zip.__new__» ⟨[.type "zip", .ref l1, .ref l2], []⟩) (fun _ R s => s.heap.IsTuple l1 xs ∧ s.heap.IsList l2 ys ∧ R (.ok (.ret (.ref (hp4 s.heap l1 l2).objs.size))) { s with heap := hp5 s.heap l1 l2 }) :=
  .of_wp fun prog w A R s ⟨k1, k2, k⟩ => by
    obtain ⟨hp, g, d, tk, os⟩ := s; have hsub := sub_zip
    have a1 : Heap.IsTuple (Shared.heap ⟨hp, g, d, tk, os⟩) l1 xs := k1
    have a2 : Heap.IsList (Shared.heap ⟨hp.push { cls := .type "tuple_iterator", data := .fields #[.ref l1, .int 0 0] }, g, d, tk, os⟩) l2 ys := Heap.IsList.push k2 _
    wp_walk using wpAny_pyIter_tuple a1, wpAny_pyIter_list a2
    exact ⟨_, rfl, k⟩
theorem call_zipM {prog : Program} {w : World} {A : Around} {E : Value → Shared → Prop} {s : Shared} {l1 l2 : Addr} {xs ys : Array Value} {Q : Value → Shared → Prop} (k1 : s.heap.IsTuple l1 xs) (k2 : s.heap.IsList l2 ys)
    (kont : ∀ g n, n = s.heap.objs.size → IsZip g (n + 4) (n + 2) (n + 3) .none → IsPair g (n + 2) (.ref n) (.ref (n + 1)) → IsPair g (n + 3) .none .none → g.IsTupleIter n l1 0 → g.IsListIter (n + 1) l2 0 → (∀ c o, s.heap.get? c = some o → g.get? c = some o) → Q (.ref (n + 4)) { s with heap := g }) : wpAny (model prog w) A (call (.type "zip") [.ref l1, .ref l2]) Q E s := by
  refine callType_new F.called_zip (by decide) (F.typeCall_zip_2 _ _) (F.newCall_zip_2 _ _) (fun obj => F.args_object_init_3 obj _ _) F.entry_zip_new (meets_new l1 l2 xs ys) ⟨k1, k2, ?_⟩
  have s1 : (hp1 s.heap l1).objs.size = s.heap.objs.size + 1 := Heap.size_push ..
  have s2 : (hp2 s.heap l1 l2).objs.size = s.heap.objs.size + 2 := (Heap.size_push ..).trans (by rw [s1])
  have s3 : (hp3 s.heap l1 l2).objs.size = s.heap.objs.size + 3 := (Heap.size_push ..).trans (by rw [s2])
  have s4 : (hp4 s.heap l1 l2).objs.size = s.heap.objs.size + 4 := (Heap.size_push ..).trans (by rw [s3])
  have q4 : (hp5 s.heap l1 l2).get? (hp4 s.heap l1 l2).objs.size = some _ := Heap.get?_push_size _ rfl
  have q3 : (hp5 s.heap l1 l2).get? (hp3 s.heap l1 l2).objs.size = some _ := Heap.get?_push_of_some _ (Heap.get?_push_size _ rfl)
  have q2 : (hp5 s.heap l1 l2).get? (hp2 s.heap l1 l2).objs.size = some _ := Heap.get?_push_of_some _ (Heap.get?_push_of_some _ (Heap.get?_push_size _ rfl))
  have q1 : (hp5 s.heap l1 l2).get? (hp1 s.heap l1).objs.size = some _ := Heap.get?_push_of_some _ (Heap.get?_push_of_some _ (Heap.get?_push_of_some _ (Heap.get?_push_size _ rfl)))
  have q0 : (hp5 s.heap l1 l2).get? s.heap.objs.size = some _ := Heap.get?_push_of_some _ (Heap.get?_push_of_some _ (Heap.get?_push_of_some _ (Heap.get?_push_of_some _ (Heap.get?_push_size _ rfl))))
  show _ ∧ _
  rw [s2, s3, s4] at q4; rw [s1, s2] at q2; rw [s3] at q3; rw [s1] at q1; rw [s4]
  exact ⟨⟨_, q4, rfl⟩, kont _ _ rfl q4 q2 q3 ⟨_, q0, rfl, rfl⟩ ⟨_, q1, rfl, rfl⟩ fun c o e => Heap.get?_push_of_some _ (Heap.get?_push_of_some _ (Heap.get?_push_of_some _ (Heap.get?_push_of_some _ (Heap.get?_push_of_some _ e))))⟩
def iZipM (K : PySem.W.Frag) (ta : TA) : TI := fun σ H R => ta σ H fun vs H1 => ∃ a b xs ys, vs = [.ref a, .ref b] ∧ SqT K H1 a xs ∧ SqL K H1 b ys ∧ R (ItzM K a b) H1
theorem pi_zipM {X : Cx} {K : PySem.W.Frag} {e e2 : Expr} {ta : TA} {p pos tpos : Pos} {elts : List Expr} {kk : Nat} (hK : X.K = K) (hg : Gl X "zip") (hm : X.mg "zip" = none) (ha : PA X [e, e2] ta) (hs : starEach [e, e2] X.env = (false, eval e X.env) :: starEach [e2] X.env := by rfl) (hpl : (backTo pos (starEach [e2] X.env)).any (·.1) = false := by rfl) :
    PI X (.Tuple elts kk tpos) (.Call (.Name "zip" p) [e, e2] [] pos) (iZipM K ta) := by
  subst hK
  refine ⟨fun pins s σ H R I h => Call_ (ld_blt I hg hm PyProof.Rows.boot_zip (PyProof.Rows.callWith_type1 (thn (ha.run pos pins s σ H _ I h) fun us s1 ⟨vs, H1, I1, r1, q1⟩ => ?_) hs hpl))⟩
  obtain ⟨a, b, xs, ys, rfl, qx, qy, q⟩ := q1
  obtain ⟨u1, u2, rfl, ra, rb⟩ : ∃ u1 u2, us = [u1, u2] ∧ RelV (.ref a) u1 ∧ RelV (.ref b) u2 := by
    cases r1 with
    | cons r rr => cases rr with
      | cons r' rr => cases rr; exact ⟨_, _, rfl, r, r'⟩
  cases ra; cases rb
  obtain ⟨its, rv, p1, _⟩ := I1.tuple qx
  obtain ⟨its2, rv2, p2, _⟩ := I1.list qy
  obtain ⟨o1, ho1, _⟩ := id p1
  refine call_zipM (show s1.heap.IsTuple a its.toArray from p1) p2.isList fun g n en kz kI kO k1 k2 hk => wpAny_pyIter_zip kz ?_
  have I2 : Inv X pins σ H1 { s1 with heap := g } := I1.kept (t' := s1.toks) hk
  subst en
  refine ⟨s1.heap.objs.size + 4, [s1.heap.objs.size + 4, s1.heap.objs.size + 2, s1.heap.objs.size + 3, s1.heap.objs.size, s1.heap.objs.size + 1], _, _, H1, rfl, I2, turn_zipM (PySem.W.ktu_apart s1.heap.objs.size a b (Heap.lt_size ho1) p2.lt), ⟨kz, kI, ⟨_, _, kO⟩, k1, k2⟩, fun c hcm => ?_, q⟩
  have hd : c = s1.heap.objs.size + 4 ∨ c = s1.heap.objs.size + 2 ∨ c = s1.heap.objs.size + 3 ∨ c = s1.heap.objs.size + 0 ∨ c = s1.heap.objs.size + 1 := by simpa using hcm
  have hle : s1.heap.objs.size ≤ c := (by rcases hd with z | z | z | z | z <;> rw [z] <;> exact Nat.le_add_right _ _); exact I1.fpOk hle (I1.hok.fresh hle)
end Zm
namespace Cr
open PySem PySem.Spec PyProof.Rows L2 Zm
section
variable {K : PySem.W.Frag} {q : Option Addr} {δ : List Sl} {ta tb : TE}
theorem walk_zipM {H : Hp} {a b : Addr} {xs ys : List V} {ds es : List PyData} (np : ∀ d ∈ ds, notPair d = true) (h : Tp H a xs ds) (hd : DqAll H xs ds) (h2 : H b = some (.lst ys)) (he : DqAll H ys es) : WalkD (Zm.ItzM K a b) (zipD ds es) H := fun i Hk H' s1 s2 => by
  have e := ((h.mono s1).mono s2).rd
  have e2 := s2 _ _ (s1 _ _ h2)
  have hl1 := hd.length
  have hl2 := he.length
  rw [zipD_len]
  refine ⟨fun hi => ?_, fun hi => ⟨xs, ys, .inl e, SqL.of1 e2, by omega⟩⟩
  have g1 : xs[i]? = some (xs[i]'(by omega)) := List.getElem?_eq_getElem _
  have g2 : ys[i]? = some (ys[i]'(by omega)) := List.getElem?_eq_getElem _
  refine ⟨⟨xs, ys, _, _, .inl e, SqL.of1 e2, g1, g2⟩, fun v H2 y => ?_⟩
  obtain ⟨T, x, y, rfl, hT, rfl, f1, f2⟩ := y
  obtain ⟨d1, p1, p2⟩ := hd.get' (f1 xs (.inl e))
  obtain ⟨d2, p3, p4⟩ := he.get' (f2 ys (SqL.of1 e2))
  have g := Gr.new (q := none) (o := .tup [x, y]) s2 hT
  refine ⟨_, g, _, zipD_get ds es i d1 d2 p1 p3, .tup (.inr ⟨np d1 (List.mem_of_getElem? p1), upd_same⟩) (.cons (Dq.mono (s1.trans g.k) _ _ p2) (.cons (Dq.mono (s1.trans g.k) _ _ p4) .nil))⟩
theorem ie_zipM {ds es : List PyData} (h : E q δ ta (.tuple ds)) (h2 : E q δ tb (.list es)) (np : ∀ d ∈ ds, notPair d = true := by intro d hd; obtain ⟨x, _, rfl⟩ := List.mem_map.mp hd; rfl) : IE q δ (Zm.iZipM K (tCons ta (tCons tb tNil))) (zipD ds es) := fun σ H H1 n sg o R k =>
  h σ H H1 n sg o _ fun d v Hk H2 g o1 e dv => h2 σ Hk H2 n (sg.mono g.k) o1 _ fun d' v' Hk' H3 g' o2 e' dv' => by
    subst e; subst e'
    obtain ⟨a, xs, rfl, p1, p2⟩ := (Dq.mono g'.k _ _ dv).tupOf
    obtain ⟨b, ys, rfl, p3, p4⟩ := dv'.lstOf
    exact ⟨a, b, xs, ys, rfl, .inl (p1.mono g'.a).rd, SqL.of1 (g'.a _ _ p3), k _ _ Hk' H3 (g.trans g') o2 rfl (walk_zipM np p1 p2 p3 p4)⟩
end
end Cr

set_option Elab.async false
set_option linter.all false
set_option maxRecDepth 100000
set_option maxHeartbeats 1000001
namespace Zm
open PySem PySem.Spec PyProof.Rows L2 RZ
/-! ### zip(tuple, tuple), the items known to have no dict of their own -/
def ItzS (K : PySem.W.Frag) (a b : Addr) : It where
  go i H := ∃ (xs ys : List V) (x y : V), SqT K H a xs ∧ SqT K H b ys ∧ xs[i]? = some x ∧ ys[i]? = some y
  yld i H v H' := ∃ T x y, v = .ref T ∧ H T = none ∧ (∃ ob : Obj, ob.dict = none ∧ H' = upd H T (.frz ob (.tup [x, y]))) ∧ (∀ xs, SqT K H a xs → xs[i]? = some x) ∧ ∀ ys, SqT K H b ys → ys[i]? = some y
  stop i H := ∃ xs ys : List V, SqT K H a xs ∧ SqT K H b ys ∧ (xs.length ≤ i ∨ ys.length ≤ i)
theorem turn_zipS {P : Program} {w : World} {K : PySem.W.Frag} {elts : List Expr} {kk : Nat} {tpos : Pos} {a b z TI TO i1 i2 : Addr} (D : ZipApart z TI TO i1 i2 a b) :
    Turn P w K (.Tuple elts kk tpos) (ItzS K a b) [z, TI, TO, i1, i2] z (fun i h => IsZip h z TI TO .none ∧ IsPair h TI (.ref i1) (.ref i2) ∧ (∃ x y, IsPair h TO x y) ∧ h.IsTupleIter i1 a i ∧ h.IsTupleIter i2 b i) where
  mem := List.mem_cons_self ..
  obj := fun i h ⟨kz, kI, ⟨x, y, kO⟩, ⟨o1, e1, _, d1⟩, ⟨o2, e2, _, d2⟩⟩ c hc => by
    simp only [List.mem_cons, List.mem_nil_iff, or_false] at hc
    rcases hc with rfl | rfl | rfl | rfl | rfl
    · exact ⟨_, kz, fun v q => nomatch q⟩
    · exact ⟨_, kI, fun v q => nomatch q⟩
    · exact ⟨_, kO, fun v q => nomatch q⟩
    · exact ⟨o1, e1, fun v q => by rw [d1] at q; cases q⟩
    · exact ⟨o2, e2, fun v q => by rw [d2] at q; cases q⟩
  keep := fun i h h' ⟨kz, kI, ⟨x, y, kO⟩, k1, k2⟩ u => ⟨u z (by simp) _ kz, u TI (by simp) _ kI, ⟨x, y, u TO (by simp) _ kO⟩, k1.at fun o e => u i1 (by simp) o e, k2.at fun o e => u i2 (by simp) o e⟩
  item := by
    rintro X rfl rfl rfl hc i pins s σ H E I hf ⟨kz, kI, ⟨x0, y0, kO⟩, k1, k2⟩ ⟨xs, ys, x, y, qx, qy, hx, hy⟩
    obtain ⟨its, rv, p, _⟩ := I.tuple qx
    obtain ⟨its2, rv2, p2, _⟩ := I.tuple qy
    obtain ⟨u, hu, ru⟩ := rv.get hx; obtain ⟨u2, hu2, ru2⟩ := rv2.get hy
    have lz : z < s.heap.objs.size := Heap.lt_size kz
    refine next_step D kz kI kO (nx_tup (k := i) (xs := its.toArray) (x := u) (by simpa using hu)) (nx_tup (k := i) (xs := its2.toArray) (x := u2) (by simpa using hu2)) ⟨k1, p⟩ ⟨k2, p2⟩ fun g z' TO' k1' k2' hT hk => ?_
    refine ⟨_, rfl, wpAny_letOwnedTupleGo_zip (s := { s with heap := g }) z' fun g2 z2 sb => ?_⟩
    have T2 : g2.get? s.heap.objs.size = some { cls := .type "tuple", data := .seq #[u, u2] } := (sb.2 _ (Nat.ne_of_gt lz)).trans hT
    have nw : ObjOk X.prog X.w (upd H s.heap.objs.size (.frz { cls := .type "tuple", data := .seq #[u, u2] } (.tup [x, y]))) g2 s.heap.objs.size (.frz { cls := .type "tuple", data := .seq #[u, u2] } (.tup [x, y])) := ⟨T2, by show 2 ≤ sizeLine; decide, [u, u2], .cons ru (.cons ru2 .nil), ⟨_, T2, rfl, _, rfl⟩⟩
    have I1 : Inv X pins σ (upd H s.heap.objs.size (.frz { cls := .type "tuple", data := .seq #[u, u2] } (.tup [x, y]))) { s with heap := g2 } := I.turnedNew (t' := s.toks) (ch := [z, TI, TO, i1, i2]) (fun c o hb e => (sb.2 c fun e' => hb (by simp [e'])).trans (hk c o (fun e' => hb (by simp [e'])) (fun e' => hb (by simp [e'])) (fun e' => hb (by simp [e'])) (fun e' => hb (by simp [e'])) e)) hf (Nat.le_refl _) nw
    refine ⟨.ref s.heap.objs.size, _, I1, rfl, ⟨_, x, y, rfl, I.hok.fresh (Nat.le_refl _), ⟨_, rfl, rfl⟩, fun l hl => by rw [I.tuple_inj hl qx]; exact hx, fun l hl => by rw [I.tuple_inj hl qy]; exact hy⟩, ⟨z2, (sb.2 _ D.TIz).trans (hk _ _ D.TIz D.TITO D.TIi1 D.TIi2 kI), ⟨u, u2, (sb.2 _ D.TOz).trans TO'⟩, k1'.at fun o e => (sb.2 _ D.i1z).trans e, k2'.at fun o e => (sb.2 _ D.i2z).trans e⟩, fun c hcm => ?_⟩
    have hlt : c < s.heap.objs.size := by
      have hcm' := hcm
      simp only [List.mem_cons, List.mem_nil_iff, or_false] at hcm'
      rcases hcm' with rfl | rfl | rfl | rfl | rfl
      · exact lz
      · exact Heap.lt_size kI
      · exact Heap.lt_size kO
      · exact k1.elim fun _ e => Heap.lt_size e.1
      · exact k2.elim fun _ e => Heap.lt_size e.1
    rw [upd_ne (Nat.ne_of_lt hlt)]; exact (hf c hcm).1
  done := by
    rintro X rfl rfl rfl hc i pins s σ H E I hf ⟨kz, kI, ⟨x0, y0, kO⟩, k1, k2⟩ ⟨xs, ys, qx, qy, hend⟩
    obtain ⟨its, rv, p, _⟩ := I.tuple qx
    obtain ⟨its2, rv2, p2, _⟩ := I.tuple qy
    have m1 := rv.length
    have m2 := rv2.length
    have hh := I.ok.hd hc
    refine next_stop kz (i1 := i1) (i2 := i2) (fun A' E' R hA' kont => ?_) fun g hk => ⟨rfl, I.turnedL (t' := s.toks) (ch := [z, TI, TO, i1, i2]) (fun c o hb e => hk c o (fun e' => hb (by simp [e'])) (fun e' => hb (by simp [e'])) (fun e' => hb (by simp [e'])) (fun e' => hb (by simp [e'])) e) hf⟩
    by_cases h1 : xs.length ≤ i
    · exact zip_stop1 (hA'.trans hh) D kz kI kO (nd_tup (k := i) (xs := its.toArray) (by simp; omega)) ⟨k1, p⟩ kont
    · have h2 : ys.length ≤ i := by rcases hend with h | h; exact absurd h h1; exact h
      exact zip_stop2 (hA'.trans hh) D kz kI kO (nx_tup (k := i) (xs := its.toArray) (x := its[i]'(by omega)) (by first | (simp; done) | (simp; omega))) (nd_tup (k := i) (xs := its2.toArray) (by simp; omega)) ⟨k1, p⟩ ⟨k2, p2⟩ kont
  self := fun A i s Q E st q => wpAny_pyIter_zip st.1 q
/-! ### the call -/
abbrev hp2S (h : Heap) (l1 l2 : Addr) : Heap := (hp1 h l1).push { cls := .type "tuple_iterator", data := .fields #[.ref l2, .int 0 0] }
abbrev hp3S (h : Heap) (l1 l2 : Addr) : Heap := (hp2S h l1 l2).push { cls := .type "tuple", data := .seq #[.ref h.objs.size, .ref (hp1 h l1).objs.size] }
abbrev hp4S (h : Heap) (l1 l2 : Addr) : Heap := (hp3S h l1 l2).push { cls := .type "tuple", data := .seq #[.none, .none] }
abbrev hp5S (h : Heap) (l1 l2 : Addr) : Heap := (hp4S h l1 l2).push { cls := .type "zip", data := .fields #[.none, .bool false, .bool false, .ref (hp2S h l1 l2).objs.size, .ref (hp3S h l1 l2).objs.size] }
theorem meets_newS (l1 l2 : Addr) (xs ys : Array Value) : Meets (Builtin.«zip.__new__» ⟨[.type "zip", .ref l1, .ref l2], []⟩) (fun _ R s => s.heap.IsTuple l1 xs ∧ s.heap.IsTuple l2 ys ∧ R (.ok (.ret (.ref (hp4S s.heap l1 l2).objs.size))) { s with heap := hp5S s.heap l1 l2 }) :=
  .of_wp fun prog w A R s ⟨k1, k2, k⟩ => by
    obtain ⟨hp, g, d, tk, os⟩ := s; have hsub := sub_zip
    have a1 : Heap.IsTuple (Shared.heap ⟨hp, g, d, tk, os⟩) l1 xs := k1
    have a2 : Heap.IsTuple (Shared.heap ⟨hp.push { cls := .type "tuple_iterator", data := .fields #[.ref l1, .int 0 0] }, g, d, tk, os⟩) l2 ys := Heap.IsTuple.push k2 _
    wp_walk using wpAny_pyIter_tuple a1, wpAny_pyIter_tuple a2
    exact ⟨_, rfl, k⟩
theorem call_zipS {prog : Program} {w : World} {A : Around} {E : Value → Shared → Prop} {s : Shared} {l1 l2 : Addr} {xs ys : Array Value} {Q : Value → Shared → Prop} (k1 : s.heap.IsTuple l1 xs) (k2 : s.heap.IsTuple l2 ys)
    (kont : ∀ g n, n = s.heap.objs.size → IsZip g (n + 4) (n + 2) (n + 3) .none → IsPair g (n + 2) (.ref n) (.ref (n + 1)) → IsPair g (n + 3) .none .none → g.IsTupleIter n l1 0 → g.IsTupleIter (n + 1) l2 0 → (∀ c o, s.heap.get? c = some o → g.get? c = some o) → Q (.ref (n + 4)) { s with heap := g }) : wpAny (model prog w) A (call (.type "zip") [.ref l1, .ref l2]) Q E s := by
  refine callType_new F.called_zip (by decide) (F.typeCall_zip_2 _ _) (F.newCall_zip_2 _ _) (fun obj => F.args_object_init_3 obj _ _) F.entry_zip_new (meets_newS l1 l2 xs ys) ⟨k1, k2, ?_⟩
  have s1 : (hp1 s.heap l1).objs.size = s.heap.objs.size + 1 := Heap.size_push ..
  have s2 : (hp2S s.heap l1 l2).objs.size = s.heap.objs.size + 2 := (Heap.size_push ..).trans (by rw [s1])
  have s3 : (hp3S s.heap l1 l2).objs.size = s.heap.objs.size + 3 := (Heap.size_push ..).trans (by rw [s2])
  have s4 : (hp4S s.heap l1 l2).objs.size = s.heap.objs.size + 4 := (Heap.size_push ..).trans (by rw [s3])
  have q4 : (hp5S s.heap l1 l2).get? (hp4S s.heap l1 l2).objs.size = some _ := Heap.get?_push_size _ rfl
  have q3 : (hp5S s.heap l1 l2).get? (hp3S s.heap l1 l2).objs.size = some _ := Heap.get?_push_of_some _ (Heap.get?_push_size _ rfl)
  have q2 : (hp5S s.heap l1 l2).get? (hp2S s.heap l1 l2).objs.size = some _ := Heap.get?_push_of_some _ (Heap.get?_push_of_some _ (Heap.get?_push_size _ rfl))
  have q1 : (hp5S s.heap l1 l2).get? (hp1 s.heap l1).objs.size = some _ := Heap.get?_push_of_some _ (Heap.get?_push_of_some _ (Heap.get?_push_of_some _ (Heap.get?_push_size _ rfl)))
  have q0 : (hp5S s.heap l1 l2).get? s.heap.objs.size = some _ := Heap.get?_push_of_some _ (Heap.get?_push_of_some _ (Heap.get?_push_of_some _ (Heap.get?_push_of_some _ (Heap.get?_push_size _ rfl))))
  show _ ∧ _
  rw [s2, s3, s4] at q4; rw [s1, s2] at q2; rw [s3] at q3; rw [s1] at q1; rw [s4]
  exact ⟨⟨_, q4, rfl⟩, kont _ _ rfl q4 q2 q3 ⟨_, q0, rfl, rfl⟩ ⟨_, q1, rfl, rfl⟩ fun c o e => Heap.get?_push_of_some _ (Heap.get?_push_of_some _ (Heap.get?_push_of_some _ (Heap.get?_push_of_some _ (Heap.get?_push_of_some _ e))))⟩
def iZipS (K : PySem.W.Frag) (ta : TA) : TI := fun σ H R => ta σ H fun vs H1 => ∃ a b xs ys, vs = [.ref a, .ref b] ∧ SqT K H1 a xs ∧ SqT K H1 b ys ∧ R (ItzS K a b) H1
theorem pi_zipS {X : Cx} {K : PySem.W.Frag} {e e2 : Expr} {ta : TA} {p pos tpos : Pos} {elts : List Expr} {kk : Nat} (hK : X.K = K) (hg : Gl X "zip") (hm : X.mg "zip" = none) (ha : PA X [e, e2] ta) (hs : starEach [e, e2] X.env = (false, eval e X.env) :: starEach [e2] X.env := by rfl) (hpl : (backTo pos (starEach [e2] X.env)).any (·.1) = false := by rfl) :
    PI X (.Tuple elts kk tpos) (.Call (.Name "zip" p) [e, e2] [] pos) (iZipS K ta) := by
  subst hK
  refine ⟨fun pins s σ H R I h => Call_ (ld_blt I hg hm PyProof.Rows.boot_zip (PyProof.Rows.callWith_type1 (thn (ha.run pos pins s σ H _ I h) fun us s1 ⟨vs, H1, I1, r1, q1⟩ => ?_) hs hpl))⟩
  obtain ⟨a, b, xs, ys, rfl, qx, qy, q⟩ := q1
  obtain ⟨u1, u2, rfl, ra, rb⟩ : ∃ u1 u2, us = [u1, u2] ∧ RelV (.ref a) u1 ∧ RelV (.ref b) u2 := by
    cases r1 with
    | cons r rr => cases rr with
      | cons r' rr => cases rr; exact ⟨_, _, rfl, r, r'⟩
  cases ra; cases rb
  obtain ⟨its, rv, p1, _⟩ := I1.tuple qx
  obtain ⟨its2, rv2, p2, _⟩ := I1.tuple qy
  obtain ⟨o1, ho1, _⟩ := id p1
  refine call_zipS (show s1.heap.IsTuple a its.toArray from p1) p2 fun g n en kz kI kO k1 k2 hk => wpAny_pyIter_zip kz ?_
  have I2 : Inv X pins σ H1 { s1 with heap := g } := I1.kept (t' := s1.toks) hk
  subst en
  refine ⟨s1.heap.objs.size + 4, [s1.heap.objs.size + 4, s1.heap.objs.size + 2, s1.heap.objs.size + 3, s1.heap.objs.size, s1.heap.objs.size + 1], _, _, H1, rfl, I2, turn_zipS (PySem.W.ktu_apart s1.heap.objs.size a b (Heap.lt_size ho1) (by obtain ⟨o2, ho2, _⟩ := id p2; exact Heap.lt_size ho2)), ⟨kz, kI, ⟨_, _, kO⟩, k1, k2⟩, fun c hcm => ?_, q⟩
  have hd : c = s1.heap.objs.size + 4 ∨ c = s1.heap.objs.size + 2 ∨ c = s1.heap.objs.size + 3 ∨ c = s1.heap.objs.size + 0 ∨ c = s1.heap.objs.size + 1 := by simpa using hcm
  have hle : s1.heap.objs.size ≤ c := (by rcases hd with z | z | z | z | z <;> rw [z] <;> exact Nat.le_add_right _ _); exact I1.fpOk hle (I1.hok.fresh hle)
end Zm
namespace Cr
open PySem PySem.Spec PyProof.Rows L2 Zm
section
variable {K : PySem.W.Frag} {q : Option Addr} {δ : List Sl} {ta tb : TE}
theorem walk_zipS {H : Hp} {a b : Addr} {xs ys : List V} {ds es : List PyData} (h : Tp H a xs ds) (hd : DqAll H xs ds) (h2 : Tp H b ys es) (he : DqAll H ys es) : WalkD (Zm.ItzS K a b) (zipD ds es) H := fun i Hk H' s1 s2 => by
  have e := ((h.mono s1).mono s2).rd
  have e2 := ((h2.mono s1).mono s2).rd
  have hl1 := hd.length
  have hl2 := he.length
  rw [zipD_len]
  refine ⟨fun hi => ?_, fun hi => ⟨xs, ys, .inl e, .inl e2, by omega⟩⟩
  have g1 : xs[i]? = some (xs[i]'(by omega)) := List.getElem?_eq_getElem _
  have g2 : ys[i]? = some (ys[i]'(by omega)) := List.getElem?_eq_getElem _
  refine ⟨⟨xs, ys, _, _, .inl e, .inl e2, g1, g2⟩, fun v H2 y => ?_⟩
  obtain ⟨T, x, y, rfl, hT, ⟨ob, od, rfl⟩, f1, f2⟩ := y
  obtain ⟨d1, p1, p2⟩ := hd.get' (f1 xs (.inl e))
  obtain ⟨d2, p3, p4⟩ := he.get' (f2 ys (.inl e2))
  have g := Gr.new (q := none) (o := .frz ob (.tup [x, y])) s2 hT
  refine ⟨_, g, _, zipD_get ds es i d1 d2 p1 p3, .tup (Tp.new od) (.cons (Dq.mono (s1.trans g.k) _ _ p2) (.cons (Dq.mono (s1.trans g.k) _ _ p4) .nil))⟩
theorem ie_zipS {ds es : List PyData} (h : E q δ ta (.tuple ds)) (h2 : E q δ tb (.tuple es)) : IE q δ (Zm.iZipS K (tCons ta (tCons tb tNil))) (zipD ds es) := fun σ H H1 n sg o R k =>
  h σ H H1 n sg o _ fun d v Hk H2 g o1 e dv => h2 σ Hk H2 n (sg.mono g.k) o1 _ fun d' v' Hk' H3 g' o2 e' dv' => by
    subst e; subst e'
    obtain ⟨a, xs, rfl, p1, p2⟩ := (Dq.mono g'.k _ _ dv).tupOf
    obtain ⟨b, ys, rfl, p3, p4⟩ := dv'.tupOf
    exact ⟨a, b, xs, ys, rfl, .inl (p1.mono g'.a).rd, .inl (p3.mono g'.a).rd, k _ _ Hk' H3 (g.trans g') o2 rfl (walk_zipS p1 p2 p3 p4)⟩
end
end Cr

set_option Elab.async false
set_option linter.all false
set_option maxRecDepth 100000
set_option maxHeartbeats 800000
namespace Cr
open PySem PySem.Spec PyProof.Rows L2
/-! ### xs[-2::-1] of a list -/
theorem pickBack (items : Array Value) : slicePick items (some (-2)) none (some (-1)) = items.toList.dropLast.reverse.toArray := by
  unfold slicePick
  have b : sliceBounds (some (-2)) none (some (-1)) items.size = (((items.size - 1 : Nat) : Int) - 1, -1, -1) := by
    show (max (-1 : Int) (min (-2 + (items.size : Int)) ((items.size : Int) - 1)), (-1 : Int), (-1 : Int)) = _
    congr 1
    omega
  rw [b]
  show ((sliceRange (((items.size - 1 : Nat) : Int) - 1) (-1) (-1)).filterMap (items[·]?)).toArray = _
  rw [PySem.W.krv_sliceRange, PySem.W.krv_range, List.filterMap_reverse]
  have h := PySem.pick_run items 0 (items.size - 1)
  have e : (List.range (items.size - 1)).map (0 + ·) = List.range (items.size - 1) := by
    rw [show ((0 + ·) : Nat → Nat) = id from funext fun k => Nat.zero_add k, List.map_id]
  rw [e, List.drop_zero] at h
  rw [h, List.dropLast_eq_take, Array.length_toList]
def tBackL (K : PySem.W.Frag) (te : TE) : TE := fun σ H Q => te σ H fun x H1 => ∃ a xs, x = .ref a ∧ SqL K H1 a xs ∧ ∀ p, H1 p = none → Q (.ref p) (upd H1 p (.lst xs.dropLast.reverse))
theorem dl_vals : ∀ {xs : List V} {us : List Value}, Vals xs us → Vals xs.dropLast us.dropLast
  | _, _, .nil => .nil
  | [_], _, .cons h .nil => .nil
  | _ :: _ :: _, _, .cons h (.cons h2 t) => by
    rw [List.dropLast_cons₂, List.dropLast_cons₂]
    exact .cons h (dl_vals (.cons h2 t))
theorem pe_backL {X : Cx} {K : PySem.W.Frag} {e : Expr} {te : TE} {k k2 : Nat} {p1 p2 p3 p4 p5 pos : Pos} (hK : X.K = K) (he : PE X e te) : PE X (.Subscript e (.Slice (some (.UnaryOp .USub (.Constant (.int 2) k2 p4) p5)) none (some (.UnaryOp .USub (.Constant (.int 1) k p1) p2)) p3) pos) (tBackL K te) := by
  subst hK
  refine ⟨fun pins s σ H Q I h => ?_⟩
  refine Subscript_ (thn (he.run pins s σ H _ I h) fun v s1 ⟨x, H1, I1, r1, q1⟩ => ?_)
  obtain ⟨a, xs, ex, hx, q⟩ := q1
  subst ex
  cases r1
  have hst : PO X (some (.UnaryOp .USub (.Constant (.int 1) k p1) p2)) (tPart (tUn (rU fun i => .int (-i)) (tC (.int 1)))) := po_some (pe_un un_neg pe_int)
  have hs2 : PO X (some (.UnaryOp .USub (.Constant (.int 2) k2 p4) p5)) (tPart (tUn (rU fun i => .int (-i)) (tC (.int 2)))) := po_some (pe_un un_neg pe_int)
  refine wpAny_Slice (thn (hs2.run pins s1 σ H1 (fun o H2 => o = some (-2) ∧ H2 = H1) I1 ⟨2, rfl, -2, rfl, rfl, rfl⟩) fun vl s2 ⟨l, H2, I2, pl, el, e2⟩ => ?_)
  subst el e2
  refine thn (po_none.run pins s2 σ H2 (fun o H3 => o = none ∧ H3 = H2) I2 ⟨rfl, rfl⟩) fun vu s3 ⟨u, H3, I3, pu, eu, e3⟩ => ?_
  subst eu e3
  refine thn (hst.run pins s3 σ H3 (fun o H4 => o = some (-1) ∧ H4 = H3) I3 ⟨1, rfl, -1, rfl, rfl, rfl⟩) fun vs s4 ⟨o, H4, I4, ps, eo, e4⟩ => ?_
  subst eo e4
  have I5 : Inv X pins σ H4 { s4 with heap := s4.heap.push { cls := .type "slice", data := .fields #[vl, vu, vs] } } := I4.kept (t' := s4.toks) fun b ob q => Heap.get?_push_of_some _ q
  obtain ⟨its, r, ht, hz⟩ := I5.list hx
  have hlen := r.length
  show wpAny (model X.prog X.w) X.A (subscriptTail e (.Slice (some (.UnaryOp .USub (.Constant (.int 2) k2 p4) p5)) none (some (.UnaryOp .USub (.Constant (.int 1) k p1) p2)) p3) (.ref a) (.ref s4.heap.objs.size)) (EP X pins σ Q) X.xe { s4 with heap := s4.heap.push { cls := .type "slice", data := .fields #[vl, vu, vs] } }
  refine tail_any (ops := [.ref a, .ref s4.heap.objs.size]) ht.isList.typeIs (PySem.slot_list_getitem.lookup) ?_ (by with_unfolding_all rfl)
  refine wpAny_getItem_list_slice ht.isList (Heap.IsSliceOf.new _ vl vu vs) pl pu ps (by decide) ?_ (by rw [List.size_toArray]; omega)
  rw [pickBack]
  refine ⟨.ref _, _, I5.laid (t' := s4.toks) (o := .lst xs.dropLast.reverse) (fun b ob q => Heap.get?_push_of_some _ q) (Nat.le_refl _) ?_, rfl, q _ (I5.hok.fresh (Nat.le_refl _))⟩
  exact ⟨by rw [List.length_reverse, List.length_dropLast]; omega, _, 0, (dl_vals r).reverse, Heap.get?_push_size _ rfl⟩
section
variable {K : PySem.W.Frag} {q : Option Addr} {δ : List Sl} {te ta tb : TE}
theorem DqAll.dropLast {H : Hp} : ∀ {vs : List V} {ds : List PyData}, DqAll H vs ds → DqAll H vs.dropLast ds.dropLast
  | _, _, .nil => .nil
  | _, _, .cons h .nil => .nil
  | _, _, .cons h (.cons h2 t) => by
    rw [List.dropLast_cons₂, List.dropLast_cons₂]
    exact .cons h (DqAll.dropLast (.cons h2 t))
theorem e_backL {ds : List PyData} (h : E q δ te (.list ds)) : E q δ (tBackL K te) (.list ds.dropLast.reverse) := fun σ H H1 n sg o Q k =>
  h σ H H1 n sg o _ fun d v Hk H2 g o1 ed dv => by
    subst ed
    obtain ⟨a, xs, rfl, h1, h2⟩ := dv.lstOf
    refine ⟨a, xs, rfl, SqL.of1 (g.a _ _ h1), fun p hp => ?_⟩
    have g1 := Gr.new (q := none) (o := .lst xs.dropLast.reverse) g.a hp
    exact k _ _ _ _ (g.trans g1.none_to) (o1.go g1) rfl (.lst upd_same (DqAll.mono g1.k _ _ h2.dropLast.reverse))
/-! ### list(range(..)), tuple(range(..)) -/
def rgI (a b : Int) : List Int := (List.range (b - a).toNat).map fun i => a + (i : Nat)
theorem dq_rg {H : Hp} (a b : Int) : DqAll H (rgV a b) ((rgI a b).map .int) := by
  unfold rgV rgI
  rw [List.map_map]
  induction (List.range (b - a).toNat) with
  | nil => exact .nil
  | cons x r ih => exact .cons (.int _) ih
theorem e_tupRg {a b : Int} (h : E q δ ta (.int a)) (h2 : E q δ tb (.int b)) (ok : RgOk a b) : E q δ (tTupRg (tRg2 ta tb)) (pol (rgI a b)) := fun σ H H1 n sg o Q k =>
  h σ H H1 n sg o _ fun d v Hk H2 g o1 ed dv => h2 σ Hk H2 n (sg.mono g.k) o1 _ fun d' v' Hk' H3 g' o2 ed' dv' => by
    subst ed; subst ed'
    have e1 : v = .int a := by cases dv; rfl
    have e2 : v' = .int b := by cases dv'; rfl
    refine ⟨a, b, e1, e2, ok, fun p hp => ?_⟩
    have g1 := Gr.new (q := none) (o := .tup (rgV a b)) g'.a hp
    exact k _ _ _ _ ((g.trans g').trans g1.none_to) (o2.go g1) rfl (.tup (.inr ⟨by cases (rgI a b) <;> rfl, upd_same⟩) (dq_rg a b))
end
end Cr

set_option Elab.async false
set_option linter.all false
set_option maxRecDepth 100000
set_option maxHeartbeats 800000
namespace Cr
open PySem PySem.Spec PyProof.Rows L2
/-! x - r times a polynomial, and back -/
def ml (c r : Int) : List Int → List Int
  | [] => [c]
  | a :: f => (c - r * a) :: ml a r f
def mlin (f : List Int) (r : Int) : List Int := ml 0 r f
def hornL (r : Int) : List Int → List Int
  | [] => []
  | a :: f => evalP (a :: f) r :: hornL r f
theorem ml_len (r : Int) : ∀ (f : List Int) (c : Int), (ml c r f).length = f.length + 1
  | [], _ => rfl
  | a :: f, _ => by show (ml a r f).length + 1 = _; rw [ml_len r f a]; rfl
theorem mlin_len (f : List Int) (r : Int) : (mlin f r).length = f.length + 1 := ml_len r f 0
theorem ml_val (r x : Int) : ∀ (f : List Int) (c : Int), evalP (ml c r f) x = c + (x - r) * evalP f x
  | [], c => by show (0 : Int) * x + c = c + (x - r) * 0; grind
  | a :: f, c => by
    show evalP (ml a r f) x * x + (c - r * a) = c + (x - r) * (evalP f x * x + a)
    rw [ml_val r x f a]; grind
theorem mlin_val (f : List Int) (r x : Int) : evalP (mlin f r) x = (x - r) * evalP f x := by unfold mlin; rw [ml_val, Int.zero_add]
theorem hornL_ml (r : Int) : ∀ (f : List Int) (c : Int), hornL r (ml c r f) = c :: f
  | [], c => by show [(0 : Int) * r + c] = [c]; rw [Int.zero_mul, Int.zero_add]
  | a :: f, c => by
    show evalP (ml c r (a :: f)) r :: hornL r (ml a r f) = _
    rw [hornL_ml r f a, ml_val, Int.sub_self, Int.zero_mul, Int.add_zero]
theorem hornL_mlin (f : List Int) (r : Int) : (hornL r (mlin f r)).tail = f := by unfold mlin; rw [hornL_ml]; rfl
theorem ml_comm (a b : Int) : ∀ (f : List Int) {c d c' d' : Int}, d = d' → c - b * d = c' - a * d' → ml c b (ml d a f) = ml c' a (ml d' b f)
  | [], c, d, c', d', h, e => by
    show [c - b * d, d] = [c' - a * d', d']
    rw [e, h]
  | x :: f, c, d, c', d', h, e => by
    show (c - b * (d - a * x)) :: ml (d - a * x) b (ml x a f) = (c' - a * (d' - b * x)) :: ml (d' - b * x) a (ml x b f)
    rw [ml_comm a b f (c := d - a * x) (d := x) (c' := d' - b * x) (d' := x) rfl (by rw [h]; grind)]
    congr 1
    grind
theorem mlin_comm (f : List Int) (a b : Int) : mlin (mlin f a) b = mlin (mlin f b) a := ml_comm a b f rfl (by grind)
theorem ml_get (r : Int) : ∀ (f : List Int) (c : Int) (n : Nat), (ml c r f).getD n 0 = (c :: f).getD n 0 - r * f.getD n 0
  | [], c, 0 => by simp [ml]
  | [], c, n + 1 => by simp [ml]
  | a :: f, c, 0 => by simp [ml]
  | a :: f, c, n + 1 => by
    show (ml a r f).getD n 0 = (a :: f).getD n 0 - r * f.getD n 0
    exact ml_get r f a n
theorem getD_ext {f g : List Int} (hl : f.length = g.length) (h : ∀ n, f.getD n 0 = g.getD n 0) : f = g := List.ext_getElem? fun n => by
  by_cases hn : n < f.length
  · rw [getD_lt hn, getD_lt (by omega), h]
  · rw [List.getElem?_eq_none (by omega), List.getElem?_eq_none (by omega)]
theorem tot_mapk (a c : Int) (l : List (Int × Int)) (k : Int) : tot (l.map fun x => (a + x.1, c * x.2)) k = c * tot l (k - a) := by
  induction l with
  | nil => show (0 : Int) = c * 0; rw [Int.mul_zero]
  | cons x l ih =>
    show (if a + x.1 = k then c * x.2 else 0) + tot (l.map fun x => (a + x.1, c * x.2)) k = c * ((if x.1 = k - a then x.2 else 0) + tot l (k - a))
    rw [ih, Int.mul_add]
    by_cases h : a + x.1 = k
    · rw [if_pos h, if_pos (by omega)]
    · rw [if_neg h, if_neg (by omega), Int.mul_zero]
theorem conv_lin {f : List Int} (hf : f ≠ []) (r : Int) : conv f [-r, 1] = mlin f r := by
  have h0 : 0 < f.length := List.length_pos_iff.mpr hf
  refine getD_ext (by rw [conv_len, mlin_len]; simp) fun n => ?_
  rw [conv_comm, conv_get]
  unfold mlin
  rw [ml_get]
  have e : prodL (en [-r, 1]) (en f) = (en f).map (fun y => (0 + y.1, -r * y.2)) ++ (en f).map (fun y => (1 + y.1, 1 * y.2)) := by
    show ((en f).map (fun y => (_, _)) ++ ((en f).map (fun y => (_, _)) ++ [])) = _
    rw [List.append_nil]
    rfl
  rw [e, tot_append, tot_mapk, tot_mapk, Int.sub_zero, Int.one_mul]
  have e1 : ∀ m : Nat, tot (en f) (m : Int) = f.getD m 0 := fun m => by
    have z := tot_enF f 0 m
    rw [Nat.zero_add] at z
    exact z
  rw [e1]
  cases n with
  | zero =>
    rw [show tot (en f) (((0 : Nat) : Int) - 1) = 0 from tot_no fun z => by
      obtain ⟨y, hy, e⟩ := List.mem_map.mp z
      have := (enF_mem (k := 0) hy).1
      omega]
    show -r * f.getD 0 0 + 0 = 0 - r * f.getD 0 0
    grind
  | succ m =>
    rw [show (((m + 1 : Nat) : Int) - 1) = (m : Int) by omega, e1]
    show -r * f.getD (m + 1) 0 + f.getD m 0 = f.getD m 0 - r * f.getD (m + 1) 0
    grind
/-! products over lists of keys -/
def lagr (l : List Int) : List Int := l.foldl mlin [1]
theorem lagr_roots (l : List Int) : rootsP l = lagr l := by
  unfold rootsP lagr
  suffices h : ∀ (l z : List Int), z ≠ [] → l.foldl (fun P r => conv P [-r, 1]) z = l.foldl mlin z from h l [1] (by simp)
  intro l
  induction l with
  | nil => intro z _; rfl
  | cons a l ih =>
    intro z hz
    show l.foldl (fun P r => conv P [-r, 1]) (conv z [-a, 1]) = l.foldl mlin (mlin z a)
    rw [conv_lin hz]
    exact ih _ fun e => by have := mlin_len z a; rw [e] at this; simp at this
theorem fold_comm (k : Int) : ∀ (l z : List Int), l.foldl mlin (mlin z k) = mlin (l.foldl mlin z) k
  | [], _ => rfl
  | a :: l, z => by
    show l.foldl mlin (mlin (mlin z k) a) = mlin (l.foldl mlin (mlin z a)) k
    rw [mlin_comm, fold_comm k l]
def others (l : List Int) (k : Int) : List Int := l.filter fun x => decide (x ≠ k)
theorem others_none {l : List Int} {k : Int} (h : k ∉ l) : others l k = l := List.filter_eq_self.mpr fun x hx => decide_eq_true fun e => h (e ▸ hx)
theorem fold_out {k : Int} : ∀ {l : List Int} (z : List Int), k ∈ l → l.Nodup → l.foldl mlin z = mlin ((others l k).foldl mlin z) k
  | a :: l, z, hk, hn => by
    have hn' := List.nodup_cons.mp hn
    by_cases e : a = k
    · subst e
      have eo : others (a :: l) a = l := by
        unfold others
        rw [List.filter_cons_of_neg (by simp)]
        exact others_none hn'.1
      rw [eo]
      exact fold_comm a l z
    · have eo : others (a :: l) k = a :: others l k := List.filter_cons_of_pos (by simpa using e)
      rw [eo]
      have hk' : k ∈ l := by
        rcases List.mem_cons.mp hk with h | h
        · exact absurd h.symm e
        · exact h
      exact fold_out (mlin z a) hk' hn'.2
def lag (l : List Int) (k : Int) : List Int := lagr (others l k)
theorem lagr_out {l : List Int} {k : Int} (h : k ∈ l) (hn : l.Nodup) : lagr l = mlin (lag l k) k := fold_out [1] h hn
theorem lagr_ne (l : List Int) (k : Int) : evalP (lagr (others l k)) k ≠ 0 := by
  unfold lagr
  suffices h : ∀ (l z : List Int), k ∉ l → evalP z k ≠ 0 → evalP (l.foldl mlin z) k ≠ 0 from h _ [1] (fun z => by simpa using (List.mem_filter.mp z).2) (by show (0 : Int) * k + 1 ≠ 0; omega)
  intro l
  induction l with
  | nil => intro z _ hz; exact hz
  | cons a l ih =>
    intro z hk hz
    refine ih (mlin z a) (fun h => hk (List.mem_cons_of_mem _ h)) ?_
    rw [mlin_val]
    have : k - a ≠ 0 := fun e => hk (by rw [show k = a by omega]; simp)
    exact Int.mul_ne_zero this hz
/-! what is shared out, and the only ledger on keys -/
def dotI (f g : List Int) : Int := (zmul f g).sum
def share (keys nums : List Int) (k : Int) : Int × Int := (dotI (lag keys k) nums, evalP (lag keys k) k)
def shBad (keys nums : List Int) (k : Int) : Bool := decide ((share keys nums k).1.fmod (share keys nums k).2 ≠ 0)
def shPair (keys nums : List Int) (k : Int) : Int × Int := (k, (share keys nums k).1.fdiv (share keys nums k).2)
def onlyB (keys nums : List Int) : List (Int × Int) := (keys.map (shPair keys nums)).filter fun x => decide (x.2 ≠ 0)
def onlyL (keys nums : List Int) : Option (List (Int × Int)) := if keys.any (shBad keys nums) = true then none else if psums (onlyB keys nums) nums.length = nums then some (onlyB keys nums) else none
def oLed : Option (List (Int × Int)) → PyData
  | none => .none
  | some l => led l
theorem tot_nz (l : List (Int × Int)) (k : Int) : tot (l.filter fun x => decide (x.2 ≠ 0)) k = tot l k := by
  induction l with
  | nil => rfl
  | cons x l ih =>
    by_cases h : x.2 = 0
    · rw [List.filter_cons_of_neg (by simpa using h), ih]
      show _ = (if x.1 = k then x.2 else 0) + tot l k
      rw [h]; split <;> omega
    · rw [List.filter_cons_of_pos (by simpa using h)]
      show (if x.1 = k then x.2 else 0) + tot (l.filter fun x => decide (x.2 ≠ 0)) k = (if x.1 = k then x.2 else 0) + tot l k
      rw [ih]
theorem gather_nz {l : List (Int × Int)} (h : l.Pairwise fun a b => a.1 < b.1) : gather l = l.filter fun x => decide (x.2 ≠ 0) := by
  rw [gather_ext (ds := l.filter fun x => decide (x.2 ≠ 0)) fun k => (tot_nz l k).symm]
  exact gather_self ⟨h.filter _, fun x hx => by simpa using (List.mem_filter.mp hx).2⟩
/-! bounds -/
theorem lag_len_le (l : List Int) (k : Int) : (others l k).length ≤ l.length := List.length_filter_le ..
theorem lag_CB {l : List Int} (h : CB 56 l) (hl : l.length ≤ 400) (k : Int) : CB (1 + 70 * l.length) (lag l k) := by
  have h2 : CB 56 (others l k) := fun a ha => h a (List.mem_filter.mp ha).1
  have z := rootsP_CB h2 (Nat.le_trans (lag_len_le l k) hl) _ (Nat.le_refl _)
  rw [List.take_length, lagr_roots] at z
  have := lag_len_le l k
  exact z.mono (by omega)
theorem lag_len (l : List Int) (k : Int) : (lag l k).length = (others l k).length + 1 := by
  unfold lag
  rw [← lagr_roots]
  have := rootsP_len (others l k) _ (Nat.le_refl _)
  rw [List.take_length] at this
  exact this
theorem lag_len_in {l : List Int} {k : Int} (h : k ∈ l) (hn : l.Nodup) : (lag l k).length = l.length := by
  have e := congrArg List.length (lagr_out h hn)
  rw [mlin_len, ← lagr_roots] at e
  have := rootsP_len l _ (Nat.le_refl _)
  rw [List.take_length] at this
  omega
theorem dot_bits {f g : List Int} {B C N : Nat} (hf : CB B f) (hg : CB C g) (hl : f.length ≤ 2 ^ N) : (dotI f g).natAbs < 2 ^ (B + C + N + 1) := by
  refine sum_bits (fun x hx => ?_) (by unfold zmul; rw [List.length_map, List.length_zip]; omega)
  obtain ⟨y, hy, rfl⟩ := List.mem_map.mp hx
  have hz := List.of_mem_zip (a := y.1) (b := y.2) hy
  exact mul_bits (hf _ hz.1) (hg _ hz.2)
theorem fdiv_le {a b : Int} (hb : b ≠ 0) (h : a.fmod b = 0) : (a.fdiv b).natAbs ≤ a.natAbs := by
  have e := congrArg Int.natAbs (fdiv_back h)
  rw [Int.natAbs_mul] at e
  have : 1 ≤ b.natAbs := by omega
  rw [← e]
  exact Nat.le_mul_of_pos_right _ this
theorem share_bot (keys nums : List Int) (k : Int) : (share keys nums k).2 ≠ 0 := lagr_ne keys k
theorem share_top {keys nums : List Int} {B : Nat} (h : CB 56 keys) (hl : keys.length ≤ 400) (hn : CB B nums) (k : Int) : (share keys nums k).1.natAbs < 2 ^ (28020 + B) := by
  have z : (share keys nums k).1.natAbs < 2 ^ (1 + 70 * keys.length + B + 9 + 1) := dot_bits (N := 9) (lag_CB h hl k) hn (by rw [lag_len]; have := lag_len_le keys k; omega)
  exact lt_pow z (by omega)
theorem share_low {keys nums : List Int} (h : CB 56 keys) (hl : keys.length ≤ 60) {k : Int} (hk : k.natAbs < 2 ^ 56) : (share keys nums k).2.natAbs < 2 ^ 8500 := by
  have z := evalP_bound (x := k) (lt_pow hk (by omega)) (lag_CB h (by omega) k)
  rw [lag_len] at z
  have := lag_len_le keys k
  exact lt_pow z (by omega)
theorem shBad_no {keys nums : List Int} {k : Int} (h : shBad keys nums k = false) : (share keys nums k).1.fmod (share keys nums k).2 = 0 := by
  have := of_decide_eq_false h
  omega
theorem onlyB_Kb {keys nums : List Int} {B : Nat} (h : CB 56 keys) (hl : keys.length ≤ 400) (hn : CB B nums) (hb : keys.any (shBad keys nums) = false) : Kb 56 (28020 + B) (onlyB keys nums) := fun x hx => by
  obtain ⟨k, hk, rfl⟩ := List.mem_map.mp (List.mem_filter.mp hx).1
  have z := List.any_eq_false.mp hb k hk
  exact ⟨h k hk, Nat.lt_of_le_of_lt (fdiv_le (share_bot keys nums k) (shBad_no (by simpa using z))) (share_top h hl hn k)⟩
theorem onlyB_len (keys nums : List Int) : (onlyB keys nums).length ≤ keys.length := Nat.le_trans (List.length_filter_le ..) (by rw [List.length_map]; exact Nat.le_refl _)
/-! the loop of divided -/
theorem hornL_len (r : Int) : ∀ f : List Int, (hornL r f).length = f.length
  | [] => rfl
  | a :: f => by show (hornL r f).length + 1 = f.length + 1; rw [hornL_len r f]
theorem tail_back (l : List Int) : (l.reverse.map PyData.int).dropLast.reverse = l.tail.map .int := by
  rw [← List.map_dropLast, ← List.map_reverse, List.dropLast_reverse, List.reverse_reverse]
end Cr
namespace L2
open PySem PySem.Spec PyProof.Rows
theorem k_any {X : Cx} {K : PySem.W.Frag} (h : X.K = K) (hc : X.calm = true) : CallR X (.builtin "any") (rAny K) := h ▸ cr_any hc
end L2
namespace Cr
open PySem PySem.Spec PyProof.Rows L2
section
variable {K : PySem.W.Frag} {q : Option Addr} {n : Nat} {δ : List Sl} {te : TE} {Φ : PyData → Prop} {d1 d2 d3 : PyData}
theorem rc_any {bs : List Bool} (hp : Φ (.bool (bs.any id))) : RCJ (rAny K) [.list (bs.map .bool)] Φ := fun vs H H1 h e Q k => by
  obtain ⟨v, rfl, h1⟩ := h.one
  obtain ⟨a, xs, rfl, h2, h3⟩ := h1.lstOf
  have e2 := DqAll.bls h3
  subst e2
  exact ⟨a, bs, rfl, .inl (.inl (e _ _ h2)), k _ _ H H1 (Gr.refl e) hp (.bl _)⟩
theorem e_any {bs : List Bool} (h : E q δ te (.list (bs.map .bool))) : E q δ (tCB (rAny K) (tCons te tNil)) (.bool (bs.any id)) := e_cb1 h (rc_any rfl)
theorem any_id_map {α : Type} (l : List α) (f : α → Bool) : (l.map f).any id = l.any f := by rw [List.any_map]; rfl
/-- key, (top, bottom) -/
theorem gb_tupN {i j k : Nat} {vs : List Nat} (h : i ∈ vs) (h' : j ∈ vs) (h2 : k ∈ vs) : GB δ (gTup K 2 (gCons (gName i) (gCons (gTup K 2 (gCons (gName j) (gCons (gName k) gNil))) gNil))) (.tuple [d1, .tuple [d2, d3]]) (((δ.set i (.dat d1)).set j (.dat d2)).set k (.dat d3)) vs := fun σ H H1 v sg s dv Q kk => by
  obtain ⟨a, xs, rfl, p1, p2⟩ := dv.tupOf
  obtain ⟨x, y, rfl, dx, dy⟩ := p2.two
  obtain ⟨b, ys, rfl, p3, p4⟩ := dy.tupOf
  obtain ⟨u, w, rfl, du, dw⟩ := p4.two
  refine ⟨a, [x, _], rfl, .inl (p1.mono s).rd, rfl, x, [_], rfl, _, [], rfl, b, [u, w], rfl, .inl (p3.mono s).rd, rfl, u, [w], rfl, w, [], rfl, rfl, ?_⟩
  refine ⟨rfl, kk _ (((sg.set i (s := .dat d1) dx).set j (s := .dat d2) du).set k (s := .dat d3) dw) (by rw [List.length_set, List.length_set, List.length_set]) fun l hl => ?_⟩
  rw [List.getElem?_set_ne (fun e => hl (by rw [← e]; exact h2)), List.getElem?_set_ne (fun e => hl (by rw [← e]; exact h')), List.getElem?_set_ne (fun e => hl (by rw [← e]; exact h))]
end
end Cr
namespace Cr
open PySem PySem.Spec PyProof.Rows L2
theorem rgI_len (a b : Int) : (rgI a b).length = (b - a).toNat := by unfold rgI; rw [List.length_map, List.length_range]
theorem rgI_asc (a b : Int) : (rgI a b).Pairwise (· < ·) := by
  unfold rgI
  refine List.pairwise_map.mpr (List.Pairwise.imp (fun {x y} h => ?_) List.pairwise_lt_range)
  omega
theorem asc_nodup {l : List Int} (h : l.Pairwise (· < ·)) : l.Nodup := List.Pairwise.imp (fun {x y} z => by omega) h
theorem rgI_nodup (a b : Int) : (rgI a b).Nodup := asc_nodup (rgI_asc a b)
theorem rgI_CB {a b : Int} (ha : a.natAbs < 2 ^ 55) (h0 : 0 ≤ b) (h1 : b ≤ 60) : CB 56 (rgI a (a + b)) := fun x hx => by
  obtain ⟨i, hi, rfl⟩ := List.mem_map.mp hx
  have := List.mem_range.mp hi
  omega
theorem eqvAll_pols : ∀ f g : List Int, PyData.eqvAll (f.map .int) (g.map .int) = decide (f = g)
  | [], [] => by simp [PyData.eqvAll]
  | [], _ :: _ => by simp [PyData.eqvAll]
  | _ :: _, [] => by simp [PyData.eqvAll]
  | a :: f, b :: g => by
    show PyData.eqvAll (.int a :: f.map .int) (.int b :: g.map .int) = _
    have e : (a == b) = decide (a = b) := by by_cases h : a = b <;> simp [h]
    simp [PyData.eqvAll, PyData.eqv, eqvAll_pols f g, e]
theorem eqv_pols (f g : List Int) : PyData.eqv (pol f) (pol g) = decide (f = g) := by
  simp [pol, PyData.eqv, eqvAll_pols]
end Cr
namespace Cr
open PySem PySem.Spec PyProof.Rows L2
theorem CB.take {l : List Int} {B : Nat} (h : CB B l) (n : Nat) : CB B (l.take n) := fun a ha => h a (List.mem_of_mem_take ha)
theorem CB.drop {l : List Int} {B : Nat} (h : CB B l) (n : Nat) : CB B (l.drop n) := fun a ha => h a (List.mem_of_mem_drop ha)
section
variable {K : PySem.W.Frag} {q : Option Addr} {n : Nat} {δ : List Sl} {te : TE} {A0 B0 Hk H1 : Hp} {σ : L2.St} {D : Ends} {tz t : TS}
end
end Cr

set_option Elab.async false
set_option linter.all false
set_option maxRecDepth 100000
set_option maxHeartbeats 3200000
/-! sorted(set(list of integers)) -/
namespace Cr
open PySem PySem.Spec PyProof.Rows L2
abbrev emptySet (w : World) : Obj := { cls := .type "set", dict := none, data := .set #[] 0 (.fresh 0 0 (!w.params.followText "set-order")) }
section
variable {P : Program} {w : World} {A : Around} {E : Value → Shared → Prop} {s : Shared}
/-- the body of set.__init__ with a list of integers: the set stands at S -/
theorem fill_set {S l : Addr} {items : Array Value} (ns : List Int) {R : Value → Shared → Prop} (hh : A.handled = none) (hS : s.heap.get? S = some (emptySet w))
    (hl : s.heap.IsList l items) (ne : l ≠ S) (hit : PyProof.Rows.IntsAre items.toList ns) (hb : ns.length + 1 < scanBound)
    (hR : ∀ (h' : Heap) (tk c : Nat), SetR w h' S (fun j => decide (j ∈ ns)) c → c ≤ ns.length → (∀ b o, b ≠ S → s.heap.get? b = some o → h'.get? b = some o) → R .none { s with heap := h', toks := tk }) :
    wpAny (model P w) A (Builtin.«set.__init__» ⟨[.ref S, .ref l], []⟩) (fun fin s' => ∃ v, fin = .done (.ret v) ∧ R v s') E s := by
  have ln : items.size = ns.length := by rw [← Array.length_toList]; exact PyProof.Rows.IntsAre.length hit
  have hlS : l < s.heap.objs.size := by obtain ⟨_, e, _⟩ := hl; exact Heap.lt_size e
  have hSS : S < s.heap.objs.size := Heap.lt_size hS
  have walk : WalksS P w A.in1 _ _ _ _ _ _ _ := (Walks.list (A := A.in1) (w := w) (prog := P) (by simp [hh]) s.heap.objs.size l (Nat.ne_of_lt hlS) items).toS
  obtain ⟨ol, hol, hcl, nl, hdl⟩ := id hl
  obtain ⟨ocls, odict, odata, oslots⟩ := ol
  simp only at hcl hdl
  subst hcl; subst hdl
  have c1 := F.sub_list_set
  have c2 := F.sub_list_frozenset
  have c3 : (Value.type "list" == Value.type "dict") = false := by decide
  unfold Builtin.«set.__init__» noKeywords Builtin.Frozenset.updateFrom
  generalize hPI : pyIter = PI
  wp_walk
  subst hPI
  have val : ∀ (i : Nat) (v : Value), items[i]? = some v → ∃ k t, ns[i]? = some k ∧ v = .int k t := fun i v hv => by
    obtain ⟨hi, _⟩ := Array.getElem?_eq_some_iff.mp hv
    rw [ln] at hi
    obtain ⟨t, e⟩ := PyProof.Rows.IntsAre.int_at hit i v (by rw [Array.getElem?_toList]; exact hv)
    exact ⟨ns[i], t, List.getElem?_eq_getElem hi, by rw [e, List.getD_eq_getElem?_getD, List.getElem?_eq_getElem hi]; rfl⟩
  have away : S ∉ [s.heap.objs.size, l] := by
    rw [List.mem_cons, List.mem_singleton]
    rintro (z | z)
    · exact absurd z (Nat.ne_of_lt hSS)
    · exact ne z.symm
  refine wpAny_pyIter_list hl (wpAny_bind (wpAny_runValue (set_update_ints walk S away ns ln hb val _ 0 _ rfl (Nat.zero_le _) ⟨⟨_, Heap.get?_push_size _ rfl, rfl, rfl⟩, hl.push _⟩ ⟨0, Nat.le_refl 0, setR_new_at (Heap.get?_push_of_some _ hS)⟩ fun s' c hm hc hS' => ?_)))
  obtain ⟨h', g', d', tk', o'⟩ := s'
  obtain rfl : g' = s.gens := hm.gens
  obtain rfl : d' = s.drawn := hm.drawn
  obtain rfl : o' = s.os := hm.os
  refine wpAny_pure (wpAny_pure ⟨_, rfl, hR h' tk' c hS' (by rw [← ln]; exact hc) fun b o hb' e => hm.heap b o (fun z => ?_) (Heap.get?_push_of_some _ e)⟩)
  rcases List.mem_cons.mp z with z | z
  · exact hb' z
  · exact absurd (List.mem_singleton.mp z) (Nat.ne_of_lt (Heap.lt_size e))
/-- set(xs) of a list of integers -/
theorem call_setL {l : Addr} {items : Array Value} (ns : List Int) {Q : Value → Shared → Prop} (hh : A.handled = none) (hl : s.heap.IsList l items) (hit : PyProof.Rows.IntsAre items.toList ns) (hb : ns.length + 1 < scanBound)
    (h : ∀ (h' : Heap) (tk c : Nat), SetR w h' s.heap.objs.size (fun j => decide (j ∈ ns)) c → c ≤ ns.length → (∀ b o, s.heap.get? b = some o → h'.get? b = some o) → Q (.ref s.heap.objs.size) { s with heap := h', toks := tk }) :
    wpAny (model P w) A (call (.type "set") [.ref l]) Q E s := by
  have top : (s.heap.push (emptySet w)).get? s.heap.objs.size = some (emptySet w) := Heap.get?_push_size _ rfl
  have ty : Shared.TypeIs { s with heap := s.heap.push (emptySet w) } (.ref s.heap.objs.size) "set" := ⟨_, top, rfl⟩
  have far : l < s.heap.objs.size := by obtain ⟨_, e, _⟩ := hl; exact Heap.lt_size e
  obtain ⟨m1, m2, m3⟩ := F.called_set.mro
  have m4 := F.called_set.made
  have m5 := F.called_set.sub
  have m6 := F.called_set.notType
  have m7 := F.called_set.canCreate
  have m8 := F.typeCall_set_1 (.ref l)
  have m9 := F.called_set.init.lookup
  have mA := F.called_set.init.bind (.ref s.heap.objs.size)
  refine wpAny_call (codeAny_of_tree ?_)
  show wpAny _ _ (callAny (.type "set") _) _ _ _
  refine wpAny_pure ⟨Code.quiet_builtin _ (by decide +kernel), codeAny_builtin F.entry_type_call ?_⟩
  rw [Around.under_plain (weight_type_call_type "set" [.ref l] []) rfl]
  repeat (any_goals (first | assumption | wp_step))
  refine codeAny_mono (code_set_led1 (.ref l) (E := E) (Q₁ := fun o t => o = .ref s.heap.objs.size ∧ t = { s with heap := s.heap.push (emptySet w) }) ⟨rfl, rfl⟩) fun r t hr => ?_
  rcases r with e | fl
  · exact hr
  cases fl with
  | ret o =>
    obtain ⟨rfl, rfl⟩ := hr
    repeat (any_goals (first | assumption | wp_step))
    refine codeAny_mono (codeAny_call_builtin (R := wants (fun r t => r = .none ∧ ∃ h' tk c, t = { s with heap := h', toks := tk } ∧ SetR w h' s.heap.objs.size (fun j => decide (j ∈ ns)) c ∧ c ≤ ns.length ∧ ∀ b o, s.heap.get? b = some o → h'.get? b = some o) E) F.called_set.init.plain F.entry_set_init (check_set_init_1 ty ?_)) fun r t hr => ?_
    · refine thn (fill_set (R := fun r t => r = .none ∧ ∃ h' tk c, t = { s with heap := h', toks := tk } ∧ SetR w h' s.heap.objs.size (fun j => decide (j ∈ ns)) c ∧ c ≤ ns.length ∧ ∀ b o, s.heap.get? b = some o → h'.get? b = some o) ns (by simp [hh]) top (hl.push _) (Nat.ne_of_lt far) hit hb fun h' tk c p1 p2 p3 => ⟨rfl, h', tk, c, rfl, p1, p2, fun b o e => p3 b o (Nat.ne_of_lt (Heap.lt_size e)) (Heap.get?_push_of_some _ e)⟩) fun fin t z => ?_
      obtain ⟨v, rfl, q⟩ := z
      exact q
    · rcases r with e | fl
      · exact hr
      cases fl with
      | ret r =>
        obtain ⟨rfl, h', tk, c, rfl, p1, p2, p3⟩ := hr
        repeat (any_goals (first | assumption | wp_step))
        exact h _ _ _ p1 p2 p3
      | _ => exact hr.elim
  | _ => exact hr.elim
end
def tSrtSet (K : PySem.W.Frag) (te : TE) : TE := fun σ H Q => te σ H fun x H1 => ∃ (l : Addr) (ns : List Int), x = .ref l ∧ SqL K H1 l (ns.map V.int) ∧ ns.length < 63 ∧
  ∀ (ks : List Int) (p : Addr), ks.Pairwise (· < ·) → (∀ k, k ∈ ks ↔ k ∈ ns) → H1 p = none → Q (.ref p) (upd H1 p (.lst (ks.map V.int)))
theorem pe_srtSet {X : Cx} {K : PySem.W.Frag} {e : Expr} {te : TE} {p p2 q pos : Pos} (hK : X.K = K) (hc : X.calm = true) (hg : Gl X "sorted") (hm : X.mg "sorted" = none) (hg2 : Gl X "set") (hm2 : X.mg "set" = none) (he : PE X e te)
    (na : starEach [e] X.env = (false, eval e X.env) :: starEach [] X.env := by rfl) : PE X (.Call (.Name "sorted" p) [.Call (.Name "set" p2) [e] [] q] [] pos) (tSrtSet K te) := by
  subst hK
  refine ⟨fun pins s σ H Q I h => Call_ (ld_blt I hg hm (show bootBuiltins "sorted" = some (.builtin "sorted") from by decide +kernel) (PyProof.Rows.callWith_builtin1 (PyProof.Rows.args_cons (Call_ (ld_blt I hg2 hm2 PyProof.Rows.boot_set (PyProof.Rows.callWith_type1 (PyProof.Rows.args_cons (thn (he.run pins s σ H _ I h) fun v s1 ⟨x, H1, I1, r1, q1⟩ => PyProof.Rows.args_nil ?_) na) na rfl))) rfl) rfl rfl))⟩
  obtain ⟨l, ns, rfl, hl, hlen, kont⟩ := q1
  cases r1
  obtain ⟨its, rv, pl, hz⟩ := I1.list hl
  refine call_setL ns (I1.ok.hd hc) pl.isList (by simpa using RZ.intsAre_vals rv) (by unfold scanBound; omega) fun h' tk c R hcl hk => PyProof.Rows.args_nil ?_
  have I2 : Inv X pins σ H1 { s1 with heap := h', toks := tk } := I1.kept hk
  have R2 : SetR X.w ({ s1 with heap := h', toks := tk } : Shared).heap s1.heap.objs.size (fun j => decide (j ∈ ns)) c := R
  generalize ({ s1 with heap := h', toks := tk } : Shared) = s2 at I2 R2
  refine sorted_set R2 (I2.ok.hd hc) (by omega) fun s' p out c2 ks kk g o hp hg hi hs hmem hl2 => ?_
  have hn : H1 p = none := I2.hok.fresh hp
  have J : Inv X pins σ (upd H1 p (.lst (ks.map V.int))) { s2 with heap := s'.heap, gens := s'.gens, drawn := s'.drawn, toks := s'.toks } :=
    I2.call (ch := []) (Un.laid kk hp hn) (I2.hok.laid kk hp ⟨by rw [List.length_map, hl2, sizeLine_eq]; omega, out.toList, c2, vals_of_ints hi, hg⟩) (by rw [g]; exact I2.bare) (fun _ z => nomatch z)
  obtain ⟨h2, g2, d2, t2, o2⟩ := s'
  obtain rfl : o2 = s2.os := o
  exact ⟨.ref p, _, J, rfl, kont ks p hs (fun k => by rw [hmem k]; simp) hn⟩
section
variable {K : PySem.W.Frag} {q : Option Addr} {δ : List Sl} {te : TE} {c : Nat} {P : List Int → Prop}
theorem dq_ints {H : Hp} : ∀ ks : List Int, DqAll H (ks.map V.int) (ks.map .int)
  | [] => .nil
  | k :: ks => .cons (.int k) (dq_ints ks)
/-- sorted(set(e)), e a list of fewer than 63 drawn integers -/
theorem j_srtSet (h : J q δ te c (fun d => ∃ ns : List Int, (ns.length < 63 ∧ ∀ ks : List Int, ks.Pairwise (· < ·) → (∀ k, k ∈ ks ↔ k ∈ ns) → P ks) ∧ d = .list (ns.map .int))) : J q δ (tSrtSet K te) c (fun d => ∃ ks, P ks ∧ d = .list (ks.map .int)) := fun σ H H1 n sg o Q k =>
  h σ H H1 n sg o _ fun d v Hk H2 g o1 ⟨ns, ⟨hl, hp⟩, ed⟩ dv => by
    subst ed
    obtain ⟨a, xs, rfl, e1, e2⟩ := dv.lstOf
    have ex := DqAll.ints e2
    subst ex
    refine ⟨a, ns, rfl, SqL.of1 (g.a _ _ e1), hl, fun ks p hs hm hn => ?_⟩
    have g1 := Gr.new (q := none) (o := .lst (ks.map V.int)) g.a hn
    exact k _ _ _ _ (g.trans g1.none_to) (o1.go g1) ⟨ks, hp ks hs hm, rfl⟩ (.lst upd_same (dq_ints ks))
end
end Cr

set_option Elab.async false
set_option linter.all false
set_option maxRecDepth 100000
set_option maxHeartbeats 800000
namespace Cr
open PySem PySem.Spec PyProof.Rows L2
section
variable {K : PySem.W.Frag} {q : Option Addr} {n : Nat} {δ δ' : List Sl} {te ta tb tn ti : TE} {tt : TT} {c c1 c2 : Nat} {g : TG} {P : Bool → Prop}
theorem prs_of {P : Int × Int → Prop} : ∀ {ds : List PyData}, (∀ d ∈ ds, ∃ y, P y ∧ d = pr y) → ∃ l, ds = pd l ∧ ∀ y ∈ l, P y
  | [], _ => ⟨[], rfl, by simp⟩
  | d :: ds, h => by
    obtain ⟨y, hy, rfl⟩ := h d (by simp)
    obtain ⟨l, rfl, hl⟩ := prs_of (P := P) (ds := ds) fun x hx => h x (List.mem_cons_of_mem _ hx)
    exact ⟨y :: l, rfl, fun z hz => by
      rcases List.mem_cons.mp hz with e | e
      · rw [e]; exact hy
      · exact hl z e⟩
theorem nodup_len : ∀ {ks ns : List Int}, ks.Nodup → (∀ k ∈ ks, k ∈ ns) → ks.length ≤ ns.length
  | [], _, _, _ => Nat.zero_le _
  | k :: ks, ns, h, hs => by
    have h' := List.nodup_cons.mp h
    have hk := hs k (by simp)
    have e := List.length_erase_of_mem hk
    have p := List.length_pos_of_mem hk
    have z := nodup_len (ns := ns.erase k) h'.2 fun x hx => (List.mem_erase_of_ne (a := x) (b := k) (fun e : x = k => h'.1 (e ▸ hx))).mpr (hs x (List.mem_cons_of_mem _ hx))
    show ks.length + 1 ≤ ns.length
    omega
end
end Cr

set_option Elab.async false
set_option linter.all false
set_option maxRecDepth 100000
set_option maxHeartbeats 800000
namespace Cr
open PySem PySem.Spec PyProof.Rows L2
/-! a ledger is found back on keys that hold its own -/
end Cr

set_option Elab.async false
set_option linter.all false
set_option maxRecDepth 100000
set_option maxHeartbeats 800000
namespace Cr
open PySem PySem.Spec PyProof.Rows L2
/-! enumerate over a list -/
theorem k_enumL {X : Cx} {K : PySem.W.Frag} {e : Expr} {ta : TA} {p pos tpos : Pos} {elts : List Expr} {kk : Nat} (hK : X.K = K) (hg : Gl X "enumerate") (hm : X.mg "enumerate" = none) (ha : PA X [e] ta) (hs : starEach [e] X.env = [(false, eval e X.env)] := by rfl) :
    PI X (.Tuple elts kk tpos) (.Call (.Name "enumerate" p) [e] [] pos) (iEnum K ta) := hK ▸ pi_enum hg hm ha hs
section
variable {K : PySem.W.Frag} {q : Option Addr} {δ : List Sl} {te : TE}
theorem walk_enumL {H : Hp} {a : Addr} {xs : List V} {ds : List PyData} (h : H a = some (.lst xs)) (hd : DqAll H xs ds) : WalkD (Ite K a) (enumD ds) H := fun i Hk H' s1 s2 => by
  have e := SqL.of1 (K := K) (s2 _ _ (s1 _ _ h))
  rw [enumD_len]
  refine ⟨fun hi => ⟨⟨xs, xs[i]'(by rw [hd.length]; exact hi), e, List.getElem?_eq_getElem _⟩, fun v H2 y => ?_⟩, fun hi => ⟨xs, e, by rw [hd.length]; exact hi⟩⟩
  obtain ⟨T, x, rfl, hT, rfl, y2⟩ := y
  obtain ⟨d, g1, g2⟩ := hd.get' (y2 xs e)
  have g := Gr.new (q := none) (o := .tup [.int (i : Nat), x]) s2 hT
  exact ⟨_, g, _, enumD_get g1, .tup (.inr ⟨rfl, upd_same⟩) (.cons (.int _) (.cons (Dq.mono (s1.trans g.k) _ _ g2) .nil))⟩
theorem ie_enumL {ds : List PyData} (h : E q δ te (.list ds)) : IE q δ (iEnum K (tCons te tNil)) (enumD ds) := fun σ H H1 n sg o R k =>
  h σ H H1 n sg o _ fun d v Hk H2 g o1 ed dv => by
    subst ed
    obtain ⟨a, xs, rfl, h1, h2⟩ := dv.lstOf
    exact ⟨a, xs, rfl, SqL.of1 (g.a _ _ h1), k _ _ Hk H2 g o1 rfl (walk_enumL h1 h2)⟩
end
end Cr
namespace Cr
open PySem PySem.Spec PyProof.Rows L2
theorem enumD_range (f : Nat → PyData) (m : Nat) : enumD ((List.range m).map f) = (List.range m).map fun k => .tuple [.int (k : Nat), f k] := by
  refine List.ext_getElem? fun i => ?_
  by_cases hi : i < m
  · rw [enumD_get (d := f i) (by rw [List.getElem?_map, List.getElem?_range hi]; rfl), List.getElem?_map, List.getElem?_range hi]; rfl
  · rw [List.getElem?_eq_none (by rw [enumD_len, List.length_map, List.length_range]; omega), List.getElem?_eq_none (by rw [List.length_map, List.length_range]; omega)]
theorem sgz_if (z : Int) : sgz z = if (z.fmod 2 == 0) = true then 1 else -1 := by
  unfold sgz
  have h1 := Int.fmod_nonneg_of_pos z (show (0 : Int) < 2 by decide)
  have h2 := Int.fmod_lt_of_pos z (show (0 : Int) < 2 by decide)
  by_cases h : z.fmod 2 = 0
  · rw [h]; rfl
  · have e : z.fmod 2 = 1 := by omega
    rw [e]; rfl
end Cr

set_option Elab.async false
set_option linter.all false
set_option maxRecDepth 100000
set_option maxHeartbeats 800000
namespace Cr
open PySem PySem.Spec PyProof.Rows L2
section
variable {K : PySem.W.Frag} {q : Option Addr} {n : Nat} {δ δ' : List Sl} {te ta tb tn ti : TE} {tt : TT} {c c1 c2 : Nat} {g : TG} {P : Bool → Prop} {Φ : PyData → Prop}
end
end Cr

set_option Elab.async false
set_option linter.all false
set_option maxRecDepth 100000
set_option maxHeartbeats 800000
namespace Cr
open PySem PySem.Spec PyProof.Rows L2
section
variable {K : PySem.W.Frag} {q : Option Addr} {n : Nat} {δ δ' : List Sl} {te te2 ta tb tn ti : TE} {tt tu : TT} {c c1 c2 : Nat} {g : TG} {P : Bool → Prop} {Φ : PyData → Prop}
theorem cutD_m1 (xs : List PyData) : cutD xs none (some (-1)) = xs.dropLast := by
  unfold cutD
  have h0 : HT.sIx xs.length 0 none = 0 := rfl
  have h1 : HT.sIx xs.length xs.length (some (-1)) = xs.length - 1 := by
    unfold HT.sIx
    simp
    omega
  rw [h0, h1, List.drop_zero, Nat.sub_zero, List.dropLast_eq_take]
theorem Led.tail {x : Int × Int} {l : List (Int × Int)} (h : Led (x :: l)) : Led l := ⟨(List.pairwise_cons.mp h.1).2, fun y hy => h.2 y (List.mem_cons_of_mem _ hy)⟩
theorem Led.asc {l : List (Int × Int)} (h : Led l) : (l.map (·.1)).Pairwise (· < ·) := List.pairwise_map.mpr h.1
end
end Cr

set_option Elab.async false
set_option linter.all false
set_option maxRecDepth 100000
set_option maxHeartbeats 800000
namespace Cr
open PySem PySem.Spec PyProof.Rows L2
/-! ledgers whose first sums are 0; each ledger has a brief -/
/-! ### a window of keys is moved -/
def InW (f : Int) (n : Nat) (l : List (Int × Int)) : Prop := ∀ x ∈ l, f ≤ x.1 ∧ x.1 < f + n
end Cr

set_option Elab.async false
set_option linter.all false
set_option maxRecDepth 100000
set_option maxHeartbeats 800000
namespace Cr
open PySem PySem.Spec PyProof.Rows L2
section
variable {K : PySem.W.Frag} {q : Option Addr} {n : Nat} {δ δ' : List Sl} {te te2 ta tb tn ti : TE} {tt tu : TT} {c c1 c2 : Nat} {g : TG} {P : Bool → Prop} {Φ : PyData → Prop}
end
end Cr

set_option Elab.async false
set_option linter.all false
set_option maxRecDepth 100000
set_option maxHeartbeats 800000
namespace Cr
open PySem PySem.Spec PyProof.Rows L2
/-! residues -/
def Cg (p a b : Int) : Prop := p ∣ a - b
theorem Cg.refl (p a : Int) : Cg p a a := by unfold Cg; rw [Int.sub_self]; exact Int.dvd_zero p
theorem Cg.symm {p a b : Int} (h : Cg p a b) : Cg p b a := by
  obtain ⟨c, e⟩ := h
  exact ⟨-c, by rw [Int.mul_neg, ← e]; omega⟩
theorem Cg.trans {p a b c : Int} (h : Cg p a b) (h2 : Cg p b c) : Cg p a c := by
  obtain ⟨x, e⟩ := h
  obtain ⟨y, e2⟩ := h2
  exact ⟨x + y, by rw [Int.mul_add, ← e, ← e2]; omega⟩
theorem Cg.add {p a b c d : Int} (h : Cg p a b) (h2 : Cg p c d) : Cg p (a + c) (b + d) := by
  obtain ⟨x, e⟩ := h
  obtain ⟨y, e2⟩ := h2
  exact ⟨x + y, by rw [Int.mul_add, ← e, ← e2]; omega⟩
theorem Cg.mod {p a b : Int} (hp : 0 < p) (h : Cg p a b) : a.fmod p = b.fmod p := by
  rw [Int.fmod_eq_emod_of_nonneg _ (by omega), Int.fmod_eq_emod_of_nonneg _ (by omega)]
  exact Int.emod_eq_emod_iff_emod_sub_eq_zero.mpr (Int.emod_eq_zero_of_dvd h)
/-! primes -/
/-! rules -/
section
variable {K : PySem.W.Frag} {q : Option Addr} {n : Nat} {δ δ' : List Sl} {te te2 ta tb : TE} {tt : TT} {c c1 c2 : Nat} {Φ : PyData → Prop} {d d2 : PyData} {A0 B0 Hk H1 : Hp} {σ : L2.St} {D : Ends} {tz t1 : TS} {p : Addr} {ds es : List PyData}
end
end Cr
namespace Cr
open PySem PySem.Spec PyProof.Rows L2
section
variable {K : PySem.W.Frag} {q : Option Addr} {n : Nat} {δ δ' : List Sl} {te te2 ta tb : TE} {ds es : List PyData}
end
end Cr

set_option Elab.async false
set_option linter.all false
set_option maxRecDepth 100000
set_option maxHeartbeats 4000000
namespace L2
open PySem PySem.Spec PyProof.Rows
/-! tuple * int, for 0 and 1, too -/
end L2
namespace L2
open PySem PySem.Spec PyProof.Rows
section
variable {X : Cx}
end
end L2

set_option Elab.async false
set_option linter.all false
set_option maxRecDepth 100000
set_option maxHeartbeats 800000
namespace Cr
open PySem PySem.Spec PyProof.Rows L2
section
variable {K : PySem.W.Frag} {q : Option Addr} {n : Nat} {δ δ' : List Sl} {te te2 ta tb tk tv : TE} {tt : TT} {c c1 c2 : Nat} {P1 P2 : Int → Prop} {d d2 : PyData} {A0 B0 Hk H1 : Hp} {σ : L2.St} {D : Ends} {r : Addr} {ds es : List PyData}
end
/-- a dict that is set at a key -/
theorem DictOf.put {p m : List (Int × Int)} (h : DictOf p m) (k v : Int) : DictOf (p ++ [(k, v - tot p k)]) (putI m k v) := by
  have z := h.add (k, v - tot p k)
  have gv : (getI m k).getD 0 = tot p k := by
    by_cases hx : k ∈ p.map (·.1)
    · rw [h.get _ hx]; rfl
    · rw [getI_none.mpr (fun z => hx ((h.mem _).mp z)), tot_no hx]; rfl
  unfold addI at z
  rw [show (getI m (k, v - tot p k).1).getD 0 + (k, v - tot p k).2 = v by show (getI m k).getD 0 + (v - tot p k) = v; rw [gv]; omega] at z
  exact z
/-! ### all sums modulo a prime -/
end Cr
namespace Cr
open PySem PySem.Spec PyProof.Rows L2
section
variable {q : Option Addr} {n : Nat} {δ : List Sl} {A0 B0 Hk H : Hp} {σ : L2.St} {r : Addr}
end
end Cr

set_option Elab.async false
set_option linter.all false
set_option maxRecDepth 100000
set_option maxHeartbeats 800000
namespace Cr
open PySem PySem.Spec PyProof.Rows L2
/-! ### defs that tell a new list -/
section
variable {P : Program} {w : World} {K : PySem.W.Frag} {mg : Str → Option Value} {base : Heap}
end
section
variable {K : PySem.W.Frag} {q : Option Addr} {n : Nat} {δ δ' : List Sl} {te te2 ta tb : TE} {tt : TT} {c c1 c2 : Nat} {Φ : PyData → Prop} {d d2 : PyData} {A0 B0 Hk H1 : Hp} {σ : L2.St} {D : Ends} {tz : TS} {p : Addr} {ds es : List PyData} {g : TG} {wi : TI}
theorem JN.e (h : JN q δ te es) : E q δ te (.list es) := fun σ H H1 n sg o Q k =>
  h σ H H1 n sg o _ fun D xs Hk H2 g o1 h1 h2 h3 hd => by
    have nq : q ≠ some D := fun e => by
      have z := o.j D e
      exact z.ne h1
    have gf := g.freeze h1 h2 h3
    refine k _ _ _ _ gf ⟨gf.a, fun p e => ?_, fun p e => o1.j p e⟩ rfl (.lst upd_same (DqAll.mono (same_upd h2) _ _ hd))
    rw [upd_ne (fun z => nq (by rw [← z]; exact e))]
    exact o1.kf p e
theorem JN.is {es2 : List PyData} (h : JN q δ te es) (e : es = es2) : JN q δ te es2 := by rw [← e]; exact h
end
end Cr
namespace Cr
open PySem PySem.Spec PyProof.Rows L2
section
variable {q : Option Addr} {δ : List Sl} {es : List PyData}
end
end Cr
namespace Cr
open PySem PySem.Spec PyProof.Rows L2
section
variable {K : PySem.W.Frag} {q : Option Addr} {n : Nat} {δ δ' : List Sl} {te te2 te3 ta tb : TE} {tt : TT} {t1 : TS} {c c1 c2 : Nat} {Φ Φ1 Φ2 : PyData → Prop} {d d2 d3 : PyData} {A0 B0 Hk H1 : Hp} {σ : L2.St} {D : Ends} {tz : TS} {p : Addr} {ds es es2 : List PyData}
end
end Cr

set_option Elab.async false
set_option linter.all false
set_option maxRecDepth 100000
set_option maxHeartbeats 800000
namespace Cr
open PySem PySem.Spec PyProof.Rows L2
/-! ### sums along a log -/
section
variable {K : PySem.W.Frag} {q : Option Addr} {n : Nat} {δ δ' : List Sl} {te te2 te3 ta tb : TE} {tt : TT} {t1 : TS} {c c1 c2 : Nat} {Φ Φ1 Φ2 : PyData → Prop} {d d2 d3 : PyData} {A0 B0 Hk H1 : Hp} {σ : L2.St} {D : Ends} {tz : TS} {p : Addr} {ds es es2 : List PyData}
end
end Cr

set_option Elab.async false
set_option linter.all false
set_option maxRecDepth 100000
set_option maxHeartbeats 800000
namespace Cr
open PySem PySem.Spec PyProof.Rows L2
/-! ### pairs of unlike ledgers with the same first sums -/
theorem tot_wsum (k : Int) : ∀ l : List (Int × Int), tot l k = wsum (fun i => if i = k then 1 else 0) l
  | [] => rfl
  | x :: l => by
    show (if x.1 = k then x.2 else 0) + tot l k = x.2 * (if x.1 = k then 1 else 0) + wsum (fun i => if i = k then 1 else 0) l
    rw [tot_wsum k l]
    split <;> simp
theorem VS.append {H : Hp} : ∀ {ss : List Sl} {vs ws : List V} {es : List Sl}, VS H vs ss → VS H ws es → VS H (vs ++ ws) (ss ++ es)
  | [], vs, ws, es, h1, h2 => by rw [VS.inv0 h1]; exact h2
  | s :: r, vs, ws, es, h1, h2 => by
    obtain ⟨v, t, rfl, q, hr⟩ := VS.inv1 h1
    exact VS.cons q (VS.append hr h2)
section
variable {K : PySem.W.Frag} {q : Option Addr} {δ δ' : List Sl} {te te2 ta tb : TE} {c c1 c2 N : Nat} {Φ : PyData → Prop} {d : PyData} {P : Int → Prop}
end
end Cr

set_option Elab.async false
set_option linter.all false
set_option maxRecDepth 100000
set_option maxHeartbeats 800000
namespace Cr
open PySem PySem.Spec PyProof.Rows L2
/-! ### a dict of the amounts that are not 0 -/
def dropI (m : List (Int × Int)) (k : Int) : List (Int × Int) := m.filter fun x => decide (x.1 ≠ k)
theorem dropI_get (m : List (Int × Int)) (k j : Int) : getI (dropI m k) j = if j = k then none else getI m j := by
  by_cases e : j = k
  · rw [if_pos e, getI_none]
    intro z
    obtain ⟨x, hx, ex⟩ := List.mem_map.mp z
    have := of_decide_eq_true (List.mem_filter.mp hx).2
    exact this (by rw [← e]; exact ex)
  · rw [if_neg e]
    unfold getI dropI
    rw [List.find?_filter]
    congr 1
    congr 1
    funext x
    by_cases h : x.1 = j
    · rw [decide_eq_true h]
      have h2 : x.1 ≠ k := by rw [h]; exact e
      simp [h2]
    · rw [decide_eq_false h]
      simp
structure NzOf (p m : List (Int × Int)) : Prop where
  nd : (m.map (·.1)).Nodup
  get : ∀ k, getI m k = if tot p k = 0 then none else some (tot p k)
  len : m.length ≤ p.length
theorem NzOf.nil : NzOf [] [] := ⟨by simp, fun k => rfl, by simp⟩
theorem NzOf.getD {p m : List (Int × Int)} (h : NzOf p m) (k : Int) : (getI m k).getD 0 = tot p k := by
  rw [h.get]
  split
  · rename_i e; rw [e]; rfl
  · rfl
theorem tot_snoc (p : List (Int × Int)) (k v j : Int) : tot (p ++ [(k, v)]) j = tot p j + if k = j then v else 0 := by
  rw [tot_append]
  show tot p j + ((if k = j then v else 0) + 0) = _
  rw [Int.add_zero]
theorem NzOf.drop {p m : List (Int × Int)} (h : NzOf p m) {k v : Int} (e : tot p k + v = 0) : NzOf (p ++ [(k, v)]) (dropI m k) := by
  refine ⟨?_, fun j => ?_, ?_⟩
  · unfold dropI
    exact h.nd.sublist (List.Sublist.map _ List.filter_sublist)
  · rw [dropI_get, tot_snoc, h.get]
    by_cases hj : j = k
    · subst hj
      rw [if_pos rfl, if_pos rfl, if_pos e]
    · have e0 : (if k = j then v else 0) = 0 := if_neg fun z => hj z.symm
      rw [if_neg hj, e0, Int.add_zero]
  · unfold dropI
    have := List.length_filter_le (fun x : Int × Int => decide (x.1 ≠ k)) m
    have := h.len
    rw [List.length_append]
    omega
theorem NzOf.set {p m : List (Int × Int)} (h : NzOf p m) {k v : Int} (e : tot p k + v ≠ 0) : NzOf (p ++ [(k, v)]) (putI m k (tot p k + v)) := by
  refine ⟨?_, fun j => ?_, ?_⟩
  · rw [putI_keys]
    by_cases hk : k ∈ m.map (·.1)
    · rw [if_pos hk]; exact h.nd
    · rw [if_neg hk]
      refine List.nodup_append.mpr ⟨h.nd, by simp, fun a ha b hb e2 => ?_⟩
      rw [List.mem_singleton.mp hb] at e2
      exact hk (by rw [← e2]; exact ha)
  · rw [putI_get, tot_snoc, h.get]
    by_cases hj : j = k
    · subst hj
      rw [if_pos rfl, if_pos rfl, if_neg e]
    · have e0 : (if k = j then v else 0) = 0 := if_neg fun z => hj z.symm
      rw [if_neg hj, e0, Int.add_zero]
  · have z := congrArg List.length (putI_keys m k (tot p k + v))
    rw [List.length_map] at z
    have := h.len
    rw [z, List.length_append]
    split <;> simp <;> omega
section
variable {K : PySem.W.Frag} {q : Option Addr} {n : Nat} {δ δ' : List Sl} {te te2 ta tb : TE} {c c1 c2 : Nat} {d : PyData} {A0 B0 Hk H1 : Hp} {σ : L2.St} {D : Ends} {tz : TS} {r : Addr}
end
/-! ### the first place of all -/
/-! ### what two logs begin with -/
section
variable {K : PySem.W.Frag} {q : Option Addr} {δ : List Sl} {te : TE} {ds : List PyData}
end
end Cr

set_option Elab.async false
set_option linter.all false
set_option maxRecDepth 100000
set_option maxHeartbeats 800000
namespace Cr
open PySem PySem.Spec PyProof.Rows L2
section
variable {K : PySem.W.Frag} {q : Option Addr} {n : Nat} {δ : List Sl} {A0 B0 Hk H1 : Hp} {σ : L2.St} {D : Ends} {tz t1 : TS} {r : Addr}
end
section
variable {K : PySem.W.Frag} {q : Option Addr} {δ : List Sl} {te : TE} {c : Nat} {tt tu : TT}
end
section
variable {K : PySem.W.Frag} {q : Option Addr} {δ : List Sl} {te : TE} {c c1 c2 : Nat} {tt tu : TT}
theorem tj_or2 (h1 : TJ q δ tt c1 (fun b => b = false)) (h2 : TJ q δ tu c2 (fun b => b = false)) : TJ q δ (tOr tt tu) (c2 + c1) (fun b => b = false) := fun σ H H1 n sg o Q k => h1 σ H H1 (n + c2) sg (by rw [Nat.add_assoc]; exact o) _ fun x Hk H2 g o1 e => by
  subst e
  exact iteF (h2 σ Hk H2 n (sg.mono g.k) o1 _ fun b' Hk' H3 g' o2 e => k _ Hk' H3 (g.trans g') o2 e)
end
end Cr

set_option Elab.async false
set_option linter.all false
set_option maxRecDepth 100000
set_option maxHeartbeats 800000
/-! dict(t) of a tuple of pairs -/
namespace L2
open PySem PySem.Spec PyProof.Rows
section
variable {X : Cx}
theorem prs_of {pins : List (Addr × Obj)} {σ : St} {H : Hp} {s : Shared} (I : Inv X pins σ H s) : ∀ {ps : List Addr} {kvs : List (Key × V)}, Paired (fun p kv => SqT X.K H p [kV kv.1, kv.2]) ps kvs →
    ∃ (prs : List (Key × Value)) (us : List (Value × Value)), KV kvs prs ∧ prs.length = ps.length ∧ us.length = ps.length ∧ ∀ (j : Nat) (k v : Value), us[j]? = some (k, v) → ∃ (b : Addr) (y : Key), ps[j]? = some b ∧ Heap.IsTuple s.heap b #[k, v] ∧ prs[j]? = some (y, v) ∧ keyIs y k = true
  | _, _, .nil => ⟨[], [], .nil, rfl, rfl, fun j k v e => by simp at e⟩
  | _, _, .cons (a := p) (b := kv) h t => by
    obtain ⟨prs, us, r, hl, hl2, hp⟩ := prs_of I t
    obtain ⟨its, rv, ht, _⟩ := I.tuple h
    obtain ⟨u, y, ei, ru, ry⟩ := vals2 rv
    subst ei
    refine ⟨(kv.1, y) :: prs, (u, y) :: us, .cons ⟨rfl, ry⟩ r, by rw [List.length_cons, List.length_cons, hl], by rw [List.length_cons, List.length_cons, hl2], fun j k v e => ?_⟩
    cases j with
    | zero =>
      have e' : (u, y) = (k, v) := Option.some.inj e
      cases e'
      exact ⟨p, kv.1, rfl, ht, rfl, kV_is (P := X.prog) (w := X.w) ru⟩
    | succ j =>
      obtain ⟨b, z, e1, e2, e3, e4⟩ := hp j k v (by simpa using e)
      exact ⟨b, z, by simpa using e1, e2, by simpa using e3, e4⟩
/-- dict(t), t a tuple of pairs that is known to have no dict of its own -/
def rDictT (K : PySem.W.Frag) : List V → Hp → VK → Prop := fun xs H Q => ∃ (a : Addr) (ps : List Addr) (kvs : List (Key × V)), xs = [.ref a] ∧ (∃ o : Obj, o.dict = none ∧ H a = some (.frz o (.tup (ps.map V.ref)))) ∧ Paired (fun p kv => SqT K H p [kV kv.1, kv.2]) ps kvs ∧
  ∀ p, H p = none → Q (.ref p) (upd H p (.dK (mergeK [] kvs)))
theorem call_dictT (hcalm : X.calm = true) : CallR X (.type "dict") (rDictT X.K) := by
  intro pins s σ H xs us Q I r q
  obtain ⟨a, ps, kvs, ex, ⟨ob, od, hq⟩, hp, q⟩ := q
  subst ex
  obtain ⟨u, eu, rx⟩ := vals1 r
  subst eu
  cases rx
  obtain ⟨eo, hz, its, rv, ht⟩ : s.heap.get? a = some ob ∧ (ps.map V.ref).length ≤ sizeLine ∧ ∃ us, Vals (ps.map V.ref) us ∧ Heap.IsTuple s.heap a us.toArray := I.hok a _ hq
  have ei := refs_at rv
  subst ei
  rw [List.length_map] at hz
  obtain ⟨prs, us2, rel, hl, hl2, hpr⟩ := prs_of I hp
  obtain ⟨o, ho, hc, n, hdat⟩ := ht
  have eoo : o = ob := Option.some.inj (ho.symm.trans eo)
  subst eoo
  have ok : PlainSeq "tuple" s.heap a (ps.map Value.ref).toArray ∧ PairItems s.heap (ps.map Value.ref).toArray (fun j => ps.getD j 0) us2 := by
    refine ⟨⟨o, n, ho, hc, od, hdat⟩, by simp [hl2], fun j k v e => ?_⟩
    obtain ⟨b, y, e1, e2, _⟩ := hpr j k v e
    have eb : ps.getD j 0 = b := by rw [List.getD_eq_getElem?_getD, e1]; rfl
    exact ⟨by simp [e1], .inl (by show Heap.IsTuple s.heap (ps.getD j 0) _; rw [eb]; exact e2)⟩
  refine PySem.call_dict_pairs (knd := mixKind X.prog X.w) (kvs := prs) (PairArg.tuple a (ps.map Value.ref).toArray (fun j => ps.getD j 0) us2) (I.ok.hd hcalm) ok ⟨by rw [hl, hl2], fun i k v e => ?_⟩ (by rw [hl2]; exact hz) fun h' tk hd' hk => ?_
  · obtain ⟨b, y, _, _, e3, e4⟩ := hpr i k v e
    exact ⟨y, e3, e4⟩
  · have hm : (s.heap.objs.size == sysModules) = false := beq_eq_false_iff_ne.mpr (Nat.ne_of_gt I.big)
    have hlen : (mergeK [] kvs).length ≤ sizeLine := by
      refine Nat.le_trans (length_mergeK kvs []) ?_
      rw [List.length_nil, Nat.zero_add, rel.length, hl]
      exact hz
    exact ⟨.ref s.heap.objs.size, upd H s.heap.objs.size (.dK (mergeK [] kvs)), I.laid (t' := tk) (fun b o e => hk b o (fun z => by cases z) e) (Nat.le_refl _) (show ObjOk X.prog X.w _ _ _ (.dK (mergeK [] kvs)) from ⟨hlen, hm, merged [] prs, KV.merge rel .nil, hd'⟩), rfl, q _ (I.hok.fresh (Nat.le_refl _))⟩
theorem k_dictT {K : PySem.W.Frag} (h : X.K = K) (hc : X.calm = true) : CallR X (.type "dict") (rDictT K) := h ▸ call_dictT hc
end
end L2
namespace Cr
open PySem PySem.Spec PyProof.Rows L2
section
variable {K : PySem.W.Frag} {q : Option Addr} {n : Nat} {δ δ' : List Sl} {te te2 ta tb tk tv : TE} {D : Ends} {A0 B0 Hk H1 : Hp} {σ : L2.St}
theorem putI_new {m : List (Int × Int)} {k v : Int} (h : k ∉ m.map (·.1)) : putI m k v = m ++ [(k, v)] := by
  unfold putI
  rw [if_neg]
  intro e
  obtain ⟨x, hx, z⟩ := List.any_eq_true.mp e
  exact h (by rw [← of_decide_eq_true z]; exact List.mem_map_of_mem hx)
theorem merge_mdict : ∀ (l m : List (Int × Int)), ((m ++ l).map (·.1)).Nodup → mergeK (mdict m) (mdict l) = mdict (m ++ l)
  | [], m, _ => by rw [List.append_nil]; rfl
  | (k, v) :: l, m, h => by
    show mergeK (putK (mdict m) (Sum.inl k) (.int v)) (mdict l) = _
    have hk : k ∉ m.map (·.1) := fun z => by
      rw [List.map_append, List.nodup_append] at h
      exact h.2.2 k z k (by simp) rfl
    rw [mdict_put, putI_new hk, merge_mdict l (m ++ [(k, v)]) (by simpa using h), List.append_assoc]
    rfl
theorem paired_pd {H : Hp} : ∀ {xs : List V} {l : List (Int × Int)}, DqAll H xs (pd l) → ∃ ps : List Addr, xs = ps.map V.ref ∧ Paired (fun p kv => SqT K H p [kV kv.1, kv.2]) ps (mdict l)
  | xs, [], h => by
    cases h
    exact ⟨[], rfl, .nil⟩
  | xs, (k, v) :: l, h => by
    cases h with
    | cons a b =>
      obtain ⟨ps, e, hp⟩ := paired_pd b
      obtain ⟨p, ys, e2, e3, e4⟩ := Dq.tupOf a
      obtain ⟨x, y, e5, dx, dy⟩ := e4.two
      subst e e2 e5
      rw [dx.intOf, dy.intOf] at e3
      exact ⟨p :: ps, rfl, .cons (.inl e3.rd) hp⟩
/-- table = dict(ledger) -/
theorem q_dictT {i : Nat} {l : List (Int × Int)} (h : E q δ te (led l)) (hne : l ≠ []) (hn : (l.map (·.1)).Nodup) (s : At q n δ A0 B0 σ Hk H1)
    (k : ∀ σ' Hk' H2, Gr q Hk H1 Hk' H2 → At q n (δ.set i (.dic l)) A0 B0 σ' Hk' H2 → tz D σ' H2) : tSeq (tAsg (tCB (rDictT K) (tCons te tNil)) (gName i)) tz D σ H1 :=
  h σ Hk H1 n s.sg s.ok _ fun d v Hk2 H2 g o1 e dv => by
    subst e
    obtain ⟨a, xs, rfl, h1, h2⟩ := Dq.tupOf dv
    obtain ⟨ps, rfl, hp⟩ := paired_pd (K := K) (DqAll.mono o1.a _ _ h2)
    rcases h1.mono o1.a with ⟨ob, od, e⟩ | ⟨z, _⟩
    · refine ⟨a, ps, mdict l, rfl, ⟨ob, od, e⟩, hp, fun p hp => ?_⟩
      rw [show (mergeK [] (mdict l)) = mdict l from merge_mdict l [] hn]
      have g1 := Gr.new (q := q) (o := .dK (mdict l)) o1.a hp
      have gg := g.trans g1
      exact k _ _ _ gg ⟨o1.go ⟨g1.k, g1.a, fun b' o' _ h => by rw [upd_ne (ne_of_none h hp)]; exact h, g1.f, g1.t⟩, (s.sg.mono gg.k).set i (s := .dic l) ⟨p, rfl, upd_same⟩, s.gr.trans gg⟩
    · cases l with
      | nil => exact absurd rfl hne
      | cons x l => cases z
/-- table.get(key, j) of a known dict -/
theorem e_dget2 {i : Nat} {m : List (Int × Int)} {k j : Int} (hi : δ[i]? = some (.dic m)) (hk : E q δ tk (.int k)) : E q δ (tDGet2 (tVar i) tk (tC (.int j))) (.int ((getI m k).getD j)) := fun σ H H1 n sg o Q kk => by
  obtain ⟨x, a, p, rfl, hp⟩ := sg.2 i _ hi (fun z => by cases z)
  refine ⟨.ref p, a, p, rfl, .inl ⟨_, .inl (o.a _ _ hp)⟩, hk σ H H1 n sg o _ fun d w Hk H2 g o e dv => ?_⟩
  subst e
  rw [dv.intOf]
  have h := DGet.k (H := H2) (a := p) (k := (Sum.inl k : Key)) (g.a _ _ (g.k _ _ hp))
  rw [mdict_val] at h
  refine ⟨_, h, ?_⟩
  rw [show ((getI m k).map V.int).getD (.int j) = .int ((getI m k).getD j) by cases getI m k <;> rfl]
  exact kk _ _ Hk H2 g o rfl (.int _)
end
end Cr

set_option Elab.async false
set_option linter.all false
set_option maxRecDepth 100000
set_option maxHeartbeats 800000
namespace Cr
open PySem PySem.Spec PyProof.Rows L2
/-! ledgers cleared: the quotient by ((0, -1), (1, 1)), over and over -/
/-- amounts at neighbouring keys from f on -/
def dl : List Int → Int → List (Int × Int)
  | [], _ => []
  | a :: A, f => (f, a) :: dl A (f + 1)
theorem dl_range : ∀ (A : List Int) (f : Int), dl A f = (List.range A.length).map fun k : Nat => (f + (k : Int), A.getD k 0)
  | [], _ => rfl
  | a :: A, f => by
    rw [List.length_cons, List.range_succ_eq_map, List.map_cons, List.map_map]
    show (f, a) :: dl A (f + 1) = _
    rw [dl_range A (f + 1)]
    congr 1
    · simp
    · refine List.map_congr_left fun k _ => ?_
      show (f + 1 + (k : Int), _) = (f + ((k + 1 : Nat) : Int), _)
      rw [show f + 1 + (k : Int) = f + ((k + 1 : Nat) : Int) by omega]
      rfl
theorem dl_asc (A : List Int) (f : Int) : (dl A f).Pairwise fun a b => a.1 < b.1 := by
  rw [dl_range, List.pairwise_map]
  exact List.Pairwise.imp (fun h => by show _ + _ < _ + _; omega) List.pairwise_lt_range
/-- what is left after each amount is taken away -/
def pre : Int → List Int → List Int
  | _, [] => []
  | t, a :: A => (t - a) :: pre (t - a) A
theorem pre_len : ∀ (A : List Int) (t : Int), (pre t A).length = A.length
  | [], _ => rfl
  | a :: A, t => by show (pre (t - a) A).length + 1 = A.length + 1; rw [pre_len A]
theorem pre_snoc : ∀ (A : List Int) (t a : Int), pre t (A ++ [a]) = pre t A ++ [t - A.sum - a]
  | [], t, a => by show [t - a] = [t - 0 - a]; rw [Int.sub_zero]
  | b :: A, t, a => by
    show (t - b) :: pre (t - b) (A ++ [a]) = (t - b) :: (pre (t - b) A ++ [t - (b + A.sum) - a])
    rw [pre_snoc A, show t - b - A.sum - a = t - (b + A.sum) - a by omega]
def wst (A : List Int) : List Int := pre 0 A.dropLast
theorem wst_len (A : List Int) : (wst A).length = A.length - 1 := by rw [wst, pre_len, List.length_dropLast]
def wsn : Nat → List Int → List Int
  | 0, A => A
  | n + 1, A => wst (wsn n A)
theorem wsn_len (A : List Int) : ∀ n, (wsn n A).length = A.length - n
  | 0 => rfl
  | n + 1 => by show (wst _).length = _; rw [wst_len, wsn_len A n]; omega
def dlt (k : Int) : Int → Int := fun x => if x = k then 1 else 0
theorem tot_dlt (k : Int) (l : List (Int × Int)) : tot l k = wsum (dlt k) l := tot_wsum _ _
/-- the amounts, 0 too, from the first key to the last one -/
def lowL (l : List (Int × Int)) : Int := (l.map (·.1)).headD 0
def hiL (l : List (Int × Int)) : Int := (l.map (·.1)).getLastD 0
def dense (l : List (Int × Int)) : List Int := (rgI (lowL l) (hiL l + 1)).map (tot l)
def fz (A : List Int) (f : Int) : List (Int × Int) := (dl A f).filter fun x => decide (x.2 ≠ 0)
theorem dl_map (g : Int → Int) : ∀ (n : Nat) (f : Int), dl ((List.range n).map fun i : Nat => g (f + (i : Int))) f = (List.range n).map fun i : Nat => (f + (i : Int), g (f + (i : Int))) := fun n f => by
  rw [dl_range, List.length_map, List.length_range]
  refine List.map_congr_left fun k hk => ?_
  rw [List.getD_eq_getElem?_getD, List.getElem?_map, List.getElem?_range (List.mem_range.mp hk)]
  rfl
theorem dl_dense (l : List (Int × Int)) : dl (dense l) (lowL l) = (rgI (lowL l) (hiL l + 1)).map fun k => (k, tot l k) := by
  unfold dense rgI
  rw [List.map_map, List.map_map]
  exact dl_map (tot l) _ _
theorem asc_last : ∀ (S : List Int), S.Pairwise (· < ·) → ∀ x ∈ S, x ≤ S.getLastD 0
  | [], _, x, h => by cases h
  | [a], _, x, h => by
    rcases List.mem_cons.mp h with e | e
    · exact Int.le_of_eq e
    · cases e
  | a :: b :: S, hp, x, h => by
    have hp' := List.pairwise_cons.mp hp
    have ih := asc_last (b :: S) hp'.2
    show x ≤ (b :: S).getLastD 0
    rcases List.mem_cons.mp h with e | e
    · have h1 := hp'.1 b (by simp)
      have h2 := ih b (by simp)
      omega
    · exact ih x e
theorem led_span {l : List (Int × Int)} (h : Led l) : ∀ x ∈ l, lowL l ≤ x.1 ∧ x.1 ≤ hiL l := fun x hx => by
  have hp : (l.map (·.1)).Pairwise (· < ·) := by rw [List.pairwise_map]; exact h.1
  have hm : x.1 ∈ l.map (·.1) := List.mem_map_of_mem hx
  unfold lowL hiL
  generalize l.map (·.1) = S at hp hm
  refine ⟨?_, ?_⟩
  · cases S with
    | nil => cases hm
    | cons a S =>
      rcases List.mem_cons.mp hm with e | e
      · exact Int.le_of_eq e.symm
      · exact Int.le_of_lt ((List.pairwise_cons.mp hp).1 _ e)
  · exact asc_last S hp _ hm
theorem wsum_dense (φ : Int → Int) {l : List (Int × Int)} (h : Led l) : wsum φ (dl (dense l) (lowL l)) = wsum φ l := by
  have hm : ∀ S : List Int, wsum φ (S.map fun k => (k, tot l k)) = ksum φ (tot l) S := fun S => by
    induction S with
    | nil => rfl
    | cons k S ih => show tot l k * φ k + wsum φ (S.map _) = tot l k * φ k + ksum φ (tot l) S; rw [ih]
  rw [dl_dense, hm, ← wsum_keys φ (rgI_asc _ _) l fun x hx => ?_]
  have := led_span h x hx
  unfold rgI
  exact List.mem_map.mpr ⟨(x.1 - lowL l).toNat, List.mem_range.mpr (by omega), by omega⟩
theorem fz_dense {l : List (Int × Int)} (h : Led l) : fz (dense l) (lowL l) = l := by
  have e : gather (dl (dense l) (lowL l)) = gather l := gather_ext fun k => by rw [tot_dlt, wsum_dense _ h, ← tot_dlt]
  rw [gather_self h, gather_nz (dl_asc _ _)] at e
  exact e
/-! bounds -/
theorem getI_tot {l : List (Int × Int)} (h : Led l) (k : Int) : (getI l k).getD 0 = tot l k := by
  by_cases hk : k ∈ l.map (·.1)
  · obtain ⟨x, hx, rfl⟩ := List.mem_map.mp hk
    have e : getI l x.1 = some x.2 := by
      unfold getI
      have nd : l.Pairwise fun a b => a.1 < b.1 := h.1
      clear h hk
      induction l with
      | nil => cases hx
      | cons y l ih =>
        have hp := List.pairwise_cons.mp nd
        rcases List.mem_cons.mp hx with z | z
        · subst z; simp
        · have := hp.1 x z
          rw [List.find?_cons_of_neg (by simp; omega)]
          exact ih z hp.2
    rw [e, tot_led h.1 x hx]; rfl
  · rw [getI_none.mpr hk, tot_no hk]; rfl

open Classical in
noncomputable def clr (l : List (Int × Int)) : List (Int × Int) := if h : ∃ j, IsBl l j then fz (wsn (Classical.choose h) (dense l)) (lowL l) else []
theorem clr_is {l : List (Int × Int)} {j : Nat} (h : IsBl l j) : clr l = fz (wsn j (dense l)) (lowL l) := by
  have e : ∃ j, IsBl l j := ⟨j, h⟩
  unfold clr
  rw [dif_pos e, (Classical.choose_spec e).uniq h]
theorem clr_nil : clr [] = [] := by
  unfold clr
  rw [dif_neg]
  rintro ⟨j, h⟩
  exact h.1 rfl
theorem dense_len (l : List (Int × Int)) : (dense l).length = (hiL l + 1 - lowL l).toNat := by unfold dense; rw [List.length_map, rgI_len]
theorem led_ends {l : List (Int × Int)} (hne : l ≠ []) : (∃ x ∈ l, x.1 = lowL l) ∧ ∃ x ∈ l, x.1 = hiL l := by
  unfold lowL hiL
  refine ⟨?_, ?_⟩
  · cases l with
    | nil => exact absurd rfl hne
    | cons x l => exact ⟨x, by simp, rfl⟩
  · have e : (l.map (·.1)).getLastD 0 ∈ l.map (·.1) := by
      rw [List.getLastD_eq_getLast?, List.getLast?_eq_some_getLast (by simpa using hne)]
      exact List.getLast_mem _
    obtain ⟨x, hx, e⟩ := List.mem_map.mp e
    exact ⟨x, hx, e⟩
theorem ints_range (A : List Int) : A.map PyData.int = (List.range A.length).map fun k => PyData.int (A.getD k 0) := by
  refine List.ext_getElem (by simp) fun i h1 h2 => ?_
  have h3 : i < A.length := by simpa using h1
  simp [List.getD_eq_getElem?_getD, h3]
theorem at_hi {l : List (Int × Int)} (hne : l ≠ []) : atI (pd l) (-1) = some (.tuple [.int (hiL l), .int (l.getLast hne).2]) := by
  have e := List.dropLast_concat_getLast hne
  have hh : hiL l = (l.getLast hne).1 := by
    unfold hiL
    rw [List.getLastD_eq_getLast?, List.getLast?_map, List.getLast?_eq_some_getLast hne]; rfl
  have hp : 0 < l.length := List.length_pos_iff.mpr hne
  rw [hh]
  have e1 : ixN (pd l).length (-1) = some (l.length - 1) := by
    rw [pd_len]
    unfold ixN
    rw [show l.length = (l.length - 1) + 1 by omega]
    simp
    try omega
  unfold atI
  rw [e1]
  show (pd l)[l.length - 1]? = _
  unfold pd
  rw [List.getElem?_map, List.getElem?_eq_getElem (by omega), List.getLast_eq_getElem]
  rfl
theorem win_dense {l : List (Int × Int)} {f : Int} {n : Nat} (hn : 1 ≤ n) (w : InW f n l) : (dense l).length ≤ n := by
  rw [dense_len]
  by_cases hne : l = []
  · subst hne
    show ((0 : Int) + 1 - 0).toNat ≤ n
    omega
  · obtain ⟨⟨y, hy, ey⟩, z, hz, ez⟩ := led_ends hne
    have := w y hy
    have := w z hz
    omega
end Cr

set_option Elab.async false
set_option linter.all false
set_option maxRecDepth 100000
set_option maxHeartbeats 800000
namespace Cr
open PySem PySem.Spec PyProof.Rows L2
/-! products of blind ledgers; what is cleared of a product -/
/-! turning ledgers -/
/-! where three ledgers part -/
open Classical in
noncomputable def blV (l : List (Int × Int)) : Int := if h : ∃ j, IsBl l j then (Classical.choose h : Nat) else 99
theorem blV_is {l : List (Int × Int)} {j : Nat} (h : IsBl l j) : blV l = (j : Int) := by
  have e : ∃ j, IsBl l j := ⟨j, h⟩
  unfold blV
  rw [dif_pos e, (Classical.choose_spec e).uniq h]
theorem blV_congr {a b : List (Int × Int)} (h : ∀ j, psum a j = 0 ↔ psum b j = 0) : blV a = blV b := by
  by_cases e : ∃ j, IsBl a j
  · obtain ⟨j, hj⟩ := e
    rw [blV_is hj, blV_is (l := b) (j := j) ⟨fun z => hj.1 ((h j).mpr z), fun i hi => (h i).mp (hj.2 i hi)⟩]
  · have e2 : ¬ ∃ j, IsBl b j := fun ⟨j, hj⟩ => e ⟨j, fun z => hj.1 ((h j).mp z), fun i hi => (h i).mpr (hj.2 i hi)⟩
    unfold blV
    rw [dif_neg e, dif_neg e2]
theorem blV_cases {l : List (Int × Int)} (h : Led l) : (l = [] ∧ blD l = .none ∧ blV l = 99) ∨ ∃ j, j < l.length ∧ IsBl l j ∧ blD l = .int (j : Int) ∧ blV l = (j : Int) := by
  by_cases hne : l = []
  · refine .inl ⟨hne, by rw [hne, blD_nil], ?_⟩
    unfold blV
    rw [dif_neg]
    rintro ⟨j, hj⟩
    rw [hne] at hj
    exact hj.1 rfl
  · obtain ⟨j, hj, hb⟩ := led_bl h hne
    have := chg_lt hne
    exact .inr ⟨j, by omega, hb, blD_is hb, blV_is hb⟩
/-- of three partings the two smallest are the same -/
theorem three {a b d : List (Int × Int)} (ha : Led a) (hb : Led b) (hd : Led d) (hla : a.length ≤ 99) (hlb : b.length ≤ 99) (hld : d.length ≤ 99) (e : ∀ j, psum d j = psum a j - psum b j) :
    (blV a = blV b ∧ blV a ≤ blV d) ∨ (blV a = blV d ∧ blV a ≤ blV b) ∨ (blV b = blV d ∧ blV b ≤ blV a) := by
  rcases blV_cases ha with ⟨na, _, va⟩ | ⟨i, hi, ba, _, va⟩
  · have z : blV d = blV b := blV_congr fun j => by
      rw [e, na, show psum [] j = 0 from rfl]
      omega
    rw [va, z]
    rcases blV_cases hb with ⟨_, _, vb⟩ | ⟨j, hj, _, _, vb⟩
    · left; rw [vb]; omega
    · right; right; rw [vb]; omega
  · rcases blV_cases hb with ⟨nb, _, vb⟩ | ⟨j, hj, bb, _, vb⟩
    · have z : blV d = blV a := blV_congr fun j => by
        rw [e, nb, show psum [] j = 0 from rfl]
        omega
      right; left
      rw [z, vb, va]; omega
    · rw [va, vb]
      by_cases h1 : i < j
      · have hd2 : IsBl d i := ⟨by rw [e, bb.2 i h1]; have := ba.1; omega, fun k hk => by rw [e, ba.2 k hk, bb.2 k (by omega)]; rfl⟩
        right; left
        rw [blV_is hd2]; omega
      · by_cases h2 : j < i
        · have hd2 : IsBl d j := ⟨by rw [e, ba.2 j h2]; have := bb.1; omega, fun k hk => by rw [e, ba.2 k (by omega), bb.2 k hk]; rfl⟩
          right; right
          rw [blV_is hd2]; omega
        · have hij : i = j := by omega
          subst hij
          left
          refine ⟨rfl, ?_⟩
          rcases blV_cases hd with ⟨_, _, vd⟩ | ⟨t, ht, bd, _, vd⟩
          · rw [vd]; omega
          · rw [vd]
            by_cases h3 : t < i
            · exact absurd (by rw [e, ba.2 t h3, bb.2 t h3]; rfl) bd.1
            · omega
section
variable {K : PySem.W.Frag} {q : Option Addr} {δ : List Sl} {te : TE}
theorem DqAll.three {H : Hp} {vs : List V} {d e f : PyData} (h : DqAll H vs [d, e, f]) : ∃ v w u, vs = [v, w, u] ∧ Dq H v d ∧ Dq H w e ∧ Dq H u f := by
  cases h with
  | cons h1 h2 => cases h2 with
    | cons h2 h3 => cases h3 with
      | cons h3 h4 => cases h4; exact ⟨_, _, _, rfl, h1, h2, h3⟩
end
end Cr

set_option Elab.async false
set_option linter.all false
set_option maxRecDepth 100000
set_option maxHeartbeats 800000
/-! dicts with tuples as keys: sums that grow by a rule -/
namespace Cr
open PySem PySem.Spec PyProof.Rows L2
/-! ### every tuple that stands is known -/
def ext (Hk H : Hp) : Hp := fun b => match Hk b with
  | some o => some o
  | none => match H b with
    | some (.tup xs) => some (.tup xs)
    | _ => none
theorem ext_k {Hk H : Hp} {b : Addr} {o : HO} (e : Hk b = some o) : ext Hk H b = some o := by unfold ext; rw [e]
theorem ext_tup {Hk H : Hp} {b : Addr} {xs : List V} (s : Same Hk H) (e : H b = some (.tup xs)) : ext Hk H b = some (.tup xs) := by
  cases h : Hk b with
  | some o =>
    have z := s b o h
    rw [e] at z
    rw [ext_k h, z]
  | none => unfold ext; rw [h, e]
theorem ext_none {Hk H : Hp} {b : Addr} (h : Hk b = none) (e : ∀ xs, H b ≠ some (.tup xs)) : ext Hk H b = none := by
  unfold ext
  rw [h]
  cases z : H b with
  | none => rfl
  | some o =>
    cases o with
    | tup xs => exact absurd z (e xs)
    | _ => rfl
theorem ext_same {Hk H : Hp} (s : Same Hk H) : Same (ext Hk H) H := fun b o e => by
  cases h : Hk b with
  | some u =>
    rw [ext_k h] at e
    cases e
    exact s b _ h
  | none =>
    by_cases z : ∃ xs, H b = some (.tup xs)
    · obtain ⟨xs, z⟩ := z
      rw [ext_tup s z] at e
      rw [z]; exact e
    · rw [ext_none h (fun xs y => z ⟨xs, y⟩)] at e
      cases e
theorem ext_le {Hk H : Hp} : Same Hk (ext Hk H) := fun b o e => ext_k e
theorem Ok.ext {q : Option Addr} {n : Nat} {Hk H : Hp} (o : Ok q n Hk H) : Ok q n (Cr.ext Hk H) H := ⟨ext_same o.a, fun p e => ext_none (o.kf p e) fun xs z => by
  obtain ⟨x, y, w, a, _⟩ := o.j p e
  rw [a] at z
  exact absurd z (fun y => by cases y), o.j⟩
section
variable {K : PySem.W.Frag} {q : Option Addr} {n : Nat} {δ δ' : List Sl} {te te2 ta tb tp tx ty tz2 : TE} {c c1 c2 c3 : Nat} {d : PyData} {A0 B0 Hk H1 Hk' H2 : Hp} {σ : L2.St} {D : Ends} {tz tbd : TS} {r : Addr}
theorem At.ext (s : At q n δ A0 B0 σ Hk H1) (h : ∀ b xs, B0 b = some (.tup xs) → A0 b ≠ none) : At q n δ A0 B0 σ (Cr.ext Hk H1) H1 := by
  refine ⟨s.ok.ext, s.sg.mono ext_le, s.gr.k.trans ext_le, ext_same s.gr.a, s.gr.s, fun b e z => ?_, s.gr.t⟩
  refine ext_none (s.gr.f b e z) fun xs y => ?_
  by_cases hq : q = some b
  · obtain ⟨x, w, v, a, _⟩ := s.ok.j b hq
    rw [a] at y; cases y
  · cases u : B0 b with
    | none => exact z u
    | some o =>
      have := s.gr.s b o hq u
      rw [y] at this
      cases this
      exact h b xs u e
/-! ### the dict -/
def PolyK (f : List Int) : Prop := f.length ≤ 3 ∧ Pl f ∧ CB 4 f ∧ f ≠ []
def cntV (x : List Key × V) : Nat := match x.2 with
  | .int j => j.toNat
  | _ => 0
def GoodT (c : Nat) (kvs : List (List Key × V)) : Prop := kvs.length ≤ c ∧ (∀ x ∈ kvs, ∃ (f : List Int) (j : Nat), x = (f.map Sum.inl, V.int j) ∧ PolyK f ∧ j ≤ c) ∧ (kvs.map (·.1)).Nodup ∧ (kvs.map cntV).sum ≤ c
theorem GoodT.nil : GoodT 0 [] := ⟨Nat.le_refl _, by simp, by simp, by simp⟩
theorem GoodT.mono {c c' : Nat} {kvs : List (List Key × V)} (h : GoodT c kvs) (l : c ≤ c') : GoodT c' kvs := ⟨by have := h.1; omega, fun x hx => by
  obtain ⟨f, j, e, p, z⟩ := h.2.1 x hx
  exact ⟨f, j, e, p, by omega⟩, h.2.2.1, by have := h.2.2.2; omega⟩
structure TCell (q : Option Addr) (B0 Hk H1 : Hp) (p : Addr) (kvs : List (List Key × V)) : Prop where
  nk : Hk p = none
  nq : q ≠ some p
  nb : B0 p = none
  ex : H1 p = some (.dT kvs)
theorem TCell.go {kvs : List (List Key × V)} (x : TCell q B0 Hk H1 r kvs) (g : Gr q Hk H1 Hk' H2) : TCell q B0 Hk' H2 r kvs :=
  ⟨g.f r x.nk (by rw [x.ex]; exact fun z => by cases z), x.nq, x.nb, g.s r _ x.nq x.ex⟩
theorem At.fresh {p : Addr} (s : At q n δ A0 B0 σ Hk H1) (h : H1 p = none) : Hk p = none ∧ q ≠ some p ∧ B0 p = none :=
  ⟨s.ok.a.free h, fun e => (s.ok.j p e).ne h, by
    cases e : B0 p with
    | none => rfl
    | some u => exact absurd h (s.gr.t p (by rw [e]; exact fun z => by cases z))⟩
theorem Ok.new {p : Addr} {u : HO} (o : Ok q n Hk H1) (hp : H1 p = none) : Ok q n (upd Hk p u) (upd H1 p u) := o.go (Gr.new o.a hp)
end
end Cr

set_option Elab.async false
set_option linter.all false
set_option maxRecDepth 100000
set_option maxHeartbeats 800000
/-! dicts of ints that still change, read by comprehensions -/
namespace Cr
open PySem PySem.Spec PyProof.Rows L2
structure ICell (q : Option Addr) (B0 Hk H1 : Hp) (p : Addr) (m : List (Int × Int)) : Prop where
  nk : Hk p = none
  nq : q ≠ some p
  nb : B0 p = none
  ex : H1 p = some (.dK (mdict m))
section
variable {K : PySem.W.Frag} {q : Option Addr} {n : Nat} {δ δ' : List Sl} {te te2 ta tb tp tx ty tz2 : TE} {c c1 c2 c3 : Nat} {d : PyData} {A0 B0 Hk H1 Hk' H2 : Hp} {σ : L2.St} {D : Ends} {tz tbd : TS} {r : Addr} {m : List (Int × Int)}
theorem ICell.go (x : ICell q B0 Hk H1 r m) (g : Gr q Hk H1 Hk' H2) : ICell q B0 Hk' H2 r m :=
  ⟨g.f r x.nk (by rw [x.ex]; exact fun z => by cases z), x.nq, x.nb, g.s r _ x.nq x.ex⟩
/-! ### a dict whose keys alone matter -/
structure BCell (q : Option Addr) (B0 Hk H1 : Hp) (p : Addr) (ks : List Int) : Prop where
  nk : Hk p = none
  nq : q ≠ some p
  nb : B0 p = none
  ex : ∃ kvs : List (Key × V), H1 p = some (.dK kvs) ∧ kvs.map (·.1) = ks.map Sum.inl
theorem BCell.go {ks : List Int} (x : BCell q B0 Hk H1 r ks) (g : Gr q Hk H1 Hk' H2) : BCell q B0 Hk' H2 r ks := by
  obtain ⟨kvs, e, h⟩ := x.ex
  exact ⟨g.f r x.nk (by rw [e]; exact fun z => by cases z), x.nq, x.nb, kvs, g.s r _ x.nq e, h⟩
end
end Cr

set_option Elab.async false
set_option linter.all false
set_option maxRecDepth 100000
set_option maxHeartbeats 800000
/-! fractions at keys come to the sums -/
namespace Cr
open PySem PySem.Spec PyProof.Rows L2
/-! ### a polynomial with too many roots -/
/-! ### sums of multiples -/
/-! ### least terms -/
/-! ### a common multiple -/
section
variable {K : PySem.W.Frag} {q : Option Addr} {n : Nat} {δ δ' : List Sl} {te te2 ta tb : TE} {c c1 c2 c3 : Nat} {d d1 d2 : PyData} {A0 B0 Hk H1 Hk' H2 : Hp} {σ : L2.St} {D : Ends} {tz : TS}
end
end Cr

set_option Elab.async false
set_option linter.all false
set_option maxRecDepth 100000
set_option maxHeartbeats 800000
/-! rules of sums -/
namespace Cr
open PySem PySem.Spec PyProof.Rows L2
/-! ### a stretch of the sums under a rule -/
/-! ### numbers divided by what they share -/
/-! ### how long the numbers of a shortest rule may be -/
/-! ### rules of the hand layer -/
section
variable {K : PySem.W.Frag} {q : Option Addr} {n : Nat} {δ δ' : List Sl} {te ta tb : TE} {c c1 c2 : Nat} {d d1 d2 d3 d4 d5 : PyData} {A0 B0 Hk H1 H2 Hk' : Hp} {σ : L2.St} {D : Ends} {tz : TS} {p : Addr} {ds es : List PyData}

/-! ### lists of polynomials, some drawn -/
end
end Cr

set_option Elab.async false
set_option linter.all false
set_option maxRecDepth 100000
set_option maxHeartbeats 1000000
namespace Cr
open PySem PySem.Spec PyProof.Rows L2 L2
/-! ### talks: ranges, rounds -/
end Cr

set_option Elab.async false
set_option linter.all false
set_option maxRecDepth 100000
set_option maxHeartbeats 1000000
namespace Cr
open PySem PySem.Spec PyProof.Rows L2 LiI
section
variable {K : PySem.W.Frag} {q : Option Addr} {n : Nat} {δ δ' : List Sl} {te ta tb tc tk : TE} {tt tu : TT} {c c1 c2 c3 : Nat} {Φ Φ1 Φ2 Φ3 : PyData → Prop} {d d1 d2 d3 : PyData} {wi : TI} {A0 B0 Hk H1 H2 Hk' : Hp} {σ : L2.St} {D : Ends} {ts tz : TS} {g : TG} {p r : Addr} {ds : List PyData}
/-- all that is new is known -/
def moreH (Hk H1 H' : Hp) : Hp := fun b => match H1 b with
  | none => H' b
  | some _ => Hk b
theorem moreH_new {b : Addr} {Hk H1 H' : Hp} (h : H1 b = none) : moreH Hk H1 H' b = H' b := by unfold moreH; rw [h]
theorem moreH_old {b : Addr} {Hk H1 H' : Hp} (h : H1 b ≠ none) : moreH Hk H1 H' b = Hk b := by
  unfold moreH
  cases e : H1 b with
  | none => exact absurd e h
  | some u => rfl
theorem Gr.more {Hk H1 H' : Hp} (s : Same Hk H1) (e : ∀ b o, H1 b = some o → H' b = some o) : Gr q Hk H1 (moreH Hk H1 H') H' := by
  refine ⟨fun b o h => ?_, fun b o h => ?_, fun b o _ h => e b o h, fun b h h1 => ?_, fun b h => ?_⟩
  · rw [moreH_old (by rw [s b o h]; exact fun z => by cases z)]; exact h
  · cases h1 : H1 b with
    | none => rw [moreH_new h1] at h; exact h
    | some u =>
      rw [moreH_old (by rw [h1]; exact fun z => by cases z)] at h
      exact e b o (s b o h)
  · rw [moreH_old h1]; exact h
  · cases h1 : H1 b with
    | none => exact absurd h1 h
    | some u => rw [e b u h1]; exact fun z => by cases z
/-! a dict of one's own that changes -/
structure DCell (q : Option Addr) (B0 Hk H1 : Hp) (p : Addr) (m : List (Int × Int)) : Prop where
  nk : Hk p = none
  nq : q ≠ some p
  nb : B0 p = none
  ex : H1 p = some (.dK (mdict m))
theorem DCell.go {m : List (Int × Int)} (x : DCell q B0 Hk H1 p m) (g : Gr q Hk H1 Hk' H2) : DCell q B0 Hk' H2 p m :=
  ⟨g.f p x.nk (by rw [x.ex]; exact fun z => by cases z), x.nq, x.nb, g.s p _ x.nq x.ex⟩
end
/-! rounds as data -/
end Cr
namespace Cr
open PySem PySem.Spec PyProof.Rows L2
section
variable {K : PySem.W.Frag} {q : Option Addr} {n : Nat} {δ : List Sl} {te : TE} {c : Nat} {Φ : PyData → Prop} {d : PyData} {A0 B0 Hk H1 : Hp} {σ : L2.St} {D : Ends} {tz : TS} {p : Addr} {ds es : List PyData}
end
end Cr
namespace Cr
open PySem PySem.Spec PyProof.Rows L2
section
variable {K : PySem.W.Frag} {q : Option Addr} {n : Nat} {δ : List Sl} {te ti : TE} {tt : TT} {c c1 ci : Nat} {Φ : PyData → Prop} {d : PyData} {A0 B0 Hk H1 : Hp} {σ : L2.St} {D : Ends} {tz : TS} {p r t : Addr} {ds es : List PyData}
end
end Cr

set_option Elab.async false
set_option linter.all false
set_option maxRecDepth 100000
set_option maxHeartbeats 1000000
namespace Cr
open PySem PySem.Spec PyProof.Rows L2
/-! all pairs of small ledgers -/
end Cr
namespace Cr
open PySem PySem.Spec PyProof.Rows L2
section
variable {K : PySem.W.Frag} {q : Option Addr} {n : Nat} {δ : List Sl} {c : Nat} {A0 B0 Hk H1 : Hp} {σ : L2.St} {D : Ends}
end
end Cr
namespace Cr
open PySem PySem.Spec PyProof.Rows L2
section
variable {K : PySem.W.Frag} {q : Option Addr} {n : Nat} {δ : List Sl} {te ti : TE} {c : Nat} {A0 B0 Hk H1 : Hp} {σ : L2.St} {D : Ends} {tz : TS}
end
end Cr
namespace Cr
open PySem PySem.Spec PyProof.Rows L2
end Cr

set_option Elab.async false
set_option linter.all false
set_option maxRecDepth 100000
set_option maxHeartbeats 1000000
namespace Cr
open PySem PySem.Spec PyProof.Rows L2
/-! ### truth of a list -/
section
variable {K : PySem.W.Frag} {q : Option Addr} {n : Nat} {δ δ' : List Sl} {te ta tb : TE} {tt : TT} {c : Nat} {d d1 d2 d3 d4 d5 : PyData} {A0 B0 Hk H1 H2 Hk' : Hp} {σ : L2.St} {D : Ends} {tz : TS} {p O : Addr} {ds es e0 rest : List PyData}
/-! ### a new list, its first item a new list, too -/
structure Fresh2 (q : Option Addr) (B0 Hk H : Hp) (O : Addr) (e0 rest : List PyData) : Prop where
  nk : Hk O = none
  nq : q ≠ some O
  nb : B0 O = none
  ex : ∃ D xs ys, H O = some (.lst (.ref D :: xs)) ∧ DqAll Hk xs rest ∧ O ≠ D ∧ Hk D = none ∧ q ≠ some D ∧ B0 D = none ∧ H D = some (.lst ys) ∧ DqAll Hk ys e0
theorem Fresh2.go (x : Fresh2 q B0 Hk H1 O e0 rest) (g : Gr q Hk H1 Hk' H2) : Fresh2 q B0 Hk' H2 O e0 rest := by
  obtain ⟨D, xs, ys, e1, d1, ne, k1, q1, b1, e2, d2⟩ := x.ex
  exact ⟨g.f O x.nk (by rw [e1]; exact fun z => by cases z), x.nq, x.nb, D, xs, ys, g.s O _ x.nq e1, DqAll.mono g.k _ _ d1, ne, g.f D k1 (by rw [e2]; exact fun z => by cases z), q1, b1, g.s D _ q1 e2, DqAll.mono g.k _ _ d2⟩
def JNN (q : Option Addr) (δ : List Sl) (te : TE) (e0 rest : List PyData) : Prop := ∀ (σ : L2.St) (H H1 : Hp) (n : Nat), Sg H σ δ → Ok q n H H1 → ∀ Q : VK, (∀ O Hk H2, Gr q H H1 Hk H2 → Ok q n Hk H2 → Fresh2 q H1 Hk H2 O e0 rest → Q (.ref O) H2) → te σ H1 Q
theorem Fresh2.base {B1 : Hp} (x : Fresh2 q B1 Hk H1 O e0 rest) (t : ∀ b, B0 b ≠ none → B1 b ≠ none) : Fresh2 q B0 Hk H1 O e0 rest := by
  have z : ∀ b, B1 b = none → B0 b = none := fun b h => by
    cases e : B0 b with
    | none => rfl
    | some u => exact absurd h (t b (by rw [e]; exact fun y => by cases y))
  obtain ⟨D, xs, ys, e1, d1, ne, k1, q1, b1, e2, d2⟩ := x.ex
  exact ⟨x.nk, x.nq, z _ x.nb, D, xs, ys, e1, d1, ne, k1, q1, z _ b1, e2, d2⟩
/-- it stands still from here -/
theorem Fresh2.freeze (x : Fresh2 q B0 Hk H1 O e0 rest) (s : At q n δ A0 B0 σ Hk H1) : ∃ Hk', Same Hk Hk' ∧ At q n δ A0 B0 σ Hk' H1 ∧ Dq Hk' (.ref O) (.list (.list e0 :: rest)) ∧ ∃ D xs ys, Hk' O = some (.lst (.ref D :: xs)) ∧ Hk' D = some (.lst ys) ∧ O ≠ D ∧ q ≠ some O ∧ q ≠ some D ∧ B0 O = none ∧ B0 D = none ∧ Hk O = none ∧ Hk D = none ∧ ys.length = e0.length ∧ xs.length = rest.length ∧ DqAll Hk' ys e0 := by
  obtain ⟨F, xs, ys, e1, d1, ne, k1, q1, b1, e2, d2⟩ := x.ex
  have g1 := s.gr.freeze b1 k1 e2
  have nO : upd Hk F (.lst ys) O = none := by rw [upd_ne ne]; exact x.nk
  have g2 := g1.freeze x.nb nO e1
  have sm : Same Hk (upd (upd Hk F (.lst ys)) O (.lst (.ref F :: xs))) := (same_upd k1).trans (same_upd nO)
  have eF : upd (upd Hk F (.lst ys)) O (.lst (.ref F :: xs)) F = some (.lst ys) := by rw [upd_ne (Ne.symm ne)]; exact upd_same
  refine ⟨upd (upd Hk F (.lst ys)) O (.lst (.ref F :: xs)), sm, ⟨⟨g2.a, fun r er => ?_, s.ok.j⟩, s.sg.mono sm, g2⟩, .lst upd_same (.cons (.lst eF (DqAll.mono sm _ _ d2)) (DqAll.mono sm _ _ d1)), F, xs, ys, upd_same, eF, ne, x.nq, q1, x.nb, b1, x.nk, k1, d2.length, d1.length, DqAll.mono sm _ _ d2⟩
  rw [upd_ne (fun z => x.nq (by rw [← z]; exact er)), upd_ne (fun z => q1 (by rw [← z]; exact er))]
  exact s.ok.kf r er
theorem JNN.e (h : JNN q δ te e0 rest) : E q δ te (.list (.list e0 :: rest)) := fun σ H H1 n sg o Q k =>
  h σ H H1 n sg o _ fun O Hk H2 g o1 f => by
    obtain ⟨Hk', sm, a, dq, _⟩ := f.freeze (A0 := H) (B0 := H1) (δ := []) (σ := []) ⟨o1, ⟨rfl, fun i s e => by simp at e⟩, g⟩
    exact k _ _ Hk' H2 a.gr a.ok rfl dq
/-- what an address holds is told -/
theorem At.tell {i : Nat} (s : At q n δ A0 B0 σ Hk H1) (hi : δ[i]? = some (.adr p)) (dq : Dq Hk (.ref p) d) : At q n (δ.set i (.dat d)) A0 B0 σ Hk H1 := by
  refine ⟨s.ok, ⟨by rw [List.length_set]; exact s.sg.1, fun j t e ne => ?_⟩, s.gr⟩
  by_cases hj : i = j
  · subst hj
    have hl : i < δ.length := (List.getElem?_eq_some_iff.mp hi).1
    rw [List.getElem?_set_self hl] at e
    cases e
    exact ⟨.ref p, s.sg.getA hi, dq⟩
  · rw [List.getElem?_set_ne hj] at e
    exact s.sg.2 j t e ne
theorem At.back {δ2 : List Sl} (s : At q n δ A0 B0 σ Hk H1) (a : At q n δ2 A0 B0 σ Hk' H2) (g : Same Hk Hk') : At q n δ A0 B0 σ Hk' H2 := ⟨a.ok, s.sg.mono g, a.gr⟩
end
end Cr

set_option Elab.async false
set_option linter.all false
set_option maxRecDepth 100000
set_option maxHeartbeats 1000000
namespace Cr
open PySem PySem.Spec PyProof.Rows L2
section
variable {P : Program} {w : World} {K : PySem.W.Frag} {mg : Str → Option Value} {base : Heap}
end
section
variable {K : PySem.W.Frag} {q : Option Addr} {n : Nat} {δ δ' : List Sl} {te ta tb : TE} {tt : TT} {c : Nat} {d d1 d2 : PyData} {A0 B0 Hk H1 H2 Hk' : Hp} {σ : L2.St} {D : Ends} {tz : TS} {p O : Addr} {ds es e0 rest : List PyData} {wi wi1 : TI} {g g1 : TG}
end
end Cr

namespace Cr
open PySem PySem.Spec PyProof.Rows L2
/-! ### a op b op c op d as a test -/
section
variable {X : Cx} {a b c d : Expr} {ta tb tc td : TE} {pos : Pos}
end
section
variable {K : PySem.W.Frag} {q : Option Addr} {δ : List Sl} {ta tb tc td ti te : TE} {n : Nat}
end
/-! ### a ledger parted at a key -/
end Cr

set_option Elab.async false
set_option linter.all false
set_option maxRecDepth 100000
set_option maxHeartbeats 1000000
namespace Cr
open PySem PySem.Spec PyProof.Rows L2
/-! ### what a talk tells adds up -/
/-! the talk itself -/
end Cr

set_option Elab.async false
set_option linter.all false
set_option maxRecDepth 100000
set_option maxHeartbeats 800000
/-! what talks cost -/
namespace Cr
open PySem PySem.Spec PyProof.Rows L2
/-! ### rows of ranges, one by one -/
section
variable {g a b : List (Int × Int)} {r0 : Int × Int}
/-! ### all rows together -/
end
/-! ### the least of all -/
def IsMin (f : Nat → Int) (top n : Nat) : Prop := (1 ≤ n ∧ n ≤ top) ∧ (∀ m, 1 ≤ m → m ≤ top → f n ≤ f m) ∧ ∀ m, 1 ≤ m → m < n → f n < f m
theorem IsMin.uniq {f : Nat → Int} {top n m : Nat} (h : IsMin f top n) (h2 : IsMin f top m) : n = m := by
  obtain ⟨⟨a, b⟩, c, d⟩ := h
  obtain ⟨⟨a2, b2⟩, c2, d2⟩ := h2
  rcases Nat.lt_trichotomy n m with e | e | e
  · have := d2 n a e
    have := c m a2 b2
    omega
  · exact e
  · have := d m a2 e
    have := c2 n a b
    omega
def IsFst (P : Nat → Prop) (n : Nat) : Prop := 1 ≤ n ∧ P n ∧ ∀ m, 1 ≤ m → m < n → ¬ P m
theorem IsFst.uniq {P : Nat → Prop} {n m : Nat} (h : IsFst P n) (h2 : IsFst P m) : n = m := by
  obtain ⟨a, b, c⟩ := h
  obtain ⟨a2, b2, c2⟩ := h2
  rcases Nat.lt_trichotomy n m with e | e | e
  · exact absurd b (c2 n a e)
  · exact e
  · exact absurd b2 (c m a2 e)
/-! ### min of pairs of ints, list.index of ints -/
/-! ### the most of some -/
section
variable {K : PySem.W.Frag} {q : Option Addr} {δ : List Sl} {te te2 : TE}
end
/-- what repr may print -/
def Shw (k W : Nat) (d : PyData) : Prop := d.showable = true ∧ d.hasDict = false ∧ d.depth ≤ k ∧ PyData.leavesShort 100 d = true ∧ PyData.weight d ≤ W
theorem Shw.mono {k k' W W' : Nat} {d : PyData} (h : Shw k W d) (hk : k ≤ k') (hW : W ≤ W') : Shw k' W' d := ⟨h.1, h.2.1, Nat.le_trans h.2.2.1 hk, h.2.2.2.1, Nat.le_trans h.2.2.2.2 hW⟩
theorem Shw.size {k W : Nat} {d : PyData} (h : Shw k W d) (hW : W ≤ 160000) : d.shown.length ≤ sizeLine := by
  have z := PyData.shown_le 100 (by omega) d h.2.2.2.1
  have e : sizeLine = 16777216 := by decide
  rw [e]
  have m := Nat.mul_le_mul_left (100 + 2) (Nat.le_trans h.2.2.2.2 hW)
  omega
section
variable {K : PySem.W.Frag} {q : Option Addr} {n c : Nat} {δ : List Sl} {ta tb : TE} {d2 : PyData} {A0 B0 Hk H1 : Hp} {σ : L2.St} {D : Ends} {tz : TS} {Φ : PyData → Prop}
end
/-! ### a def that is called where no guard stands -/
structure FnOkG (P : Program) (w : World) (K : PySem.W.Frag) (mg : Str → Option Value) (base : Heap) (CX : CXT) (k : Nat) (f : Addr) (fd : FuncData) (ps : List Str) (sp : Sp) : Prop where
  len : ∀ vs H Q E, sp vs H Q E → vs.length = ps.length
  run : ∀ (A : Around) (outer : List Env) (s : Shared) (H : Hp) (args : Args) (us : List Value) (vs : List V) (Q : VK) (E : XK), A.guards = some [] → Room k A → Env0 P w K mg base A outer s H → BindsTo s fd args (ps.zip us) → Vals vs us → sp vs H Q E →
    codeAny (model P w) A (.call (.ref f) args) (CR CX outer P w H s Q E) s
section
variable {P : Program} {w : World} {K : PySem.W.Frag} {mg : Str → Option Value} {base : Heap}
end
section
variable {X : Cx} {CX : CXT} {k : Nat} {f : Addr} {fd : FuncData} {ps : List Str} {sp : Sp} {dvs : List V} {ds : List Value} {E : XK} {x : Str} {p pos : Pos} {e : Expr} {es : List Expr} {t : TA}
end
section
variable {K : PySem.W.Frag} {q : Option Addr} {δ : List Sl} {te : TE}
end
end Cr

set_option Elab.async false
set_option linter.all false
set_option maxRecDepth 100000
set_option maxHeartbeats 800000
/-! A tuple judged pair by pair. -/
namespace Cr
open PySem PySem.Spec PyProof.Rows L2
theorem asc_pw : ∀ l : List (Int × Int), asc l = true → l.Pairwise fun a b => a.1 < b.1
  | [], _ => .nil
  | [x], _ => by simp
  | x :: y :: l, h => by
    have e : asc (x :: y :: l) = (decide (x.1 < y.1) && asc (y :: l)) := rfl
    rw [e, Bool.and_eq_true] at h
    have ih := asc_pw (y :: l) h.2
    have hxy : x.1 < y.1 := of_decide_eq_true h.1
    refine List.pairwise_cons.mpr ⟨fun z hz => ?_, ih⟩
    rcases List.mem_cons.mp hz with e | e
    · rw [e]; exact hxy
    · have := (List.pairwise_cons.mp ih).1 z e
      omega
theorem led_of {ds : List PyData} (h : isLedD (.tuple ds) = true) : ∃ l, Led l ∧ ds = pd l := by
  have h0 : (ds.all isChangeD && (asc (ds.filterMap unpr) && nz (ds.filterMap unpr))) = true := h
  rw [Bool.and_eq_true] at h0
  obtain ⟨l, rfl⟩ := changes_pd h0.1
  rw [unpr_pd, Bool.and_eq_true] at h0
  refine ⟨l, ⟨asc_pw l h0.2.1, fun x hx => ?_⟩, rfl⟩
  have := List.all_eq_true.mp h0.2.2 x hx
  simpa using this
theorem pd_inj {a b : List (Int × Int)} (h : pd a = pd b) : a = b := by
  have := congrArg (fun ds => ds.filterMap unpr) h
  simpa [unpr_pd] using this
section
variable {K : PySem.W.Frag} {q : Option Addr} {δ : List Sl} {te tb : TE}
/-- {} -/
theorem e_dnew : E q δ tDNewK (.dict []) := fun σ H H1 n sg o Q k => fun p hp => by
  have g := Gr.new (q := none) (o := .dK []) o.a hp
  exact k _ _ _ _ g.none_to (o.go g) rfl (.dic upd_same)
/-- no tuple of it is long -/
def ShortT (d : PyData) : Prop := ∀ ds, d = .tuple ds → ds.length ≤ 100000
theorem short_tup {ds : List PyData} (h : ds.length ≤ 100000) : ShortT (.tuple ds) := fun es e => by cases e; exact h
end
/-! ### a class's instance -/
structure FunV (K : PySem.W.Frag) (x qual : Str) (st : Stmt) (f : Addr) (fd : FuncData) : Prop where
  ex : ∃ (oc : Value) (od : Option Addr) (dV kV doc pm : Value) (an : Option Addr) (cdv ct : Value) (osl : Array (Option Value)), fd = PySem.W.fnOf x qual (defArgs st) (defBody st) (defScope st) dV kV doc pm an cdv ct ∧ K.lookup f = some ⟨oc, od, .func fd, osl⟩ ∧ PySem.W.codeIn K cdv qual = true
  kp : PySem.W.keepIn K (.ref f) = true
theorem FunV.binds {K : PySem.W.Frag} {x qual : Str} {st : Stmt} {f : Addr} {fd : FuncData} {ps : List Str} (F : FunV K x qual st f fd)
    (h : ∀ (dV kV doc pm : Value) (an : Option Addr) (cdv ct : Value) (us : List Value), us.length = ps.length → bindArgs (PySem.W.fnOf x qual (defArgs st) (defBody st) (defScope st) dV kV doc pm an cdv ct) ⟨us, []⟩ = pure (ps.zip us)) : Binds K fd ps [] := by
  obtain ⟨oc, od, dV, kV, doc, pm, an, cdv, ct, osl, rfl, lk, hcd⟩ := F.ex
  exact .all (h dV kV doc pm an cdv ct)
/-- what isinstance asks of a class that is no tuple -/
structure InsC (K : PySem.W.Frag) (C : Addr) : Prop where
  ha : PySem.W.findIn K (.ref C) "__class__" = some (some (.builtin "object.__class__"))
  hn : PySem.W.specialIn K (.builtin "object.__class__") "__get__" = some (some (.builtin "getset_descriptor.__get__"))
  htk : PySem.W.takesIn K (.builtin "object.__class__") = some true
  hm : PySem.W.mroIn K C (.type "object") = some true
  kt : PySem.W.kitOne K (.ref C) (.type "tuple") = some false
  ki : PySem.W.kitOne K (.ref C) (.type "int") = some false
theorem kit_no {K : PySem.W.Frag} {C : Addr} (h : PySem.W.subIn K (.ref C) (.type "tuple") = some false) : PySem.W.kitOne K (.ref C) (.type "tuple") = some false := by
  unfold PySem.W.kitOne
  rw [if_neg (fun e => by first | (have := eq_of_beq e; cases this) | simp at e)]
  show (if PySem.W.kitMeta "tuple" = true then PySem.W.subIn K (.ref C) (.type "tuple") else none) = some false
  rw [if_pos (by decide +kernel)]
  exact h
theorem kit_noI {K : PySem.W.Frag} {C : Addr} (h : PySem.W.subIn K (.ref C) (.type "int") = some false) : PySem.W.kitOne K (.ref C) (.type "int") = some false := by
  unfold PySem.W.kitOne
  rw [if_neg (fun e => by first | (have := eq_of_beq e; cases this) | simp at e)]
  show (if PySem.W.kitMeta "int" = true then PySem.W.subIn K (.ref C) (.type "int") else none) = some false
  rw [if_pos (by decide +kernel)]
  exact h
theorem kit_yesV {K : PySem.W.Frag} {C : Addr} (h : PySem.W.subIn K (.ref C) (.type "ValueError") = some true) : PySem.W.kitOne K (.ref C) (.type "ValueError") = some true := by
  unfold PySem.W.kitOne
  rw [if_neg (fun e => by first | (have := eq_of_beq e; cases this) | simp at e)]
  show (if PySem.W.kitMeta "ValueError" = true then PySem.W.subIn K (.ref C) (.type "ValueError") else none) = some true
  rw [if_pos (by decide +kernel)]
  exact h
/-- __init__ of a class with one attribute: it stores what it is given -/
def spI (C : Addr) (fld : Str) (Pd : PyData → Prop) : Sp := fun vs H Q _ => ∃ (q : Option Addr) (Hk H0 : Hp) (n : Nat) (x dx : Addr) (w : V) (d : PyData), vs = [.ref x, w] ∧ H = upd (upd H0 dx (.own x)) x (.ins C dx []) ∧ H0 x = none ∧ H0 dx = none ∧ dx ≠ x ∧ Ok q n Hk H0 ∧ Dq Hk w d ∧ Pd d ∧
  ∀ Hk' H2, Gr q Hk H0 Hk' H2 → Ok q n Hk' H2 → (∃ fs, H2 x = some (.ins C dx fs)) → Q .non H2
section
variable {P : Program} {w : World} {K : PySem.W.Frag} {mg : Str → Option Value} {base : Heap}
/-- self.fld = value behind a check -/
theorem init_ok {x qual fld : Str} {st : Stmt} {f C : Addr} {fd : FuncData} {N ps : List Str} {k : Nat} {Pd : PyData → Prop} {tc : TE} (hp : ps.length = 2) (hN2 : N.length = 2) (F : FunV K x qual st f fd) (S : FnScope N ps (defScope st)) (cl : Cls K C) (na : NoAttr K C fld)
    (body : ∀ (cdv : Value) (A : Around) (outer : List Env) (s : Shared) (B0 : Hp) (E : XK), Room k (A.deeper (envOfC qual (defScope st) s.heap.objs.size f cdv)) →
      PSs (cxOf CX0 P w K mg base N qual (defScope st) f cdv A outer s B0 E).nox (defBody st) (tSeq (tDrop tc) (sFld K (tVar 0) (tVar 1) fld)))
    (hc : ∀ (q : Option Addr) (δ : List Sl) (d : PyData), Pd d → δ[1]? = some (.dat d) → E q δ tc .none) :
    FnOk P w K mg base CX0 (k + 1) f fd ps (spI C fld Pd) := by
  obtain ⟨oc, od, dV, kV, doc, pm, an, cdv, ct, osl, rfl, lk, hcd⟩ := F.ex
  refine fn_of lk hcd S (fun vs H Q E h => ?_) fun A outer s H vs Q E hr h => ?_
  · obtain ⟨_, _, _, _, _, _, _, _, rfl, _⟩ := h
    rw [hp]; rfl
  · obtain ⟨q, Hk, H0, n, a, dx, v, d, rfl, rfl, h1, h2, h3, o, dv, pd, kk⟩ := h
    refine ⟨_, (body cdv A outer s _ E hr).nox, ?_⟩
    have hka : Hk a = none := o.a.free h1
    have hkd : Hk dx = none := o.a.free h2
    have nqa : q ≠ some a := fun e => (o.j a e).ne h1
    have nqd : q ≠ some dx := fun e => (o.j dx e).ne h2
    have sg0 := start_sg (N := N) (vs := [.ref a, v]) (sls := [.adr a, .dat d]) (VS.cons (H := Hk) (s := .adr a) rfl (VS.cons (s := .dat d) dv VS.nil)) (by rw [hN2]; exact Nat.le_refl _)
    rw [hN2] at sg0
    have s1 : At q n [.adr a, .dat d] Hk H0 (L2.start N [.ref a, v]) Hk (upd (upd H0 dx (.own a)) a (.ins C dx [])) := ⟨(o.cell hkd nqd).cell hka nqa, sg0, ((Gr.refl o.a).put h2 hkd).put h1 hka⟩
    refine q_drop (hc q _ d pd rfl) s1 fun Hk1 H1 g1 a1 => ?_
    have e1 : H1 a = some (.ins C dx []) := g1.s a _ nqa upd_same
    have hk1 : Hk1 a = none := g1.f a hka (by rw [upd_same]; exact fun z => by cases z)
    refine (e_var (i := 1) rfl) _ Hk1 H1 n a1.sg a1.ok _ fun d2 v2 Hk2 H2 g2 o2 ed dv2 => ?_
    have e2 : H2 a = some (.ins C dx []) := g2.s a _ nqa e1
    have hk2 : Hk2 a = none := g2.f a hk1 (by rw [e1]; exact fun z => by cases z)
    refine ⟨.ref a, a1.sg.getA (i := 0) rfl, a, C, dx, [], rfl, e2, cl, na, by show 0 < 1000; decide, ?_⟩
    exact kk Hk2 _ ((a1.gr.trans g2).put h1 hk2) (o2.cell hk2 nqa) ⟨_, upd_same⟩
end
/-- a def that is handed an instance and says False -/
def spIns (K : PySem.W.Frag) : Sp := fun vs H Q _ => ∃ (q : Option Addr) (Hk : Hp) (n : Nat) (a C dx : Addr) (fs : List (Str × V)), vs = [.ref a] ∧ H a = some (.ins C dx fs) ∧ Cls K C ∧ InsC K C ∧ Ok q n Hk H ∧ ∀ Hk' H2, Gr q Hk H Hk' H2 → Ok q n Hk' H2 → Q (.bl false) H2
section
variable {K : PySem.W.Frag} {q : Option Addr} {n : Nat} {δ : List Sl} {A0 B0 Hk H1 : Hp} {σ : L2.St} {D : Ends} {tz : TS}
/-- if not isinstance(x, tuple) or ..: return False -/
theorem q_insNo {i : Nat} {a C dx : Addr} {fs : List (Str × V)} {tt : TT} (s : At q n δ A0 B0 σ Hk H1) (hi : δ[i]? = some (.adr a)) (e : H1 a = some (.ins C dx fs)) (cl : Cls K C) (ic : InsC K C) (k : D.rt (.bl false) H1) :
    tSeq (tIfS (tOr (tNot (tB (tCB (rIsiU K) (tCons (tVar i) (tCons (tC (.ty "tuple")) tNil))))) tt) (tRet (tC (.bl false))) tNext) tz D σ H1 := by
  refine ⟨.ref a, s.sg.getA hi, .inl ⟨.ref a, .ty "tuple", .ref C, .type "tuple", false, rfl, .ty "tuple", .base (.ins e cl ic.ha ic.hn ic.htk ic.hm), ic.kt, false, rfl, ?_⟩⟩
  exact k
end
end Cr

set_option Elab.async false
set_option linter.all false
set_option maxRecDepth 100000
set_option maxHeartbeats 800000
/-! Ledgers form a ring. -/
namespace Cr
open PySem PySem.Spec PyProof.Rows L2
end Cr

set_option Elab.async false
set_option linter.all false
set_option maxRecDepth 100000
set_option maxHeartbeats 800000
/-! Defs that raise, and trys around them. -/
namespace L2
open PySem PySem.Spec PyProof.Rows
/-- X() of an own exception class -/
theorem pmk_own0 {X : Cx} {C : Addr} {bmB : List Value} {B newId initId : String} {x : Str} {p pos : Pos} (F : ExcBaseFacts B newId initId bmB) (q : PySem.W.excIn X.K C bmB newId = true) (gC : X.mg x = some (.ref C)) (kC : PySem.W.keepIn X.K (.ref C) = true) (r : Raises X (.ref C)) (hg : Gl X x)
    (hdb : (x == ("__debug__" : Str)) = false := by decide) : PMk X (.Call (.Name x p) [] [] pos) (fun _ H Q => Q (.ref C) none H) := by
  intro pins s σ H Q I h
  refine wpAny_Call_Name_kw (ld_glob I hg gC ?_ hdb)
  refine PySem.W.callWith_K0 I.kIn kC ?_
  show wpAny _ _ (call (.ref C) []) _ _ _
  obtain ⟨bm, N, nm, qn, bs, hdct, sn, sub, ab, col, dd, k0, k1, k2, k3, k5, mN, hC, hN, hni, T⟩ := exc_obj I.kIn q
  refine wpAny_call_exc_subT F T hC hN hni (fun h' e hm => ?_) (by show 0 ≤ sizeLine; omega)
  exact mk_of I hm r h (I.hok.gone hm.new)
end L2
namespace Cr
open PySem PySem.Spec PyProof.Rows L2
/-- what a def raises: the class's name -/
abbrev RelE := Option Addr → List Sl → Nat → Str → Prop
def spE (mg : Str → Option Value) (R : RelE) : Sp := fun vs H _ E => ∃ (q : Option Addr) (Hk : Hp) (sls : List Sl) (n c : Nat) (x : Str), Ok q (n + c) Hk H ∧ VS Hk vs sls ∧ R q sls c x ∧
  ∀ C, mg x = some (.ref C) → ∀ Hk' H2, Gr q Hk H Hk' H2 → Ok q n Hk' H2 → E (.ref C) none H2
def spU (s1 s2 : Sp) : Sp := fun vs H Q E => s1 vs H Q E ∨ s2 vs H Q E
section
variable {P : Program} {w : World} {K : PySem.W.Frag} {mg : Str → Option Value} {base : Heap} {k : Nat} {f : Addr} {fd : FuncData} {ps : List Str} {sp s1 s2 : Sp} {CX : CXT}
theorem fn_lift (F : FnOk P w K mg base CX0 k f fd ps sp) : FnOk P w K mg base (L2.CX P w) k f fd ps sp := ⟨F.len, fun A outer s H args us vs Q E hr he hb hv hs => codeAny_mono (F.run A outer s H args us vs Q E hr he hb hv hs) fun r s' h => by
  cases r with
  | error e => exact h.elim
  | ok fl => cases fl <;> exact h⟩
theorem fn_or (F : FnOk P w K mg base CX k f fd ps s1) (G : FnOk P w K mg base CX k f fd ps s2) : FnOk P w K mg base CX k f fd ps (spU s1 s2) := ⟨fun vs H Q E h => by
  rcases h with h | h
  · exact F.len _ _ _ _ h
  · exact G.len _ _ _ _ h, fun A outer s H args us vs Q E hr he hb hv hs => by
  rcases hs with h | h
  · exact F.run A outer s H args us vs Q E hr he hb hv h
  · exact G.run A outer s H args us vs Q E hr he hb hv h⟩
/-- what is asked where it raises -/
abbrev FinE (mg : Str → Option Value) (q : Option Addr) (n : Nat) (A0 B0 : Hp) (x : Str) (E : XK) : Prop := ∀ C, mg x = some (.ref C) → ∀ Hk' H2, Gr q A0 B0 Hk' H2 → Ok q n Hk' H2 → E (.ref C) none H2
theorem fn_okE {x qual : Str} {st : Stmt} {N : List Str} {R : RelE} (F : Fun K x qual st f fd) (S : FnScope N ps (defScope st)) (hN : ps.length ≤ N.length) (len : ∀ q sls c x, R q sls c x → sls.length = ps.length)
    (body : ∀ (cdv : Value) (A : Around) (outer : List Env) (s : Shared) (B0 : Hp) (E : XK), Room k (A.deeper (envOfC qual (defScope st) s.heap.objs.size f cdv)) →
      ∃ t, PSs (cxOf (L2.CX P w) P w K mg base N qual (defScope st) f cdv A outer s B0 E) (defBody st) t ∧
        ∀ (q : Option Addr) (sls : List Sl) (n c : Nat) (x : Str) (A0 : Hp) (σ : L2.St) (Q : VK), R q sls c x → At q (n + c) (sls ++ List.replicate (N.length - sls.length) .any) A0 B0 σ A0 B0 → FinE mg q n A0 B0 x E → t { nx := fun _ H' => Q .non H', rt := Q } σ B0) :
    FnOk P w K mg base (L2.CX P w) (k + 1) f fd ps (spE mg R) := by
  refine F.okX S (fun vs H Q E h => ?_) (fun cdv A outer s H vs Q E hr h => ?_)
  · obtain ⟨q, Hk, sls, n, c, x, o, hv, r, _⟩ := h
    rw [hv.1]; exact len q sls c x r
  · obtain ⟨q, Hk, sls, n, c, x, o, hv, r, fin⟩ := h
    obtain ⟨t, ht, hq⟩ := body cdv A outer s H E hr
    refine ⟨t, ht, hq q sls n c x Hk (L2.start N vs) Q r ⟨o, start_sg hv (by rw [hv.1, len q sls c x r]; exact hN), Gr.refl o.a⟩ fin⟩
end
/-- an expression that raises -/
def Rs (mg : Str → Option Value) (q : Option Addr) (δ : List Sl) (te : TE) (c : Nat) (x : Str) (W : WX) : Prop :=
  ∀ (σ : L2.St) (H H1 : Hp) (n : Nat), Sg H σ δ → Ok q (n + c) H H1 → (∀ C, mg x = some (.ref C) → ∀ Hk' H2, Gr q H H1 Hk' H2 → Ok q n Hk' H2 → W (.ref C) none σ H2) → ∀ Q : VK, te σ H1 Q
section
variable {K : PySem.W.Frag} {mg : Str → Option Value} {q : Option Addr} {n : Nat} {δ : List Sl} {te ta' : TE} {ta tk : TA} {c c1 : Nat} {x : Str} {W : WX} {A0 B0 Hk H1 : Hp} {σ : L2.St} {D : Ends} {tz : TS} {Φa : List Sl → Prop} {B : RelE} {R : RelX} {s1 s2 : Sp} {Φ : PyData → Prop}
theorem Rs.cost (h : Rs mg q δ te c x W) (l : c ≤ c1) : Rs mg q δ te c1 x W := fun σ H H1 n sg o k Q => h σ H H1 n sg (o.mono (by omega)) k Q
theorem rs_call {E : XK} (ha : AJ q δ ta c1 Φa) (hr : ∀ sls, Φa sls → B q sls c x) : Rs mg q δ (tCall (spU s1 (spE mg B)) [] E ta) (c + c1) x (fun cls d _ H => E cls d H) := fun σ H H1 n sg o k Q =>
  ha σ H H1 (n + c) sg (by rw [Nat.add_assoc]; exact o) _ fun sls vs Hk H2 g o1 p hv => by
    show spU s1 (spE mg B) (vs ++ []) H2 Q E
    rw [List.append_nil]
    exact .inr ⟨q, Hk, sls, n, c, x, o1, hv, hr sls p, fun C hC Hk' H3 g' o2 => k C hC Hk' H3 (g.trans g') o2⟩
theorem rs_callS (ha : AJ q δ ta c1 Φa) (hr : ∀ sls, Φa sls → B q sls c x) : Rs mg q δ (tCallS (spU s1 (spE mg B)) (WE W) ta) (c + c1) x W := fun σ H H1 n sg o k Q =>
  ha σ H H1 (n + c) sg (by rw [Nat.add_assoc]; exact o) _ fun sls vs Hk H2 g o1 p hv =>
    .inr ⟨q, Hk, sls, n, c, x, o1, hv, hr sls p, fun C hC Hk' H3 g' o2 => k C hC Hk' H3 (g.trans g') o2⟩
theorem j_callU {E : XK} (ha : AJ q δ ta c1 Φa) (hr : ∀ sls, Φa sls → R q sls c Φ) : J q δ (tCall (spU (spX R) s2) [] E ta) (c + c1) Φ := fun σ H H1 n sg o Q k =>
  ha σ H H1 (n + c) sg (by rw [Nat.add_assoc]; exact o) _ fun sls vs Hk H2 g o1 p hv => by
    show spU (spX R) s2 (vs ++ []) H2 Q E
    rw [List.append_nil]
    exact .inl ⟨q, Hk, sls, n, c, Φ, o1, hv, hr sls p, fun d v Hk' H3 g' o2 pd dv => k d v Hk' H3 (g.trans g') o2 pd dv⟩
theorem j_callUS (ha : AJ q δ ta c1 Φa) (hr : ∀ sls, Φa sls → R q sls c Φ) : J q δ (tCallS (spU (spX R) s2) (WE W) ta) (c + c1) Φ := fun σ H H1 n sg o Q k =>
  ha σ H H1 (n + c) sg (by rw [Nat.add_assoc]; exact o) _ fun sls vs Hk H2 g o1 p hv =>
    .inl ⟨q, Hk, sls, n, c, Φ, o1, hv, hr sls p, fun d v Hk' H3 g' o2 pd dv => k d v Hk' H3 (g.trans g') o2 pd dv⟩
theorem rs_callK {E : XK} {gV : List V → List V → List V} {ss us rs : List Sl} (ha : AE q δ ta ss) (hk : AE q δ tk us) (hg : ∀ (H : Hp) (vs zs : List V), VS H vs ss → VS H zs us → VS H (gV vs zs) rs) (hr : B q rs 0 x) : Rs mg q δ (tCallK (spU s1 (spE mg B)) gV E ta tk) 0 x (fun cls d _ H => E cls d H) := fun σ H H1 n sg o k Q =>
  ha σ H H1 n sg o _ fun sls vs Hk H2 g o1 e hv => hk σ Hk H2 n (sg.mono g.k) o1 _ fun sl2 zs Hk' H3 g' o2 e2 hz => by
    subst e; subst e2
    exact .inr ⟨q, Hk', rs, n, 0, x, o2, hg Hk' vs zs (hv.mono g'.k) hz, hr, fun C hC Hk2 H4 g2 o3 => k C hC Hk2 H4 ((g.trans g').trans g2) o3⟩
theorem rs_op1 {r : R2} (h : Rs mg q δ te c x W) : Rs mg q δ (tOp r te ta') c x W := fun σ H H1 n sg o k Q => h σ H H1 n sg o k _
/-! ### statements that raise -/
abbrev FinW (mg : Str → Option Value) (q : Option Addr) (n : Nat) (δ : List Sl) (A0 B0 Hk H1 : Hp) (x : Str) (W : WX) (σ : L2.St) : Prop := ∀ C, mg x = some (.ref C) → ∀ Hk' H2, Gr q Hk H1 Hk' H2 → At q n δ A0 B0 σ Hk' H2 → W (.ref C) none σ H2
theorem s_dropR {m : Nat} (h : Rs mg q δ te c x W) (s : At q m δ A0 B0 σ Hk H1) (hm : n + c ≤ m) (k : FinW mg q n δ A0 B0 Hk H1 x W σ) : tDrop te D σ H1 := h σ Hk H1 n s.sg (s.ok.mono hm) (fun C hC Hk' H2 g o => k C hC Hk' H2 g ⟨o, s.sg.mono g.k, s.gr.trans g⟩) _
theorem q_dropR {m : Nat} (h : Rs mg q δ te c x W) (s : At q m δ A0 B0 σ Hk H1) (hm : n + c ≤ m) (k : FinW mg q n δ A0 B0 Hk H1 x W σ) : tSeq (tDrop te) tz D σ H1 := s_dropR (D := { D with nx := tz D }) h s hm k
theorem s_retR {m : Nat} (h : Rs mg q δ te c x W) (s : At q m δ A0 B0 σ Hk H1) (hm : n + c ≤ m) (k : FinW mg q n δ A0 B0 Hk H1 x W σ) : tRet te D σ H1 := h σ Hk H1 n s.sg (s.ok.mono hm) (fun C hC Hk' H2 g o => k C hC Hk' H2 g ⟨o, s.sg.mono g.k, s.gr.trans g⟩) _
/-- the error leaves the def -/
theorem fin_w {E : XK} {m : Nat} {δ' : List Sl} {Hk0 H10 : Hp} (f : FinE mg q n A0 B0 x E) (l : n ≤ m) : FinW mg q m δ' A0 B0 Hk0 H10 x (fun cls d _ H => E cls d H) σ := fun C hC Hk' H2 _ a => f C hC Hk' H2 a.gr (a.ok.mono l)
/-- raise X() -/
theorem s_raise {E : XK} {m : Nat} {C : Addr} (f : FinE mg q n A0 B0 x E) (s : At q m δ A0 B0 σ Hk H1) (hm : n ≤ m) (hC : mg x = some (.ref C)) : E (.ref C) none H1 := f C hC Hk H1 s.gr (s.ok.mono hm)
theorem ref_inj {C C' : Addr} (h : mg x = some (.ref C)) (h' : mg x = some (.ref C')) : C = C' := by
  rw [h] at h'
  cases h'; rfl
/-! ### the clauses of a try -/
theorem w_skip {c : Value} {ts : Addr → Value → Option Addr → TS} {Wout : WX} {r : List (Value × (Addr → Value → Option Addr → TS))} {cls : Value} {d : Option Addr} {H : Hp} (e : PySem.W.exmOne K cls c = some false) (h : wMany K Wout D r cls d σ H) : wMany K Wout D ((c, ts) :: r) cls d σ H :=
  ⟨false, e, (fun z => nomatch z), fun _ => h⟩
theorem w_hit {c : Value} {ts : Addr → Value → Option Addr → TS} {Wout : WX} {r : List (Value × (Addr → Value → Option Addr → TS))} {cls : Value} {d : Option Addr} {H : Hp} (e : PySem.W.exmOne K cls c = some true) (h : ∀ a, H a = none → ts a cls d D σ H) : wMany K Wout D ((c, ts) :: r) cls d σ H :=
  ⟨true, e, fun _ => h, fun z => nomatch z⟩
theorem w_as {c : Value} {i : Nat} {ts : Addr → Value → Option Addr → TS} {Wout : WX} {cls : Value} {d : Option Addr} {H : Hp} (e : PySem.W.exmOne K cls c = some true)
    (h : ∀ a, H a = none → ts a cls d { nx := fun σ' H' => D.nx (σ'.set i none) H', rt := D.rt, bk := fun σ' H' => D.bk (σ'.set i none) H', ct := fun σ' H' => D.ct (σ'.set i none) H' } (σ.set i (some (.ref a))) H) : wAs K c i ts Wout D cls d σ H :=
  ⟨true, e, fun _ => h, fun z => nomatch z⟩
/-- the clause's name is bound, then gone -/
theorem At.bound {i : Nat} {a : Addr} (s : At q n δ A0 B0 σ Hk H1) : At q n (δ.set i (.adr a)) A0 B0 (σ.set i (some (.ref a))) Hk H1 := ⟨s.ok, s.sg.set i (s := .adr a) rfl, s.gr⟩
theorem At.unbound {i : Nat} (s : At q n δ A0 B0 σ Hk H1) : At q n (δ.set i .any) A0 B0 (σ.set i none) Hk H1 := ⟨s.ok, ⟨by rw [List.length_set, List.length_set]; exact s.sg.1, fun j t e ne => by
  by_cases hj : i = j
  · subst hj
    by_cases hl : i < δ.length
    · rw [List.getElem?_set_self hl] at e
      cases e
      exact absurd rfl ne
    · rw [List.getElem?_eq_none (by rw [List.length_set]; omega)] at e; cases e
  · rw [List.getElem?_set_ne hj] at e ⊢
    exact s.sg.2 j t e ne⟩, s.gr⟩
end
/-! ### instances as data -/
def Kn (K : PySem.W.Frag) (d : PyData) : Prop := top d = true ∨ ∃ C, d = insD C ∧ Cls K C ∧ InsC K C
def deep : Nat → PyData → Bool
  | 0, d => top d
  | n + 1, .tuple ds => ds.all (deep n)
  | _ + 1, d => top d
theorem deep_top : ∀ {n : Nat} {d : PyData}, deep n d = true → top d = true
  | 0, _, h => h
  | _ + 1, .tuple _, _ => rfl
  | _ + 1, .none, _ => rfl
  | _ + 1, .bool _, _ => rfl
  | _ + 1, .int _, _ => rfl
  | _ + 1, .str _, _ => rfl
  | _ + 1, .list _, _ => rfl
  | _ + 1, .dict _, h => h
/-- what a check may be handed -/
structure Odd (K : PySem.W.Frag) (d : PyData) : Prop where
  sh : ShortT d
  kn : Kn K d
  dp : ∀ ds, d = .tuple ds → ∀ x ∈ ds, deep 1 x = true
theorem Odd.of {K : PySem.W.Frag} {d : PyData} (s : ShortT d) (h : deep 2 d = true) : Odd K d := ⟨s, .inl (deep_top h), fun ds e x hx => by
  subst e
  exact List.all_eq_true.mp h x hx⟩
theorem Odd.ins {K : PySem.W.Frag} {C : Addr} (c : Cls K C) (i : InsC K C) : Odd K (insD C) := ⟨fun ds e => by (cases e), .inr ⟨C, rfl, c, i⟩, fun ds e => by (cases e)⟩
theorem deep_pr (n : Nat) (x : Int × Int) : deep n (pr x) = true := by
  cases n with
  | zero => rfl
  | succ n => cases n <;> rfl
theorem deep_pd (n : Nat) (l : List (Int × Int)) : (pd l).all (deep n) = true := List.all_eq_true.mpr fun d hd => by
  obtain ⟨x, _, rfl⟩ := List.mem_map.mp hd
  exact deep_pr n x
theorem deep_led (n : Nat) (l : List (Int × Int)) : deep n (led l) = true := by
  cases n with
  | zero => rfl
  | succ n => exact deep_pd n l
theorem deep_ints (n : Nat) (f : List Int) : (f.map PyData.int).all (deep n) = true := List.all_eq_true.mpr fun d hd => by
  obtain ⟨x, _, rfl⟩ := List.mem_map.mp hd
  cases n <;> rfl
theorem deep_pol (n : Nat) (f : List Int) : deep n (pol f) = true := by
  cases n with
  | zero => rfl
  | succ n => exact deep_ints n f
/-! ### what the checks ask -/
def isFromD (j : Int) : PyData → Bool
  | .int i => decide (j ≤ i)
  | _ => false
def isSumsD : PyData → Bool
  | .tuple ds => decide ((0 : Int) < (ds.length : Int)) && ds.all isIntD
  | _ => false
def lenD : PyData → Nat
  | .tuple ds => ds.length
  | _ => 0
theorem len_pol (f : List Int) : lenD (pol f) = f.length := List.length_map ..
theorem pol_isSums {f : List Int} (h : f ≠ []) : isSumsD (pol f) = true := by
  have h0 := List.length_pos_iff.mpr h
  show (decide ((0 : Int) < ((f.map PyData.int).length : Int)) && (f.map PyData.int).all isIntD) = true
  rw [List.length_map, decide_eq_true (by omega), Bool.true_and]
  exact List.all_eq_true.mpr fun d hd => by
    obtain ⟨x, _, rfl⟩ := List.mem_map.mp hd
    rfl
theorem intsD_of : ∀ {ds : List PyData}, ds.all isIntD = true → ∃ f : List Int, ds = f.map PyData.int
  | [], _ => ⟨[], rfl⟩
  | d :: ds, h => by
    rw [List.all_cons, Bool.and_eq_true] at h
    obtain ⟨f, rfl⟩ := intsD_of h.2
    cases d with
    | int i => exact ⟨i :: f, rfl⟩
    | _ => cases h.1
theorem sums_pol {d : PyData} (h : isSumsD d = true) : ∃ f : List Int, f ≠ [] ∧ d = pol f := by
  cases d with
  | tuple ds =>
    have h' : (decide ((0 : Int) < (ds.length : Int)) && ds.all isIntD) = true := h
    rw [Bool.and_eq_true] at h'
    obtain ⟨f, rfl⟩ := intsD_of h'.2
    have := of_decide_eq_true h'.1
    rw [List.length_map] at this
    exact ⟨f, List.length_pos_iff.mp (by omega), rfl⟩
  | _ => cases h
section
variable {K : PySem.W.Frag} {q : Option Addr} {δ : List Sl} {te : TE} {d : PyData}
theorem e_isiT (h : E q δ te d) (kn : Kn K d) : E q δ (tCB (rIsiU K) (tCons te (tCons (tC (.ty "tuple")) tNil))) (.bool (isiTup d)) := by
  rcases kn with ht | ⟨C, rfl, cl, ic⟩
  · exact e_isi h (kit_tuple d) ht
  · exact fun σ H H1 m sg o Q k => h σ H H1 m sg o _ fun x v Hk H2 g o1 e dv => by
      subst e
      cases dv with
      | ins ha => exact .inl ⟨_, .ty "tuple", .ref C, .type "tuple", false, rfl, .ty "tuple", .base (.ins (g.a _ _ ha) cl ic.ha ic.hn ic.htk ic.hm), ic.kt, k _ _ Hk H2 g o1 rfl (.bl false)⟩
theorem e_isiI (h : E q δ te d) (kn : Kn K d) : E q δ (tCB (rIsiU K) (tCons te (tCons (tC (.ty "int")) tNil))) (.bool (isiInt d)) := by
  rcases kn with ht | ⟨C, rfl, cl, ic⟩
  · exact e_isi h (kit_int d) ht
  · exact fun σ H H1 m sg o Q k => h σ H H1 m sg o _ fun x v Hk H2 g o1 e dv => by
      subst e
      cases dv with
      | ins ha => exact .inl ⟨_, .ty "int", .ref C, .type "int", false, rfl, .ty "int", .base (.ins (g.a _ _ ha) cl ic.ha ic.hn ic.htk ic.hm), ic.ki, k _ _ Hk H2 g o1 rfl (.bl false)⟩
theorem int_top (h : isiInt d = true) : top d = true := by cases d <;> first | rfl | cases h
theorem kn_deep {n : Nat} (h : deep n d = true) : Kn K d := .inl (deep_top h)
/-- an instance made, told as data -/
theorem e_make {C : Addr} {fld : Str} {Pd : PyData → Prop} {E1 : XK} (h : E q δ te d) (hp : Pd d) : E q δ (tMake C (spI C fld Pd) [] E1 (tCons te tNil)) (insD C) := fun σ H H1 n sg o Q k =>
  h σ H H1 n sg o _ fun d' v Hk H2 g o2 ed dv => by
    subst ed
    intro x dx h1 h2 h3
    have hka : Hk x = none := o2.a.free h1
    refine ⟨q, Hk, H2, n, x, dx, v, _, rfl, rfl, h1, h2, h3, o2, dv, hp, fun Hk' H3 g3 o3 ⟨fs, e3⟩ => ⟨rfl, ?_⟩⟩
    have nq : q ≠ some x := fun e => (o2.j x e).ne h1
    have hH1 : H1 x = none := Classical.byContradiction fun z => g.t x z h1
    cases hk3 : Hk' x with
    | some o =>
      have e4 := g3.a x o hk3
      rw [e3] at e4
      cases e4
      exact k _ _ Hk' H3 (g.trans g3) o3 rfl (.ins hk3)
    | none =>
      have gf := (g.trans g3).freeze hH1 hk3 e3
      exact k _ _ (upd Hk' x (.ins C dx fs)) H3 gf ⟨gf.a, fun r er => by rw [upd_ne (fun z => nq (by rw [← z]; exact er))]; exact o3.kf r er, o3.j⟩ rfl (.ins upd_same)
/-! ### bad pieces -/
theorem j_catX {ta tb : TE} {c1 c2 : Nat} {P1 P2 : List PyData → Prop} {Φ : PyData → Prop} (ha : J q δ ta c1 (fun d => ∃ ds, P1 ds ∧ d = .tuple ds)) (hb : J q δ tb c2 (fun d => ∃ ds, P2 ds ∧ d = .tuple ds)) (hp : ∀ ds es, P1 ds → P2 es → ds.length + es.length ≤ 1000000 ∧ Φ (.tuple (ds ++ es))) : J q δ (tOp (rAddU K) ta tb) (c2 + c1) Φ :=
  j_op ha hb fun a b ⟨ds, p1, ea⟩ ⟨es, p2, eb⟩ => by
    subst ea; subst eb
    have z := hp ds es p1 p2
    exact (rj_catT (ds := ds) (es := es) (Φ := Φ) z.1 z.2).to fun _ _ _ _ h => .inr (.inr h)
theorem j_one {c : Nat} {Φ : PyData → Prop} (h : J q δ te c Φ) : J q δ (tTup (tCons te tNil)) c (fun d => ∃ ds, (∃ x, Φ x ∧ ds = [x]) ∧ d = .tuple ds) :=
  (j_tup (Ψ := fun ds => ∃ x, Φ x ∧ ds = [x]) ((aj_cons (c1 := c) (c2 := 0) (Φr := fun sls => sls = []) h ae_nil fun d sls pd e => ⟨[d], by rw [e]; rfl, by simp, d, pd, rfl⟩).cost (by omega)))
theorem j_tupI {c : Nat} {P : List Int → Prop} (h : J q δ te c (fun d => ∃ f, P f ∧ d = .list (f.map .int))) : J q δ (tCB (rTupQ K) (tCons te tNil)) c (fun d => ∃ f, P f ∧ d = .tuple (f.map .int)) := j_cb1 h fun d ⟨f, pf, e⟩ => by subst e; exact rc_tupL ⟨f, pf, rfl⟩
/-- t[:a] + (x,) + t[b:] -/
theorem j_putT {tt ti tj : TE} {ds : List PyData} {a b c : Nat} {Φ : PyData → Prop} (h1 : E q δ tt (.tuple ds)) (ha : E q δ ti (.int (a : Int))) (hb : E q δ tj (.int (b : Int))) (hd : J q δ te c Φ) (hl : ds.length ≤ 400000) :
    J q δ (tOp (rAddU K) (tOp (rAddU K) (tSl (rSlU K) tt tNoPart (tPart ti)) (tTup (tCons te tNil))) (tSl (rSlU K) tt (tPart tj) tNoPart)) c (fun x => ∃ d, Φ d ∧ x = .tuple (ds.take a ++ [d] ++ ds.drop b)) :=
  (j_catX (c1 := c) (c2 := 0) (P1 := fun es => ∃ d, Φ d ∧ es = ds.take a ++ [d]) (P2 := fun es => es = ds.drop b)
    ((j_catX (c1 := 0) (c2 := c) (P1 := fun es => es = ds.take a) (P2 := fun es => ∃ x, Φ x ∧ es = [x]) ((e_slT h1 to_none (to_some ha)).imp fun d e => ⟨_, rfl, by rw [e, cutD_to]⟩) (j_one hd) fun es fs e1 ⟨x, px, e2⟩ => by
      subst e1; subst e2
      exact ⟨by rw [List.length_take, List.length_singleton]; omega, _, ⟨x, px, rfl⟩, rfl⟩).cost (by omega))
    ((e_slT h1 (to_some hb) to_none).imp fun d e => ⟨_, rfl, by rw [e, cutD_from]⟩) fun es fs ⟨d, pd, e1⟩ e2 => by
      subst e1; subst e2
      exact ⟨by rw [List.length_append, List.length_take, List.length_singleton, List.length_drop]; omega, d, pd, rfl⟩).cost (by omega)
theorem e_putT {tt ti tj : TE} {ds : List PyData} {a b : Nat} {d : PyData} (h1 : E q δ tt (.tuple ds)) (ha : E q δ ti (.int (a : Int))) (hb : E q δ tj (.int (b : Int))) (hd : E q δ te d) (hl : ds.length ≤ 400000) :
    E q δ (tOp (rAddU K) (tOp (rAddU K) (tSl (rSlU K) tt tNoPart (tPart ti)) (tTup (tCons te tNil))) (tSl (rSlU K) tt (tPart tj) tNoPart)) (.tuple (ds.take a ++ [d] ++ ds.drop b)) :=
  (j_putT h1 ha hb hd hl).imp fun x ⟨d', e, ex⟩ => by rw [ex, e]
/-- [a, b, ..][i] -/
theorem j_ixOf {tl ti : TE} {c : Nat} {ds : List PyData} {Φ : PyData → Prop} (hl : E q δ tl (.list ds)) (hi : J q δ ti c (IntP fun x => 0 ≤ x ∧ x < (ds.length : Int))) (h : ∀ d ∈ ds, Φ d) : J q δ (tOp (rIx K) tl ti) c Φ :=
  (j_iL (c1 := 0) (c2 := c) (P := fun x => 0 ≤ x ∧ x < (ds.length : Int)) (Ψ := fun es => es = ds) (hl.imp fun d e => ⟨_, rfl, e⟩) hi fun es i he hi => by
    subst he
    obtain ⟨k, rfl⟩ : ∃ k : Nat, i = (k : Int) := ⟨i.toNat, by omega⟩
    have hk : k < es.length := by omega
    exact ⟨es[k], atI_nat (List.getElem?_eq_getElem hk), h _ (List.getElem_mem hk)⟩).cost (by omega)
theorem deep_cut {n a b : Nat} {ds : List PyData} {d : PyData} (h : ds.all (deep n) = true) (hd : deep n d = true) : deep (n + 1) (.tuple (ds.take a ++ [d] ++ ds.drop b)) = true := by
  show (ds.take a ++ [d] ++ ds.drop b).all (deep n) = true
  refine List.all_eq_true.mpr fun x hx => ?_
  have h' := List.all_eq_true.mp h
  rcases List.mem_append.mp hx with z | z
  · rcases List.mem_append.mp z with z | z
    · exact h' x (List.mem_of_mem_take z)
    · rw [List.mem_singleton.mp z]; exact hd
  · exact h' x (List.mem_of_mem_drop z)
theorem short_cut {a b : Nat} {ds : List PyData} {d : PyData} (h : ds.length ≤ 40000) : ShortT (.tuple (ds.take a ++ [d] ++ ds.drop b)) := short_tup (by rw [List.length_append, List.length_append, List.length_take, List.length_singleton, List.length_drop]; omega)
/-- one piece that is no pair with an amount -/
theorem no_led {ds : List PyData} {d : PyData} (hm : d ∈ ds) (h : ∀ y : Int × Int, y.2 ≠ 0 → d ≠ pr y) : isLedD (.tuple ds) = false := Bool.eq_false_iff.mpr fun z => by
  obtain ⟨l, hL, e⟩ := led_of z
  rw [e] at hm
  obtain ⟨y, hy, ey⟩ := List.mem_map.mp hm
  exact h y (hL.2 y hy) ey.symm
theorem led_lt2 {l : List (Int × Int)} (hL : Led l) {a b : Nat} {u v : Int × Int} (eu : l[a]? = some u) (ev : l[b]? = some v) (h : a < b) : u.1 < v.1 := by
  obtain ⟨ha, rfl⟩ := List.getElem?_eq_some_iff.mp eu
  obtain ⟨hb, rfl⟩ := List.getElem?_eq_some_iff.mp ev
  exact List.pairwise_iff_getElem.mp hL.1 a b ha hb h
theorem beq_cast (w k : Nat) : (((w : Nat) : Int) == ((k : Nat) : Int)) = (w == k) := by
  by_cases h : w = k
  · subst h; simp
  · have h1 : (((w : Nat) : Int) == ((k : Nat) : Int)) = false := by simpa using (by omega : ¬ ((w : Nat) : Int) = ((k : Nat) : Int))
    rw [h1]; symm; simpa using h
/-- two neighbours that don't ascend -/
theorem no_led2 {A B : List PyData} {u v : Int × Int} (h : ¬ u.1 < v.1) : isLedD (.tuple (A ++ [pr u, pr v] ++ B)) = false := Bool.eq_false_iff.mpr fun z => by
  obtain ⟨l, hL, e⟩ := led_of z
  have e' : A ++ [pr u, pr v] ++ B = l.map pr := e
  obtain ⟨l1, l2, rfl, e1, e2⟩ := List.map_eq_append_iff.mp e'.symm
  obtain ⟨l3, l4, rfl, e3, e4⟩ := List.map_eq_append_iff.mp e1
  have e5 : l4 = [u, v] := pd_inj (show pd l4 = pd [u, v] from e4)
  subst e5
  have hp := (List.pairwise_append.mp (List.pairwise_append.mp hL.1).1).2.1
  exact h ((List.pairwise_cons.mp hp).1 v (by simp))
theorem no_ledR {l : List (Int × Int)} (hL : Led l) (h : 1 < l.length) : isLedD (.tuple (pd l).reverse) = false := Bool.eq_false_iff.mpr fun z => by
  obtain ⟨m, hm, e⟩ := led_of z
  have e2 : l.reverse = m := pd_inj (by rw [← e]; unfold pd; rw [List.map_reverse])
  rw [← e2] at hm
  have h2 := List.pairwise_reverse.mp hm.1
  match l, h with
  | x :: y :: t, _ =>
    have a := (List.pairwise_cons.mp hL.1).1 y (by simp)
    have b := (List.pairwise_cons.mp h2).1 y (by simp)
    omega
theorem no_sums {ds : List PyData} {d : PyData} (hm : d ∈ ds) (h : isIntD d = false) : isSumsD (.tuple ds) = false := by
  show (decide ((0 : Int) < (ds.length : Int)) && ds.all isIntD) = false
  rw [Bool.and_eq_false_iff]
  exact .inr (Bool.eq_false_iff.mpr fun z => by rw [List.all_eq_true.mp z d hm] at h; cases h)
/-! ### what a drawn piece of another kind may be -/
def oddL : List PyData := [.none, .bool true, .bool false, .str "", .str "1", .tuple [.int 1], .list [.int 0], .dict [], .tuple [], .list []]
theorem odd_int {d : PyData} (h : d ∈ oddL) : isIntD d = false := List.all_eq_true.mp (show oddL.all (fun d => !isIntD d) = true from rfl) d h |> fun z => by simpa using z
theorem odd_from {d : PyData} {j : Int} (h : d ∈ oddL) : isFromD j d = false := by
  have := odd_int h
  cases d <;> first | rfl | cases this
theorem odd_deep {d : PyData} (h : d ∈ oddL) : deep 2 d = true := List.all_eq_true.mp (show oddL.all (deep 2) = true from rfl) d h
theorem odd_deep1 {d : PyData} (h : d ∈ oddL) : deep 1 d = true := List.all_eq_true.mp (show oddL.all (deep 1) = true from rfl) d h
theorem odd_deep0 {d : PyData} (h : d ∈ oddL) : deep 0 d = true := List.all_eq_true.mp (show oddL.all (deep 0) = true from rfl) d h
theorem odd_short {d : PyData} (h : d ∈ oddL) : ShortT d := fun ds e => by
  have z := List.all_eq_true.mp (show oddL.all (fun d => match d with | .tuple ds => decide (ds.length ≤ 5) | _ => true) = true from rfl) d h
  subst e
  have := of_decide_eq_true z
  omega
theorem odd_pr {d : PyData} (h : d ∈ oddL) (y : Int × Int) : d ≠ pr y := fun e => by
  have z := List.all_eq_true.mp (show oddL.all (fun d => match d with | .tuple ds => decide (ds.length ≠ 2) | _ => true) = true from rfl) d h
  subst e
  simp [pr] at z
/-- isinstance(e, X) of the error in hand -/
def rIsEG (K : PySem.W.Frag) (cls : Value) (d : Option Addr) (a : Addr) : List V → Hp → VK → Prop := fun xs H Q => ∃ D, cls = .ref D ∧ d = none ∧ ExcC K D ∧ rIsE K D a xs H Q
theorem call_isEG {X : Cx} {a : Addr} {cls : Value} {dd : Option Addr} {oe : Obj} {pn : List (Addr × Obj)} (hz : Zc cls dd oe) (hf : ∃ vs, oe.data = .fields vs) : CallR (X.suite a ((a, oe) :: pn)) (.builtin "isinstance") (rIsEG X.K cls dd a) := by
  intro pins s σ H xs us Q I r h
  obtain ⟨D, rfl, rfl, C, h⟩ := h
  exact call_isE C hz hf pins s σ H xs us Q I r h
theorem e_isE {i : Nat} {a D : Addr} (hi : δ[i]? = some (.adr a)) (c : ExcC K D) (hk : PySem.W.kitOne K (.ref D) (.type "ValueError") = some true) : E q δ (tCB (rIsEG K (.ref D) none a) (tCons (tVar i) (tCons (tC (.ty "ValueError")) tNil))) (.bool true) := fun σ H H1 n sg o Q k =>
  ⟨.ref a, sg.getA hi, D, rfl, rfl, c, .ty "ValueError", .type "ValueError", true, rfl, (fun u r => r), hk, k _ _ H H1 (Gr.refl o.a) o rfl (.bl true)⟩
end

/-! ### a list of pieces that is bent at some of its places -/
section
variable {K : PySem.W.Frag} {q : Option Addr} {n : Nat} {δ δ' : List Sl} {te ta tb ti : TE} {c c1 c2 : Nat} {Φ : PyData → Prop} {d : PyData} {A0 B0 Hk H1 : Hp} {σ : L2.St} {D : Ends} {tz tbody : TS} {g : TG} {p : Addr} {ds : List PyData} {ΨB : List Bool → Prop}
theorem bools_vs {H : Hp} : ∀ {ys : List V} {bs : List Bool}, DqAll H ys (bs.map .bool) → ys = bs.map V.bl
  | [], [], _ => rfl
  | [], _ :: _, h => by cases h
  | _ :: _, [], h => by cases h
  | y :: ys, b :: bs, h => by
    cases h with
    | cons h1 h2 =>
      cases h1
      rw [bools_vs (bs := bs) h2]; rfl
theorem bools_dq {H : Hp} : ∀ bs : List Bool, DqAll H (bs.map V.bl) (bs.map .bool)
  | [] => .nil
  | b :: bs => .cons (.bl b) (bools_dq bs)
theorem evalCB {i : Nat} {Q : VK} (h : J q (δ.set i (.dat (.list ds))) te c (fun d => ∃ bs : List Bool, ΨB bs ∧ d = .list (bs.map .bool))) (s : At q (n + c) δ A0 B0 σ Hk H1) (cl : Cell q B0 Hk H1 p ds) (hi : δ[i]? = some (.adr p)) (hh : ∃ d0 rest, ds = d0 :: rest ∧ ∀ b, d0 ≠ .bool b)
    (k : ∀ bs v Hk' H2, ΨB bs → Dq Hk' v (.list (bs.map .bool)) → Gr q Hk H1 Hk' H2 → At q n δ A0 B0 σ Hk' H2 → Cell q B0 Hk' H2 p ds → Q v H2) : te σ H1 Q := by
  obtain ⟨xs, ex, hd⟩ := cl.ex
  have hn := cl.nk
  have sm : Same Hk (upd Hk p (.lst xs)) := same_upd hn
  have smA : Same (upd Hk p (.lst xs)) H1 := fun b u z => by
    by_cases hb : b = p
    · subst hb; rw [upd_same] at z; rw [← z]; exact ex
    · rw [upd_ne hb] at z; exact s.ok.a b u z
  have ok1 : Ok q (n + c) (upd Hk p (.lst xs)) H1 := ⟨smA, fun r er => by rw [upd_ne (fun z => cl.nq (by rw [← z]; exact er))]; exact s.ok.kf r er, s.ok.j⟩
  have sg1 : Sg (upd Hk p (.lst xs)) σ (δ.set i (.dat (.list ds))) := by
    have sg := s.sg.mono sm
    refine ⟨by rw [List.length_set]; exact sg.1, fun j t ej ne => ?_⟩
    by_cases hj : i = j
    · subst hj
      have hl : i < δ.length := (List.getElem?_eq_some_iff.mp hi).1
      rw [List.getElem?_set_self hl] at ej
      cases ej
      exact ⟨.ref p, sg.getA hi, .lst upd_same (DqAll.mono sm _ _ hd)⟩
    · rw [List.getElem?_set_ne hj] at ej
      exact sg.2 j t ej ne
  refine h σ _ H1 n sg1 ok1 _ fun d v Hk2 H2 g o ⟨bs, pn, ed⟩ dv => ?_
  subst ed
  have e2 : Hk2 p = some (.lst xs) := g.k _ _ upd_same
  have eH2 : H2 p = some (.lst xs) := g.a _ _ e2
  obtain ⟨Hr, eHr⟩ : ∃ Hr : Hp, Hr = fun b => if b = p then none else Hk2 b := ⟨_, rfl⟩
  have rp : Hr p = none := by rw [eHr]; exact if_pos rfl
  have rn : ∀ b, b ≠ p → Hr b = Hk2 b := fun b hb => by rw [eHr]; exact if_neg hb
  have s1 : Same Hk Hr := fun b u z => by
    have hb : b ≠ p := ne_of_none z hn
    rw [rn b hb]; exact g.k b u (by rw [upd_ne hb]; exact z)
  have s2 : Same Hr H2 := fun b u z => by
    by_cases hb : b = p
    · rw [hb, rp] at z; cases z
    · rw [rn b hb] at z; exact g.a b u z
  have gg : Gr q Hk H1 Hr H2 := ⟨s1, s2, g.s, fun b hb h1 => by
    by_cases hbp : b = p
    · rw [hbp]; exact rp
    · rw [rn b hbp]; exact g.f b (by rw [upd_ne hbp]; exact hb) h1, g.t⟩
  have dr : Dq Hr v (.list (bs.map .bool)) := by
    obtain ⟨a, ys, rfl, h1, h2⟩ := dv.lstOf
    have h3 : ys = bs.map V.bl := bools_vs h2
    subst h3
    refine .lst (a := a) (xs := bs.map V.bl) ?_ (bools_dq bs)
    rw [rn a (fun hb => ?_)]
    · exact h1
    · rw [hb, e2] at h1
      cases h1
      obtain ⟨d0, rest, eds, hne⟩ := hh
      subst eds
      cases bs with
      | nil => cases hd
      | cons y bs =>
        cases hd with
        | cons h5 h6 => cases h5; exact hne _ rfl
  refine k bs v Hr H2 pn dr gg ⟨⟨s2, fun r er => ?_, o.j⟩, s.sg.mono s1, s.gr.trans gg⟩ ⟨rp, cl.nq, cl.nb, xs, eH2, DqAll.mono s1 _ _ hd⟩
  rw [rn r (fun hb => cl.nq (by rw [← hb]; exact er))]; exact o.kf r er
theorem q_asgCB {i j : Nat} (h : J q (δ.set i (.dat (.list ds))) te c (fun d => ∃ bs : List Bool, ΨB bs ∧ d = .list (bs.map .bool))) (s : At q (n + c) δ A0 B0 σ Hk H1) (cl : Cell q B0 Hk H1 p ds) (hi : δ[i]? = some (.adr p)) (hh : ∃ d0 rest, ds = d0 :: rest ∧ ∀ b, d0 ≠ .bool b)
    (k : ∀ bs σ' Hk' H2, ΨB bs → Gr q Hk H1 Hk' H2 → At q n (δ.set j (.dat (.list (bs.map .bool)))) A0 B0 σ' Hk' H2 → Cell q B0 Hk' H2 p ds → tz D σ' H2) : tSeq (tAsg te (gName j)) tz D σ H1 :=
  evalCB h s cl hi hh fun bs v Hk' H2 pb dv g a cl2 => k bs _ Hk' H2 pb g ⟨a.ok, a.sg.set j (s := .dat (.list (bs.map .bool))) dv, a.gr⟩ cl2
/-- x = [e for ..], drawn place by place, a list that changes on -/
theorem q_newLcI {α : Type} {emb : α → PyData} {wi : TI} {vs : List Nat} {xs : List α} {N i0 : Nat} {Φi : Nat → PyData → Prop} (hw : IE q δ wi (xs.map emb)) (hz : xs.length ≤ N) (hN : N ≤ 1000000)
    (he : ∀ j x, xs[j]? = some x → ∃ δ', GB (wipeD δ vs) g (emb x) δ' vs ∧ J q δ' te c1 (Φi j)) (s : At q (n + c1 * N) δ A0 B0 σ Hk H1)
    (k : ∀ p ds Hk' H2, ds.length = xs.length → (∀ j d, ds[j]? = some d → Φi j d) → Gr q Hk H1 Hk' H2 → At q n (δ.set i0 (.adr p)) A0 B0 (σ.set i0 (some (.ref p))) Hk' H2 → Cell q B0 Hk' H2 p ds → tz D (σ.set i0 (some (.ref p))) H2) :
    tSeq (tAsg (tLc wi g tYes te vs) (gName i0)) tz D σ H1 :=
  hw σ Hk H1 (n + c1 * N) s.sg s.ok _ fun items Jt HkW H2 g0 o0 ei wk Da hD => by
    have hlen : items.length = xs.length := by rw [ei, List.length_map]
    have hDk : HkW Da = none := g0.a.free hD
    have hDq : q ≠ some Da := fun e => (o0.j Da e).ne hD
    have hD1 : H1 Da = none := Classical.byContradiction fun z => g0.t Da z hD
    have hDb : B0 Da = none := Classical.byContradiction fun z => s.gr.t Da z hD1
    have g1 : Gr q HkW H2 HkW (upd H2 Da (.lst [])) := Gr.cell g0.a hD
    refine ⟨fun i m H' => m = items.length - i ∧ i ≤ items.length ∧ ∃ Hk' ys es, Gr q HkW H2 Hk' H' ∧ Ok q (n + c1 * (N - i)) Hk' H' ∧ Hk' Da = none ∧ H' Da = some (.lst ys) ∧ DqAll Hk' ys es ∧ es.length = i ∧ ∀ j d, es[j]? = some d → Φi j d,
      ⟨items.length, by simp, Nat.zero_le _, HkW, [], [], g1, o0.cell hDk hDq, hDk, upd_same, .nil, rfl, by simp⟩, ?_⟩
    rintro i m H' ⟨rfl, hi, Hk', ys, es, gr, ok, hDn, hl, hd, hel, hep⟩
    by_cases hlt : i < items.length
    · obtain ⟨go, yl⟩ := (wk i Hk' H' gr.k ok.a).1 hlt
      refine .inr ⟨go, fun H'' => ∃ Hk3 ys' es', Gr q HkW H2 Hk3 H'' ∧ Ok q (n + c1 * (N - (i + 1))) Hk3 H'' ∧ Hk3 Da = none ∧ H'' Da = some (.lst ys') ∧ DqAll Hk3 ys' es' ∧ es'.length = i + 1 ∧ ∀ j d, es'[j]? = some d → Φi j d, fun H'' p => ⟨items.length - (i + 1), by omega, rfl, hlt, p⟩, fun v H'' y => ?_⟩
      obtain ⟨Hk2, g2, d, ed, dx⟩ := yl v H'' y
      obtain ⟨x, ex, rfl⟩ : ∃ x, xs[i]? = some x ∧ emb x = d := by
        rw [ei, List.getElem?_map] at ed
        exact Option.map_eq_some_iff.mp ed
      obtain ⟨δ', hgb, hte⟩ := he i x ex
      have hf : n + c1 * (N - i) = (n + c1 * (N - (i + 1))) + c1 := by
        rw [show N - i = (N - (i + 1)) + 1 by omega, Nat.mul_add, Nat.mul_one, Nat.add_assoc]
      rw [hf] at ok
      have ok2 := ok.go g2
      have sgw : Sg Hk2 (wipe σ vs) (wipeD δ vs) := ((s.sg.mono g0.k).mono (gr.k.trans g2.k)).wipe vs
      have hD2 : Hk2 Da = none := g2.f Da hDn (by rw [hl]; exact fun z => by cases z)
      have hl2 : H'' Da = some (.lst ys) := g2.s Da _ (fun z => by cases z) hl
      have hd2 := DqAll.mono g2.k _ _ hd
      have gr2 := gr.trans g2.none_to
      refine hgb (wipe σ vs) Hk2 H'' v sgw g2.a dx _ fun σ' sg' hl' hk' => ⟨wipe_eq (by rw [hl', wipe_length]) hk', ?_⟩
      unfold tYes
      refine iteT (hte σ' Hk2 H'' _ sg' ok2 _ fun y w Hk4 H4 g4 o4 ey dw => ?_)
      have hD4 : Hk4 Da = none := g4.f Da hD2 (by rw [hl2]; exact fun z => by cases z)
      have hl4 : H4 Da = some (.lst ys) := g4.s Da _ hDq hl2
      have hd4 := DqAll.mono g4.k _ _ hd2
      refine ⟨ys, hl4, ?_, Hk4, ys ++ [w], es ++ [y], (gr2.trans g4).put hD hD4, o4.cell hD4 hDq, hD4, upd_same, hd4.append (.cons dw .nil), by rw [List.length_append, hel]; rfl, fun j z hz => ?_⟩
      · rw [hd4.length, hel, sizeLine_eq]; omega
      · by_cases hj : j < es.length
        · rw [List.getElem?_append_left hj] at hz
          exact hep j z hz
        · rw [List.getElem?_append_right (by omega)] at hz
          have hj0 : j - es.length = 0 := Classical.byContradiction fun h => by rw [List.getElem?_eq_none (by simp; omega)] at hz; cases hz
          rw [hj0] at hz
          cases hz
          rw [show j = i by omega]; exact ey
    · have e : i = items.length := by omega
      subst e
      refine .inl ⟨(wk _ Hk' H' gr.k ok.a).2 (Nat.le_refl _), ?_⟩
      have gg := g0.trans gr
      exact k Da es Hk' H' (by rw [hel, hlen]) hep gg ⟨⟨ok.a, ok.kf, fun p e => (ok.j p e).mono (Nat.le_add_right _ _)⟩, (s.sg.mono gg.k).set i0 (s := .adr Da) rfl, s.gr.trans gg⟩ ⟨hDn, hDq, hDb, ys, hl, hd⟩
/-- len(xs) of a list that changes -/
theorem len_cell {i : Nat} {Q : VK} (s : At q n δ A0 B0 σ Hk H1) (cl : Cell q B0 Hk H1 p ds) (hi : δ[i]? = some (.adr p)) (k : Q (.int (ds.length : Int)) H1) : tCB (rLenQ K) (tCons (tVar i) tNil) σ H1 Q := by
  obtain ⟨xs, ex, hd⟩ := cl.ex
  refine ⟨.ref p, s.sg.getA hi, p, xs, rfl, .inl (.inl (.inl ex)), ?_⟩
  rw [hd.length]; exact k
theorem q_forLen {i : Nat} (s : At q n δ A0 B0 σ Hk H1) (cl : Cell q B0 Hk H1 p ds) (hi : δ[i]? = some (.adr p)) (h : tSeq (tFor (iRng1 (tCons (tC (.int (ds.length : Int))) tNil)) g tbody) tz D σ H1) : tSeq (tFor (iRng1 (tCons (tCB (rLenQ K) (tCons (tVar i) tNil)) tNil)) g tbody) tz D σ H1 := by
  unfold tSeq tFor iRng1 tCons at h ⊢
  exact len_cell s cl hi h
/-- xs[j] = f(jar, e, xs[j], z) -/
theorem s_putCallZ {i a jx j zz : Nat} {dz : PyData} {R : RelX} {E0 : XK} {b : Addr} {db d0 : PyData} (hb : E q δ tb db) (s : At q (n + c) δ A0 B0 σ Hk H1) (cl : Cell q B0 Hk H1 p ds) (hi : δ[i]? = some (.adr p)) (ha : δ[a]? = some (.adr b)) (hx : δ[jx]? = some (.dat (.int (j : Int)))) (h0 : ds[j]? = some d0) (hzz : δ[zz]? = some (.dat dz))
    (hr : R q [.adr b, .dat db, .dat d0, .dat dz] c Φ) (k : ∀ d Hk' H2, Φ d → Same Hk Hk' → At q n δ A0 B0 σ Hk' H2 → Cell q B0 Hk' H2 p (ds.set j d) → D.nx σ H2) :
    tAsg (tCall (spX R) [] E0 (tCons (tVar a) (tCons tb (tCons (tOp (rIx K) (tVar i) (tVar jx)) (tCons (tVar zz) tNil))))) (gSub (tVar i) (tVar jx) rSetL) D σ H1 := by
  have hj : j < ds.length := (List.getElem?_eq_some_iff.mp h0).1
  refine ⟨.ref b, s.sg.getA ha, hb σ Hk H1 (n + c) s.sg s.ok _ fun d v Hk2 H2 g o ed dv => ?_⟩
  subst ed
  have cl2 := cl.go g
  obtain ⟨xs, ex, hd⟩ := cl2.ex
  have sg2 := s.sg.mono g.k
  obtain ⟨w, hw, dw⟩ := sg2.get hx
  have ew := dw.intOf
  subst ew
  obtain ⟨z, hz, hzd⟩ := hd.get h0
  refine ⟨.ref p, sg2.getA hi, .int (j : Int), hw, .inl ⟨p, xs, (j : Int), z, rfl, rfl, .inl (.inl ex), atI_nat hz, ?_⟩⟩
  obtain ⟨wz, hwz, dwz⟩ := sg2.get hzz
  refine ⟨wz, hwz, q, Hk2, [.adr b, .dat d, .dat d0, .dat dz], n, c, Φ, o, VS.cons (s := .adr b) rfl (VS.cons (s := .dat d) dv (VS.cons (s := .dat d0) hzd (VS.cons (s := .dat dz) dwz VS.nil))), hr, fun d3 v3 Hk3 H3 g3 o3 pd dv3 => ?_⟩
  have cl3 := cl2.go g3
  obtain ⟨xs3, ex3, hd3⟩ := cl3.ex
  have sg3 := sg2.mono g3.k
  obtain ⟨w3, hw3, dw3⟩ := sg3.get hx
  have ew3 := dw3.intOf
  subst ew3
  refine ⟨.ref p, sg3.getA hi, .int (j : Int), hw3, p, xs3, (j : Int), j, rfl, rfl, ex3, ?_, k d3 Hk3 _ pd (g.k.trans g3.k) ⟨o3.cell cl3.nk cl3.nq, sg3, ((s.gr.trans g).trans g3).put cl3.nb cl3.nk⟩ ⟨cl3.nk, cl3.nq, cl3.nb, xs3.set j v3, upd_same, ?_⟩⟩
  · rw [hd3.length]; unfold ixN; rw [if_pos (by omega), if_pos (by omega)]; simp
  · exact DqAll.set hd3 j dv3
end
section
variable {K : PySem.W.Frag} {q : Option Addr} {δ : List Sl} {wi : TI} {Φ : PyData → Prop}
theorem bools_of : ∀ {rs : List PyData}, (∀ d ∈ rs, BoolP (fun _ => True) d) → ∃ bs : List Bool, rs = bs.map .bool
  | [], _ => ⟨[], rfl⟩
  | d :: rs, h => by
    obtain ⟨bs, e⟩ := bools_of (rs := rs) fun x hx => h x (List.mem_cons_of_mem _ hx)
    obtain ⟨b, _, eb⟩ := h d List.mem_cons_self
    exact ⟨b :: bs, by rw [eb, e]; rfl⟩
theorem _root_.Cr.IE.lcd {es : List PyData} (h : IE q δ wi es) : IJ q δ wi 0 (fun items => ∃ xs : List PyData, xs = es ∧ items = xs.map id) := fun σ H H1 n sg o R k => h σ H H1 n sg o R fun items Jt Hk H2 g o' e w => k items Jt Hk H2 g o' ⟨es, rfl, by rw [List.map_id]; exact e⟩ w
theorem rj_neD {d1 d2 : PyData} (s1 : SeqAt.shaped d1 = true) (s2 : SeqAt.shaped d2 = true) (hp : Φ (.bool (!PyData.eqv d1 d2))) : RJ (rNeD K) d1 d2 Φ := fun x y H H1 hx hy e Q k =>
  ⟨d1, d2, Dq.dp K _ _ (no_dict s1) (Dq.mono e _ _ hx), Dq.dp K _ _ (no_dict s2) (Dq.mono e _ _ hy), s1, s2, k _ _ H H1 (Gr.refl e) hp (.bl _)⟩
end
/-! ### keys and widths judged -/
def unI : PyData → Option Int
  | .int i => some i
  | _ => none
def ascKD : PyData → Bool
  | .tuple ds => ds.all isIntD && (adj (ds.filterMap unI)).all fun p => decide (p.1 < p.2)
  | _ => false
theorem unI_ints (f : List Int) : (f.map PyData.int).filterMap unI = f := by
  rw [List.filterMap_map, show (unI ∘ PyData.int) = some from rfl, List.filterMap_some]
theorem ints_isInt (f : List Int) : (f.map PyData.int).all isIntD = true := List.all_eq_true.mpr fun d hd => by
  obtain ⟨x, _, rfl⟩ := List.mem_map.mp hd
  rfl
theorem ascKD_pol (f : List Int) : ascKD (pol f) = (adj f).all fun p => decide (p.1 < p.2) := by
  show ((f.map PyData.int).all isIntD && (adj ((f.map PyData.int).filterMap unI)).all fun p => decide (p.1 < p.2)) = _
  rw [ints_isInt, unI_ints, Bool.true_and]
theorem ascKD_of {d : PyData} (h : ascKD d = true) : ∃ f : List Int, d = pol f := by
  cases d with
  | tuple ds =>
    have h' : (ds.all isIntD && (adj (ds.filterMap unI)).all fun p => decide (p.1 < p.2)) = true := h
    rw [Bool.and_eq_true] at h'
    obtain ⟨f, rfl⟩ := intsD_of h'.1
    exact ⟨f, rfl⟩
  | _ => cases h
theorem asc_ascKD {f : List Int} (h : f.Pairwise (· < ·)) : ascKD (pol f) = true := by
  rw [ascKD_pol]
  exact List.all_eq_true.mpr fun p hp => decide_eq_true (adj_of h p hp)
def isKeysD (m : Int) (d : PyData) : Bool := ascKD d && decide ((lenD d : Int) ≤ m)
def isWidthD (m : Int) : PyData → Bool
  | .int b => decide (1 ≤ b) && decide (b ≤ m)
  | _ => false
theorem no_keys {ds : List PyData} {d : PyData} (hm : d ∈ ds) (h : isIntD d = false) : ascKD (.tuple ds) = false := by
  show (ds.all isIntD && _) = false
  rw [Bool.and_eq_false_iff]
  exact .inl (Bool.eq_false_iff.mpr fun z => by rw [List.all_eq_true.mp z d hm] at h; cases h)
theorem no_keys2 {A B : List Int} {u v : Int} (h : ¬ u < v) : ascKD (pol (A ++ [u, v] ++ B)) = false := Bool.eq_false_iff.mpr fun z => by
  rw [ascKD_pol] at z
  have hm : (u, v) ∈ adj (A ++ [u, v] ++ B) := by
    refine List.mem_of_getElem? (i := A.length) ?_
    unfold adj
    rw [List.getElem?_zip_eq_some]
    constructor
    · simp
    · rw [List.getElem?_drop, List.append_assoc, List.getElem?_append_right (by omega)]
      simp
  exact h (of_decide_eq_true (List.all_eq_true.mp z _ hm))
theorem noK {m : Int} {d : PyData} (h : ascKD d = false) : isKeysD m d = false := by unfold isKeysD; rw [h, Bool.false_and]
theorem width_from {s : Int} {d : PyData} (h : isFromD 1 d = false) : isWidthD s d = false := by
  cases d with
  | int i =>
    have h1 : decide (1 ≤ i) = false := h
    show (decide (1 ≤ i) && decide (i ≤ s)) = false
    rw [h1, Bool.false_and]
  | _ => rfl
end Cr

set_option Elab.async false
set_option linter.all false
set_option maxRecDepth 100000
set_option maxHeartbeats 800000
/-! The head by one run: facts by names, and more. -/
namespace Cr
open PySem PySem.Spec PyProof.Rows L2
theorem fun_of {K : PySem.W.Frag} {x qual : Str} {st : Stmt} {kws : List (Str × V)} {f : Addr} {fd : FuncData} (F : FunD K x qual (defArgs st) (defBody st) (defScope st) [] kws f fd) : Fun K x qual st f fd := by
  obtain ⟨oc, od, dV, kV, doc, pm, an, cdv, ct, osl, e, lk, hcd, hD, hK⟩ := F.ex
  rcases hD with ⟨_, rfl⟩ | ⟨z, _⟩
  · exact ⟨⟨oc, od, kV, doc, pm, an, cdv, ct, osl, e, lk, hcd⟩, F.kp⟩
  · exact absurd rfl z
theorem funV_of {K : PySem.W.Frag} {x qual : Str} {st : Stmt} {dvs : List V} {kws : List (Str × V)} {f : Addr} {fd : FuncData} (F : FunD K x qual (defArgs st) (defBody st) (defScope st) dvs kws f fd) : FunV K x qual st f fd := by
  obtain ⟨oc, od, dV, kV, doc, pm, an, cdv, ct, osl, e, lk, hcd, hD, hK⟩ := F.ex
  exact ⟨⟨oc, od, dV, kV, doc, pm, an, cdv, ct, osl, e, lk, hcd⟩, F.kp⟩
theorem binds_of1 {K : PySem.W.Frag} {x qual : Str} {st : Stmt} {v : V} {f : Addr} {fd : FuncData} {ps : List Str} (F : FunD K x qual (defArgs st) (defBody st) (defScope st) [v] [] f fd)
    (h : ∀ (T : Addr) (kV doc pm : Value) (an : Option Addr) (cdv ct : Value) (us its : List Value), us.length = ps.length → its.length = 1 →
      ∃ k, bindArgs (PySem.W.fnOf x qual (defArgs st) (defBody st) (defScope st) (.ref T) kV doc pm an cdv ct) ⟨us, []⟩ = seqItems? (.ref T) >>= k ∧ k (some its.toArray) = pure (ps.zip (us ++ its.drop 1))) : Binds K fd ps [] := by
  obtain ⟨ds, hv, hb⟩ := F.binds1 (ps := ps) ps.length 1 (by simp) (by simp) h
  have e : ds = [] := by
    have h0 := hv.length
    exact List.length_eq_zero_iff.mp h0.symm
  rw [e] at hb
  exact hb
end Cr

namespace Lw
open PySem PySem.Spec PyProof.Rows L2 Cr
abbrev N__law_jar : List Str := ["script", "at", "cell"]
abbrev P__law_jar : List Str := ["script", "at"]
theorem sc__law_jar : FnScope N__law_jar P__law_jar (defScope s__law_jar) := ⟨rfl, rfl, rfl, by decide +kernel, rfl, by decide +kernel, by decide +kernel⟩
abbrev N__law_gather : List Str := ["rows_here", "table", "key_here", "by_here"]
abbrev P__law_gather : List Str := ["rows_here"]
theorem sc__law_gather : FnScope N__law_gather P__law_gather (defScope s__law_gather) := ⟨rfl, rfl, rfl, by decide +kernel, rfl, by decide +kernel, by decide +kernel⟩
abbrev N__law_pick : List Str := ["jar", "below", "digit", "blend"]
abbrev P__law_pick : List Str := ["jar", "below"]
theorem sc__law_pick : FnScope N__law_pick P__law_pick (defScope s__law_pick) := ⟨rfl, rfl, rfl, by decide +kernel, rfl, by decide +kernel, by decide +kernel⟩
abbrev N__law_amount : List Str := ["jar", "most_here", "amount_here"]
abbrev P__law_amount : List Str := ["jar", "most_here"]
theorem sc__law_amount : FnScope N__law_amount P__law_amount (defScope s__law_amount) := ⟨rfl, rfl, rfl, by decide +kernel, rfl, by decide +kernel, by decide +kernel⟩
abbrev N__law_book : List Str := ["jar", "many_here", "reach", "most_here", "changes_here", "size", "k"]
abbrev P__law_book : List Str := ["jar", "many_here", "reach", "most_here"]
theorem sc__law_book : FnScope N__law_book P__law_book (defScope s__law_book) := ⟨rfl, rfl, rfl, by decide +kernel, rfl, by decide +kernel, by decide +kernel⟩
abbrev N__law_any : List Str := ["jar", "digits", "found", "turn"]
abbrev P__law_any : List Str := ["jar", "digits"]
theorem sc__law_any : FnScope N__law_any P__law_any (defScope s__law_any) := ⟨rfl, rfl, rfl, by decide +kernel, rfl, by decide +kernel, by decide +kernel⟩
abbrev N__law_numbers : List Str := ["jar", "size", "digits", "k"]
abbrev P__law_numbers : List Str := ["jar", "size", "digits"]
theorem sc__law_numbers : FnScope N__law_numbers P__law_numbers (defScope s__law_numbers) := ⟨rfl, rfl, rfl, by decide +kernel, rfl, by decide +kernel, by decide +kernel⟩
abbrev N__law_wide : List Str := ["jar"]
abbrev P__law_wide : List Str := ["jar"]
theorem sc__law_wide : FnScope N__law_wide P__law_wide (defScope s__law_wide) := ⟨rfl, rfl, rfl, by decide +kernel, rfl, by decide +kernel, by decide +kernel⟩
abbrev N__law_drawn : List Str := ["jar", "kind", "size", "drawn", "k"]
abbrev P__law_drawn : List Str := ["jar", "kind", "size"]
theorem sc__law_drawn : FnScope N__law_drawn P__law_drawn (defScope s__law_drawn) := ⟨rfl, rfl, rfl, by decide +kernel, rfl, by decide +kernel, by decide +kernel⟩
abbrev N__law_odd : List Str := ["jar"]
abbrev P__law_odd : List Str := ["jar"]
theorem sc__law_odd : FnScope N__law_odd P__law_odd (defScope s__law_odd) := ⟨rfl, rfl, rfl, by decide +kernel, rfl, by decide +kernel, by decide +kernel⟩
abbrev N__law_no_number : List Str := ["jar", "least"]
abbrev P__law_no_number : List Str := ["jar", "least"]
theorem sc__law_no_number : FnScope N__law_no_number P__law_no_number (defScope s__law_no_number) := ⟨rfl, rfl, rfl, by decide +kernel, rfl, by decide +kernel, by decide +kernel⟩
abbrev N__law_no_places : List Str := ["jar", "places", "size", "way", "at", "start", "step", "k"]
abbrev P__law_no_places : List Str := ["jar", "places", "size"]
theorem sc__law_no_places : FnScope N__law_no_places P__law_no_places (defScope s__law_no_places) := ⟨rfl, rfl, rfl, by decide +kernel, rfl, by decide +kernel, by decide +kernel⟩
abbrev N__law_no_book : List Str := ["jar", "book", "way", "at", "pair", "twin", "odd", "bad"]
abbrev P__law_no_book : List Str := ["jar", "book"]
theorem sc__law_no_book : FnScope N__law_no_book P__law_no_book (defScope s__law_no_book) := ⟨rfl, rfl, rfl, by decide +kernel, rfl, by decide +kernel, by decide +kernel⟩
abbrev N_is_an_integer : List Str := ["value"]
abbrev P_is_an_integer : List Str := ["value"]
theorem sc_is_an_integer : FnScope N_is_an_integer P_is_an_integer (defScope s_is_an_integer) := ⟨rfl, rfl, rfl, by decide +kernel, rfl, by decide +kernel, by decide +kernel⟩
abbrev N_is_change : List Str := ["value"]
abbrev P_is_change : List Str := ["value"]
theorem sc_is_change : FnScope N_is_change P_is_change (defScope s_is_change) := ⟨rfl, rfl, rfl, by decide +kernel, rfl, by decide +kernel, by decide +kernel⟩
abbrev N_is_ledger : List Str := ["value", "ascending", "pair", "one", "other", "key", "amount"]
abbrev P_is_ledger : List Str := ["value"]
theorem sc_is_ledger : FnScope N_is_ledger P_is_ledger (defScope s_is_ledger) := ⟨rfl, rfl, rfl, by decide +kernel, rfl, by decide +kernel, by decide +kernel⟩
abbrev N_check_ledger : List Str := ["value"]
abbrev P_check_ledger : List Str := ["value"]
theorem sc_check_ledger : FnScope N_check_ledger P_check_ledger (defScope s_check_ledger) := ⟨rfl, rfl, rfl, by decide +kernel, rfl, by decide +kernel, by decide +kernel⟩
abbrev N_Ledger__init__ : List Str := ["self", "pairs"]
abbrev P_Ledger__init__ : List Str := ["self", "pairs"]
theorem sc_Ledger__init__ : FnScope N_Ledger__init__ P_Ledger__init__ (defScope s_Ledger__init__) := ⟨rfl, rfl, rfl, by decide +kernel, rfl, by decide +kernel, by decide +kernel⟩
abbrev N__law_no_numbers : List Str := ["jar", "nums", "way", "at"]
abbrev P__law_no_numbers : List Str := ["jar", "nums"]
theorem sc__law_no_numbers : FnScope N__law_no_numbers P__law_no_numbers (defScope s__law_no_numbers) := ⟨rfl, rfl, rfl, by decide +kernel, rfl, by decide +kernel, by decide +kernel⟩
abbrev N_is_sums : List Str := ["value", "number"]
abbrev P_is_sums : List Str := ["value"]
theorem sc_is_sums : FnScope N_is_sums P_is_sums (defScope s_is_sums) := ⟨rfl, rfl, rfl, by decide +kernel, rfl, by decide +kernel, by decide +kernel⟩
abbrev N_check_sums : List Str := ["value"]
abbrev P_check_sums : List Str := ["value"]
theorem sc_check_sums : FnScope N_check_sums P_check_sums (defScope s_check_sums) := ⟨rfl, rfl, rfl, by decide +kernel, rfl, by decide +kernel, by decide +kernel⟩
abbrev N_Sums__init__ : List Str := ["self", "numbers"]
abbrev P_Sums__init__ : List Str := ["self", "numbers"]
theorem sc_Sums__init__ : FnScope N_Sums__init__ P_Sums__init__ (defScope s_Sums__init__) := ⟨rfl, rfl, rfl, by decide +kernel, rfl, by decide +kernel, by decide +kernel⟩
abbrev N__law_bad : List Str := ["jar", "kind", "good", "size"]
abbrev P__law_bad : List Str := ["jar", "kind", "good", "size"]
theorem sc__law_bad : FnScope N__law_bad P__law_bad (defScope s__law_bad) := ⟨rfl, rfl, rfl, by decide +kernel, rfl, by decide +kernel, by decide +kernel⟩
abbrev N_convolved : List Str := ["one", "other", "result", "i", "number", "j", "factor"]
abbrev P_convolved : List Str := ["one", "other"]
theorem sc_convolved : FnScope N_convolved P_convolved (defScope s_convolved) := ⟨rfl, rfl, rfl, by decide +kernel, rfl, by decide +kernel, by decide +kernel⟩
abbrev N_from_roots : List Str := ["roots", "result", "root"]
abbrev P_from_roots : List Str := ["roots"]
theorem sc_from_roots : FnScope N_from_roots P_from_roots (defScope s_from_roots) := ⟨rfl, rfl, rfl, by decide +kernel, rfl, by decide +kernel, by decide +kernel⟩
abbrev N_divided : List Str := ["polynomial", "root", "numbers", "number", "coefficient"]
abbrev P_divided : List Str := ["polynomial", "root"]
theorem sc_divided : FnScope N_divided P_divided (defScope s_divided) := ⟨rfl, rfl, rfl, by decide +kernel, rfl, by decide +kernel, by decide +kernel⟩
abbrev N_value_of : List Str := ["polynomial", "place", "result", "number"]
abbrev P_value_of : List Str := ["polynomial", "place"]
theorem sc_value_of : FnScope N_value_of P_value_of (defScope s_value_of) := ⟨rfl, rfl, rfl, by decide +kernel, rfl, by decide +kernel, by decide +kernel⟩
abbrev N_fractions_at : List Str := ["sums", "keys", "every", "found", "key", "others", "_", "top", "factor", "number"]
abbrev P_fractions_at : List Str := ["sums", "keys"]
theorem sc_fractions_at : FnScope N_fractions_at P_fractions_at (defScope s_fractions_at) := ⟨rfl, rfl, rfl, by decide +kernel, rfl, by decide +kernel, by decide +kernel⟩
abbrev N_first_sums : List Str := ["pairs", "number", "result", "keys", "terms", "_", "key", "amount", "term"]
abbrev P_first_sums : List Str := ["pairs", "number"]
theorem sc_first_sums : FnScope N_first_sums P_first_sums (defScope s_first_sums) := ⟨rfl, rfl, rfl, by decide +kernel, rfl, by decide +kernel, by decide +kernel⟩
abbrev N_only_ledger : List Str := ["sums", "keys", "found", "pairs", "ledger", "top", "bottom", "key", "amount"]
abbrev P_only_ledger : List Str := ["sums", "keys"]
theorem sc_only_ledger : FnScope N_only_ledger P_only_ledger (defScope s_only_ledger) := ⟨rfl, rfl, rfl, by decide +kernel, rfl, by decide +kernel, by decide +kernel⟩
abbrev N_ledger_in_span : List Str := ["sums", "low", "width"]
abbrev P_ledger_in_span : List Str := ["sums", "low", "width"]
theorem sc_ledger_in_span : FnScope N_ledger_in_span P_ledger_in_span (defScope s_ledger_in_span) := ⟨rfl, rfl, rfl, by decide +kernel, rfl, by decide +kernel, by decide +kernel⟩
abbrev N_brief : List Str := ["sums"]
abbrev P_brief : List Str := ["sums"]
theorem sc_brief : FnScope N_brief P_brief (defScope s_brief) := ⟨rfl, rfl, rfl, by decide +kernel, rfl, by decide +kernel, by decide +kernel⟩
abbrev N_is_made : List Str := ["sums"]
abbrev P_is_made : List Str := ["sums"]
theorem sc_is_made : FnScope N_is_made P_is_made (defScope s_is_made) := ⟨rfl, rfl, rfl, by decide +kernel, rfl, by decide +kernel, by decide +kernel⟩
abbrev N_check_key : List Str := ["value"]
abbrev P_check_key : List Str := ["value"]
theorem sc_check_key : FnScope N_check_key P_check_key (defScope s_check_key) := ⟨rfl, rfl, rfl, by decide +kernel, rfl, by decide +kernel, by decide +kernel⟩
abbrev N_in_span : List Str := ["sums", "low", "width"]
abbrev P_in_span : List Str := ["sums", "low", "width"]
theorem sc_in_span : FnScope N_in_span P_in_span (defScope s_in_span) := ⟨rfl, rfl, rfl, by decide +kernel, rfl, by decide +kernel, by decide +kernel⟩
abbrev N_are_keys : List Str := ["value", "key", "one", "other"]
abbrev P_are_keys : List Str := ["value"]
theorem sc_are_keys : FnScope N_are_keys P_are_keys (defScope s_are_keys) := ⟨rfl, rfl, rfl, by decide +kernel, rfl, by decide +kernel, by decide +kernel⟩
abbrev N_check_keys : List Str := ["value", "most"]
abbrev P_check_keys : List Str := ["value", "most"]
theorem sc_check_keys : FnScope N_check_keys P_check_keys (defScope s_check_keys) := ⟨rfl, rfl, rfl, by decide +kernel, rfl, by decide +kernel, by decide +kernel⟩
abbrev N_on_keys : List Str := ["sums", "keys"]
abbrev P_on_keys : List Str := ["sums", "keys"]
theorem sc_on_keys : FnScope N_on_keys P_on_keys (defScope s_on_keys) := ⟨rfl, rfl, rfl, by decide +kernel, rfl, by decide +kernel, by decide +kernel⟩
abbrev N_is_from : List Str := ["value", "least"]
abbrev P_is_from : List Str := ["value", "least"]
theorem sc_is_from : FnScope N_is_from P_is_from (defScope s_is_from) := ⟨rfl, rfl, rfl, by decide +kernel, rfl, by decide +kernel, by decide +kernel⟩
abbrev N_check_number : List Str := ["value", "least"]
abbrev P_check_number : List Str := ["value", "least"]
theorem sc_check_number : FnScope N_check_number P_check_number (defScope s_check_number) := ⟨rfl, rfl, rfl, by decide +kernel, rfl, by decide +kernel, by decide +kernel⟩
abbrev N_least_blind : List Str := ["number", "low", "signs", "k", "sign"]
abbrev P_least_blind : List Str := ["number", "low"]
theorem sc_least_blind : FnScope N_least_blind P_least_blind (defScope s_least_blind) := ⟨rfl, rfl, rfl, by decide +kernel, rfl, by decide +kernel, by decide +kernel⟩
abbrev N_first_apart : List Str := ["ledger", "index", "keys", "terms", "key", "amount", "term"]
abbrev P_first_apart : List Str := ["ledger"]
theorem sc_first_apart : FnScope N_first_apart P_first_apart (defScope s_first_apart) := ⟨rfl, rfl, rfl, by decide +kernel, rfl, by decide +kernel, by decide +kernel⟩
abbrev N_without_step : List Str := ["amounts", "result", "total", "amount"]
abbrev P_without_step : List Str := ["amounts"]
theorem sc_without_step : FnScope N_without_step P_without_step (defScope s_without_step) := ⟨rfl, rfl, rfl, by decide +kernel, rfl, by decide +kernel, by decide +kernel⟩
abbrev N_cleared : List Str := ["ledger", "number", "low", "table", "amounts", "_", "key", "k", "amount"]
abbrev P_cleared : List Str := ["ledger"]
theorem sc_cleared : FnScope N_cleared P_cleared (defScope s_cleared) := ⟨rfl, rfl, rfl, by decide +kernel, rfl, by decide +kernel, by decide +kernel⟩
abbrev N__law_call : List Str := ["way", "parts", "named"]
abbrev P__law_call : List Str := ["way", "parts", "named"]
theorem sc__law_call : FnScope N__law_call P__law_call (defScope s__law_call) := ⟨rfl, rfl, rfl, by decide +kernel, rfl, by decide +kernel, by decide +kernel⟩
abbrev N__law_said : List Str := ["way", "parts", "named", "said"]
abbrev P__law_said : List Str := ["way", "parts", "named"]
theorem sc__law_said : FnScope N__law_said P__law_said (defScope s__law_said) := ⟨rfl, rfl, rfl, by decide +kernel, rfl, by decide +kernel, by decide +kernel⟩
abbrev N__law_kin : List Str := ["way", "parts", "kin", "e"]
abbrev P__law_kin : List Str := ["way", "parts"]
theorem sc__law_kin : FnScope N__law_kin P__law_kin (defScope s__law_kin) := ⟨rfl, rfl, rfl, by decide +kernel, rfl, by decide +kernel, by decide +kernel⟩
abbrev N_law : List Str := ["script", "kinds", "at", "jar", "way", "size", "parts", "bad", "k", "due", "kind", "piece"]
abbrev P_law : List Str := ["script"]
theorem sc_law : FnScope N_law P_law (defScope s_law) := ⟨rfl, rfl, rfl, by decide +kernel, rfl, by decide +kernel, by decide +kernel⟩
structure Tx (K : PySem.W.Frag) (mg : Str → Option Value) where
  a__law_jar : Addr
  fd__law_jar : FuncData
  F__law_jar : Fun K "_law_jar" "_law_jar" s__law_jar a__law_jar fd__law_jar
  b__law_jar : Binds K fd__law_jar P__law_jar []
  m__law_jar : mg "_law_jar" = some (.ref a__law_jar)
  a__law_gather : Addr
  fd__law_gather : FuncData
  F__law_gather : Fun K "_law_gather" "_law_gather" s__law_gather a__law_gather fd__law_gather
  b__law_gather : Binds K fd__law_gather P__law_gather []
  m__law_gather : mg "_law_gather" = some (.ref a__law_gather)
  a__law_pick : Addr
  fd__law_pick : FuncData
  F__law_pick : Fun K "_law_pick" "_law_pick" s__law_pick a__law_pick fd__law_pick
  b__law_pick : Binds K fd__law_pick P__law_pick []
  m__law_pick : mg "_law_pick" = some (.ref a__law_pick)
  a__law_amount : Addr
  fd__law_amount : FuncData
  F__law_amount : Fun K "_law_amount" "_law_amount" s__law_amount a__law_amount fd__law_amount
  b__law_amount : Binds K fd__law_amount P__law_amount []
  m__law_amount : mg "_law_amount" = some (.ref a__law_amount)
  a__law_book : Addr
  fd__law_book : FuncData
  F__law_book : Fun K "_law_book" "_law_book" s__law_book a__law_book fd__law_book
  b__law_book : Binds K fd__law_book P__law_book []
  m__law_book : mg "_law_book" = some (.ref a__law_book)
  a__law_any : Addr
  fd__law_any : FuncData
  F__law_any : Fun K "_law_any" "_law_any" s__law_any a__law_any fd__law_any
  b__law_any : Binds K fd__law_any P__law_any []
  m__law_any : mg "_law_any" = some (.ref a__law_any)
  a__law_numbers : Addr
  fd__law_numbers : FuncData
  F__law_numbers : Fun K "_law_numbers" "_law_numbers" s__law_numbers a__law_numbers fd__law_numbers
  b__law_numbers : Binds K fd__law_numbers P__law_numbers []
  m__law_numbers : mg "_law_numbers" = some (.ref a__law_numbers)
  a__law_wide : Addr
  fd__law_wide : FuncData
  F__law_wide : Fun K "_law_wide" "_law_wide" s__law_wide a__law_wide fd__law_wide
  b__law_wide : Binds K fd__law_wide P__law_wide []
  m__law_wide : mg "_law_wide" = some (.ref a__law_wide)
  a__law_drawn : Addr
  fd__law_drawn : FuncData
  F__law_drawn : Fun K "_law_drawn" "_law_drawn" s__law_drawn a__law_drawn fd__law_drawn
  b__law_drawn : Binds K fd__law_drawn P__law_drawn []
  m__law_drawn : mg "_law_drawn" = some (.ref a__law_drawn)
  a__law_odd : Addr
  fd__law_odd : FuncData
  F__law_odd : Fun K "_law_odd" "_law_odd" s__law_odd a__law_odd fd__law_odd
  b__law_odd : Binds K fd__law_odd P__law_odd []
  m__law_odd : mg "_law_odd" = some (.ref a__law_odd)
  a__law_no_number : Addr
  fd__law_no_number : FuncData
  F__law_no_number : Fun K "_law_no_number" "_law_no_number" s__law_no_number a__law_no_number fd__law_no_number
  b__law_no_number : Binds K fd__law_no_number P__law_no_number []
  m__law_no_number : mg "_law_no_number" = some (.ref a__law_no_number)
  a__law_no_places : Addr
  fd__law_no_places : FuncData
  F__law_no_places : Fun K "_law_no_places" "_law_no_places" s__law_no_places a__law_no_places fd__law_no_places
  b__law_no_places : Binds K fd__law_no_places P__law_no_places []
  m__law_no_places : mg "_law_no_places" = some (.ref a__law_no_places)
  a__law_no_book : Addr
  fd__law_no_book : FuncData
  F__law_no_book : Fun K "_law_no_book" "_law_no_book" s__law_no_book a__law_no_book fd__law_no_book
  b__law_no_book : Binds K fd__law_no_book P__law_no_book []
  m__law_no_book : mg "_law_no_book" = some (.ref a__law_no_book)
  a_is_an_integer : Addr
  fd_is_an_integer : FuncData
  F_is_an_integer : Fun K "is_an_integer" "is_an_integer" s_is_an_integer a_is_an_integer fd_is_an_integer
  b_is_an_integer : Binds K fd_is_an_integer P_is_an_integer []
  m_is_an_integer : mg "is_an_integer" = some (.ref a_is_an_integer)
  a_is_change : Addr
  fd_is_change : FuncData
  F_is_change : Fun K "is_change" "is_change" s_is_change a_is_change fd_is_change
  b_is_change : Binds K fd_is_change P_is_change []
  m_is_change : mg "is_change" = some (.ref a_is_change)
  a_is_ledger : Addr
  fd_is_ledger : FuncData
  F_is_ledger : Fun K "is_ledger" "is_ledger" s_is_ledger a_is_ledger fd_is_ledger
  b_is_ledger : Binds K fd_is_ledger P_is_ledger []
  m_is_ledger : mg "is_ledger" = some (.ref a_is_ledger)
  a_check_ledger : Addr
  fd_check_ledger : FuncData
  F_check_ledger : Fun K "check_ledger" "check_ledger" s_check_ledger a_check_ledger fd_check_ledger
  b_check_ledger : Binds K fd_check_ledger P_check_ledger []
  m_check_ledger : mg "check_ledger" = some (.ref a_check_ledger)
  a_Ledger__init__ : Addr
  fd_Ledger__init__ : FuncData
  F_Ledger__init__ : FunV K "__init__" "Ledger.__init__" s_Ledger__init__ a_Ledger__init__ fd_Ledger__init__
  b_Ledger__init__ : Binds K fd_Ledger__init__ P_Ledger__init__ []
  C_Ledger : Addr
  M_Ledger : Mk K C_Ledger a_Ledger__init__
  m_Ledger : mg "Ledger" = some (.ref C_Ledger)
  cl_Ledger : Cls K C_Ledger
  n_Ledger : NoAttr K C_Ledger "_pairs"
  I_Ledger : InsC K C_Ledger
  a__law_no_numbers : Addr
  fd__law_no_numbers : FuncData
  F__law_no_numbers : Fun K "_law_no_numbers" "_law_no_numbers" s__law_no_numbers a__law_no_numbers fd__law_no_numbers
  b__law_no_numbers : Binds K fd__law_no_numbers P__law_no_numbers []
  m__law_no_numbers : mg "_law_no_numbers" = some (.ref a__law_no_numbers)
  a_is_sums : Addr
  fd_is_sums : FuncData
  F_is_sums : Fun K "is_sums" "is_sums" s_is_sums a_is_sums fd_is_sums
  b_is_sums : Binds K fd_is_sums P_is_sums []
  m_is_sums : mg "is_sums" = some (.ref a_is_sums)
  a_check_sums : Addr
  fd_check_sums : FuncData
  F_check_sums : Fun K "check_sums" "check_sums" s_check_sums a_check_sums fd_check_sums
  b_check_sums : Binds K fd_check_sums P_check_sums []
  m_check_sums : mg "check_sums" = some (.ref a_check_sums)
  a_Sums__init__ : Addr
  fd_Sums__init__ : FuncData
  F_Sums__init__ : FunV K "__init__" "Sums.__init__" s_Sums__init__ a_Sums__init__ fd_Sums__init__
  b_Sums__init__ : Binds K fd_Sums__init__ P_Sums__init__ []
  C_Sums : Addr
  M_Sums : Mk K C_Sums a_Sums__init__
  m_Sums : mg "Sums" = some (.ref C_Sums)
  cl_Sums : Cls K C_Sums
  n_Sums : NoAttr K C_Sums "_numbers"
  I_Sums : InsC K C_Sums
  a__law_bad : Addr
  fd__law_bad : FuncData
  F__law_bad : Fun K "_law_bad" "_law_bad" s__law_bad a__law_bad fd__law_bad
  b__law_bad : Binds K fd__law_bad P__law_bad []
  m__law_bad : mg "_law_bad" = some (.ref a__law_bad)
  a_convolved : Addr
  fd_convolved : FuncData
  F_convolved : Fun K "convolved" "convolved" s_convolved a_convolved fd_convolved
  b_convolved : Binds K fd_convolved P_convolved []
  m_convolved : mg "convolved" = some (.ref a_convolved)
  a_from_roots : Addr
  fd_from_roots : FuncData
  F_from_roots : Fun K "from_roots" "from_roots" s_from_roots a_from_roots fd_from_roots
  b_from_roots : Binds K fd_from_roots P_from_roots []
  m_from_roots : mg "from_roots" = some (.ref a_from_roots)
  a_divided : Addr
  fd_divided : FuncData
  F_divided : Fun K "divided" "divided" s_divided a_divided fd_divided
  b_divided : Binds K fd_divided P_divided []
  m_divided : mg "divided" = some (.ref a_divided)
  a_value_of : Addr
  fd_value_of : FuncData
  F_value_of : Fun K "value_of" "value_of" s_value_of a_value_of fd_value_of
  b_value_of : Binds K fd_value_of P_value_of []
  m_value_of : mg "value_of" = some (.ref a_value_of)
  a_fractions_at : Addr
  fd_fractions_at : FuncData
  F_fractions_at : Fun K "fractions_at" "fractions_at" s_fractions_at a_fractions_at fd_fractions_at
  b_fractions_at : Binds K fd_fractions_at P_fractions_at []
  m_fractions_at : mg "fractions_at" = some (.ref a_fractions_at)
  a_first_sums : Addr
  fd_first_sums : FuncData
  F_first_sums : Fun K "first_sums" "first_sums" s_first_sums a_first_sums fd_first_sums
  b_first_sums : Binds K fd_first_sums P_first_sums []
  m_first_sums : mg "first_sums" = some (.ref a_first_sums)
  a_only_ledger : Addr
  fd_only_ledger : FuncData
  F_only_ledger : Fun K "only_ledger" "only_ledger" s_only_ledger a_only_ledger fd_only_ledger
  b_only_ledger : Binds K fd_only_ledger P_only_ledger []
  m_only_ledger : mg "only_ledger" = some (.ref a_only_ledger)
  a_ledger_in_span : Addr
  fd_ledger_in_span : FuncData
  F_ledger_in_span : Fun K "ledger_in_span" "ledger_in_span" s_ledger_in_span a_ledger_in_span fd_ledger_in_span
  b_ledger_in_span : Binds K fd_ledger_in_span P_ledger_in_span []
  m_ledger_in_span : mg "ledger_in_span" = some (.ref a_ledger_in_span)
  a_brief : Addr
  fd_brief : FuncData
  F_brief : Fun K "brief" "brief" s_brief a_brief fd_brief
  b_brief : Binds K fd_brief P_brief []
  m_brief : mg "brief" = some (.ref a_brief)
  a_is_made : Addr
  fd_is_made : FuncData
  F_is_made : Fun K "is_made" "is_made" s_is_made a_is_made fd_is_made
  b_is_made : Binds K fd_is_made P_is_made []
  m_is_made : mg "is_made" = some (.ref a_is_made)
  a_check_key : Addr
  fd_check_key : FuncData
  F_check_key : Fun K "check_key" "check_key" s_check_key a_check_key fd_check_key
  b_check_key : Binds K fd_check_key P_check_key []
  m_check_key : mg "check_key" = some (.ref a_check_key)
  a_in_span : Addr
  fd_in_span : FuncData
  F_in_span : Fun K "in_span" "in_span" s_in_span a_in_span fd_in_span
  b_in_span : Binds K fd_in_span P_in_span []
  m_in_span : mg "in_span" = some (.ref a_in_span)
  a_are_keys : Addr
  fd_are_keys : FuncData
  F_are_keys : Fun K "are_keys" "are_keys" s_are_keys a_are_keys fd_are_keys
  b_are_keys : Binds K fd_are_keys P_are_keys []
  m_are_keys : mg "are_keys" = some (.ref a_are_keys)
  a_check_keys : Addr
  fd_check_keys : FuncData
  F_check_keys : Fun K "check_keys" "check_keys" s_check_keys a_check_keys fd_check_keys
  b_check_keys : Binds K fd_check_keys P_check_keys []
  m_check_keys : mg "check_keys" = some (.ref a_check_keys)
  a_on_keys : Addr
  fd_on_keys : FuncData
  F_on_keys : Fun K "on_keys" "on_keys" s_on_keys a_on_keys fd_on_keys
  b_on_keys : Binds K fd_on_keys P_on_keys []
  m_on_keys : mg "on_keys" = some (.ref a_on_keys)
  a_is_from : Addr
  fd_is_from : FuncData
  F_is_from : Fun K "is_from" "is_from" s_is_from a_is_from fd_is_from
  b_is_from : Binds K fd_is_from P_is_from []
  m_is_from : mg "is_from" = some (.ref a_is_from)
  a_check_number : Addr
  fd_check_number : FuncData
  F_check_number : Fun K "check_number" "check_number" s_check_number a_check_number fd_check_number
  b_check_number : Binds K fd_check_number P_check_number []
  m_check_number : mg "check_number" = some (.ref a_check_number)
  a_least_blind : Addr
  fd_least_blind : FuncData
  F_least_blind : Fun K "least_blind" "least_blind" s_least_blind a_least_blind fd_least_blind
  b_least_blind : Binds K fd_least_blind P_least_blind []
  m_least_blind : mg "least_blind" = some (.ref a_least_blind)
  a_first_apart : Addr
  fd_first_apart : FuncData
  F_first_apart : Fun K "first_apart" "first_apart" s_first_apart a_first_apart fd_first_apart
  b_first_apart : Binds K fd_first_apart P_first_apart []
  m_first_apart : mg "first_apart" = some (.ref a_first_apart)
  a_without_step : Addr
  fd_without_step : FuncData
  F_without_step : Fun K "without_step" "without_step" s_without_step a_without_step fd_without_step
  b_without_step : Binds K fd_without_step P_without_step []
  m_without_step : mg "without_step" = some (.ref a_without_step)
  a_cleared : Addr
  fd_cleared : FuncData
  F_cleared : Fun K "cleared" "cleared" s_cleared a_cleared fd_cleared
  b_cleared : Binds K fd_cleared P_cleared []
  m_cleared : mg "cleared" = some (.ref a_cleared)
  a__law_call : Addr
  fd__law_call : FuncData
  F__law_call : Fun K "_law_call" "_law_call" s__law_call a__law_call fd__law_call
  b__law_call : Binds K fd__law_call P__law_call []
  m__law_call : mg "_law_call" = some (.ref a__law_call)
  a__law_said : Addr
  fd__law_said : FuncData
  F__law_said : Fun K "_law_said" "_law_said" s__law_said a__law_said fd__law_said
  b__law_said : Binds K fd__law_said P__law_said []
  m__law_said : mg "_law_said" = some (.ref a__law_said)
  a__law_kin : Addr
  fd__law_kin : FuncData
  F__law_kin : Fun K "_law_kin" "_law_kin" s__law_kin a__law_kin fd__law_kin
  b__law_kin : Binds K fd__law_kin P__law_kin []
  m__law_kin : mg "_law_kin" = some (.ref a__law_kin)
  a_law : Addr
  fd_law : FuncData
  F_law : Fun K "law" "law" s_law a_law fd_law
  b_law : Binds K fd_law P_law []
  m_law : mg "law" = some (.ref a_law)
  e_InvalidKey : Addr
  g_InvalidKey : mg "InvalidKey" = some (.ref e_InvalidKey)
  u_InvalidKey : PySem.W.subIn K (.ref e_InvalidKey) (.type "BaseException") = some true
  t_InvalidKey : PySem.W.typeIn K (.ref e_InvalidKey) = some (.type "type")
  h_InvalidKey : PySem.W.hasDictIn K e_InvalidKey = true
  e_InvalidKeys : Addr
  g_InvalidKeys : mg "InvalidKeys" = some (.ref e_InvalidKeys)
  u_InvalidKeys : PySem.W.subIn K (.ref e_InvalidKeys) (.type "BaseException") = some true
  t_InvalidKeys : PySem.W.typeIn K (.ref e_InvalidKeys) = some (.type "type")
  h_InvalidKeys : PySem.W.hasDictIn K e_InvalidKeys = true
  e_InvalidLedger : Addr
  g_InvalidLedger : mg "InvalidLedger" = some (.ref e_InvalidLedger)
  u_InvalidLedger : PySem.W.subIn K (.ref e_InvalidLedger) (.type "BaseException") = some true
  t_InvalidLedger : PySem.W.typeIn K (.ref e_InvalidLedger) = some (.type "type")
  h_InvalidLedger : PySem.W.hasDictIn K e_InvalidLedger = true
  e_InvalidNumber : Addr
  g_InvalidNumber : mg "InvalidNumber" = some (.ref e_InvalidNumber)
  u_InvalidNumber : PySem.W.subIn K (.ref e_InvalidNumber) (.type "BaseException") = some true
  t_InvalidNumber : PySem.W.typeIn K (.ref e_InvalidNumber) = some (.type "type")
  h_InvalidNumber : PySem.W.hasDictIn K e_InvalidNumber = true
  e_InvalidSums : Addr
  g_InvalidSums : mg "InvalidSums" = some (.ref e_InvalidSums)
  u_InvalidSums : PySem.W.subIn K (.ref e_InvalidSums) (.type "BaseException") = some true
  t_InvalidSums : PySem.W.typeIn K (.ref e_InvalidSums) = some (.type "type")
  h_InvalidSums : PySem.W.hasDictIn K e_InvalidSums = true
  e_InvalidWidth : Addr
  g_InvalidWidth : mg "InvalidWidth" = some (.ref e_InvalidWidth)
  u_InvalidWidth : PySem.W.subIn K (.ref e_InvalidWidth) (.type "BaseException") = some true
  t_InvalidWidth : PySem.W.typeIn K (.ref e_InvalidWidth) = some (.type "type")
  h_InvalidWidth : PySem.W.hasDictIn K e_InvalidWidth = true
  e_SumsError : Addr
  g_SumsError : mg "SumsError" = some (.ref e_SumsError)
  u_SumsError : PySem.W.subIn K (.ref e_SumsError) (.type "BaseException") = some true
  t_SumsError : PySem.W.typeIn K (.ref e_SumsError) = some (.type "type")
  h_SumsError : PySem.W.hasDictIn K e_SumsError = true
  x_InvalidKey : PySem.W.excIn K e_InvalidKey [.type "ValueError", .type "Exception", .type "BaseException", .type "object"] "ValueError.__new__" = true
  k_InvalidKey : PySem.W.keepIn K (.ref e_InvalidKey) = true
  E_InvalidKey : ExcC K e_InvalidKey
  v_InvalidKey : PySem.W.kitOne K (.ref e_InvalidKey) (.type "ValueError") = some true
  x_InvalidKeys : PySem.W.excIn K e_InvalidKeys [.type "ValueError", .type "Exception", .type "BaseException", .type "object"] "ValueError.__new__" = true
  k_InvalidKeys : PySem.W.keepIn K (.ref e_InvalidKeys) = true
  E_InvalidKeys : ExcC K e_InvalidKeys
  v_InvalidKeys : PySem.W.kitOne K (.ref e_InvalidKeys) (.type "ValueError") = some true
  x_InvalidLedger : PySem.W.excIn K e_InvalidLedger [.type "ValueError", .type "Exception", .type "BaseException", .type "object"] "ValueError.__new__" = true
  k_InvalidLedger : PySem.W.keepIn K (.ref e_InvalidLedger) = true
  E_InvalidLedger : ExcC K e_InvalidLedger
  v_InvalidLedger : PySem.W.kitOne K (.ref e_InvalidLedger) (.type "ValueError") = some true
  x_InvalidNumber : PySem.W.excIn K e_InvalidNumber [.type "ValueError", .type "Exception", .type "BaseException", .type "object"] "ValueError.__new__" = true
  k_InvalidNumber : PySem.W.keepIn K (.ref e_InvalidNumber) = true
  E_InvalidNumber : ExcC K e_InvalidNumber
  v_InvalidNumber : PySem.W.kitOne K (.ref e_InvalidNumber) (.type "ValueError") = some true
  x_InvalidSums : PySem.W.excIn K e_InvalidSums [.type "ValueError", .type "Exception", .type "BaseException", .type "object"] "ValueError.__new__" = true
  k_InvalidSums : PySem.W.keepIn K (.ref e_InvalidSums) = true
  E_InvalidSums : ExcC K e_InvalidSums
  v_InvalidSums : PySem.W.kitOne K (.ref e_InvalidSums) (.type "ValueError") = some true
  x_InvalidWidth : PySem.W.excIn K e_InvalidWidth [.type "ValueError", .type "Exception", .type "BaseException", .type "object"] "ValueError.__new__" = true
  k_InvalidWidth : PySem.W.keepIn K (.ref e_InvalidWidth) = true
  E_InvalidWidth : ExcC K e_InvalidWidth
  v_InvalidWidth : PySem.W.kitOne K (.ref e_InvalidWidth) (.type "ValueError") = some true
  s_InvalidKey_InvalidKey : PySem.W.subIn K (.ref e_InvalidKey) (.ref e_InvalidKey) = some true
  s_InvalidKey_InvalidKeys : PySem.W.subIn K (.ref e_InvalidKey) (.ref e_InvalidKeys) = some false
  s_InvalidKey_InvalidLedger : PySem.W.subIn K (.ref e_InvalidKey) (.ref e_InvalidLedger) = some false
  s_InvalidKey_InvalidNumber : PySem.W.subIn K (.ref e_InvalidKey) (.ref e_InvalidNumber) = some false
  s_InvalidKey_InvalidSums : PySem.W.subIn K (.ref e_InvalidKey) (.ref e_InvalidSums) = some false
  s_InvalidKey_InvalidWidth : PySem.W.subIn K (.ref e_InvalidKey) (.ref e_InvalidWidth) = some false
  s_InvalidKey_SumsError : PySem.W.subIn K (.ref e_InvalidKey) (.ref e_SumsError) = some true
  s_InvalidKeys_InvalidKey : PySem.W.subIn K (.ref e_InvalidKeys) (.ref e_InvalidKey) = some false
  s_InvalidKeys_InvalidKeys : PySem.W.subIn K (.ref e_InvalidKeys) (.ref e_InvalidKeys) = some true
  s_InvalidKeys_InvalidLedger : PySem.W.subIn K (.ref e_InvalidKeys) (.ref e_InvalidLedger) = some false
  s_InvalidKeys_InvalidNumber : PySem.W.subIn K (.ref e_InvalidKeys) (.ref e_InvalidNumber) = some false
  s_InvalidKeys_InvalidSums : PySem.W.subIn K (.ref e_InvalidKeys) (.ref e_InvalidSums) = some false
  s_InvalidKeys_InvalidWidth : PySem.W.subIn K (.ref e_InvalidKeys) (.ref e_InvalidWidth) = some false
  s_InvalidKeys_SumsError : PySem.W.subIn K (.ref e_InvalidKeys) (.ref e_SumsError) = some true
  s_InvalidLedger_InvalidKey : PySem.W.subIn K (.ref e_InvalidLedger) (.ref e_InvalidKey) = some false
  s_InvalidLedger_InvalidKeys : PySem.W.subIn K (.ref e_InvalidLedger) (.ref e_InvalidKeys) = some false
  s_InvalidLedger_InvalidLedger : PySem.W.subIn K (.ref e_InvalidLedger) (.ref e_InvalidLedger) = some true
  s_InvalidLedger_InvalidNumber : PySem.W.subIn K (.ref e_InvalidLedger) (.ref e_InvalidNumber) = some false
  s_InvalidLedger_InvalidSums : PySem.W.subIn K (.ref e_InvalidLedger) (.ref e_InvalidSums) = some false
  s_InvalidLedger_InvalidWidth : PySem.W.subIn K (.ref e_InvalidLedger) (.ref e_InvalidWidth) = some false
  s_InvalidLedger_SumsError : PySem.W.subIn K (.ref e_InvalidLedger) (.ref e_SumsError) = some true
  s_InvalidNumber_InvalidKey : PySem.W.subIn K (.ref e_InvalidNumber) (.ref e_InvalidKey) = some false
  s_InvalidNumber_InvalidKeys : PySem.W.subIn K (.ref e_InvalidNumber) (.ref e_InvalidKeys) = some false
  s_InvalidNumber_InvalidLedger : PySem.W.subIn K (.ref e_InvalidNumber) (.ref e_InvalidLedger) = some false
  s_InvalidNumber_InvalidNumber : PySem.W.subIn K (.ref e_InvalidNumber) (.ref e_InvalidNumber) = some true
  s_InvalidNumber_InvalidSums : PySem.W.subIn K (.ref e_InvalidNumber) (.ref e_InvalidSums) = some false
  s_InvalidNumber_InvalidWidth : PySem.W.subIn K (.ref e_InvalidNumber) (.ref e_InvalidWidth) = some false
  s_InvalidNumber_SumsError : PySem.W.subIn K (.ref e_InvalidNumber) (.ref e_SumsError) = some true
  s_InvalidSums_InvalidKey : PySem.W.subIn K (.ref e_InvalidSums) (.ref e_InvalidKey) = some false
  s_InvalidSums_InvalidKeys : PySem.W.subIn K (.ref e_InvalidSums) (.ref e_InvalidKeys) = some false
  s_InvalidSums_InvalidLedger : PySem.W.subIn K (.ref e_InvalidSums) (.ref e_InvalidLedger) = some false
  s_InvalidSums_InvalidNumber : PySem.W.subIn K (.ref e_InvalidSums) (.ref e_InvalidNumber) = some false
  s_InvalidSums_InvalidSums : PySem.W.subIn K (.ref e_InvalidSums) (.ref e_InvalidSums) = some true
  s_InvalidSums_InvalidWidth : PySem.W.subIn K (.ref e_InvalidSums) (.ref e_InvalidWidth) = some false
  s_InvalidSums_SumsError : PySem.W.subIn K (.ref e_InvalidSums) (.ref e_SumsError) = some true
  s_InvalidWidth_InvalidKey : PySem.W.subIn K (.ref e_InvalidWidth) (.ref e_InvalidKey) = some false
  s_InvalidWidth_InvalidKeys : PySem.W.subIn K (.ref e_InvalidWidth) (.ref e_InvalidKeys) = some false
  s_InvalidWidth_InvalidLedger : PySem.W.subIn K (.ref e_InvalidWidth) (.ref e_InvalidLedger) = some false
  s_InvalidWidth_InvalidNumber : PySem.W.subIn K (.ref e_InvalidWidth) (.ref e_InvalidNumber) = some false
  s_InvalidWidth_InvalidSums : PySem.W.subIn K (.ref e_InvalidWidth) (.ref e_InvalidSums) = some false
  s_InvalidWidth_InvalidWidth : PySem.W.subIn K (.ref e_InvalidWidth) (.ref e_InvalidWidth) = some true
  s_InvalidWidth_SumsError : PySem.W.subIn K (.ref e_InvalidWidth) (.ref e_SumsError) = some true
  z_ValueError : mg "ValueError" = none
  z_abs : mg "abs" = none
  z_all : mg "all" = none
  z_any : mg "any" = none
  z_bool : mg "bool" = none
  z_dict : mg "dict" = none
  z_enumerate : mg "enumerate" = none
  z_int : mg "int" = none
  z_isinstance : mg "isinstance" = none
  z_len : mg "len" = none
  z_list : mg "list" = none
  z_max : mg "max" = none
  z_min : mg "min" = none
  z_range : mg "range" = none
  z_set : mg "set" = none
  z_sorted : mg "sorted" = none
  z_sum : mg "sum" = none
  z_tuple : mg "tuple" = none
  z_zip : mg "zip" = none
  y_comb : mg "comb" = some (.builtin "math.comb")
def g_kb_brief_0_sums {α : Type} (us ws : List α) : List α := match us, ws with
  | [], [k0] => [k0]
  | _, _ => []
theorem kb_brief_0_sums {K : PySem.W.Frag} {f : Addr} {fd : FuncData} (F : Fun K "brief" "brief" s_brief f fd) : KBinds K fd P_brief ["sums"] g_kb_brief_0_sums g_kb_brief_0_sums where
  to := fun s us ws _ hl => by
    obtain ⟨oc, od, kV, doc, pm, an, cdv, ct, osl, rfl, lk, hcd⟩ := F.ex
    unfold g_kb_brief_0_sums at hl ⊢
    split at hl
    · exact .of_eq rfl
    · exact absurd hl (by decide)
  rel := fun {vs us zs ws} h1 h2 => by
    rcases h1 with _ | ⟨_, _⟩ <;> rcases h2 with _ | ⟨rk0, _ | ⟨_, _⟩⟩ <;> first | exact (.cons rk0 .nil) | exact .nil
theorem v_kb_brief_0_sums {H : Hp} {uk0 : Sl} : ∀ vs zs : List V, VS H vs [] → VS H zs [uk0] → VS H (g_kb_brief_0_sums vs zs) [uk0] := by
  intro vs zs h1 h2
  have za := VS.inv0 h1
  subst za
  obtain ⟨wk0, tk0, rfl, qk0, rk0⟩ := VS.inv1 h2
  have zb := VS.inv0 rk0
  subst zb
  exact (VS.cons qk0 VS.nil)
def g_kb_cleared_0_ledger {α : Type} (us ws : List α) : List α := match us, ws with
  | [], [k0] => [k0]
  | _, _ => []
theorem kb_cleared_0_ledger {K : PySem.W.Frag} {f : Addr} {fd : FuncData} (F : Fun K "cleared" "cleared" s_cleared f fd) : KBinds K fd P_cleared ["ledger"] g_kb_cleared_0_ledger g_kb_cleared_0_ledger where
  to := fun s us ws _ hl => by
    obtain ⟨oc, od, kV, doc, pm, an, cdv, ct, osl, rfl, lk, hcd⟩ := F.ex
    unfold g_kb_cleared_0_ledger at hl ⊢
    split at hl
    · exact .of_eq rfl
    · exact absurd hl (by decide)
  rel := fun {vs us zs ws} h1 h2 => by
    rcases h1 with _ | ⟨_, _⟩ <;> rcases h2 with _ | ⟨rk0, _ | ⟨_, _⟩⟩ <;> first | exact (.cons rk0 .nil) | exact .nil
theorem v_kb_cleared_0_ledger {H : Hp} {uk0 : Sl} : ∀ vs zs : List V, VS H vs [] → VS H zs [uk0] → VS H (g_kb_cleared_0_ledger vs zs) [uk0] := by
  intro vs zs h1 h2
  have za := VS.inv0 h1
  subst za
  obtain ⟨wk0, tk0, rfl, qk0, rk0⟩ := VS.inv1 h2
  have zb := VS.inv0 rk0
  subst zb
  exact (VS.cons qk0 VS.nil)
def g_kb_in_span_0_width_low_sums {α : Type} (us ws : List α) : List α := match us, ws with
  | [], [k0, k1, k2] => [k2, k1, k0]
  | _, _ => []
theorem kb_in_span_0_width_low_sums {K : PySem.W.Frag} {f : Addr} {fd : FuncData} (F : Fun K "in_span" "in_span" s_in_span f fd) : KBinds K fd P_in_span ["width", "low", "sums"] g_kb_in_span_0_width_low_sums g_kb_in_span_0_width_low_sums where
  to := fun s us ws _ hl => by
    obtain ⟨oc, od, kV, doc, pm, an, cdv, ct, osl, rfl, lk, hcd⟩ := F.ex
    unfold g_kb_in_span_0_width_low_sums at hl ⊢
    split at hl
    · exact .of_eq rfl
    · exact absurd hl (by decide)
  rel := fun {vs us zs ws} h1 h2 => by
    rcases h1 with _ | ⟨_, _⟩ <;> rcases h2 with _ | ⟨rk0, _ | ⟨rk1, _ | ⟨rk2, _ | ⟨_, _⟩⟩⟩⟩ <;> first | exact (.cons rk2 (.cons rk1 (.cons rk0 .nil))) | exact .nil
theorem v_kb_in_span_0_width_low_sums {H : Hp} {uk0 uk1 uk2 : Sl} : ∀ vs zs : List V, VS H vs [] → VS H zs [uk0, uk1, uk2] → VS H (g_kb_in_span_0_width_low_sums vs zs) [uk2, uk1, uk0] := by
  intro vs zs h1 h2
  have za := VS.inv0 h1
  subst za
  obtain ⟨wk0, tk0, rfl, qk0, rk0⟩ := VS.inv1 h2
  obtain ⟨wk1, tk1, rfl, qk1, rk1⟩ := VS.inv1 rk0
  obtain ⟨wk2, tk2, rfl, qk2, rk2⟩ := VS.inv1 rk1
  have zb := VS.inv0 rk2
  subst zb
  exact (VS.cons qk2 (VS.cons qk1 (VS.cons qk0 VS.nil)))
def g_kb_is_made_0_sums {α : Type} (us ws : List α) : List α := match us, ws with
  | [], [k0] => [k0]
  | _, _ => []
theorem kb_is_made_0_sums {K : PySem.W.Frag} {f : Addr} {fd : FuncData} (F : Fun K "is_made" "is_made" s_is_made f fd) : KBinds K fd P_is_made ["sums"] g_kb_is_made_0_sums g_kb_is_made_0_sums where
  to := fun s us ws _ hl => by
    obtain ⟨oc, od, kV, doc, pm, an, cdv, ct, osl, rfl, lk, hcd⟩ := F.ex
    unfold g_kb_is_made_0_sums at hl ⊢
    split at hl
    · exact .of_eq rfl
    · exact absurd hl (by decide)
  rel := fun {vs us zs ws} h1 h2 => by
    rcases h1 with _ | ⟨_, _⟩ <;> rcases h2 with _ | ⟨rk0, _ | ⟨_, _⟩⟩ <;> first | exact (.cons rk0 .nil) | exact .nil
theorem v_kb_is_made_0_sums {H : Hp} {uk0 : Sl} : ∀ vs zs : List V, VS H vs [] → VS H zs [uk0] → VS H (g_kb_is_made_0_sums vs zs) [uk0] := by
  intro vs zs h1 h2
  have za := VS.inv0 h1
  subst za
  obtain ⟨wk0, tk0, rfl, qk0, rk0⟩ := VS.inv1 h2
  have zb := VS.inv0 rk0
  subst zb
  exact (VS.cons qk0 VS.nil)
def g_kb_least_blind_0_low_number {α : Type} (us ws : List α) : List α := match us, ws with
  | [], [k0, k1] => [k1, k0]
  | _, _ => []
theorem kb_least_blind_0_low_number {K : PySem.W.Frag} {f : Addr} {fd : FuncData} (F : Fun K "least_blind" "least_blind" s_least_blind f fd) : KBinds K fd P_least_blind ["low", "number"] g_kb_least_blind_0_low_number g_kb_least_blind_0_low_number where
  to := fun s us ws _ hl => by
    obtain ⟨oc, od, kV, doc, pm, an, cdv, ct, osl, rfl, lk, hcd⟩ := F.ex
    unfold g_kb_least_blind_0_low_number at hl ⊢
    split at hl
    · exact .of_eq rfl
    · exact absurd hl (by decide)
  rel := fun {vs us zs ws} h1 h2 => by
    rcases h1 with _ | ⟨_, _⟩ <;> rcases h2 with _ | ⟨rk0, _ | ⟨rk1, _ | ⟨_, _⟩⟩⟩ <;> first | exact (.cons rk1 (.cons rk0 .nil)) | exact .nil
theorem v_kb_least_blind_0_low_number {H : Hp} {uk0 uk1 : Sl} : ∀ vs zs : List V, VS H vs [] → VS H zs [uk0, uk1] → VS H (g_kb_least_blind_0_low_number vs zs) [uk1, uk0] := by
  intro vs zs h1 h2
  have za := VS.inv0 h1
  subst za
  obtain ⟨wk0, tk0, rfl, qk0, rk0⟩ := VS.inv1 h2
  obtain ⟨wk1, tk1, rfl, qk1, rk1⟩ := VS.inv1 rk0
  have zb := VS.inv0 rk1
  subst zb
  exact (VS.cons qk1 (VS.cons qk0 VS.nil))
def g_kb_on_keys_0_keys_sums {α : Type} (us ws : List α) : List α := match us, ws with
  | [], [k0, k1] => [k1, k0]
  | _, _ => []
theorem kb_on_keys_0_keys_sums {K : PySem.W.Frag} {f : Addr} {fd : FuncData} (F : Fun K "on_keys" "on_keys" s_on_keys f fd) : KBinds K fd P_on_keys ["keys", "sums"] g_kb_on_keys_0_keys_sums g_kb_on_keys_0_keys_sums where
  to := fun s us ws _ hl => by
    obtain ⟨oc, od, kV, doc, pm, an, cdv, ct, osl, rfl, lk, hcd⟩ := F.ex
    unfold g_kb_on_keys_0_keys_sums at hl ⊢
    split at hl
    · exact .of_eq rfl
    · exact absurd hl (by decide)
  rel := fun {vs us zs ws} h1 h2 => by
    rcases h1 with _ | ⟨_, _⟩ <;> rcases h2 with _ | ⟨rk0, _ | ⟨rk1, _ | ⟨_, _⟩⟩⟩ <;> first | exact (.cons rk1 (.cons rk0 .nil)) | exact .nil
theorem v_kb_on_keys_0_keys_sums {H : Hp} {uk0 uk1 : Sl} : ∀ vs zs : List V, VS H vs [] → VS H zs [uk0, uk1] → VS H (g_kb_on_keys_0_keys_sums vs zs) [uk1, uk0] := by
  intro vs zs h1 h2
  have za := VS.inv0 h1
  subst za
  obtain ⟨wk0, tk0, rfl, qk0, rk0⟩ := VS.inv1 h2
  obtain ⟨wk1, tk1, rfl, qk1, rk1⟩ := VS.inv1 rk0
  have zb := VS.inv0 rk1
  subst zb
  exact (VS.cons qk1 (VS.cons qk0 VS.nil))
section
variable {P : Program} {w : World} {K : PySem.W.Frag} {mg : Str → Option Value} {base : Heap}
/-! ### _law_jar -/

theorem ok__law_jar (T : Tx K mg) : FnOk P w K mg base CX0 1 T.a__law_jar T.fd__law_jar P__law_jar (spMk K) := by
  refine T.F__law_jar.ok sc__law_jar (fun vs H Q Ew h => by obtain ⟨a, ns, t, rfl, _⟩ := h; rfl) (fun cdv A outer s H vs Q Ew hr h => ?_)
  obtain ⟨a, ns, t, rfl, hS, h0, h1, k⟩ := h
  refine ⟨_, (pss_cons (ps_set (i := 2) sc__law_jar.nd rfl (Or.inl rfl) (pe_ifExp (pt_cmpR op_lt (pv 1) (pe_callB (k_len (K := K) rfl) (by rfl) T.z_len (by decide +kernel) (pa_cons (pv 0) pa_nil)) (nomark _)) (pe_ix (k_ix (K := K) rfl) (pv 0) (pv 1) (fun _ _ => rfl)) pe_int))
      (pss_one (ps_ret (pe_lst (pa_cons (pe_callB (call_maxQ rfl) (by rfl) T.z_max (by decide +kernel) (pa_cons pe_int (pa_cons (pe_op op_sub (pe_callB call_absQ (by rfl) T.z_abs (by decide +kernel) (pa_cons (pv 2) pa_nil)) (pe_op op_powW pe_int pe_int)) pa_nil))) (pa_cons (pe_op (k_addU (K := K) rfl) (pe_op (k_addU (K := K) rfl) (pe_op op_mulU (pe_op op_modN (pe_callTy call_intQ (by rfl) T.z_int (by decide +kernel) (pa_cons (pv 2) pa_nil)) (pe_op (k_addU (K := K) rfl) (pe_op op_powW pe_int pe_int) pe_int)) pe_int) (pe_op op_mulU pe_int (pv 1))) pe_int) (pa_cons pe_int pa_nil))))))), ?_⟩
  have hA : At none 0 [.scr K ns, .dat (.int t), .any] H H (L2.start N__law_jar [.ref a, .int t]) H H := ⟨⟨Same.refl _, fun p e => (by cases e), fun p e => (by cases e)⟩, start_sg (N := N__law_jar) (VS.cons (s := .scr K ns) ⟨a, rfl, hS⟩ (VS.cons (s := .dat (.int t)) (.int t) VS.nil)) (by show 2 ≤ 3; decide), Gr.refl (Same.refl _)⟩
  refine q_asg (n := 0) (c := 0) (Φ := fun x => ∃ v : Int, x = .int v) ?_ hA fun d σ1 Hk1 H1 ⟨v, e⟩ g1 a1 => ?_
  · by_cases ht : t < ns.length
    · have hv : atI ns t = some (ns[t.toNat]'(by omega)) := by
        have h2 := atI_nat (List.getElem?_eq_getElem (show t.toNat < ns.length by omega))
        rw [Int.toNat_of_nonneg h0] at h2; exact h2
      exact (e_if (b := true) (tb_is (tb_test (e_ltI (e_var rfl) (e_lenS rfl))) (decide_eq_true ht)) (fun _ => e_iS rfl (e_var rfl) hv) (fun h => by cases h)).imp fun d e => ⟨_, e⟩
    · exact (e_if (b := false) (d := .int 0) (tb_is (tb_test (e_ltI (e_var rfl) (e_lenS rfl))) (decide_eq_false ht)) (fun h => by cases h) (fun _ => e_int)).imp fun d e => ⟨_, e⟩
  · subst e
    obtain ⟨m1, em1⟩ : ∃ m : Int, m = (10 : Int) ^ (37 : Int).toNat + 139 := ⟨_, rfl⟩
    have hm1 : 0 < m1 ∧ m1 < 2 ^ 130 := by rw [em1]; exact ⟨by decide, by decide⟩
    have b1 := fmod_in (a := v) hm1.1
    obtain ⟨x, ex⟩ : ∃ x : Int, x = (if (if v < 0 then -v else v) - (10 : Int) ^ (18 : Int).toNat > 0 then (if v < 0 then -v else v) - (10 : Int) ^ (18 : Int).toNat else 0) := ⟨_, rfl⟩
    have E1 := e_max (q := none) (δ := [.scr K ns, .dat (.int t), .dat (.int v)]) (e_int (i := 0)) (e_subI (e_abs (e_var (i := 2) rfl)) (e_pow (e_int (i := 10)) (e_int (i := 18)) (pow_ok (a := 4) (by decide) (by omega) (by omega) (by omega))))
    rw [← ex] at E1
    have E2 := e_addI (q := none) (K := K) (δ := [.scr K ns, .dat (.int t), .dat (.int v)]) (e_addI (K := K) (e_mulI (e_mod (j := m1) (e_intI (e_var (i := 2) rfl)) (e_is (e_addI (K := K) (e_pow (e_int (i := 10)) (e_int (i := 37)) (pow_ok (a := 4) (by decide) (by omega) (by omega) (by omega))) (e_int (i := 139))) (by rw [em1])) (by omega)) (e_int (i := 83)) (wide_mul (a := 130) (b := 7) (by omega) (by decide) (by omega) (by omega) (by omega))) (e_mulI (e_int (i := 61)) (e_var (i := 1) rfl) (wide_mul (a := 6) (b := 11) (by decide) (by omega) (by omega) (by omega) (by omega)))) (e_int (i := 23))
    obtain ⟨y, ey⟩ : ∃ y : Int, y = v.fmod m1 * 83 + 61 * t + 23 := ⟨_, rfl⟩
    rw [← ey] at E2
    refine s_retLst (n := 0) (ds := [.int x, .int y, .int 0]) (ae_cons E1 (ae_cons E2 (ae_cons e_int ae_nil))) (by simp) a1 fun p vs Hk2 H2 g2 hp hv => ?_
    have hvs := DqAll.ints (ns := [x, y, 0]) hv
    subst hvs
    have gg := (g1.trans g2).trans (Gr.cell (q := none) (o := .lst [.int x, .int y, .int 0]) g2.a hp)
    refine k p _ (fun b o h => gg.s b o (fun z => by cases z) h) ?_ ⟨x, y, 0, upd_same, by omega, by omega, by omega, by omega⟩
    cases hH : H p with
    | none => rfl
    | some o => exact absurd hp ((g1.trans g2).t p (by rw [hH]; exact fun z => by cases z))
/-! ### _law_gather -/
def R__law_gather : RelX := fun _ sls c Φ => c = 0 ∧ ∃ cs : List (Int × Int), cs.length ≤ 100000 ∧ sls = [.dat (.list (pd cs))] ∧ Φ = fun x => x = led (gather cs)
theorem ok__law_gather (T : Tx K mg) : FnOk P w K mg base CX0 1 T.a__law_gather T.fd__law_gather P__law_gather (spX R__law_gather) := by
  refine fn_ok T.F__law_gather sc__law_gather (by decide) (fun q sls c Φ h => by obtain ⟨_, l, _, rfl, _⟩ := h; rfl) fun cdv A outer s B0 Ew hr => ?_
  have hu := hu_of hr
  refine ⟨_,
    (pss_cons (ps_set (i := 1) sc__law_gather.nd rfl (Or.inr rfl) pe_dnewK)
      (pss_cons (ps_for PassesOwn.never rfl (k_piList (K := K) rfl (pv 0)) (k_pgTup (K := K) (n := 2) rfl rfl (pgs_cons (pg_name (i := 2) sc__law_gather.nd rfl (Or.inl rfl)) (pgs_cons (pg_name (i := 3) sc__law_gather.nd rfl (Or.inl rfl)) pgs_nil))) (pss_one (ps_dput hu (pv 1) (pv 2) (pe_op (k_addU (K := K) rfl) (pe_dget2 hu (pv 1) (pv 2) pe_int ⟨rfl, rfl, rfl, rfl⟩) (pv 3)) rfl)))
      (pss_one (ps_ret (pe_callTy (k_tup (K := K) rfl) (by rfl) T.z_tuple (by decide +kernel) (pa_cons (pe_lc (own := [("key_here", 2)]) rfl sc__law_gather.nd (k_piList (K := K) rfl (pe_callB (call_sortedDIa rfl) (by rfl) T.z_sorted (by decide +kernel) (pa_cons (pv 1) pa_nil))) (blkOk_by (own := [("key_here", 2)]) (N := N__law_gather) (sc := defScope s__law_gather) (by decide +kernel)) (fun _ _ _ _ _ => (pg_name (i := 2) sc__law_gather.nd rfl (Or.inl rfl))) (fun _ _ _ _ _ => (pts_one (pt_cmpR (k_neD (K := K) rfl hr.units) (pe_dget hu (pv 1) (pv 2) (fun _ _ => rfl)) pe_int (nomark _)))) (fun _ _ _ _ _ => (Cr.pe_tup (pa_cons (pv 2) (pa_cons (pe_dget hu (pv 1) (pv 2) (fun _ _ => rfl)) pa_nil))))) pa_nil)))))), fun q sls n c Φ A0 σ Q hR hA fin => ?_⟩
  obtain ⟨rfl, l, hl, rfl, rfl⟩ := hR
  exact read_summed l hl hA fin
/-! ### _law_pick -/
abbrev R__law_pick : RelX := R_pick
theorem ok__law_pick (T : Tx K mg) : FnOk P w K mg base CX0 1 T.a__law_pick T.fd__law_pick P__law_pick (spX R__law_pick) := by
  refine fn_ok T.F__law_pick sc__law_pick (by decide) (fun q sls c Φ h => by obtain ⟨_, p, b, _, _, _, rfl, _⟩ := h; rfl) fun cdv A outer s B0 Ew hr => ⟨_,
    (pss_cons (ps_if (pt_cmpR op_gt (pe_ix (k_ix (K := K) rfl) (pv 0) pe_int (fun _ _ => rfl)) pe_int (nomark _)) (pss_cons (ps_set (i := 2) sc__law_pick.nd rfl (Or.inl rfl) (pe_op op_modN (pe_callTy call_intQ (by rfl) T.z_int (by decide +kernel) (pa_cons (pe_ix (k_ix (K := K) rfl) (pv 0) pe_int (fun _ _ => rfl)) pa_nil)) (pv 1)))
      (pss_cons (ps_asg (pe_op op_fdivW (pe_ix (k_ix (K := K) rfl) (pv 0) pe_int (fun _ _ => rfl)) (pv 1)) (pg_sub (pv 0) pe_int set_list))
      (pss_one (ps_ret (pv 2))))) pss_nil)
      (pss_cons (ps_asg (pe_op (k_addU (K := K) rfl) (pe_ix (k_ix (K := K) rfl) (pv 0) pe_int (fun _ _ => rfl)) pe_int) (pg_sub (pv 0) pe_int set_list))
      (pss_cons (ps_set (i := 3) sc__law_pick.nd rfl (Or.inl rfl) (pe_op op_modN (pe_op op_powW (pe_callTy call_intQ (by rfl) T.z_int (by decide +kernel) (pa_cons (pe_op (k_addU (K := K) rfl) (pe_ix (k_ix (K := K) rfl) (pv 0) pe_int (fun _ _ => rfl)) (pe_op op_mulU pe_int (pe_ix (k_ix (K := K) rfl) (pv 0) pe_int (fun _ _ => rfl)))) pa_nil)) pe_int) (pe_op (k_addU (K := K) rfl) (pe_op op_powW pe_int pe_int) pe_int)))
      (pss_cons (ps_set (i := 3) sc__law_pick.nd rfl (Or.inl rfl) (pe_op op_modN (pe_op op_powW (pe_callTy call_intQ (by rfl) T.z_int (by decide +kernel) (pa_cons (pe_op (k_addU (K := K) rfl) (pv 3) (pe_op op_mulU pe_int (pe_ix (k_ix (K := K) rfl) (pv 0) pe_int (fun _ _ => rfl)))) pa_nil)) pe_int) (pe_op (k_addU (K := K) rfl) (pe_op op_powW pe_int pe_int) pe_int)))
      (pss_one (ps_ret (pe_op op_modN (pe_op op_fdivW (pv 3) pe_int) (pv 1)))))))), fun q sls n c Φ A0 σ Q hR hA fin => ?_⟩
  obtain ⟨rfl, p, b, rfl, hb, hb2, rfl, rfl⟩ := hR
  exact read_pick hb hb2 hA fin
/-! ### _law_amount -/
def R__law_amount : RelX := fun q sls c Φ => c = 1 ∧ ∃ (p : Addr) (m : Int), q = some p ∧ 1 ≤ m ∧ m < 2 ^ 60 ∧ sls = [.adr p, .dat (.int m)] ∧ Φ = IntP fun i => i ≠ 0 ∧ -m ≤ i ∧ i ≤ m
theorem ok__law_amount (T : Tx K mg) : FnOk P w K mg base CX0 2 T.a__law_amount T.fd__law_amount P__law_amount (spX R__law_amount) := by
  have G__law_pick := ok__law_pick (P := P) (w := w) (base := base) T
  refine fn_ok T.F__law_amount sc__law_amount (by decide) (fun q sls c Φ h => by obtain ⟨_, p, m, _, _, _, rfl, _⟩ := h; rfl) fun cdv A outer s B0 Ew hr => ⟨_,
    (pss_cons (ps_set (i := 2) sc__law_amount.nd rfl (Or.inl rfl) (pe_op op_sub (pe_call G__law_pick (hr.mono (by decide)) (by rfl) T.m__law_pick T.F__law_pick.kp T.b__law_pick .nil pass0 (pa_cons (pv 0) (pa_cons (pe_op op_mulU pe_int (pv 1)) pa_nil))) (pv 1)))
      (pss_one (ps_ret (pe_ifExp (pt_cmpR op_ge (pv 2) pe_int (nomark _)) (pe_op (k_addU (K := K) rfl) (pv 2) pe_int) (pv 2))))), fun q sls n c Φ A0 σ Q hR hA fin => ?_⟩
  obtain ⟨rfl, p, m, rfl, h1, h2, rfl, rfl⟩ := hR
  refine q_asg (n := n) (c := 1) ((j_subI (Φ := IntP fun i => -m ≤ i ∧ i < m) (j_pick rfl (e_mulI e_int (e_var rfl) (wide_mul (a := 2) (b := 60) (by decide) (by omega) (by omega) (by omega) (by omega))) (by omega) (by omega)) (e_var rfl).intP fun i j hi hj => ⟨i - j, by omega, rfl⟩).cost (by omega)) hA fun d σ1 Hk1 H1 ⟨i, hi, ed⟩ g1 a1 => ?_
  subst ed
  by_cases h0 : 0 ≤ i
  · exact s_ret (n := n) (c := 0) (Φ := fun x => x = .int (i + 1)) (e_if (b := true) (tb_is (tb_test (e_geI (e_var rfl) e_int)) (decide_eq_true h0)) (fun _ => e_addI (e_var rfl) e_int) (fun h => by cases h)) a1 (by omega) fin fun d e => ⟨i + 1, by omega, e⟩
  · exact s_ret (n := n) (c := 0) (Φ := fun x => x = .int i) (e_if (b := false) (tb_is (tb_test (e_geI (e_var rfl) e_int)) (decide_eq_false h0)) (fun h => by cases h) (fun _ => e_var rfl)) a1 (by omega) fin fun d e => ⟨i, by omega, e⟩
/-! ### _law_book -/
def R__law_book : RelX := fun q sls c Φ => c = 1000 ∧ ∃ (p : Addr) (m r a : Int), q = some p ∧ 0 ≤ m ∧ m ≤ 400 ∧ 0 ≤ r ∧ r < 2 ^ 50 ∧ 1 ≤ a ∧ a < 2 ^ 50 ∧ sls = [.adr p, .dat (.int m), .dat (.int r), .dat (.int a)] ∧ Φ = fun d => ∃ l, Led l ∧ (l.length : Int) ≤ m ∧ (∀ x ∈ l, -r ≤ x.1 ∧ x.1 ≤ r) ∧ Bd 60 l ∧ d = led l
theorem j_bookS {δ : List Sl} {i : Nat} {p : Addr} {E0 : XK} {tm tr ta : TE} {cm cr ca : Nat} {M : Int} (hi : δ[i]? = some (.adr p)) (hM : M ≤ 400) (hm : J (some p) δ tm cm (IntP fun x => 0 ≤ x ∧ x ≤ M)) (hr : J (some p) δ tr cr (IntP fun x => 0 ≤ x ∧ x < 10 ^ 15)) (ha : J (some p) δ ta ca (IntP fun x => 1 ≤ x ∧ x < 10 ^ 15)) :
    J (some p) δ (tCall (spX R__law_book) [] E0 (tCons (tVar i) (tCons tm (tCons tr (tCons ta tNil))))) (1000 + (ca + cr + cm)) (fun d => ∃ l, Led l ∧ Kb 50 60 l ∧ (l.length : Int) ≤ M ∧ d = led l) :=
  j_callD (R := R__law_book) (c := 1000) (c1 := ca + cr + cm) (Φa := fun sls => ∃ m r a : Int, (0 ≤ m ∧ m ≤ M) ∧ (0 ≤ r ∧ r < 10 ^ 15) ∧ (1 ≤ a ∧ a < 10 ^ 15) ∧ sls = [.adr p, .dat (.int m), .dat (.int r), .dat (.int a)]) (aj_adr (Φr := fun sls => ∃ m r a : Int, (0 ≤ m ∧ m ≤ M) ∧ (0 ≤ r ∧ r < 10 ^ 15) ∧ (1 ≤ a ∧ a < 10 ^ 15) ∧ sls = [.dat (.int m), .dat (.int r), .dat (.int a)]) hi (aj_int (c1 := cm) (c2 := ca + cr) (Φr := fun sls => ∃ r a : Int, (0 ≤ r ∧ r < 10 ^ 15) ∧ (1 ≤ a ∧ a < 10 ^ 15) ∧ sls = [.dat (.int r), .dat (.int a)]) hm (aj_int (c1 := cr) (c2 := ca) (Φr := fun sls => ∃ a : Int, (1 ≤ a ∧ a < 10 ^ 15) ∧ sls = [.dat (.int a)]) hr ((aj_int (c1 := ca) (c2 := 0) (Φr := fun sls => sls = []) ha ae_nil fun i sls hi e => ⟨i, hi, by rw [e]⟩).cost (by omega)) fun i sls hi ⟨b, hb, e⟩ => ⟨i, b, hi, hb, by rw [e]⟩) fun i sls hi ⟨x, b, hx, hb, e⟩ => ⟨i, x, b, hi, hx, hb, by rw [e]⟩) fun sls ⟨i, x, b, hi, hx, hb, e⟩ => ⟨i, x, b, hi, hx, hb, by rw [e]⟩) fun sls ⟨i, x, b, hi, hx, hb, e⟩ => ⟨_, ⟨rfl, p, i, x, b, rfl, hi.1, by omega, by omega, by omega, by omega, by omega, e, rfl⟩, fun d ⟨l, h1, h2, h3, h4, h5⟩ => ⟨l, h1, fun y hy => ⟨by have z := h3 y hy; omega, (h4 y hy).2⟩, by omega, h5⟩⟩
theorem ok__law_book (T : Tx K mg) : FnOk P w K mg base CX0 3 T.a__law_book T.fd__law_book P__law_book (spX R__law_book) := by
  have G__law_amount := ok__law_amount (P := P) (w := w) (base := base) T
  have G__law_gather := ok__law_gather (P := P) (w := w) (base := base) T
  have G__law_pick := ok__law_pick (P := P) (w := w) (base := base) T
  refine fn_ok T.F__law_book sc__law_book (by decide) (fun q sls c Φ h => by obtain ⟨_, p, m, r, a, _, _, _, _, _, _, _, rfl, _⟩ := h; rfl) fun cdv A outer s B0 Ew hr => ⟨_,
    (pss_cons (ps_par (i := 4) (j := 5) (by rfl) sc__law_book.nd rfl rfl (by decide) rfl rfl (pa_cons (pe_lst pa_nil) (pa_cons (pe_ifExp (pt_cmpR op_gt (pv 3) (pe_op op_powW pe_int pe_int) (nomark _)) (pe_op op_fdivW (pv 3) pe_int) (pv 3)) pa_nil)) (by rfl))
      (pss_cons (ps_for PassesOwn.never rfl (pi_range1 rfl T.z_range (pa_cons (pe_call G__law_pick (hr.mono (by decide)) (by rfl) T.m__law_pick T.F__law_pick.kp T.b__law_pick .nil pass0 (pa_cons (pv 0) (pa_cons (pe_op (k_addU (K := K) rfl) (pv 1) pe_int) pa_nil))) pa_nil)) (pg_name (i := 6) sc__law_book.nd rfl (Or.inl rfl)) (pss_one (ps_expr (pe_bm PySem.F.plainAttrs_list PySem.F.slot_list_append PySem.F.type_list_append mt_append (pv 4) (pa_cons (Cr.pe_tup (pa_cons (pe_op op_sub (pe_call G__law_pick (hr.mono (by decide)) (by rfl) T.m__law_pick T.F__law_pick.kp T.b__law_pick .nil pass0 (pa_cons (pv 0) (pa_cons (pe_op (k_addU (K := K) rfl) (pe_op op_mulU pe_int (pv 2)) pe_int) pa_nil))) (pv 2)) (pa_cons (pe_call G__law_amount (hr.mono (by decide)) (by rfl) T.m__law_amount T.F__law_amount.kp T.b__law_amount .nil pass0 (pa_cons (pv 0) (pa_cons (pv 5) pa_nil))) pa_nil))) pa_nil)))))
      (pss_one (ps_ret (pe_call G__law_gather (hr.mono (by decide)) (by rfl) T.m__law_gather T.F__law_gather.kp T.b__law_gather .nil pass0 (pa_cons (pv 4) pa_nil)))))), fun q sls n c Φ A0 σ Q hR hA fin => ?_⟩
  obtain ⟨rfl, p, m, r, a, rfl, hm0, hm, hr0, hr2, ha0, ha, rfl, rfl⟩ := hR
  refine q_parNew (n := n + 1000) (c := 0) (Φ := fun x => ∃ z : Int, (1 ≤ z ∧ z ≤ a) ∧ x = .int z) ?_ hA fun l d σ1 Hk1 H1 ⟨z, hz, ed⟩ a1 cl => ?_
  · by_cases hb : a > (10 : Int) ^ (9 : Int).toNat
    · have hb' : (1000000000 : Int) < a := hb
      exact (e_if (b := true) (d := .int (a / 64)) (tb_is (tb_test (e_gtI (e_var rfl) (e_pow e_int e_int (pow_ok (a := 4) (by decide) (by omega) (by omega) (by omega))))) (decide_eq_true hb)) (fun _ => e_fdiv (e_var rfl) e_int (wide_div (b := 8) (by omega) (by decide) (by omega) (by omega))) (fun h => by cases h)).imp fun d e => ⟨a / 64, by omega, e⟩
    · exact (e_if (b := false) (d := .int a) (tb_is (tb_test (e_gtI (e_var rfl) (e_pow e_int e_int (pow_ok (a := 4) (by decide) (by omega) (by omega) (by omega))))) (decide_eq_false hb)) (fun h => by cases h) (fun _ => e_var rfl)).imp fun d e => ⟨a, by omega, e⟩
  subst ed
  refine q_for (n := n + 990) (c := 1) (Ψ := fun items => ∃ k : Nat, (k : Int) ≤ m ∧ items = rng 0 k) (ij_rng1 (j_pick rfl (e_addI (e_var rfl) e_int) (by omega) (by omega)) fun j hj => ⟨by omega, j.toNat, by omega, rfl⟩) (a1.mono (by omega)) fun items HkW H2 ⟨k, hk, ei⟩ g2 a2 => ?_
  subst ei
  have cl2 := cl.go g2
  refine ⟨fun i σ' Hk' H' => Same HkW Hk' ∧ i ≤ k ∧ ∃ cs : List (Int × Int), cs.length = i ∧ (∀ x ∈ cs, -r ≤ x.1 ∧ x.1 ≤ r) ∧ Amt a cs ∧ At (some p) (n + 2 * (k - i)) [.adr p, .dat (.int m), .dat (.int r), .dat (.int a), .adr l, .dat (.int z), .any] A0 B0 σ' Hk' H' ∧ Cell (some p) B0 Hk' H' l (pd cs), ⟨Same.refl _, Nat.zero_le _, [], rfl, by simp, (by intro x hx; cases hx), a2.mono (by omega), cl2⟩, fun i σ' Hk' H' h => ⟨h.1, by obtain ⟨_, _, cs, _, _, _, st, _⟩ := h; exact st.ok.a⟩, ?_, ?_⟩
  · rintro i d σ' Hk' H' ed ⟨h2, hik, cs, hlen, hkeys, hamt, st, cl3⟩ v Hk2 H3 g3 dv
    obtain ⟨hi, rfl⟩ := rng_get' ed
    refine gb_name (vs := [6]) (by simp) σ' Hk2 H3 v (st.sg.mono g3.k) g3.a dv _ fun σ2 sg2 _ _ => ?_
    have st2 : At (some p) (n + 2 * (k - i)) _ A0 B0 σ2 Hk2 H3 := ⟨st.ok.go g3, sg2, st.gr.trans g3.none_to⟩
    have cl4 := cl3.go g3.none_to
    refine s_append (n := n + 2 * (k - (i + 1))) (c := 2) (Φ := fun x => ∃ y : Int × Int, (-r ≤ y.1 ∧ y.1 ≤ r) ∧ (-a ≤ y.2 ∧ y.2 ≤ a) ∧ x = pr y) ?_ (st2.mono (by omega)) cl4 rfl (by rw [pd_len]; omega) fun d Hk3 H4 ⟨y, hy1, hy2, ed⟩ s3 a3 cl5 => ⟨Hk3, (h2.trans g3.k).trans s3, by omega, cs ++ [y], ?_, ?_, ?_, a3.forget 6, ?_⟩
    · refine (j_tup (c := 2) (Ψ := fun ds => ∃ y : Int × Int, (-r ≤ y.1 ∧ y.1 ≤ r) ∧ (-a ≤ y.2 ∧ y.2 ≤ a) ∧ ds = [.int y.1, .int y.2]) ?_).imp fun d ⟨ds, ⟨y, h1, h2, e⟩, e2⟩ => ⟨y, h1, h2, by rw [e2, e]; rfl⟩
      refine ((aj_cons (c1 := 1) (c2 := 1) (Φ1 := IntP fun i => -r ≤ i ∧ i ≤ r) (Φr := fun sls => ∃ y : Int, (-a ≤ y ∧ y ≤ a) ∧ sls = [.dat (.int y)]) (Φ' := fun sls => ∃ y : Int × Int, (-r ≤ y.1 ∧ y.1 ≤ r) ∧ (-a ≤ y.2 ∧ y.2 ≤ a) ∧ sls = [.dat (.int y.1), .dat (.int y.2)]) ?_ ?_ fun d sls ⟨i, hi, e⟩ ⟨y, hy, e2⟩ => ⟨(i, y), hi, hy, by rw [e, e2]⟩)).imp fun sls ⟨y, h1, h2, e⟩ => ⟨[.int y.1, .int y.2], e, by simp, y, h1, h2, rfl⟩
      · exact (j_subI (j_pick rfl (e_addI (e_mulI e_int (e_var rfl) (wide_mul (a := 2) (b := 50) (by decide) (by omega) (by omega) (by omega) (by omega))) e_int) (by omega) (by omega)) (e_var rfl).intP fun i j hi hj => ⟨i - j, by omega, rfl⟩).cost (by omega)
      · refine ((aj_cons (c1 := 1) (c2 := 0) (Φ1 := IntP fun i => i ≠ 0 ∧ -z ≤ i ∧ i ≤ z) (j_call (R := R__law_amount) (ae_adr rfl (ae_cons (e_var rfl) ae_nil)) fun sls e => ⟨rfl, p, z, rfl, hz.1, by omega, e, rfl⟩) ae_nil fun d sls ⟨i, hi, e⟩ e2 => ⟨i, by omega, by rw [e, e2]⟩)).cost (by omega)
    · rw [List.length_append, hlen]; rfl
    · intro x hx
      rcases List.mem_append.mp hx with h | h
      · exact hkeys x h
      · rw [List.mem_singleton.mp h]; exact hy1
    · intro x hx
      rcases List.mem_append.mp hx with h | h
      · exact hamt x h
      · rw [List.mem_singleton.mp h]; exact hy2
    · rw [ed] at cl5
      show Cell (some p) B0 Hk3 H4 l ((cs ++ [y]).map pr)
      rw [List.map_append]; exact cl5
  · rintro σ' Hk' H' ⟨h2, _, cs, hlen, hkeys, hamt, st, cl3⟩
    rw [rng_len] at hlen
    obtain ⟨Hk2, s2, st2⟩ := st.freeze (i := 4) cl3 rfl
    refine s_ret (n := n) (c := 0) (Φ := fun x => x = led (gather cs)) (j_call (R := R__law_gather) (ae_cons (e_var rfl) ae_nil) fun sls e => ⟨rfl, cs, by omega, e, rfl⟩) st2 (by omega) fin fun d e => ⟨gather cs, gather_led cs, ?_, fun x hx => gather_keys (P := fun k => -r ≤ k ∧ k ≤ r) hkeys x hx, fun x hx => ?_, e⟩
    · have := gather_len cs; omega
    · have hk1 := gather_keys (P := fun k => -r ≤ k ∧ k ≤ r) hkeys x hx
      have hk2 := (gather_mem cs x).mp hx
      have hk3 := tot_bound (by omega) hamt x.1
      rw [← hk2.1] at hk3
      have hk4 : a * (cs.length : Int) ≤ 2 ^ 50 * 400 := Int.mul_le_mul (by omega) (by omega) (by omega) (by omega)
      constructor <;> omega
/-! ### _law_any -/
def R__law_any : RelX := fun q sls c Φ => c = 70 ∧ ∃ (p : Addr) (m : Int), q = some p ∧ 1 ≤ m ∧ m ≤ 30 ∧ sls = [.adr p, .dat (.int m)] ∧ Φ = IntP fun x => x.natAbs < 2 ^ 3100
theorem ok__law_any (T : Tx K mg) : FnOk P w K mg base CX0 2 T.a__law_any T.fd__law_any P__law_any (spX R__law_any) := by
  have G__law_pick := ok__law_pick (P := P) (w := w) (base := base) T
  refine fn_ok T.F__law_any sc__law_any (by decide) (fun q sls c Φ h => by obtain ⟨_, p, m, _, _, _, rfl, _⟩ := h; rfl) fun cdv A outer s B0 Ew hr => ⟨_,
    (pss_cons (ps_set (i := 2) sc__law_any.nd rfl (Or.inl rfl) pe_int)
      (pss_cons (ps_for PassesOwn.never rfl (pi_range1 rfl T.z_range (pa_cons (pe_op (k_addU (K := K) rfl) pe_int (pe_call G__law_pick (hr.mono (by decide)) (by rfl) T.m__law_pick T.F__law_pick.kp T.b__law_pick .nil pass0 (pa_cons (pv 0) (pa_cons (pv 1) pa_nil)))) pa_nil)) (pg_name (i := 3) sc__law_any.nd rfl (Or.inl rfl)) (pss_one (ps_set (i := 2) sc__law_any.nd rfl (Or.inl rfl) (pe_op (k_addU (K := K) rfl) (pe_op op_mulU (pv 2) (pe_op op_powW pe_int pe_int)) (pe_call G__law_pick (hr.mono (by decide)) (by rfl) T.m__law_pick T.F__law_pick.kp T.b__law_pick .nil pass0 (pa_cons (pv 0) (pa_cons (pe_ix (k_ix (K := K) rfl) (pe_lst (pa_cons pe_int (pa_cons (pe_op op_powW pe_int pe_int) pa_nil))) (pe_call G__law_pick (hr.mono (by decide)) (by rfl) T.m__law_pick T.F__law_pick.kp T.b__law_pick .nil pass0 (pa_cons (pv 0) (pa_cons pe_int pa_nil))) (fun _ _ => rfl)) pa_nil)))))))
      (pss_one (ps_ret (pe_op op_mulU (pv 2) (pe_ix (k_ix (K := K) rfl) (pe_lst (pa_cons pe_int (pa_cons pe_int (pa_cons (pe_un un_neg pe_int) pa_nil)))) (pe_call G__law_pick (hr.mono (by decide)) (by rfl) T.m__law_pick T.F__law_pick.kp T.b__law_pick .nil pass0 (pa_cons (pv 0) (pa_cons pe_int pa_nil))) (fun _ _ => rfl))))))), fun q sls n c Φ A0 σ Q hR hA fin => ?_⟩
  obtain ⟨rfl, p, m, rfl, hm1, hm2, rfl, rfl⟩ := hR
  obtain ⟨T, eT⟩ : ∃ T : Int, T = (10 : Int) ^ (30 : Int).toNat := ⟨_, rfl⟩
  have hT : T = 1000000000000000000000000000000 := by rw [eT]; decide
  refine q_asgE e_int hA fun σ1 Hk1 H1 g1 a1 => ?_
  refine q_for (n := n + 62) (c := 1) (Ψ := fun items => ∃ k : Nat, k ≤ 30 ∧ items = rng 0 k) ((ij_rng1 (j_addI (Φ := IntP fun x => 1 ≤ x ∧ x ≤ 30) e_int.intP (j_pick rfl (e_var rfl) (by omega) (by omega)) fun i j hi hj => ⟨i + j, by omega, rfl⟩) fun j hj => ⟨by omega, j.toNat, by omega, rfl⟩)) (a1.mono (by omega)) fun items HkW H2 ⟨k, hk, ei⟩ g2 a2 => ?_
  subst ei
  refine ⟨fun i σ' Hk' H' => Same HkW Hk' ∧ ∃ (e : Nat) (v : Int), e + 2 * i = n + 62 ∧ i ≤ k ∧ v.natAbs < 2 ^ (101 * i) ∧ At (some p) e [.adr p, .dat (.int m), .dat (.int v), .any] A0 B0 σ' Hk' H', ⟨Same.refl _, n + 62, 0, by omega, by omega, by simp, a2⟩, fun i σ' Hk' H' h => ⟨h.1, by obtain ⟨_, e, v, _, _, _, st⟩ := h; exact st.ok.a⟩, ?_, ?_⟩
  · rintro i d σ' Hk' H' ed ⟨h2, e, u, he, hik, hu, st⟩ v Hk2 H3 g3 dv
    obtain ⟨hi, rfl⟩ := rng_get' ed
    refine gb_name (vs := [3]) (by simp) σ' Hk2 H3 v (st.sg.mono g3.k) g3.a dv _ fun σ2 sg2 _ _ => ?_
    obtain ⟨e1, ee1⟩ : ∃ e1, e = e1 + 2 := ⟨e - 2, by omega⟩
    have st2 : At (some p) e _ A0 B0 σ2 Hk2 H3 := ⟨st.ok.go g3, sg2, st.gr.trans g3.none_to⟩
    have ep : (E (some p) [.adr p, .dat (.int m), .dat (.int u), .dat (.int (0 + (i : Int)))] (tOp (rI CPowW fun i j => .int (i ^ j.toNat)) (tC (.int 10)) (tC (.int 30))) (.int T)) := e_is (e_pow e_int e_int (pow_ok (a := 4) (by decide) (by omega) (by omega) (by omega))) (by rw [eT])
    have jm : J (some p) [.adr p, .dat (.int m), .dat (.int u), .dat (.int (0 + (i : Int)))] (tOp (rIx K) (tLst (tCons (tC (.int 4)) (tCons (tOp (rI CPowW fun i j => .int (i ^ j.toNat)) (tC (.int 10)) (tC (.int 30))) tNil))) (tCall (spX R_pick) [] Ew (tCons (tVar 0) (tCons (tC (.int 2)) tNil)))) 1 (IntP fun x => 1 ≤ x ∧ x ≤ T) :=
      (j_menu (c := 0) (ci := 1) (P := fun x => 1 ≤ x ∧ x ≤ T) (aji_cons (e_int.is (by omega)) (aji_cons (ep.is (by omega)) aji_nil)) (by omega) (j_pick rfl e_int (by omega) (by omega))).cost (by omega)
    have jp := (j_pickJ (E0 := Ew) (p := p) (i := 0) rfl jm (fun b hb => ⟨by omega, by omega⟩)).intImp (P1 := fun x => 0 ≤ x ∧ x < T) (Nat.le_refl _) fun x ⟨b, hb, hx⟩ => by omega
    refine s_asg (n := e1) (c := 2) (Φ := IntP fun x => x.natAbs < 2 ^ (101 * (i + 1))) ((j_addI (P1 := fun x => x = u * T) (P2 := fun x => 0 ≤ x ∧ x < T) (e_mulI (e_var rfl) ep (wide_mul (a := 101 * i + 1) (b := 100) (Nat.lt_of_lt_of_le hu (Nat.pow_le_pow_right (by decide) (by omega))) (by rw [hT]; decide) (by omega) (by omega) (by omega))).intP jp fun x y hx hy => ⟨x + y, ?_, rfl⟩).cost (by omega)) (st2.mono (by omega)) fun d σ3 Hk3 H4 ⟨z, hz, ed⟩ g4 a4 => ⟨Hk3, (h2.trans g3.k).trans g4.k, e1, z, by omega, by omega, hz, ?_⟩
    · subst ed; exact a4.forget 3
    · rw [hx]
      have h1 := Int.natAbs_add_le (u * T) y
      rw [Int.natAbs_mul] at h1
      have h3 : (2 : Nat) ^ (101 * (i + 1)) = 2 ^ (101 * i) * 2 ^ 101 := by rw [Nat.mul_add, Nat.mul_one, Nat.pow_add]
      rw [h3]
      have hN : T.natAbs ≤ 2 ^ 101 := by rw [hT]; decide
      have h6 : y.natAbs < T.natAbs := by omega
      have h4 : (u.natAbs + 1) * T.natAbs ≤ 2 ^ (101 * i) * 2 ^ 101 := Nat.mul_le_mul hu hN
      rw [Nat.add_mul, Nat.one_mul] at h4
      generalize u.natAbs * T.natAbs = s at h1 h4
      generalize 2 ^ (101 * i) * 2 ^ 101 = w at h4
      clear hN
      generalize T.natAbs = t at h4 h6
      clear hT eT
      omega
  · rintro σ' Hk' H' ⟨h2, e, u, he, hik, hu, st⟩
    rw [rng_len] at he hu
    have hu2 : u.natAbs < 2 ^ 3099 := Nat.lt_of_lt_of_le hu (Nat.pow_le_pow_right (by decide) (by omega))
    have h3 : (2 : Nat) ^ 3099 < 2 ^ 3100 := Nat.pow_lt_pow_right (by decide) (by omega)
    have hw : CMulW u 1 ∧ CMulW u (-1) := ⟨wide_mul hu2 (b := 2) (by decide) (by omega) (by omega) (by omega), wide_mul hu2 (b := 2) (by decide) (by omega) (by omega) (by omega)⟩
    have hb : ∀ x : Int, x = u ∨ x = -u → x.natAbs < 2 ^ 3100 := fun x hx => by
      rcases hx with e | e
      · rw [e]; exact Nat.lt_trans hu2 h3
      · rw [e, Int.natAbs_neg]; exact Nat.lt_trans hu2 h3
    clear h3 hu hu2
    refine s_ret (n := n) (c := 1) (Φ := IntP fun x => x = u ∨ x = -u) ((j_mulI (c1 := 0) (c2 := 1) (P1 := fun x => x = u) (P2 := fun x => x = 1 ∨ x = -1) (e_var rfl).intP ((j_menu (P := fun x => x = 1 ∨ x = -1) (aji_cons (e_int.is (by omega)) (aji_cons (e_int.is (by omega)) (aji_cons ((e_is (d1 := .int (-1)) (e_un e_int) rfl).is (by omega)) aji_nil))) (by omega) (j_pick rfl e_int (by omega) (by omega))).cost (by omega)) (fun i j hi hj => by subst hi; rcases hj with e | e <;> subst e; exact hw.1; exact hw.2) fun i j hi hj => ⟨i * j, by subst hi; rcases hj with e | e <;> subst e <;> simp, rfl⟩).cost (by omega)) st (by omega) fin fun d ⟨x, hx, ed⟩ => ⟨x, hb x hx, ed⟩
/-! ### _law_numbers -/
def R__law_numbers : RelX := fun q sls c Φ => c = 2800 ∧ ∃ (p : Addr) (s m : Int), q = some p ∧ 1 ≤ s ∧ s ≤ 40 ∧ 1 ≤ m ∧ m ≤ 30 ∧ sls = [.adr p, .dat (.int s), .dat (.int m)] ∧ Φ = fun d => ∃ f : List Int, (f.length : Int) = s ∧ CB 3100 f ∧ d = pol f
theorem ok__law_numbers (T : Tx K mg) : FnOk P w K mg base CX0 3 T.a__law_numbers T.fd__law_numbers P__law_numbers (spX R__law_numbers) := by
  have G__law_any := ok__law_any (P := P) (w := w) (base := base) T
  refine fn_ok T.F__law_numbers sc__law_numbers (by decide) (fun q sls c Φ h => by obtain ⟨_, p, s, m, _, _, _, _, _, rfl, _⟩ := h; rfl) fun cdv A outer s B0 Ew hr => ⟨_,
    (pss_one (ps_ret (pe_callTy (k_tup (K := K) rfl) (by rfl) T.z_tuple (by decide +kernel) (pa_cons (pe_lc (own := [("k", 3)]) rfl sc__law_numbers.nd (pi_range1 rfl T.z_range (pa_cons (pv 1) pa_nil)) (blkOk_by (own := [("k", 3)]) (N := N__law_numbers) (sc := defScope s__law_numbers) (by decide +kernel)) (fun _ _ _ _ _ => (pg_name (i := 3) sc__law_numbers.nd rfl (Or.inl rfl))) (fun _ _ _ _ _ => pts_nil) (fun _ _ _ _ _ => (pe_call G__law_any (hr.mono (by decide)) (by rfl) T.m__law_any T.F__law_any.kp T.b__law_any .nil pass0 (pa_cons (pv 0) (pa_cons (pv 2) pa_nil))))) pa_nil)))), fun q sls n c Φ A0 σ Q hR hA fin => ?_⟩
  obtain ⟨rfl, p, s, m, rfl, hs1, hs2, hm1, hm2, rfl, rfl⟩ := hR
  refine s_ret (n := n) (c := 2800) (Φ := fun d => ∃ f : List Int, (f.length : Int) = s ∧ CB 3100 f ∧ d = pol f) (j_cb1 (Ψ := fun d => ∃ f : List Int, (f.length : Int) = s ∧ CB 3100 f ∧ d = .list (f.map .int)) ?_ fun d ⟨f, h1, h2, e⟩ => by rw [e]; exact rc_tupL ⟨f, h1, h2, rfl⟩) hA (by omega) fin fun d e => e
  refine (j_lcD (c := 0) (c1 := 70) (N := 40) (emb := fun i : Nat => PyData.int (0 + (i : Int))) (vs := [3]) (Ψ := fun xs : List Nat => xs.length = s.toNat) (Φ := fun d => ∃ v : Int, v.natAbs < 2 ^ 3100 ∧ d = .int v) (ij_rng1 (e_var rfl).intP fun j hj => ⟨by omega, List.range j.toNat, by rw [List.length_range, hj], rfl⟩) (fun xs h => by omega) (by omega) fun xs hx i hi => ⟨_, gb_name (by simp), j_call (R := R__law_any) (c := 70) (c1 := 0) (ae_adr rfl (ae_cons (e_var rfl) ae_nil)) fun sls e => ⟨rfl, p, m, rfl, hm1, hm2, e, rfl⟩⟩).imp fun d ⟨xs, ds, h1, h2, h3, h4⟩ => ?_
  obtain ⟨r, e, hr⟩ := ints_of h3
  exact ⟨r, by rw [e, List.length_map] at h2; omega, hr, by rw [h4, e]⟩
/-! ### _law_wide -/
def R__law_wide : RelX := fun q sls c Φ => c = 1 ∧ ∃ (p : Addr), q = some p ∧ sls = [.adr p] ∧ Φ = IntP fun x => 3 ≤ x ∧ x < 10 ^ 15
theorem j_wideS {δ : List Sl} {i : Nat} {p : Addr} {E0 : XK} (hi : δ[i]? = some (.adr p)) : J (some p) δ (tCall (spX R__law_wide) [] E0 (tCons (tVar i) tNil)) 1 (IntP fun x => 3 ≤ x ∧ x < 10 ^ 15) :=
  j_call (R := R__law_wide) (c := 1) (c1 := 0) (ae_adr hi ae_nil) fun sls e => ⟨rfl, p, rfl, e, rfl⟩
theorem ok__law_wide (T : Tx K mg) : FnOk P w K mg base CX0 2 T.a__law_wide T.fd__law_wide P__law_wide (spX R__law_wide) := by
  have G__law_pick := ok__law_pick (P := P) (w := w) (base := base) T
  refine fn_ok T.F__law_wide sc__law_wide (by decide) (fun q sls c Φ h => by obtain ⟨_, p, _, rfl, _⟩ := h; rfl) fun cdv A outer s B0 Ew hr => ⟨_,
    (pss_one (ps_ret (pe_ix (k_ix (K := K) rfl) (pe_lst (pa_cons pe_int (pa_cons pe_int (pa_cons (pe_op op_sub (pe_op op_powW pe_int pe_int) pe_int) pa_nil)))) (pe_call G__law_pick (hr.mono (by decide)) (by rfl) T.m__law_pick T.F__law_pick.kp T.b__law_pick .nil pass0 (pa_cons (pv 0) (pa_cons pe_int pa_nil))) (fun _ _ => rfl)))), fun q sls n c Φ A0 σ Q hR hA fin => ?_⟩
  obtain ⟨rfl, p, rfl, rfl, rfl⟩ := hR
  exact s_ret (n := n) (c := 1) ((j_menu (P := fun x => 3 ≤ x ∧ x < 10 ^ 15) (aji_cons (e_int.is (by omega)) (aji_cons (e_int.is (by omega)) (aji_cons ((e_subI (e_pow e_int e_int (pow_ok (a := 4) (by decide) (by omega) (by omega) (by omega))) e_int).is (by decide)) aji_nil))) (by omega) (j_pick rfl e_int (by omega) (by omega))).cost (by omega)) hA (by omega) fin fun d e => e
/-! ### _law_drawn -/
/-- what the law draws: s is the number of the sums -/
def Gd (s : Int) : Nat → PyData → Prop
  | 0, d => ∃ l, Led l ∧ Kb 50 60 l ∧ l.length ≤ 40 ∧ (dense l).length ≤ 200 ∧ d = led l
  | 1, d => ∃ f : List Int, (f.length : Int) = s ∧ CB 3100 f ∧ d = pol f
  | 2, d => ∃ i : Int, 0 ≤ i ∧ i ≤ 40 ∧ d = .int i
  | 4, d => ∃ i : Int, 1 ≤ i ∧ i ≤ s ∧ d = .int i
  | 5, d => ∃ f : List Int, f.Pairwise (· < ·) ∧ CB 56 f ∧ (f.length : Int) ≤ s ∧ d = pol f
  | _, d => ∃ i : Int, i.natAbs < 2 ^ 50 ∧ d = .int i
def kN : Nat → Str
  | 0 => "book"
  | 1 => "nums"
  | 2 => "size"
  | 3 => "place"
  | 4 => "wide"
  | _ => "places"
def R__law_drawn : RelX := fun q sls c Φ => c = 2900 ∧ ∃ (p : Addr) (k : Nat) (s : Int), q = some p ∧ k < 6 ∧ 1 ≤ s ∧ s ≤ 40 ∧ sls = [.adr p, .dat (.str (kN k)), .dat (.int s)] ∧ Φ = fun d => Gd s k d
theorem ok__law_drawn (T : Tx K mg) : FnOk P w K mg base CX0 4 T.a__law_drawn T.fd__law_drawn P__law_drawn (spX R__law_drawn) := by
  have G__law_amount := ok__law_amount (P := P) (w := w) (base := base) T
  have G__law_book := ok__law_book (P := P) (w := w) (base := base) T
  have G__law_numbers := ok__law_numbers (P := P) (w := w) (base := base) T
  have G__law_pick := ok__law_pick (P := P) (w := w) (base := base) T
  have G__law_wide := ok__law_wide (P := P) (w := w) (base := base) T
  refine fn_ok T.F__law_drawn sc__law_drawn (by decide) (fun q sls c Φ h => by obtain ⟨_, p, k, s, _, _, _, _, rfl, _⟩ := h; rfl) fun cdv A outer s B0 Ew hr => ⟨_,
    (pss_cons (ps_if (pt_cmpR (k_eqD (K := K) rfl hr.units) (pv 1) pe_str (nomark _)) (pss_one (ps_ret (pe_call G__law_book (hr.mono (by decide)) (by rfl) T.m__law_book T.F__law_book.kp T.b__law_book .nil pass0 (pa_cons (pv 0) (pa_cons (pe_ix (k_ix (K := K) rfl) (pe_lst (pa_cons pe_int (pa_cons pe_int pa_nil))) (pe_call G__law_pick (hr.mono (by decide)) (by rfl) T.m__law_pick T.F__law_pick.kp T.b__law_pick .nil pass0 (pa_cons (pv 0) (pa_cons pe_int pa_nil))) (fun _ _ => rfl)) (pa_cons pe_int (pa_cons (pe_call G__law_wide (hr.mono (by decide)) (by rfl) T.m__law_wide T.F__law_wide.kp T.b__law_wide .nil pass0 (pa_cons (pv 0) pa_nil)) pa_nil))))))) pss_nil)
      (pss_cons (ps_if (pt_cmpR (k_eqD (K := K) rfl hr.units) (pv 1) pe_str (nomark _)) (pss_one (ps_ret (pe_call G__law_numbers (hr.mono (by decide)) (by rfl) T.m__law_numbers T.F__law_numbers.kp T.b__law_numbers .nil pass0 (pa_cons (pv 0) (pa_cons (pv 2) (pa_cons pe_int pa_nil)))))) pss_nil)
      (pss_cons (ps_if (pt_cmpR (k_eqD (K := K) rfl hr.units) (pv 1) pe_str (nomark _)) (pss_one (ps_ret (pe_op (k_addU (K := K) rfl) pe_int (pe_call G__law_pick (hr.mono (by decide)) (by rfl) T.m__law_pick T.F__law_pick.kp T.b__law_pick .nil pass0 (pa_cons (pv 0) (pa_cons (pv 2) pa_nil)))))) pss_nil)
      (pss_cons (ps_if (pt_cmpR (k_eqD (K := K) rfl hr.units) (pv 1) pe_str (nomark _)) (pss_cons (ps_setLc (i := 3) (own := [("k", 4)]) rfl sc__law_drawn.nd rfl rfl (sw_true rfl rfl rfl (by decide +kernel)) (pi_range1 rfl T.z_range (pa_cons (pe_call G__law_pick (hr.mono (by decide)) (by rfl) T.m__law_pick T.F__law_pick.kp T.b__law_pick .nil pass0 (pa_cons (pv 0) (pa_cons (pe_op (k_addU (K := K) rfl) (pv 2) pe_int) pa_nil))) pa_nil)) (blkOk_by (own := [("k", 4)]) (N := N__law_drawn) (sc := defScope s__law_drawn) (by decide +kernel)) (fun _ _ _ _ _ => (pg_name (i := 4) sc__law_drawn.nd rfl (Or.inl rfl))) (fun _ _ _ _ _ => pts_nil) (fun _ _ _ _ _ => (pe_call G__law_amount (hr.mono (by decide)) (by rfl) T.m__law_amount T.F__law_amount.kp T.b__law_amount .nil pass0 (pa_cons (pv 0) (pa_cons (pe_call G__law_wide (hr.mono (by decide)) (by rfl) T.m__law_wide T.F__law_wide.kp T.b__law_wide .nil pass0 (pa_cons (pv 0) pa_nil)) pa_nil)))))
      (pss_one (ps_ret (pe_callTy (k_tup (K := K) rfl) (by rfl) T.z_tuple (by decide +kernel) (pa_cons (pe_srtSet (K := K) rfl rfl (by rfl) T.z_sorted (by rfl) T.z_set (pv 3)) pa_nil))))) pss_nil)
      (pss_one (ps_ret (pe_ifExp (pt_cmpR (k_eqD (K := K) rfl hr.units) (pv 1) pe_str (nomark _)) (pe_call G__law_pick (hr.mono (by decide)) (by rfl) T.m__law_pick T.F__law_pick.kp T.b__law_pick .nil pass0 (pa_cons (pv 0) (pa_cons pe_int pa_nil))) (pe_call G__law_amount (hr.mono (by decide)) (by rfl) T.m__law_amount T.F__law_amount.kp T.b__law_amount .nil pass0 (pa_cons (pv 0) (pa_cons (pe_call G__law_wide (hr.mono (by decide)) (by rfl) T.m__law_wide T.F__law_wide.kp T.b__law_wide .nil pass0 (pa_cons (pv 0) pa_nil)) pa_nil)))))))))), fun q sls n c Φ A0 σ Q hR hA fin => ?_⟩
  obtain ⟨rfl, p, k, s, rfl, hk, hs1, hs2, rfl, rfl⟩ := hR
  have wide : ∀ {δ : List Sl}, δ[0]? = some (.adr p) → J (some p) δ (tCall (spX R__law_wide) [] Ew (tCons (tVar 0) tNil)) 1 (IntP fun x => 1 ≤ x ∧ x < 10 ^ 15) := fun h => (j_wideS h).intImp (by omega) fun x hx => ⟨by omega, hx.2⟩
  have amt : ∀ {δ : List Sl}, δ[0]? = some (.adr p) → J (some p) δ (tCall (spX R__law_amount) [] Ew (tCons (tVar 0) (tCons (tCall (spX R__law_wide) [] Ew (tCons (tVar 0) tNil)) tNil))) 2 (IntP fun x => x.natAbs < 2 ^ 50) := fun h =>
    (j_callD (R := R__law_amount) (c := 1) (c1 := 1) (Φa := fun sls => ∃ m : Int, (1 ≤ m ∧ m < 10 ^ 15) ∧ sls = [.adr p, .dat (.int m)]) (aj_adr (Φr := fun sls => ∃ m : Int, (1 ≤ m ∧ m < 10 ^ 15) ∧ sls = [.dat (.int m)]) h ((aj_int (c1 := 1) (c2 := 0) (Φr := fun sls => sls = []) (wide h) ae_nil fun i sls hi e => ⟨i, hi, by rw [e]⟩).cost (by omega)) fun sls ⟨m, hm, e⟩ => ⟨m, hm, by rw [e]⟩) fun sls ⟨m, hm, e⟩ => ⟨_, ⟨rfl, p, m, rfl, by omega, by omega, e, rfl⟩, fun d ⟨i, hi, ed⟩ => ⟨i, by omega, ed⟩⟩)
  match k, hk with
  | 0, _ =>
    refine q_whenB (b := true) (tb_is (tb_test (e_eqD (d1 := .str "book") (d2 := .str "book") (e_var rfl) e_str (by decide +kernel) (by decide +kernel))) (by decide +kernel)) hA (fun _ Hk1 H1 g1 a1 => ?_) (fun h => by cases h)
    exact s_ret (n := n) (c := 2900) (Φ := fun d => ∃ l, Led l ∧ (l.length : Int) ≤ 40 ∧ (∀ x ∈ l, -60 ≤ x.1 ∧ x.1 ≤ 60) ∧ Bd 60 l ∧ d = led l) ((j_callD (R := R__law_book) (c := 1000) (c1 := 2) (Φa := fun sls => ∃ m a : Int, (0 ≤ m ∧ m ≤ 40) ∧ (1 ≤ a ∧ a < 10 ^ 15) ∧ sls = [.adr p, .dat (.int m), .dat (.int 60), .dat (.int a)]) (aj_adr (Φr := fun sls => ∃ m a : Int, (0 ≤ m ∧ m ≤ 40) ∧ (1 ≤ a ∧ a < 10 ^ 15) ∧ sls = [.dat (.int m), .dat (.int 60), .dat (.int a)]) rfl ((aj_int (c1 := 1) (c2 := 1) (P := fun x => 0 ≤ x ∧ x ≤ 40) (Φr := fun sls => ∃ a : Int, (1 ≤ a ∧ a < 10 ^ 15) ∧ sls = [.dat (.int 60), .dat (.int a)]) ((j_menu (P := fun x => 0 ≤ x ∧ x ≤ 40) (aji_cons (e_int.is (by omega)) (aji_cons (e_int.is (by omega)) aji_nil)) (by omega) (j_pick rfl e_int (by omega) (by omega))).cost (by omega)) ((aj_int (c1 := 0) (c2 := 1) (P := fun x => x = 60) (Φr := fun sls => ∃ a : Int, (1 ≤ a ∧ a < 10 ^ 15) ∧ sls = [.dat (.int a)]) e_int.intP ((aj_int (c1 := 1) (c2 := 0) (Φr := fun sls => sls = []) (wide rfl) ae_nil fun i sls hi e => ⟨i, hi, by rw [e]⟩).cost (by omega)) fun i sls hi ⟨a, ha, e⟩ => ⟨a, ha, by rw [e, hi]⟩).cost (by omega)) fun i sls hi ⟨a, ha, e⟩ => ⟨i, a, hi, ha, by rw [e]⟩).cost (by omega)) fun sls ⟨m, a, hm, ha, e⟩ => ⟨m, a, hm, ha, by rw [e]⟩) fun sls ⟨m, a, hm, ha, e⟩ => ⟨_, ⟨rfl, p, m, 60, a, rfl, by omega, by omega, by omega, by omega, by omega, by omega, e, rfl⟩, fun d ⟨l, h1, h2, h3, h4, ed⟩ => ⟨l, h1, by omega, h3, h4, ed⟩⟩).cost (by omega)) a1 (by omega) fin fun d ⟨l, h1, h2, h3, h4, e⟩ => ⟨l, h1, fun x hx => ⟨by have := h3 x hx; omega, (h4 x hx).2⟩, by omega, Nat.le_trans (win_dense (f := -60) (n := 121) (by omega) fun x hx => by have := h3 x hx; omega) (by omega), e⟩
  | 1, _ =>
    refine q_whenB (b := false) (tb_is (tb_test (e_eqD (d1 := .str "nums") (d2 := .str "book") (e_var rfl) e_str (by decide +kernel) (by decide +kernel))) (by decide +kernel)) hA (fun h => by cases h) (fun _ Hk1 H1 g1 a1 => ?_)
    refine q_whenB (b := true) (tb_is (tb_test (e_eqD (d1 := .str "nums") (d2 := .str "nums") (e_var rfl) e_str (by decide +kernel) (by decide +kernel))) (by decide +kernel)) a1 (fun _ Hk2 H2 g2 a2 => ?_) (fun h => by cases h)
    exact s_ret (n := n) (c := 2800) (Φ := fun d => ∃ f : List Int, (f.length : Int) = s ∧ CB 3100 f ∧ d = pol f) (j_call (R := R__law_numbers) (c := 2800) (c1 := 0) (ae_adr rfl (ae_cons (e_var rfl) (ae_cons e_int ae_nil))) fun sls e => ⟨rfl, p, s, 2, rfl, by omega, by omega, by omega, by omega, e, rfl⟩) a2 (by omega) fin fun d h => h
  | 2, _ =>
    refine q_whenB (b := false) (tb_is (tb_test (e_eqD (d1 := .str "size") (d2 := .str "book") (e_var rfl) e_str (by decide +kernel) (by decide +kernel))) (by decide +kernel)) hA (fun h => by cases h) (fun _ Hk1 H1 g1 a1 => ?_)
    refine q_whenB (b := false) (tb_is (tb_test (e_eqD (d1 := .str "size") (d2 := .str "nums") (e_var rfl) e_str (by decide +kernel) (by decide +kernel))) (by decide +kernel)) a1 (fun h => by cases h) (fun _ Hk2 H2 g2 a2 => ?_)
    refine q_whenB (b := false) (tb_is (tb_test (e_eqD (d1 := .str "size") (d2 := .str "wide") (e_var rfl) e_str (by decide +kernel) (by decide +kernel))) (by decide +kernel)) a2 (fun h => by cases h) (fun _ Hk3 H3 g3 a3 => ?_)
    refine q_whenB (b := false) (tb_is (tb_test (e_eqD (d1 := .str "size") (d2 := .str "places") (e_var rfl) e_str (by decide +kernel) (by decide +kernel))) (by decide +kernel)) a3 (fun h => by cases h) (fun _ Hk4 H4 g4 a4 => ?_)
    exact s_ret (n := n) (c := 2) (Φ := IntP fun x => 0 ≤ x ∧ x ≤ 40) ((j_if (c := 0) (c1 := 2) (P := fun b => b = true) (tb_is (tb_test (e_eqD (d1 := .str "size") (d2 := .str "size") (e_var rfl) e_str (by decide +kernel) (by decide +kernel))) (by decide +kernel)) (fun _ => (j_pick (b := 41) rfl e_int (by omega) (by omega)).intImp (by omega) fun x hx => by omega) (fun h => by cases h)).cost (by omega)) a4 (by omega) fin fun d ⟨x, hx, e⟩ => ⟨x, hx.1, hx.2, e⟩
  | 3, _ =>
    refine q_whenB (b := false) (tb_is (tb_test (e_eqD (d1 := .str "place") (d2 := .str "book") (e_var rfl) e_str (by decide +kernel) (by decide +kernel))) (by decide +kernel)) hA (fun h => by cases h) (fun _ Hk1 H1 g1 a1 => ?_)
    refine q_whenB (b := false) (tb_is (tb_test (e_eqD (d1 := .str "place") (d2 := .str "nums") (e_var rfl) e_str (by decide +kernel) (by decide +kernel))) (by decide +kernel)) a1 (fun h => by cases h) (fun _ Hk2 H2 g2 a2 => ?_)
    refine q_whenB (b := false) (tb_is (tb_test (e_eqD (d1 := .str "place") (d2 := .str "wide") (e_var rfl) e_str (by decide +kernel) (by decide +kernel))) (by decide +kernel)) a2 (fun h => by cases h) (fun _ Hk3 H3 g3 a3 => ?_)
    refine q_whenB (b := false) (tb_is (tb_test (e_eqD (d1 := .str "place") (d2 := .str "places") (e_var rfl) e_str (by decide +kernel) (by decide +kernel))) (by decide +kernel)) a3 (fun h => by cases h) (fun _ Hk4 H4 g4 a4 => ?_)
    exact s_ret (n := n) (c := 2) (Φ := IntP fun x => x.natAbs < 2 ^ 50) ((j_if (c := 0) (c1 := 2) (P := fun b => b = false) (tb_is (tb_test (e_eqD (d1 := .str "place") (d2 := .str "size") (e_var rfl) e_str (by decide +kernel) (by decide +kernel))) (by decide +kernel)) (fun h => by cases h) (fun _ => amt rfl)).cost (by omega)) a4 (by omega) fin fun d ⟨x, hx, e⟩ => ⟨x, hx, e⟩
  | 4, _ =>
    refine q_whenB (b := false) (tb_is (tb_test (e_eqD (d1 := .str "wide") (d2 := .str "book") (e_var rfl) e_str (by decide +kernel) (by decide +kernel))) (by decide +kernel)) hA (fun h => by cases h) (fun _ Hk1 H1 g1 a1 => ?_)
    refine q_whenB (b := false) (tb_is (tb_test (e_eqD (d1 := .str "wide") (d2 := .str "nums") (e_var rfl) e_str (by decide +kernel) (by decide +kernel))) (by decide +kernel)) a1 (fun h => by cases h) (fun _ Hk2 H2 g2 a2 => ?_)
    refine q_whenB (b := true) (tb_is (tb_test (e_eqD (d1 := .str "wide") (d2 := .str "wide") (e_var rfl) e_str (by decide +kernel) (by decide +kernel))) (by decide +kernel)) a2 (fun _ Hk3 H3 g3 a3 => ?_) (fun h => by cases h)
    exact s_ret (n := n) (c := 1) (Φ := IntP fun x => 1 ≤ x ∧ x ≤ s) ((j_addI (c1 := 0) (c2 := 1) (P1 := fun x => x = 1) (P2 := fun x => 0 ≤ x ∧ x < s) e_int.intP (j_pick rfl (e_var rfl) (by omega) (by omega)) fun i j hi hj => ⟨i + j, by have h1 : i = 1 := hi; have h2 : 0 ≤ j ∧ j < s := hj; omega, rfl⟩).cost (by omega)) a3 (by omega) fin fun d ⟨x, hx, e⟩ => ⟨x, hx.1, hx.2, e⟩
  | 5, _ =>
    refine q_whenB (b := false) (tb_is (tb_test (e_eqD (d1 := .str "places") (d2 := .str "book") (e_var rfl) e_str (by decide +kernel) (by decide +kernel))) (by decide +kernel)) hA (fun h => by cases h) (fun _ Hk1 H1 g1 a1 => ?_)
    refine q_whenB (b := false) (tb_is (tb_test (e_eqD (d1 := .str "places") (d2 := .str "nums") (e_var rfl) e_str (by decide +kernel) (by decide +kernel))) (by decide +kernel)) a1 (fun h => by cases h) (fun _ Hk2 H2 g2 a2 => ?_)
    refine q_whenB (b := false) (tb_is (tb_test (e_eqD (d1 := .str "places") (d2 := .str "wide") (e_var rfl) e_str (by decide +kernel) (by decide +kernel))) (by decide +kernel)) a2 (fun h => by cases h) (fun _ Hk3 H3 g3 a3 => ?_)
    refine q_whenB (b := true) (tb_is (tb_test (e_eqD (d1 := .str "places") (d2 := .str "places") (e_var rfl) e_str (by decide +kernel) (by decide +kernel))) (by decide +kernel)) a3 (fun _ Hk4 H4 g4 a4 => ?_) (fun h => by cases h)
    refine q_asg (i := 3) (n := n + 100) (c := 81) (Φ := fun d => ∃ ns : List Int, ((ns.length : Int) ≤ s ∧ ∀ x ∈ ns, x.natAbs < 2 ^ 50) ∧ d = .list (ns.map .int)) ((j_lcD (c := 1) (c1 := 2) (N := 40) (emb := PyData.int) (vs := [4]) (Ψ := fun xs : List Int => (xs.length : Int) ≤ s) (Φ := IntP fun x => x.natAbs < 2 ^ 50) (ij_rng1 (j_pick rfl (e_addI (e_var rfl) e_int) (by omega) (by omega)) fun j hj => ⟨by omega, (List.range j.toNat).map fun i : Nat => 0 + (i : Int), by rw [List.length_map, List.length_range]; omega, by unfold rng; rw [List.map_map]; rfl⟩) (fun xs h => by omega) (by omega) fun xs hx x hxm => ⟨_, gb_name (by simp), amt rfl⟩).to (by omega) fun d ⟨xs, ds, h1, h2, h3, e⟩ => ?_) (a4.mono (by omega)) fun d σ7 Hk7 H7 ⟨ns, ⟨hnl, hnB⟩, ed⟩ g7 a7 => ?_
    · obtain ⟨ns, en, hn⟩ := ints_of h3
      exact ⟨ns, ⟨by rw [← List.length_map (f := PyData.int), ← en, h2]; exact h1, hn⟩, by rw [e, en]⟩
    subst ed
    exact s_ret (n := n) (c := 0) (Φ := fun d => ∃ f : List Int, (f.Pairwise (· < ·) ∧ CB 56 f ∧ (f.length : Int) ≤ s) ∧ d = .tuple (f.map .int)) (j_tupI (j_srtSet (P := fun ks => ks.Pairwise (· < ·) ∧ CB 56 ks ∧ (ks.length : Int) ≤ s) ((e_var rfl).imp fun d e => ⟨ns, ⟨by omega, fun ks hp hm => ⟨hp, fun a ha => lt_pow (hnB a ((hm a).mp ha)) (by omega), by have z := nodup_len (asc_nodup hp) fun k hk => (hm k).mp hk; omega⟩⟩, e⟩))) a7 (by omega) fin fun d ⟨f, h, e⟩ => ⟨f, h.1, h.2.1, h.2.2, e⟩
/-! ### _law_odd -/
def R__law_odd : RelX := fun q sls c Φ => c = 1 ∧ ∃ p : Addr, q = some p ∧ sls = [.adr p] ∧ Φ = fun d => d ∈ oddL
theorem ok__law_odd (T : Tx K mg) : FnOk P w K mg base CX0 2 T.a__law_odd T.fd__law_odd P__law_odd (spX R__law_odd) := by
  have G__law_pick := ok__law_pick (P := P) (w := w) (base := base) T
  refine fn_ok T.F__law_odd sc__law_odd (by decide) (fun q sls c Φ h => by obtain ⟨_, p, _, rfl, _⟩ := h; rfl) fun cdv A outer s B0 Ew hr => ⟨_,
    (pss_one (ps_ret (pe_ix (k_ix (K := K) rfl) (pe_lst (pa_cons pe_non (pa_cons pe_bl (pa_cons pe_bl (pa_cons pe_str (pa_cons pe_str (pa_cons (Cr.pe_tup (pa_cons pe_int pa_nil)) (pa_cons (pe_lst (pa_cons pe_int pa_nil)) (pa_cons pe_dnewK (pa_cons (Cr.pe_tup pa_nil) (pa_cons (pe_lst pa_nil) pa_nil))))))))))) (pe_call G__law_pick (hr.mono (by decide)) (by rfl) T.m__law_pick T.F__law_pick.kp T.b__law_pick .nil pass0 (pa_cons (pv 0) (pa_cons pe_int pa_nil))) (fun _ _ => rfl)))), fun q sls n c Φ A0 σ Q hR hA fin => ?_⟩
  obtain ⟨rfl, p, rfl, rfl, rfl⟩ := hR
  exact s_ret (n := n) (c := 1) (Φ := fun d => d ∈ oddL) (j_ixOf (ds := oddL) (e_lst (ds := oddL) (ae_cons e_non (ae_cons e_bl (ae_cons e_bl (ae_cons e_str (ae_cons e_str (ae_cons (e_tup (ds := [.int 1]) (ae_cons e_int ae_nil)) (ae_cons (e_lst (ds := [.int 0]) (ae_cons e_int ae_nil)) (ae_cons e_dnew (ae_cons (e_tup (ds := []) ae_nil) (ae_cons (e_lst (ds := []) ae_nil) ae_nil)))))))))) (by decide)) ((j_pick (b := 10) rfl e_int (by omega) (by omega)).intImp (by omega) fun x hx => ⟨hx.1, by show x < ((10 : Nat) : Int); have := hx.2; omega⟩) fun d h => h) hA (by omega) fin fun d h => h
/-! ### _law_no_number -/
def R__law_no_number : RelX := fun q sls c Φ => c = 3 ∧ ∃ (p : Addr) (j : Int), q = some p ∧ 0 ≤ j ∧ j ≤ 1 ∧ sls = [.adr p, .dat (.int j)] ∧ Φ = fun d => isFromD j d = false ∧ deep 2 d = true ∧ ShortT d
theorem ok__law_no_number (T : Tx K mg) : FnOk P w K mg base CX0 3 T.a__law_no_number T.fd__law_no_number P__law_no_number (spX R__law_no_number) := by
  have G__law_odd := ok__law_odd (P := P) (w := w) (base := base) T
  have G__law_pick := ok__law_pick (P := P) (w := w) (base := base) T
  refine fn_ok T.F__law_no_number sc__law_no_number (by decide) (fun q sls c Φ h => by obtain ⟨_, p, j, _, _, _, rfl, _⟩ := h; rfl) fun cdv A outer s B0 Ew hr => ⟨_,
    (pss_cons (ps_if (pt_cmpR (k_eqD (K := K) rfl hr.units) (pe_call G__law_pick (hr.mono (by decide)) (by rfl) T.m__law_pick T.F__law_pick.kp T.b__law_pick .nil pass0 (pa_cons (pv 0) (pa_cons pe_int pa_nil))) pe_int (nomark _)) (pss_one (ps_ret (pe_call G__law_odd (hr.mono (by decide)) (by rfl) T.m__law_odd T.F__law_odd.kp T.b__law_odd .nil pass0 (pa_cons (pv 0) pa_nil)))) pss_nil)
      (pss_one (ps_ret (pe_op op_sub (pe_op op_sub (pv 1) pe_int) (pe_ix (k_ix (K := K) rfl) (pe_lst (pa_cons pe_int (pa_cons pe_int (pa_cons (pe_call G__law_pick (hr.mono (by decide)) (by rfl) T.m__law_pick T.F__law_pick.kp T.b__law_pick .nil pass0 (pa_cons (pv 0) (pa_cons (pe_op op_powW pe_int pe_int) pa_nil))) pa_nil)))) (pe_call G__law_pick (hr.mono (by decide)) (by rfl) T.m__law_pick T.F__law_pick.kp T.b__law_pick .nil pass0 (pa_cons (pv 0) (pa_cons pe_int pa_nil))) (fun _ _ => rfl)))))), fun q sls n c Φ A0 σ Q hR hA fin => ?_⟩
  obtain ⟨rfl, p, j, rfl, j0, j1, rfl, rfl⟩ := hR
  refine q_if (n := n + 2) (c := 1) (P := fun _ => True) (tj_test ((j_eqDI (Φ := BoolP fun _ => True) (j_pick rfl e_int (by omega) (by omega)) e_int.intP fun i j _ _ => ⟨i == j, trivial, rfl⟩))) hA (fun _ Hk1 H1 g1 a1 => ?_) (fun _ Hk1 H1 g1 a1 => ?_)
  · exact s_ret (n := n) (c := 1) (Φ := fun d => d ∈ oddL) (j_call (R := R__law_odd) (c := 1) (c1 := 0) (ae_adr rfl ae_nil) fun sls e => ⟨rfl, p, rfl, e, rfl⟩) a1 (by omega) fin fun d h => ⟨odd_from h, odd_deep h, odd_short h⟩
  · refine s_ret (n := n) (c := 2) (Φ := IntP fun x => x < j) ((j_subI (c1 := 0) (c2 := 2) (P1 := fun x => x = j - 1) (P2 := fun x => 0 ≤ x) (e_subI (e_var rfl) e_int).intP ((j_menu (P := fun x => 0 ≤ x) (aji_cons (e_int.is (by omega)) (aji_cons (e_int.is (by omega)) (aji_cons ((j_pick (b := 100000000000000) rfl (e_ten (v := 100000000000000) (by omega) (by omega) (by decide)) (by omega) (by omega)).intImp (c1 := 1) (by omega) fun x hx => hx.1) aji_nil))) (by omega) (j_pick rfl e_int (by omega) (by omega))).cost (by omega)) fun i k hi hk => ⟨i - k, by have h1 : i = j - 1 := hi; have h2 : 0 ≤ k := hk; show i - k < j; omega, rfl⟩).cost (by omega)) a1 (by omega) fin fun d ⟨x, hx, e⟩ => ?_
    subst e
    exact ⟨decide_eq_false (by omega), rfl, fun ds e => by cases e⟩
/-! ### _law_no_places -/
def R__law_no_places : RelX := fun q sls c Φ => c = 9 ∧ ∃ (p : Addr) (f : List Int) (s : Int), q = some p ∧ CB 56 f ∧ f.length ≤ 40 ∧ 1 ≤ s ∧ s ≤ 40 ∧ sls = [.adr p, .dat (pol f), .dat (.int s)] ∧ Φ = fun d => isKeysD s d = false ∧ deep 2 d = true ∧ ShortT d
theorem ok__law_no_places (T : Tx K mg) : FnOk P w K mg base CX0 3 T.a__law_no_places T.fd__law_no_places P__law_no_places (spX R__law_no_places) := by
  have G__law_amount := ok__law_amount (P := P) (w := w) (base := base) T
  have G__law_odd := ok__law_odd (P := P) (w := w) (base := base) T
  have G__law_pick := ok__law_pick (P := P) (w := w) (base := base) T
  refine fn_ok T.F__law_no_places sc__law_no_places (by decide) (fun q sls c Φ h => by obtain ⟨_, p, f, s, _, _, _, _, _, rfl, _⟩ := h; rfl) fun cdv A outer s B0 Ew hr => ⟨_,
    (pss_cons (ps_par (i := 3) (j := 4) (by rfl) sc__law_no_places.nd rfl rfl (by decide) rfl rfl (pa_cons (pe_call G__law_pick (hr.mono (by decide)) (by rfl) T.m__law_pick T.F__law_pick.kp T.b__law_pick .nil pass0 (pa_cons (pv 0) (pa_cons pe_int pa_nil))) (pa_cons (pe_call G__law_pick (hr.mono (by decide)) (by rfl) T.m__law_pick T.F__law_pick.kp T.b__law_pick .nil pass0 (pa_cons (pv 0) (pa_cons (pe_op (k_addU (K := K) rfl) (pe_callB (k_len (K := K) rfl) (by rfl) T.z_len (by decide +kernel) (pa_cons (pv 1) pa_nil)) pe_int) pa_nil))) pa_nil)) (by rfl))
      (pss_cons (ps_if (pt_cmpR op_lt (pv 3) pe_int (nomark _)) (pss_one (ps_ret (pe_ix (k_ix (K := K) rfl) (pe_lst (pa_cons (pe_callTy (k_lst (K := K) rfl) (by rfl) T.z_list (by decide +kernel) (pa_cons (pv 1) pa_nil)) (pa_cons pe_non (pa_cons pe_int pa_nil)))) (pv 3) (fun _ _ => rfl)))) pss_nil)
      (pss_cons (ps_if (pt_cmpR op_lt (pv 3) pe_int (nomark _)) (pss_cons (ps_asg (Cr.pe_tup (pa_cons (pe_call G__law_amount (hr.mono (by decide)) (by rfl) T.m__law_amount T.F__law_amount.kp T.b__law_amount .nil pass0 (pa_cons (pv 0) (pa_cons (pe_op op_powW pe_int pe_int) pa_nil))) (pa_cons (pe_ix (k_ix (K := K) rfl) (pe_lst (pa_cons pe_int (pa_cons pe_int (pa_cons (pe_op op_powW pe_int pe_int) pa_nil)))) (pe_call G__law_pick (hr.mono (by decide)) (by rfl) T.m__law_pick T.F__law_pick.kp T.b__law_pick .nil pass0 (pa_cons (pv 0) (pa_cons pe_int pa_nil))) (fun _ _ => rfl)) pa_nil))) (k_pgTup (K := K) (n := 2) rfl rfl (pgs_cons (pg_name (i := 5) sc__law_no_places.nd rfl (Or.inr rfl)) (pgs_cons (pg_name (i := 6) sc__law_no_places.nd rfl (Or.inr rfl)) pgs_nil))))
      (pss_one (ps_ret (pe_callTy (k_tup (K := K) rfl) (by rfl) T.z_tuple (by decide +kernel) (pa_cons (pe_lc (own := [("k", 7)]) rfl sc__law_no_places.nd (pi_range1 rfl T.z_range (pa_cons (pe_op (k_addU (K := K) rfl) (pe_op (k_addU (K := K) rfl) (pv 2) pe_int) (pe_call G__law_pick (hr.mono (by decide)) (by rfl) T.m__law_pick T.F__law_pick.kp T.b__law_pick .nil pass0 (pa_cons (pv 0) (pa_cons (pe_ix (k_ix (K := K) rfl) (pe_lst (pa_cons pe_int (pa_cons pe_int pa_nil))) (pe_call G__law_pick (hr.mono (by decide)) (by rfl) T.m__law_pick T.F__law_pick.kp T.b__law_pick .nil pass0 (pa_cons (pv 0) (pa_cons pe_int pa_nil))) (fun _ _ => rfl)) pa_nil)))) pa_nil)) (blkOk_by (own := [("k", 7)]) (N := N__law_no_places) (sc := defScope s__law_no_places) (by decide +kernel)) (fun _ _ _ _ _ => (pg_name (i := 7) sc__law_no_places.nd rfl (Or.inl rfl))) (fun _ _ _ _ _ => pts_nil) (fun _ _ _ _ _ => (pe_op (k_addU (K := K) rfl) (pv 5) (pe_op op_mulU (pv 6) (pv 7))))) pa_nil))))) pss_nil)
      (pss_cons (ps_if (PW.pt (pw_and (pt_cmpR op_lt (pv 3) pe_int (nomark _)) (pw_and1 (pt_cmpR (k_neD (K := K) rfl hr.units) (pv 1) (Cr.pe_tup pa_nil) (nomark _))))) (pss_cons (ps_set (i := 4) sc__law_no_places.nd rfl (Or.inl rfl) (pe_call G__law_pick (hr.mono (by decide)) (by rfl) T.m__law_pick T.F__law_pick.kp T.b__law_pick .nil pass0 (pa_cons (pv 0) (pa_cons (pe_callB (k_len (K := K) rfl) (by rfl) T.z_len (by decide +kernel) (pa_cons (pv 1) pa_nil)) pa_nil))))
      (pss_one (ps_ret (pe_op (k_addU (K := K) rfl) (pe_op (k_addU (K := K) rfl) (pe_slice (k_sl (K := K) rfl) (pv 1) po_none (po_some (pv 4))) (pe_ix (k_ix (K := K) rfl) (pe_lst (pa_cons (Cr.pe_tup (pa_cons (pe_ix (k_ix (K := K) rfl) (pv 1) (pv 4) (fun _ _ => rfl)) (pa_cons (pe_ix (k_ix (K := K) rfl) (pv 1) (pv 4) (fun _ _ => rfl)) pa_nil))) (pa_cons (Cr.pe_tup (pa_cons (pe_op (k_addU (K := K) rfl) (pe_ix (k_ix (K := K) rfl) (pv 1) (pv 4) (fun _ _ => rfl)) pe_int) (pa_cons (pe_ix (k_ix (K := K) rfl) (pv 1) (pv 4) (fun _ _ => rfl)) pa_nil))) pa_nil))) (pe_op op_sub (pv 3) pe_int) (fun _ _ => rfl))) (pe_slice (k_sl (K := K) rfl) (pv 1) (po_some (pe_op (k_addU (K := K) rfl) (pv 4) pe_int)) po_none))))) pss_nil)
      (pss_one (ps_ret (pe_op (k_addU (K := K) rfl) (pe_op (k_addU (K := K) rfl) (pe_slice (k_sl (K := K) rfl) (pv 1) po_none (po_some (pv 4))) (Cr.pe_tup (pa_cons (pe_call G__law_odd (hr.mono (by decide)) (by rfl) T.m__law_odd T.F__law_odd.kp T.b__law_odd .nil pass0 (pa_cons (pv 0) pa_nil)) pa_nil))) (pe_slice (k_sl (K := K) rfl) (pv 1) (po_some (pe_op (k_addU (K := K) rfl) (pv 4) pe_int)) po_none)))))))), fun q sls n c Φ A0 σ Q hR hA fin => ?_⟩
  obtain ⟨rfl, p, f, s, rfl, hB, hl, hs1, hs2, rfl, rfl⟩ := hR
  refine q_par (n := n + 7) (c := 2) (i := 3) (j := 4) (Ψ := fun a b => ∃ w s : Nat, a = .int (w : Int) ∧ b = .int (s : Int) ∧ w < 9 ∧ s ≤ f.length) ((aj_int (c1 := 1) (c2 := 1) (P := fun x => 0 ≤ x ∧ x < 9) (Φr := fun sls => ∃ i : Int, (0 ≤ i ∧ i < (f.length : Int) + 1) ∧ sls = [.dat (.int i)]) (j_pick rfl e_int (by omega) (by omega)) (aj_int (c1 := 1) (c2 := 0) (P := fun x => 0 ≤ x ∧ x < (f.length : Int) + 1) (Φr := fun sls => sls = []) (j_pick rfl (e_addI (e_is (e_lenT (ds := f.map .int) (e_var rfl)) (d1 := .int (f.length : Int)) (by rw [pol_len])) e_int) (by omega) (by omega)) ae_nil fun i sls hi e => ⟨i, hi, by rw [e]⟩) fun i sls hi ⟨k, hk, e⟩ => ⟨.int i, .int k, by rw [e], i.toNat, k.toNat, by congr 1; omega, by congr 1; omega, by omega, by omega⟩)) hA fun a b σ1 Hk1 H1 ⟨w, t, ea, eb, hw, ht⟩ g1 a1 => ?_
  subst ea; subst eb
  refine q_whenB (b := decide ((w : Int) < 3)) (tb_test (e_ltI (e_var rfl) e_int)) a1 (fun h Hk2 H2 g2 a2 => ?_) (fun h Hk2 H2 g2 a2 => ?_)
  · have hw5 := of_decide_eq_true h
    refine s_ret (n := n) (c := 0) (Φ := fun d => isKeysD s d = false ∧ deep 2 d = true ∧ ShortT d) (j_ixOf (ds := [.list (f.map .int), .none, .int 0]) (e_lst (ds := [.list (f.map .int), .none, .int 0]) (ae_cons (e_lstT (e_var rfl)) (ae_cons e_non (ae_cons e_int ae_nil)))) ((e_var rfl).is (P := fun x => 0 ≤ x ∧ x < 3) (by omega)) fun d hd => ?_) a2 (by omega) fin fun d h => h
    simp only [List.mem_cons, List.not_mem_nil, or_false] at hd
    rcases hd with rfl | rfl | rfl <;> exact ⟨rfl, rfl, fun ds e => by cases e⟩
  refine q_whenB (b := decide ((w : Int) < 5)) (tb_test (e_ltI (e_var rfl) e_int)) a2 (fun h3 Hk3 H3 g3 a3 => ?_) (fun h3 Hk3 H3 g3 a3 => ?_)
  · have hamt : ∀ {δ : List Sl}, δ[0]? = some (.adr p) → J (some p) δ (tCall (spX R__law_amount) [] Ew (tCons (tVar 0) (tCons (tOp (rI CPowW fun i j => .int (i ^ j.toNat)) (tC (.int 10)) (tC (.int 12))) tNil))) 1 (IntP fun x => x.natAbs < 2 ^ 50) := fun h =>
      j_callD (R := R__law_amount) (c := 1) (c1 := 0) (Φa := fun sls => sls = [.adr p, .dat (.int 1000000000000)]) (ae_adr h (ae_cons (e_ten (v := 1000000000000) (by omega) (by omega) (by decide)) ae_nil)) fun sls e => ⟨_, ⟨rfl, p, 1000000000000, rfl, by omega, by omega, e, rfl⟩, fun d ⟨i, hi, ed⟩ => ⟨i, by omega, ed⟩⟩
    have hstep : ∀ {δ : List Sl}, δ[0]? = some (.adr p) → J (some p) δ (tOp (rIx K) (tLst (tCons (tC (.int 1)) (tCons (tC (.int 7)) (tCons (tOp (rI CPowW fun i j => .int (i ^ j.toNat)) (tC (.int 10)) (tC (.int 12))) tNil)))) (tCall (spX R_pick) [] Ew (tCons (tVar 0) (tCons (tC (.int 3)) tNil)))) 1 (IntP fun x => 1 ≤ x ∧ x ≤ 10 ^ 12) := fun h =>
      (j_menu (P := fun x => 1 ≤ x ∧ x ≤ 10 ^ 12) (aji_cons (e_int.is (by omega)) (aji_cons (e_int.is (by omega)) (aji_cons ((e_ten (v := 1000000000000) (by omega) (by omega) (by decide)).is (by omega)) aji_nil))) (by omega) (j_pick h e_int (by omega) (by omega))).cost (by omega)
    refine q_asgT2 (n := n + 5) (c := 2) (i := 5) (j := 6) (Ψ := fun a b => ∃ x y : Int, (x.natAbs < 2 ^ 50 ∧ 1 ≤ y ∧ y ≤ 10 ^ 12) ∧ a = .int x ∧ b = .int y) ((aj_int (c1 := 1) (c2 := 1) (P := fun x => x.natAbs < 2 ^ 50) (Φr := fun sls => ∃ i : Int, (1 ≤ i ∧ i ≤ 10 ^ 12) ∧ sls = [.dat (.int i)]) (hamt rfl) (aj_int (c1 := 1) (c2 := 0) (P := fun x => 1 ≤ x ∧ x ≤ 10 ^ 12) (Φr := fun sls => sls = []) (hstep rfl) ae_nil fun i sls hi e => ⟨i, hi, by rw [e]⟩) fun i sls hi ⟨k, hk, e⟩ => ⟨.int i, .int k, by rw [e], i, k, ⟨hi, hk.1, hk.2⟩, rfl, rfl⟩)) a3 fun a b σ4 Hk4 H4 ⟨x, y, ⟨hx, hy1, hy2⟩, ea, eb⟩ g4 a4 => ?_
    subst ea; subst eb
    refine s_ret (n := n) (c := 3) (Φ := fun d => ∃ ns : List Int, (s < (ns.length : Int) ∧ ns.length ≤ 100) ∧ d = .tuple (ns.map .int)) (j_tupI ((j_lcD (c := 2) (c1 := 0) (N := 100) (α := Int) (emb := PyData.int) (vs := [7]) (Ψ := fun xs : List Int => (s < (xs.length : Int) ∧ xs.length ≤ 100) ∧ ∀ z ∈ xs, 0 ≤ z ∧ z ≤ 100) (Φ := IntP fun _ => True) (ij_rng1 (P := fun z => s + 1 ≤ z ∧ z ≤ s + 21) ((j_addI (c1 := 0) (c2 := 2) (P1 := fun z => z = s + 1) (P2 := fun z => 0 ≤ z ∧ z < 20) (e_addI (e_var rfl) e_int).intP (((j_pickJ (c := 1) (P := fun z => 1 ≤ z ∧ z ≤ 20) rfl ((j_menu (P := fun z => 1 ≤ z ∧ z ≤ 20) (aji_cons (e_int.is (by omega)) (aji_cons (e_int.is (by omega)) aji_nil)) (by omega) (j_pick rfl e_int (by omega) (by omega))).cost (by omega)) fun b hb => ⟨by omega, by omega⟩).intImp (by omega) fun z ⟨b, hb, hz⟩ => by omega)) fun i j hi hj => ⟨i + j, by have h1 : i = s + 1 := hi; have h2 : 0 ≤ j ∧ j < 20 := hj; omega, rfl⟩).cost (by omega)) fun j hj => ⟨by omega, (List.range j.toNat).map fun i : Nat => 0 + (i : Int), ⟨⟨by rw [List.length_map, List.length_range]; omega, by rw [List.length_map, List.length_range]; omega⟩, fun z hz => by obtain ⟨i, hi, e⟩ := List.mem_map.mp hz; have := List.mem_range.mp hi; omega⟩, by unfold rng; rw [List.map_map]; rfl⟩) (fun xs h => h.1.2) (by omega) fun xs hxs z hz => ⟨_, gb_name (by simp), (e_addI (e_var rfl) (e_mulI (e_var rfl) (e_var rfl) (wide_mul (a := 50) (b := 10) (by omega) (by have := hxs.2 z hz; omega) (by omega) (by omega) (by omega)))).imp fun d e => ⟨_, trivial, e⟩⟩).to (by omega) fun d ⟨xs, ds, h1, h2, h3, e⟩ => ?_)) a4 (by omega) fin fun d ⟨ns, hn, e⟩ => ?_
    · obtain ⟨ns, en, _⟩ := ints_of h3
      have hl2 : ns.length = xs.length := by rw [← List.length_map (f := PyData.int), ← en, h2]
      exact ⟨ns, by rw [hl2]; exact h1.1, by rw [e, en]⟩
    · subst e
      refine ⟨?_, deep_pol 2 ns, short_tup (by rw [List.length_map]; omega)⟩
      show (ascKD (pol ns) && decide ((lenD (pol ns) : Int) ≤ s)) = false
      rw [len_pol, decide_eq_false (by omega), Bool.and_false]
  have nx1 : ∀ {δ : List Sl} {m : Nat}, δ[4]? = some (.dat (.int (m : Int))) → E (some p) δ (tOp (rAddU K) (tVar 4) (tC (.int 1))) (.int ((m + 1 : Nat) : Int)) := fun h => e_is (e_addI (e_var h) e_int) (by congr 1)
  refine q_whenB (b := decide ((w : Int) < 7) && !(f.isEmpty)) (tb_and (tb_test (e_ltI (e_var rfl) e_int)) fun _ => tb_test (e_is (e_neD (d1 := pol f) (d2 := .tuple []) (e_var rfl) (e_tup (ds := []) ae_nil) (pol_shape f) rfl) (by rw [eqv_pol_nil]))) a3 (fun h4 Hk4 H4 g4 a4 => ?_) (fun h4 Hk4 H4 g4 a4 => ?_)
  · rw [Bool.and_eq_true] at h4
    have hw7 := of_decide_eq_true h4.1
    have hw5 := of_decide_eq_false h3
    have hne : f ≠ [] := fun e => by rw [e] at h4; cases h4.2
    have h0 : 0 < f.length := List.length_pos_iff.mpr hne
    refine q_asg (i := 4) (n := n + 6) (c := 1) (Φ := IntP fun x => 0 ≤ x ∧ x < (f.length : Int)) (j_pick rfl (e_is (e_lenT (ds := f.map .int) (e_var rfl)) (d1 := .int (f.length : Int)) (by rw [pol_len])) (by omega) (by omega)) a4 fun d σ5 Hk5 H5 ⟨x, hx, ed⟩ g5 a5 => ?_
    subst ed
    obtain ⟨t2, rfl⟩ : ∃ t2 : Nat, x = (t2 : Int) := ⟨x.toNat, by omega⟩
    obtain ⟨u, eu⟩ : ∃ u, f[t2]? = some u := ⟨f[t2]'(by omega), List.getElem?_eq_getElem _⟩
    have eat : ∀ {δ : List Sl}, δ[1]? = some (.dat (pol f)) → δ[4]? = some (.dat (.int (t2 : Int))) → E (some p) δ (tOp (rIx K) (tVar 1) (tVar 4)) (.int u) := fun h1 h2 => e_iT (ds := f.map .int) (e_var h1) (e_var h2) (atI_nat (by rw [List.getElem?_map, eu]; rfl))
    refine s_ret (n := n) (c := 0) (Φ := fun d => ∃ v w : Int, ¬ v < w ∧ d = pol (f.take t2 ++ [v, w] ++ f.drop (t2 + 1))) ((j_catX (c1 := 0) (c2 := 0) (P1 := fun es => ∃ v w : Int, ¬ v < w ∧ es = (f.take t2 ++ [v, w]).map .int) (P2 := fun es => es = (f.drop (t2 + 1)).map .int) (j_catX (c1 := 0) (c2 := 0) (P1 := fun es => es = (f.take t2).map .int) (P2 := fun es => es = [.int u, .int u] ∨ es = [.int (u + 1), .int u]) ((e_slT (ds := f.map .int) (e_var rfl) to_none (to_some (e_var rfl))).imp fun d e => ⟨_, rfl, by rw [e, cutD_to, List.map_take]⟩) (j_ixOf (ds := [.tuple [.int u, .int u], .tuple [.int (u + 1), .int u]]) (e_lst (ds := [.tuple [.int u, .int u], .tuple [.int (u + 1), .int u]]) (ae_cons (e_tup (ds := [.int u, .int u]) (ae_cons (eat rfl rfl) (ae_cons (eat rfl rfl) ae_nil))) (ae_cons (e_tup (ds := [.int (u + 1), .int u]) (ae_cons (e_addI (eat rfl rfl) e_int) (ae_cons (eat rfl rfl) ae_nil))) ae_nil))) ((e_subI (e_var rfl) e_int).is (P := fun x => 0 ≤ x ∧ x < 2) (by omega)) fun d hd => by
        simp only [List.mem_cons, List.not_mem_nil, or_false] at hd
        rcases hd with rfl | rfl
        · exact ⟨_, .inl rfl, rfl⟩
        · exact ⟨_, .inr rfl, rfl⟩) fun ds es e1 e2 => ⟨by subst e1; have : es.length = 2 := (by rcases e2 with e | e <;> (subst e; rfl)); rw [List.length_map, List.length_take]; omega, _, (by
          subst e1
          rcases e2 with e | e <;> subst e
          · exact ⟨u, u, by omega, by rw [List.map_append]; rfl⟩
          · exact ⟨u + 1, u, by omega, by rw [List.map_append]; rfl⟩), rfl⟩) ((e_slT (ds := f.map .int) (e_var rfl) (to_some (nx1 rfl)) to_none).imp fun d e => ⟨_, rfl, by rw [e, cutD_from, List.map_drop]⟩) fun ds es ⟨v, w, h, e1⟩ e2 => ⟨by subst e1; subst e2; rw [List.length_map, List.length_append, List.length_take, List.length_map, List.length_drop]; simp; omega, v, w, h, by rw [e1, e2, ← List.map_append]; rfl⟩)) a5 (by omega) fin fun d ⟨v, w, h, e⟩ => ?_
    subst e
    exact ⟨noK (no_keys2 h), deep_pol 2 _, short_tup (by rw [List.length_map, List.length_append, List.length_append, List.length_take, List.length_drop]; simp; omega)⟩
  refine s_ret (n := n) (c := 1) (Φ := fun x => ∃ d, d ∈ oddL ∧ x = .tuple ((f.map PyData.int).take t ++ [d] ++ (f.map PyData.int).drop (t + 1))) (j_putT (e_var rfl) (e_var rfl) (nx1 rfl) (j_call (R := R__law_odd) (c := 1) (c1 := 0) (ae_adr rfl ae_nil) fun sls e => ⟨rfl, p, rfl, e, rfl⟩) (by rw [List.length_map]; omega)) a4 (by omega) fin fun d ⟨y, hy, e⟩ => ?_
  subst e
  exact ⟨noK (no_keys (d := y) (by simp) (odd_int hy)), deep_cut (deep_ints 1 f) (odd_deep1 hy), short_cut (by rw [List.length_map]; omega)⟩
/-! ### _law_no_book -/
def R__law_no_book : RelX := fun q sls c Φ => c = 4 ∧ ∃ (p : Addr) (l : List (Int × Int)), q = some p ∧ Led l ∧ l.length ≤ 400 ∧ sls = [.adr p, .dat (led l)] ∧ Φ = fun d => isLedD d = false ∧ deep 2 d = true ∧ ShortT d
theorem ok__law_no_book (T : Tx K mg) : FnOk P w K mg base CX0 3 T.a__law_no_book T.fd__law_no_book P__law_no_book (spX R__law_no_book) := by
  have G__law_odd := ok__law_odd (P := P) (w := w) (base := base) T
  have G__law_pick := ok__law_pick (P := P) (w := w) (base := base) T
  refine fn_ok T.F__law_no_book sc__law_no_book (by decide) (fun q sls c Φ h => by obtain ⟨_, p, l, _, _, _, rfl, _⟩ := h; rfl) fun cdv A outer s B0 Ew hr => ⟨_,
    (pss_cons (ps_par (i := 2) (j := 3) (by rfl) sc__law_no_book.nd rfl rfl (by decide) rfl rfl (pa_cons (pe_call G__law_pick (hr.mono (by decide)) (by rfl) T.m__law_pick T.F__law_pick.kp T.b__law_pick .nil pass0 (pa_cons (pv 0) (pa_cons pe_int pa_nil))) (pa_cons (pe_call G__law_pick (hr.mono (by decide)) (by rfl) T.m__law_pick T.F__law_pick.kp T.b__law_pick .nil pass0 (pa_cons (pv 0) (pa_cons (pe_op (k_addU (K := K) rfl) (pe_callB (k_len (K := K) rfl) (by rfl) T.z_len (by decide +kernel) (pa_cons (pv 1) pa_nil)) pe_int) pa_nil))) pa_nil)) (by rfl))
      (pss_cons (ps_if (pt_cmpR op_lt (pv 2) pe_int (nomark _)) (pss_one (ps_ret (pe_ix (k_ix (K := K) rfl) (pe_lst (pa_cons (pe_callTy (k_lst (K := K) rfl) (by rfl) T.z_list (by decide +kernel) (pa_cons (pv 1) pa_nil)) (pa_cons pe_non (pa_cons pe_dnewK (pa_cons pe_int pa_nil))))) (pv 2) (fun _ _ => rfl)))) pss_nil)
      (pss_cons (ps_if (PW.pt (pw_and (pt_cmpR op_lt (pv 2) pe_int (nomark _)) (pw_and1 (pt_cmpR op_gt (pe_callB (k_len (K := K) rfl) (by rfl) T.z_len (by decide +kernel) (pa_cons (pv 1) pa_nil)) pe_int (nomark _))))) (pss_cons (ps_set (i := 3) sc__law_no_book.nd rfl (Or.inl rfl) (pe_call G__law_pick (hr.mono (by decide)) (by rfl) T.m__law_pick T.F__law_pick.kp T.b__law_pick .nil pass0 (pa_cons (pv 0) (pa_cons (pe_op op_sub (pe_callB (k_len (K := K) rfl) (by rfl) T.z_len (by decide +kernel) (pa_cons (pv 1) pa_nil)) pe_int) pa_nil))))
      (pss_one (ps_ret (pe_op (k_addU (K := K) rfl) (pe_op (k_addU (K := K) rfl) (pe_slice (k_sl (K := K) rfl) (pv 1) po_none (po_some (pv 3))) (pe_ix (k_ix (K := K) rfl) (pe_lst (pa_cons (Cr.pe_tup (pa_cons (pe_ix (k_ix (K := K) rfl) (pv 1) (pe_op (k_addU (K := K) rfl) (pv 3) pe_int) (fun _ _ => rfl)) (pa_cons (pe_ix (k_ix (K := K) rfl) (pv 1) (pv 3) (fun _ _ => rfl)) pa_nil))) (pa_cons (Cr.pe_tup (pa_cons (pe_ix (k_ix (K := K) rfl) (pv 1) (pv 3) (fun _ _ => rfl)) (pa_cons (pe_ix (k_ix (K := K) rfl) (pv 1) (pv 3) (fun _ _ => rfl)) pa_nil))) pa_nil))) (pe_op op_sub (pv 2) pe_int) (fun _ _ => rfl))) (pe_slice (k_sl (K := K) rfl) (pv 1) (po_some (pe_op (k_addU (K := K) rfl) (pv 3) pe_int)) po_none))))) pss_nil)
      (pss_cons (ps_if (PW.pt (pw_and (pt_cmpR (k_eqD (K := K) rfl hr.units) (pv 2) pe_int (nomark _)) (pw_and1 (pt_cmpR op_gt (pe_callB (k_len (K := K) rfl) (by rfl) T.z_len (by decide +kernel) (pa_cons (pv 1) pa_nil)) pe_int (nomark _))))) (pss_one (ps_ret (pe_revT (K := K) rfl (pv 1)))) pss_nil)
      (pss_cons (ps_set (i := 4) sc__law_no_book.nd rfl (Or.inl rfl) (pe_ifExp (pt_cmpR op_lt (pv 3) (pe_callB (k_len (K := K) rfl) (by rfl) T.z_len (by decide +kernel) (pa_cons (pv 1) pa_nil)) (nomark _)) (pe_ix (k_ix (K := K) rfl) (pv 1) (pv 3) (fun _ _ => rfl)) (Cr.pe_tup (pa_cons (pe_op op_sub (pe_op op_powW pe_int pe_int) pe_int) (pa_cons pe_int pa_nil)))))
      (pss_cons (ps_if (pt_cmpR (k_eqD (K := K) rfl hr.units) (pv 2) pe_int (nomark _)) (pss_cons (ps_set (i := 5) sc__law_no_book.nd rfl (Or.inl rfl) (Cr.pe_tup (pa_cons (pe_ix (k_ix (K := K) rfl) (pv 4) pe_int (fun _ _ => rfl)) (pa_cons (pe_op (k_addU (K := K) rfl) (pe_ix (k_ix (K := K) rfl) (pv 4) pe_int (fun _ _ => rfl)) (pe_ix (k_ix (K := K) rfl) (pe_lst (pa_cons pe_int (pa_cons pe_int pa_nil))) (pe_callTy call_intQ (by rfl) T.z_int (by decide +kernel) (pa_cons (pe_cmpR (k_eqD (K := K) rfl hr.units) (pe_ix (k_ix (K := K) rfl) (pv 4) pe_int (fun _ _ => rfl)) (pe_un un_neg pe_int) (nomark _)) pa_nil)) (fun _ _ => rfl))) pa_nil))))
      (pss_one (ps_ret (pe_op (k_addU (K := K) rfl) (pe_op (k_addU (K := K) rfl) (pe_slice (k_sl (K := K) rfl) (pv 1) po_none (po_some (pv 3))) (Cr.pe_tup (pa_cons (pv 4) (pa_cons (pv 5) pa_nil)))) (pe_slice (k_sl (K := K) rfl) (pv 1) (po_some (pe_op (k_addU (K := K) rfl) (pv 3) pe_int)) po_none))))) pss_nil)
      (pss_cons (ps_set (i := 6) sc__law_no_book.nd rfl (Or.inl rfl) (pe_call G__law_odd (hr.mono (by decide)) (by rfl) T.m__law_odd T.F__law_odd.kp T.b__law_odd .nil pass0 (pa_cons (pv 0) pa_nil)))
      (pss_cons (ps_set (i := 7) sc__law_no_book.nd rfl (Or.inl rfl) (pe_ix (k_ix (K := K) rfl) (pe_lst (pa_cons (Cr.pe_tup (pa_cons (pv 6) (pa_cons (pe_ix (k_ix (K := K) rfl) (pv 4) pe_int (fun _ _ => rfl)) pa_nil))) (pa_cons (Cr.pe_tup (pa_cons (pe_ix (k_ix (K := K) rfl) (pv 4) pe_int (fun _ _ => rfl)) (pa_cons (pv 6) pa_nil))) (pa_cons (Cr.pe_tup (pa_cons (pe_ix (k_ix (K := K) rfl) (pv 4) pe_int (fun _ _ => rfl)) (pa_cons pe_int pa_nil))) (pa_cons (pe_callTy (k_lst (K := K) rfl) (by rfl) T.z_list (by decide +kernel) (pa_cons (pv 4) pa_nil)) (pa_cons (pe_op (k_addU (K := K) rfl) (pv 4) (Cr.pe_tup (pa_cons pe_int pa_nil))) (pa_cons (pe_slice (k_sl (K := K) rfl) (pv 4) po_none (po_some pe_int)) (pa_cons (pv 6) pa_nil)))))))) (pe_call G__law_pick (hr.mono (by decide)) (by rfl) T.m__law_pick T.F__law_pick.kp T.b__law_pick .nil pass0 (pa_cons (pv 0) (pa_cons pe_int pa_nil))) (fun _ _ => rfl)))
      (pss_one (ps_ret (pe_op (k_addU (K := K) rfl) (pe_op (k_addU (K := K) rfl) (pe_slice (k_sl (K := K) rfl) (pv 1) po_none (po_some (pv 3))) (Cr.pe_tup (pa_cons (pv 7) pa_nil))) (pe_slice (k_sl (K := K) rfl) (pv 1) (po_some (pe_op (k_addU (K := K) rfl) (pv 3) pe_int)) po_none)))))))))))), fun q sls n c Φ A0 σ Q hR hA fin => ?_⟩
  obtain ⟨rfl, p, l, rfl, hL, hl, rfl, rfl⟩ := hR
  have elen : ∀ {δ : List Sl}, δ[1]? = some (.dat (led l)) → E (some p) δ (tCB (rLenQ K) (tCons (tVar 1) tNil)) (.int (l.length : Int)) := fun h => e_is (e_lenT (ds := pd l) (e_var h)) (by rw [pd_len])
  have eat : ∀ {δ : List Sl} {ti : TE} {k : Nat} {y : Int × Int}, δ[1]? = some (.dat (led l)) → E (some p) δ ti (.int (k : Int)) → l[k]? = some y → E (some p) δ (tOp (rIx K) (tVar 1) ti) (pr y) := fun h1 h2 ey => e_iT (ds := pd l) (e_var h1) h2 (atI_nat (by unfold pd; rw [List.getElem?_map, ey]; rfl))
  refine q_par (n := n + 2) (c := 2) (i := 2) (j := 3) (Ψ := fun a b => ∃ w s : Nat, a = .int (w : Int) ∧ b = .int (s : Int) ∧ w < 14 ∧ s ≤ l.length) ((aj_int (c1 := 1) (c2 := 1) (P := fun x => 0 ≤ x ∧ x < 14) (Φr := fun sls => ∃ i : Int, (0 ≤ i ∧ i < (l.length : Int) + 1) ∧ sls = [.dat (.int i)]) (j_pick rfl e_int (by omega) (by omega)) (aj_int (c1 := 1) (c2 := 0) (P := fun x => 0 ≤ x ∧ x < (l.length : Int) + 1) (Φr := fun sls => sls = []) (j_pick rfl (e_addI (e_is (e_lenT (ds := pd l) (e_var rfl)) (d1 := .int (l.length : Int)) (by rw [pd_len])) e_int) (by omega) (by omega)) ae_nil fun i sls hi e => ⟨i, hi, by rw [e]⟩) fun i sls hi ⟨k, hk, e⟩ => ⟨.int i, .int k, by rw [e], i.toNat, k.toNat, by congr 1; omega, by congr 1; omega, by omega, by omega⟩)) hA fun a b σ1 Hk1 H1 ⟨w, s, ea, eb, hw, hs⟩ g1 a1 => ?_
  subst ea; subst eb
  refine q_whenB (b := decide ((w : Int) < 4)) (tb_test (e_ltI (e_var rfl) e_int)) a1 (fun h Hk2 H2 g2 a2 => ?_) (fun h Hk2 H2 g2 a2 => ?_)
  · have hw4 := of_decide_eq_true h
    refine s_ret (n := n) (c := 0) (Φ := fun d => isLedD d = false ∧ deep 2 d = true ∧ ShortT d) (j_ixOf (ds := [.list (pd l), .none, .dict [], .int 0]) (e_lst (ds := [.list (pd l), .none, .dict [], .int 0]) (ae_cons (e_lstT (e_var rfl)) (ae_cons e_non (ae_cons e_dnew (ae_cons e_int ae_nil))))) ((e_var rfl).is (P := fun x => 0 ≤ x ∧ x < 4) (by omega)) fun d hd => ?_) a2 (by omega) fin fun d h => h
    simp only [List.mem_cons, List.not_mem_nil, or_false] at hd
    rcases hd with rfl | rfl | rfl | rfl <;> exact ⟨rfl, rfl, fun ds e => by cases e⟩
  refine q_whenB (b := decide ((w : Int) < 6) && decide ((1 : Int) < (l.length : Int))) (tb_and (tb_test (e_ltI (e_var rfl) e_int)) fun _ => tb_test (e_gtI (e_is (e_lenT (ds := pd l) (e_var rfl)) (d1 := .int (l.length : Int)) (by rw [pd_len])) e_int)) a2 (fun h3 Hk3 H3 g3 a3 => ?_) (fun h3 Hk3 H3 g3 a3 => ?_)
  · rw [Bool.and_eq_true] at h3
    have hw6 := of_decide_eq_true h3.1
    have hw4 := of_decide_eq_false h
    have h1l := of_decide_eq_true h3.2
    refine q_asg (i := 3) (n := n + 1) (c := 1) (Φ := IntP fun x => 0 ≤ x ∧ x < (l.length : Int) - 1) (j_pick rfl (e_subI (e_is (e_lenT (ds := pd l) (e_var rfl)) (d1 := .int (l.length : Int)) (by rw [pd_len])) e_int) (by omega) (by omega)) a3 fun d σ4 Hk4 H4 ⟨x, hx, ed⟩ g4 a4 => ?_
    subst ed
    obtain ⟨s2, rfl⟩ : ∃ s2 : Nat, x = (s2 : Int) := ⟨x.toNat, by omega⟩
    obtain ⟨u, eu⟩ : ∃ u, l[s2]? = some u := ⟨l[s2]'(by omega), List.getElem?_eq_getElem _⟩
    obtain ⟨v, ev⟩ : ∃ v, l[s2 + 1]? = some v := ⟨l[s2 + 1]'(by omega), List.getElem?_eq_getElem _⟩
    have huv : u.1 < v.1 := led_lt2 hL eu ev (by omega)
    have nx : ∀ {δ : List Sl} (k : Nat), δ[3]? = some (.dat (.int (s2 : Int))) → E (some p) δ (tOp (rAddU K) (tVar 3) (tC (.int (k : Int)))) (.int ((s2 + k : Nat) : Int)) := fun k h => e_is (e_addI (e_var h) e_int) (by congr 1)
    refine s_ret (n := n) (c := 0) (Φ := fun x => ∃ ds, (ds = [pr v, pr u] ∨ ds = [pr u, pr u]) ∧ x = .tuple ((pd l).take s2 ++ ds ++ (pd l).drop (s2 + 2))) ((j_catX (c1 := 0) (c2 := 0) (P1 := fun es => ∃ ds, (ds = [pr v, pr u] ∨ ds = [pr u, pr u]) ∧ es = (pd l).take s2 ++ ds) (P2 := fun es => es = (pd l).drop (s2 + 2)) (j_catX (c1 := 0) (c2 := 0) (P1 := fun es => es = (pd l).take s2) (P2 := fun es => es = [pr v, pr u] ∨ es = [pr u, pr u]) ((e_slT (ds := pd l) (e_var rfl) to_none (to_some (e_var rfl))).imp fun d e => ⟨_, rfl, by rw [e, cutD_to]⟩) (j_ixOf (ds := [.tuple [pr v, pr u], .tuple [pr u, pr u]]) (e_lst (ds := [.tuple [pr v, pr u], .tuple [pr u, pr u]]) (ae_cons (e_tup (ds := [pr v, pr u]) (ae_cons (eat rfl (nx 1 rfl) ev) (ae_cons (eat rfl (e_var rfl) eu) ae_nil))) (ae_cons (e_tup (ds := [pr u, pr u]) (ae_cons (eat rfl (e_var rfl) eu) (ae_cons (eat rfl (e_var rfl) eu) ae_nil))) ae_nil))) ((e_subI (e_var rfl) e_int).is (P := fun x => 0 ≤ x ∧ x < 2) (by omega)) fun d hd => by
        simp only [List.mem_cons, List.not_mem_nil, or_false] at hd
        rcases hd with rfl | rfl
        · exact ⟨_, .inl rfl, rfl⟩
        · exact ⟨_, .inr rfl, rfl⟩) fun ds es e1 e2 => ⟨by subst e1; have : es.length = 2 := (by rcases e2 with e | e <;> (subst e; rfl)); rw [List.length_take, pd_len]; omega, _, ⟨es, e2, by rw [e1]⟩, rfl⟩) ((e_slT (ds := pd l) (e_var rfl) (to_some (nx 2 rfl)) to_none).imp fun d e => ⟨_, rfl, by rw [e, cutD_from]⟩) fun ds es ⟨ms, h, e1⟩ e2 => ⟨by subst e1; subst e2; have : ms.length = 2 := (by rcases h with e | e <;> (subst e; rfl)); rw [List.length_append, List.length_take, List.length_drop, pd_len]; omega, ms, h, by rw [e1, e2]⟩)) a4 (by omega) fin fun d ⟨ds, h, e⟩ => ?_
    subst e
    have hds : ds.length = 2 ∧ ds.all (deep 1) = true := by
      rcases h with e | e <;> subst e <;> exact ⟨rfl, by simp [deep_pr]⟩
    refine ⟨?_, ?_, short_tup (by rw [List.length_append, List.length_append, List.length_take, List.length_drop, hds.1, pd_len]; omega)⟩
    · rcases h with e | e <;> subst e
      · exact no_led2 (by omega)
      · exact no_led2 (by omega)
    · show ((pd l).take s2 ++ ds ++ (pd l).drop (s2 + 2)).all (deep 1) = true
      rw [List.all_append, List.all_append, hds.2]
      have := List.all_eq_true.mp (deep_pd 1 l)
      rw [List.all_eq_true.mpr fun x hx => this x (List.mem_of_mem_take hx), List.all_eq_true.mpr fun x hx => this x (List.mem_of_mem_drop hx)]
      rfl
  refine q_whenB (b := (w == 6) && decide ((1 : Int) < (l.length : Int))) (tb_and (tb_test (e_is (e_eqDI (e_var rfl) e_int) (d1 := .bool (w == 6)) (congrArg PyData.bool (beq_cast w 6)))) fun _ => tb_test (e_gtI (e_is (e_lenT (ds := pd l) (e_var rfl)) (d1 := .int (l.length : Int)) (by rw [pd_len])) e_int)) a3 (fun h4 Hk4 H4 g4 a4 => ?_) (fun h4 Hk4 H4 g4 a4 => ?_)
  · rw [Bool.and_eq_true] at h4
    have h1l := of_decide_eq_true h4.2
    refine s_retE (e_revT (ds := pd l) (e_var rfl)) a4 (by omega) fin ⟨no_ledR hL (by omega), ?_, short_tup (by rw [List.length_reverse, pd_len]; omega)⟩
    show (pd l).reverse.all (deep 1) = true
    rw [List.all_reverse]
    exact deep_pd 1 l
  refine q_asg (i := 4) (n := n + 2) (c := 0) (Φ := fun d => ∃ y : Int × Int, d = pr y) (j_if (c := 0) (c1 := 0) (P := fun b => b = decide (s < l.length)) (tb_is (tb_test (e_ltI (e_var rfl) (e_is (e_lenT (ds := pd l) (e_var rfl)) (d1 := .int (l.length : Int)) (by rw [pd_len])))) (decide_eq_decide.mpr (by omega))) (fun h => ?_) (fun h => (e_pr (e_subI (e_ten (v := 1000000000000000) (by omega) (by omega) (by decide)) e_int) e_int).imp fun d e => ⟨(_, _), e⟩)) a4 fun d σ5 Hk5 H5 ⟨y, ed⟩ g5 a5 => ?_
  · have hs2 : s < l.length := of_decide_eq_true h.symm
    exact (eat rfl (e_var rfl) (List.getElem?_eq_getElem hs2)).imp fun d e => ⟨_, e⟩
  subst ed
  have e0 : ∀ {δ : List Sl}, δ[4]? = some (.dat (pr y)) → E (some p) δ (tOp (rIx K) (tVar 4) (tC (.int 0))) (.int y.1) := fun h => e_iT (ds := [.int y.1, .int y.2]) (e_var h) e_int rfl
  have e1 : ∀ {δ : List Sl}, δ[4]? = some (.dat (pr y)) → E (some p) δ (tOp (rIx K) (tVar 4) (tC (.int 1))) (.int y.2) := fun h => e_iT (ds := [.int y.1, .int y.2]) (e_var h) e_int rfl
  have nx1 : ∀ {δ : List Sl}, δ[3]? = some (.dat (.int (s : Int))) → E (some p) δ (tOp (rAddU K) (tVar 3) (tC (.int 1))) (.int ((s + 1 : Nat) : Int)) := fun h => e_is (e_addI (e_var h) e_int) (by congr 1)
  refine q_whenB (b := w == 7) (tb_test (e_is (e_eqDI (e_var rfl) e_int) (d1 := .bool (w == 7)) (congrArg PyData.bool (beq_cast w 7)))) a5 (fun h6 Hk6 H6 g6 a6 => ?_) (fun h6 Hk6 H6 g6 a6 => ?_)
  · refine q_asg (i := 5) (n := n + 1) (c := 0) (Φ := fun d => ∃ z : Int, d = pr (y.1, z)) ((e_pr (e0 rfl) (e_addI (e1 rfl) (e_iL (ds := [.int 1, .int 2]) (d := .int (if y.2 == -1 then 2 else 1)) (e_lst (ds := [.int 1, .int 2]) (ae_cons e_int (ae_cons e_int ae_nil))) (e_intB (e_eqDI (e1 rfl) (e_is (e_un e_int) (d1 := .int (-1)) rfl))) (by cases (y.2 == -1) <;> rfl)))).imp fun d e => ⟨_, e⟩) (a6.mono (by omega)) fun d σ7 Hk7 H7 ⟨z, ed⟩ g7 a7 => ?_
    subst ed
    refine s_retE (d := .tuple ((pd l).take s ++ [pr y, pr (y.1, z)] ++ (pd l).drop (s + 1))) (e_catT (ds := (pd l).take s ++ [pr y, pr (y.1, z)]) (es := (pd l).drop (s + 1)) (e_catT (ds := (pd l).take s) (es := [pr y, pr (y.1, z)]) (e_is (e_slT (ds := pd l) (e_var rfl) to_none (to_some (e_var rfl))) (by rw [cutD_to])) (e_tup (ds := [pr y, pr (y.1, z)]) (ae_cons (e_var rfl) (ae_cons (e_var rfl) ae_nil))) (by rw [List.length_take, pd_len]; simp; omega)) (e_is (e_slT (ds := pd l) (e_var rfl) (to_some (nx1 rfl)) to_none) (by rw [cutD_from])) (by rw [List.length_append, List.length_take, List.length_drop, pd_len]; simp; omega)) a7 (by omega) fin ⟨no_led2 (by show ¬ y.1 < y.1; omega), ?_, short_tup (by rw [List.length_append, List.length_append, List.length_take, List.length_drop, pd_len]; simp; omega)⟩
    show ((pd l).take s ++ [pr y, pr (y.1, z)] ++ (pd l).drop (s + 1)).all (deep 1) = true
    rw [List.all_append, List.all_append]
    have := List.all_eq_true.mp (deep_pd 1 l)
    rw [List.all_eq_true.mpr fun x hx => this x (List.mem_of_mem_take hx), List.all_eq_true.mpr fun x hx => this x (List.mem_of_mem_drop hx)]
    simp [deep_pr]
  refine q_asg (i := 6) (n := n + 1) (c := 1) (Φ := fun d => d ∈ oddL) (j_call (R := R__law_odd) (c := 1) (c1 := 0) (ae_adr rfl ae_nil) fun sls e => ⟨rfl, p, rfl, e, rfl⟩) a6 fun od σ8 Hk8 H8 hod g8 a8 => ?_
  refine q_asg (i := 7) (n := n) (c := 1) (Φ := fun d => (∀ y : Int × Int, y.2 ≠ 0 → d ≠ pr y) ∧ deep 1 d = true) (j_ixOf (ds := [.tuple [od, .int y.2], .tuple [.int y.1, od], .tuple [.int y.1, .int 0], .list [.int y.1, .int y.2], .tuple [.int y.1, .int y.2, .int 1], .tuple [.int y.1], od]) (e_lst (ds := [.tuple [od, .int y.2], .tuple [.int y.1, od], .tuple [.int y.1, .int 0], .list [.int y.1, .int y.2], .tuple [.int y.1, .int y.2, .int 1], .tuple [.int y.1], od])
    (ae_cons (e_tup (ds := [od, .int y.2]) (ae_cons (e_var rfl) (ae_cons (e1 rfl) ae_nil))) (ae_cons (e_tup (ds := [.int y.1, od]) (ae_cons (e0 rfl) (ae_cons (e_var rfl) ae_nil))) (ae_cons (e_tup (ds := [.int y.1, .int 0]) (ae_cons (e0 rfl) (ae_cons e_int ae_nil))) (ae_cons (e_lstT (ds := [.int y.1, .int y.2]) (e_var rfl)) (ae_cons (e_catT (ds := [.int y.1, .int y.2]) (es := [.int 1]) (e_var rfl) (e_tup (ds := [.int 1]) (ae_cons e_int ae_nil)) (by simp)) (ae_cons (e_is (e_slT (ds := [.int y.1, .int y.2]) (e_var rfl) to_none (to_some (i := ((1 : Nat) : Int)) e_int)) (by rw [cutD_to]; rfl)) (ae_cons (e_var rfl) ae_nil)))))))) ((j_pick (b := 7) rfl e_int (by omega) (by omega)).intImp (by omega) fun x hx => ⟨hx.1, by show x < ((7 : Nat) : Int); have := hx.2; omega⟩) fun d hd => ?_) a8 fun bd σ9 Hk9 H9 ⟨hb1, hb2⟩ g9 a9 => ?_
  · have hi := odd_int hod
    have ht := odd_deep0 hod
    simp only [List.mem_cons, List.not_mem_nil, or_false] at hd
    rcases hd with rfl | rfl | rfl | rfl | rfl | rfl | rfl
    · exact ⟨fun z hz e => by (have e1 := (List.cons.inj (PyData.tuple.inj e)).1; rw [e1] at hi; cases hi), by simp [deep] at ht ⊢; exact ⟨ht, rfl⟩⟩
    · exact ⟨fun z hz e => by (have e1 := (List.cons.inj (List.cons.inj (PyData.tuple.inj e)).2).1; rw [e1] at hi; cases hi), by simp [deep] at ht ⊢; exact ⟨rfl, ht⟩⟩
    · exact ⟨fun z hz e => by (have e1 := (List.cons.inj (List.cons.inj (PyData.tuple.inj e)).2).1; injection e1 with e2; exact hz e2.symm), rfl⟩
    · exact ⟨fun z hz e => (by cases e), rfl⟩
    · exact ⟨fun z hz e => (by simp [pr] at e), rfl⟩
    · exact ⟨fun z hz e => (by simp [pr] at e), rfl⟩
    · exact ⟨fun y hy e => odd_pr hod y e, odd_deep1 hod⟩
  refine s_retE (e_putT (ds := pd l) (a := s) (b := s + 1) (e_var rfl) (e_var rfl) (nx1 rfl) (e_var rfl) (by rw [pd_len]; omega)) a9 (by omega) fin ⟨no_led (d := bd) (by simp) hb1, deep_cut (deep_pd 1 l) hb2, short_cut (by rw [pd_len]; omega)⟩
/-! ### is_an_integer -/
def R_is_an_integer (K : PySem.W.Frag) : RelX := fun _ sls c Φ => c = 0 ∧ ∃ d, Kn K d ∧ sls = [.dat d] ∧ Φ = fun x => x = .bool (isIntD d)
theorem ok_is_an_integer (T : Tx K mg) : FnOk P w K mg base CX0 1 T.a_is_an_integer T.fd_is_an_integer P_is_an_integer (spX (R_is_an_integer K)) := by
  refine fn_ok T.F_is_an_integer sc_is_an_integer (by decide) (fun q sls c Φ h => by obtain ⟨_, d, _, rfl, _⟩ := h; rfl) fun cdv A outer s B0 Ew hr => ⟨_,
    (pss_one (ps_ret (pe_and (pe_callB (k_isi (K := K) rfl) (by rfl) T.z_isinstance (by decide +kernel) (pa_cons (pv 0) (pa_cons (pe_bltn (v := .ty "int") (by rfl) T.z_int (by decide +kernel) rfl) pa_nil))) (pe_one (pe_not (pe_callB (k_isi (K := K) rfl) (by rfl) T.z_isinstance (by decide +kernel) (pa_cons (pv 0) (pa_cons (pe_bltn (v := .ty "bool") (by rfl) T.z_bool (by decide +kernel) rfl) pa_nil)))))))), fun q sls n c Φ A0 σ Q hR hA fin => ?_⟩
  obtain ⟨rfl, d, kn, rfl, rfl⟩ := hR
  exact s_retE (e_andV (e_isiI (e_var rfl) kn) (fun hi => e_notV (e_isi (e_var rfl) (kit_bool d) (int_top hi)))) hA (Nat.le_refl _) fin (by rw [isInt_eq])
/-! ### is_change -/
def R_is_change (K : PySem.W.Frag) : RelX := fun _ sls c Φ => c = 0 ∧ ∃ d, deep 1 d = true ∧ sls = [.dat d] ∧ Φ = fun x => x = .bool (isChangeD d)
theorem ok_is_change (T : Tx K mg) : FnOk P w K mg base CX0 2 T.a_is_change T.fd_is_change P_is_change (spX (R_is_change K)) := by
  have G_is_an_integer := ok_is_an_integer (P := P) (w := w) (base := base) T
  refine fn_ok T.F_is_change sc_is_change (by decide) (fun q sls c Φ h => by obtain ⟨_, d, _, rfl, _⟩ := h; rfl) fun cdv A outer s B0 Ew hr => ⟨_,
    (pss_one (ps_ret (pe_and (pe_callB (k_isi (K := K) rfl) (by rfl) T.z_isinstance (by decide +kernel) (pa_cons (pv 0) (pa_cons (pe_bltn (v := .ty "tuple") (by rfl) T.z_tuple (by decide +kernel) rfl) pa_nil))) (pe_and (pe_cmpR (k_eqD (K := K) rfl hr.units) (pe_callB (k_len (K := K) rfl) (by rfl) T.z_len (by decide +kernel) (pa_cons (pv 0) pa_nil)) pe_int (nomark _)) (pe_and (pe_call G_is_an_integer (hr.mono (by decide)) (by rfl) T.m_is_an_integer T.F_is_an_integer.kp T.b_is_an_integer .nil pass0 (pa_cons (pe_ix (k_ix (K := K) rfl) (pv 0) pe_int (fun _ _ => rfl)) pa_nil)) (pe_one (pe_call G_is_an_integer (hr.mono (by decide)) (by rfl) T.m_is_an_integer T.F_is_an_integer.kp T.b_is_an_integer .nil pass0 (pa_cons (pe_ix (k_ix (K := K) rfl) (pv 0) pe_int (fun _ _ => rfl)) pa_nil)))))))), fun q sls n c Φ A0 σ Q hR hA fin => ?_⟩
  obtain ⟨rfl, d, hdp, rfl, rfl⟩ := hR
  have htop := deep_top hdp
  refine s_retE (d := .bool (isChangeD d)) ?_ hA (Nat.le_refl _) fin rfl
  have nonT : isiTup d = false → isChangeD d = false := fun h => by cases d <;> first | rfl | cases h
  by_cases ht : isiTup d = true
  · obtain ⟨ds, rfl⟩ : ∃ ds, d = .tuple ds := by
      cases d with
      | tuple ds => exact ⟨ds, rfl⟩
      | _ => cases ht
    refine e_is (e_andV (b := (ds.length == 2) && (isChangeD (.tuple ds))) (e_isi (e_var rfl) (kit_tuple _)) fun _ => e_andV (e_is (e_eqDI (e_lenT (e_var rfl)) e_int) ?_) fun h2 => ?_) ?_
    · by_cases h : ds.length = 2
      · rw [h]; rfl
      · rw [show (ds.length == 2) = false by simpa using h, show ((ds.length : Int) == 2) = false by simpa using (by omega : ¬ (ds.length : Int) = 2)]
    · have hl : ds.length = 2 := by simpa using h2
      obtain ⟨a, b, rfl⟩ : ∃ a b, ds = [a, b] := by
        match ds, hl with
        | [a, b], _ => exact ⟨a, b, rfl⟩
      have hall : top a = true ∧ top b = true := by simpa [deep] using hdp
      refine e_is (e_andV (j_call (R := R_is_an_integer K) (ae_cons (e_iT (e_var rfl) e_int rfl) ae_nil) fun sls e => ⟨rfl, a, .inl hall.1, e, rfl⟩) fun _ => j_call (R := R_is_an_integer K) (ae_cons (e_iT (e_var rfl) e_int rfl) ae_nil) fun sls e => ⟨rfl, b, .inl hall.2, e, rfl⟩) ?_
      cases a <;> cases b <;> rfl
    · by_cases h : ds.length = 2
      · rw [show (ds.length == 2) = true by simpa using h]; rfl
      · have hc : isChangeD (.tuple ds) = false := Bool.eq_false_iff.mpr fun z => by
          obtain ⟨x, e⟩ := change_pr z
          cases e
          exact h rfl
        rw [hc, show (ds.length == 2) = false by simpa using h]; rfl
  · have hf : isiTup d = false := by simpa using ht
    rw [nonT hf]
    exact e_andNo (e_is (e_isi (e_var rfl) (kit_tuple d) htop) (by rw [hf]))
/-! ### is_ledger -/
def R_is_ledger (K : PySem.W.Frag) : RelX := fun _ sls c Φ => c = 0 ∧ ∃ d, Odd K d ∧ sls = [.dat d] ∧ Φ = fun x => x = .bool (isLedD d)
theorem ok_is_ledger (T : Tx K mg) : FnOk P w K mg base CX0 3 T.a_is_ledger T.fd_is_ledger P_is_ledger (spX (R_is_ledger K)) := by
  have G_is_change := ok_is_change (P := P) (w := w) (base := base) T
  refine fn_ok T.F_is_ledger sc_is_ledger (by decide) (fun q sls c Φ h => by obtain ⟨_, d, _, rfl, _⟩ := h; rfl) fun cdv A outer s B0 Ew hr => ⟨_,
    (pss_cons (ps_if (PW.pt (pw_or (pt_not (pt_val (pe_callB (k_isi (K := K) rfl) (by rfl) T.z_isinstance (by decide +kernel) (pa_cons (pv 0) (pa_cons (pe_bltn (v := .ty "tuple") (by rfl) T.z_tuple (by decide +kernel) rfl) pa_nil))))) (pw_or1 (pt_not (pt_val (pe_callB (k_all (K := K) rfl rfl) (by rfl) T.z_all (by decide +kernel) (pa_cons (pe_lc (own := [("pair", 2)]) rfl sc_is_ledger.nd (k_piTup (K := K) rfl (pv 0)) (blkOk_by (own := [("pair", 2)]) (N := N_is_ledger) (sc := defScope s_is_ledger) (by decide +kernel)) (fun _ _ _ _ _ => (pg_name (i := 2) sc_is_ledger.nd rfl (Or.inl rfl))) (fun _ _ _ _ _ => pts_nil) (fun _ _ _ _ _ => (pe_call G_is_change (hr.mono (by decide)) (by rfl) T.m_is_change T.F_is_change.kp T.b_is_change .nil pass0 (pa_cons (pv 2) pa_nil)))) pa_nil))))))) (pss_one (ps_ret pe_bl)) pss_nil)
      (pss_cons (ps_set (i := 1) sc_is_ledger.nd rfl (Or.inl rfl) (pe_callB (k_all (K := K) rfl rfl) (by rfl) T.z_all (by decide +kernel) (pa_cons (pe_lc (own := [("one", 3), ("other", 4)]) rfl sc_is_ledger.nd (Zm.pi_zipS (K := K) rfl (by rfl) T.z_zip (pa_cons (pv 0) (pa_cons (pe_slice (k_sl (K := K) rfl) (pv 0) (po_some pe_int) po_none) pa_nil))) (blkOk_by (own := [("one", 3), ("other", 4)]) (N := N_is_ledger) (sc := defScope s_is_ledger) (by decide +kernel)) (fun _ _ _ _ _ => (k_pgTup (K := K) (n := 2) rfl rfl (pgs_cons (pg_name (i := 3) sc_is_ledger.nd rfl (Or.inl rfl)) (pgs_cons (pg_name (i := 4) sc_is_ledger.nd rfl (Or.inl rfl)) pgs_nil)))) (fun _ _ _ _ _ => pts_nil) (fun _ _ _ _ _ => (pe_cmpR op_lt (pe_ix (k_ix (K := K) rfl) (pv 3) pe_int (fun _ _ => rfl)) (pe_ix (k_ix (K := K) rfl) (pv 4) pe_int (fun _ _ => rfl)) (nomark _)))) pa_nil)))
      (pss_one (ps_ret (pe_and (pv 1) (pe_one (pe_callB (k_all (K := K) rfl rfl) (by rfl) T.z_all (by decide +kernel) (pa_cons (pe_lc (own := [("key", 5), ("amount", 6)]) rfl sc_is_ledger.nd (k_piTup (K := K) rfl (pv 0)) (blkOk_by (own := [("key", 5), ("amount", 6)]) (N := N_is_ledger) (sc := defScope s_is_ledger) (by decide +kernel)) (fun _ _ _ _ _ => (k_pgTup (K := K) (n := 2) rfl rfl (pgs_cons (pg_name (i := 5) sc_is_ledger.nd rfl (Or.inl rfl)) (pgs_cons (pg_name (i := 6) sc_is_ledger.nd rfl (Or.inl rfl)) pgs_nil)))) (fun _ _ _ _ _ => pts_nil) (fun _ _ _ _ _ => (pe_cmpR (k_neD (K := K) rfl hr.units) (pv 6) pe_int (nomark _)))) pa_nil)))))))), fun q sls n c Φ A0 σ Q hR hA fin => ?_⟩
  obtain ⟨rfl, d, od, rfl, rfl⟩ := hR
  have first : isiTup d = false → isLedD d = false := fun h => by cases d <;> first | rfl | cases h
  by_cases ht : isiTup d = true
  · obtain ⟨ds, rfl⟩ : ∃ ds, d = .tuple ds := by
      cases d with
      | tuple ds => exact ⟨ds, rfl⟩
      | _ => cases ht
    have hlen := od.sh ds rfl
    refine q_whenB (b := !(ds.all isChangeD)) (tb_is (tb_or (b := !(ds.all isChangeD)) (tb_not (tb_B (e_isi (e_var rfl) (kit_tuple _)))) fun _ => tb_not (tb_B (e_is (e_all (bs := ds.map isChangeD) (e_is (e_lc1 (vs := [2]) (emb := id) (xs := ds) (by rw [List.map_id]; exact ie_tup (e_var rfl)) (fun x => .bool (isChangeD x)) (by omega) fun x hx => ⟨_, gb_name (by simp), j_call (R := R_is_change K) (ae_cons (e_var rfl) ae_nil) fun sls e => ⟨rfl, x, od.dp ds rfl x hx, e, rfl⟩⟩) (by rw [bools_map]))) (by rw [all_id_map])))) (by rw [ht]; rfl)) hA (fun hb Hk1 H1 g1 a1 => ?_) (fun hb Hk1 H1 g1 a1 => ?_)
    · refine s_retE (d := .bool false) e_bl a1 (Nat.le_refl _) fin ?_
      have : isLedD (.tuple ds) = false := by
        show (ds.all isChangeD && _) = false
        rw [show ds.all isChangeD = false by simpa using hb, Bool.false_and]
      rw [this]
    · obtain ⟨l, rfl⟩ := changes_pd (ds := ds) (by simpa using hb)
      rw [pd_len] at hlen
      refine q_asgE (d := .bool (asc l)) (e_is (e_all (bs := (adj l).map fun p => decide (p.1.1 < p.2.1)) (e_is (e_lc1 (vs := [3, 4]) (emb := fun p : (Int × Int) × (Int × Int) => .tuple [pr p.1, pr p.2]) (xs := adj l) (by rw [← zip_adj]; exact ie_zipS (e_var rfl) (e_slT (e_var rfl) (to_some e_int) to_none)) (fun p => .bool (decide (p.1.1 < p.2.1))) ?_ fun p hp => ⟨_, gb_tup2 (by simp) (by simp), e_ltI (e_iT (ds := [.int p.1.1, .int p.1.2]) (e_var rfl) e_int rfl) (e_iT (ds := [.int p.2.1, .int p.2.2]) (e_var rfl) e_int rfl)⟩) (by rw [bools_map]))) (by rw [all_id_map]; rfl)) a1 fun σ2 Hk2 H2 g2 a2 => ?_
      · show (l.zip (l.drop 1)).length ≤ 1000000
        rw [List.length_zip]; omega
      refine s_retE (d := .bool (asc l && nz l)) (e_andV (e_var rfl) fun _ => e_is (e_all (bs := l.map fun x => !(x.2 == 0)) (e_is (e_lc1 (vs := [5, 6]) (emb := pr) (xs := l) (ie_tup (e_var rfl)) (fun x => .bool (!(x.2 == 0))) (by omega) fun x hx => ⟨_, gb_tup2 (by simp) (by simp), e_neDI (e_var rfl) e_int⟩) (by rw [bools_map]))) (by rw [all_id_map]; rfl)) a2 (Nat.le_refl _) fin ?_
      show _ = PyData.bool (isLedD (led l))
      rw [isLed_led]
  · have hf : isiTup d = false := by simpa using ht
    refine q_whenB (b := true) (tb_is (tb_or (b := true) (tb_not (tb_B (e_isiT (e_var rfl) od.kn))) fun h => by rw [hf] at h; cases h) (by rw [hf]; rfl)) hA (fun hb Hk1 H1 g1 a1 => ?_) (fun hb => by cases hb)
    exact s_retE (d := .bool false) e_bl a1 (Nat.le_refl _) fin (by rw [first hf])
/-! ### check_ledger -/
def R_check_ledger : RelX := fun _ sls c Φ => c = 0 ∧ ∃ l, Led l ∧ l.length ≤ 100000 ∧ sls = [.dat (led l)] ∧ Φ = fun x => x = .none
theorem ok_check_ledger (T : Tx K mg) : FnOk P w K mg base CX0 4 T.a_check_ledger T.fd_check_ledger P_check_ledger (spX R_check_ledger) := by
  have G_is_ledger := ok_is_ledger (P := P) (w := w) (base := base) T
  refine fn_ok T.F_check_ledger sc_check_ledger (by decide) (fun q sls c Φ h => by obtain ⟨_, l, _, _, rfl, _⟩ := h; rfl) fun cdv A outer s B0 Ew hr => ⟨_,
    (pss_one (ps_if (pt_not (pt_val (pe_call G_is_ledger (hr.mono (by decide)) (by rfl) T.m_is_ledger T.F_is_ledger.kp T.b_is_ledger .nil pass0 (pa_cons (pv 0) pa_nil)))) (pss_one ps_never) pss_nil)), fun q sls n c Φ A0 σ Q hR hA fin => ?_⟩
  obtain ⟨rfl, l, hL, hl, rfl, rfl⟩ := hR
  exact s_ifNo (tb_is (tb_not (tb_B (j_call (R := R_is_ledger K) (ae_cons (e_var rfl) ae_nil) fun sls e => ⟨rfl, led l, Odd.of (fun ds e => by cases e; rw [pd_len]; exact hl) (deep_led 2 l), e, rfl⟩))) (by rw [led_isLed hL]; rfl)) hA fun Hk' H2 g a => s_end a (Nat.le_refl _) fin rfl
/-! ### check_ledger, where it raises -/
def B_check_ledger (K : PySem.W.Frag) : RelE := fun _ sls c x => c = 0 ∧ ∃ d, Odd K d ∧ isLedD d = false ∧ sls = [.dat d] ∧ x = "InvalidLedger"
theorem ck_ledger {K : PySem.W.Frag} {mg : Str → Option Value} {q : Option Addr} {δ : List Sl} {te : TE} {d : PyData} {E0 : XK} (h : isLedD d = true) (o : Odd K d) (ed : E q δ te d) : E q δ (tCall (spU (spX R_check_ledger) (spE mg (B_check_ledger K))) [] E0 (tCons te tNil)) .none := by
  obtain ⟨ds, rfl⟩ : ∃ ds, d = .tuple ds := by
    cases d with
    | tuple ds => exact ⟨ds, rfl⟩
    | _ => cases h
  obtain ⟨l, hL, rfl⟩ := led_of h
  exact j_callU (R := R_check_ledger) (c := 0) (ae_cons ed ae_nil) fun sls e => ⟨rfl, l, hL, by have := o.sh _ rfl; rwa [pd_len] at this, e, rfl⟩
theorem ox_check_ledger (T : Tx K mg) : FnOk P w K mg base (L2.CX P w) 4 T.a_check_ledger T.fd_check_ledger P_check_ledger (spE mg (B_check_ledger K)) := by
  have G_is_ledger := ok_is_ledger (P := P) (w := w) (base := base) T
  refine fn_okE T.F_check_ledger sc_check_ledger (by decide) (fun q sls c x h => by obtain ⟨_, d, _, _, rfl, _⟩ := h; rfl) fun cdv A outer s B0 Ew hr => ⟨_,
    (pss_one (ps_if (pt_not (pt_val (pe_call G_is_ledger (hr.mono (by decide)) (by rfl) T.m_is_ledger T.F_is_ledger.kp T.b_is_ledger .nil pass0 (pa_cons (pv 0) pa_nil)))) (pss_one (ps_raise rfl (takes_of (E := Ew) rfl rfl rfl rfl) (pmk_own0 PySem.F.excBase_ValueError T.x_InvalidLedger T.g_InvalidLedger T.k_InvalidLedger (raises_own T.u_InvalidLedger T.t_InvalidLedger) rfl))) pss_nil)), fun q sls n c x A0 σ Q hR hA fin => ?_⟩
  obtain ⟨rfl, d, kn, hd, rfl, rfl⟩ := hR
  exact s_ifB (b := true) (tb_is (tb_not (tb_B (j_call (R := R_is_ledger K) (ae_cons (e_var rfl) ae_nil) fun sls e => ⟨rfl, d, kn, e, rfl⟩))) (by rw [hd]; rfl)) hA (fun _ Hk1 H1 g1 a1 => s_raise fin a1 (Nat.le_refl _) T.g_InvalidLedger) (fun h => by cases h)
/-! ### Ledger__init__ -/
theorem ok_Ledger__init__ (T : Tx K mg) : FnOk P w K mg base CX0 5 T.a_Ledger__init__ T.fd_Ledger__init__ P_Ledger__init__ (spI T.C_Ledger "_pairs" (fun d => ∃ l, Led l ∧ l.length ≤ 100000 ∧ d = led l)) := by
  have G_check_ledger := ok_check_ledger (P := P) (w := w) (base := base) T
  refine init_ok rfl rfl T.F_Ledger__init__ sc_Ledger__init__ T.cl_Ledger T.n_Ledger (fun cdv A outer s B0 E hr => (pss_cons (ps_expr (pe_call G_check_ledger (hr.mono (by decide)) (by rfl) T.m_check_ledger T.F_check_ledger.kp T.b_check_ledger .nil pass0 (pa_cons (pv 1) pa_nil)))
      (pss_one (ps_fld (pv 0) (pv 1) rfl)))) fun q δ d hd h1 => ?_
  obtain ⟨l, hL, hl, rfl⟩ := hd
  exact j_call (R := R_check_ledger) (c := 0) (ae_cons (e_var h1) ae_nil) fun sls e => ⟨rfl, l, hL, hl, e, rfl⟩
/-! ### _law_no_numbers -/
def R__law_no_numbers : RelX := fun q sls c Φ => c = 3 ∧ ∃ (p : Addr) (f : List Int), q = some p ∧ f ≠ [] ∧ f.length ≤ 400 ∧ sls = [.adr p, .dat (pol f)] ∧ Φ = fun d => isSumsD d = false ∧ deep 2 d = true ∧ ShortT d
theorem ok__law_no_numbers (T : Tx K mg) : FnOk P w K mg base CX0 3 T.a__law_no_numbers T.fd__law_no_numbers P__law_no_numbers (spX R__law_no_numbers) := by
  have G__law_odd := ok__law_odd (P := P) (w := w) (base := base) T
  have G__law_pick := ok__law_pick (P := P) (w := w) (base := base) T
  refine fn_ok T.F__law_no_numbers sc__law_no_numbers (by decide) (fun q sls c Φ h => by obtain ⟨_, p, f, _, _, _, rfl, _⟩ := h; rfl) fun cdv A outer s B0 Ew hr => ⟨_,
    (pss_cons (ps_par (i := 2) (j := 3) (by rfl) sc__law_no_numbers.nd rfl rfl (by decide) rfl rfl (pa_cons (pe_call G__law_pick (hr.mono (by decide)) (by rfl) T.m__law_pick T.F__law_pick.kp T.b__law_pick .nil pass0 (pa_cons (pv 0) (pa_cons pe_int pa_nil))) (pa_cons (pe_call G__law_pick (hr.mono (by decide)) (by rfl) T.m__law_pick T.F__law_pick.kp T.b__law_pick .nil pass0 (pa_cons (pv 0) (pa_cons (pe_callB (k_len (K := K) rfl) (by rfl) T.z_len (by decide +kernel) (pa_cons (pv 1) pa_nil)) pa_nil))) pa_nil)) (by rfl))
      (pss_cons (ps_if (pt_cmpR op_lt (pv 2) pe_int (nomark _)) (pss_one (ps_ret (pe_ix (k_ix (K := K) rfl) (pe_lst (pa_cons (Cr.pe_tup pa_nil) (pa_cons (pe_callTy (k_lst (K := K) rfl) (by rfl) T.z_list (by decide +kernel) (pa_cons (pv 1) pa_nil)) (pa_cons pe_non (pa_cons pe_int (pa_cons pe_dnewK pa_nil)))))) (pv 2) (fun _ _ => rfl)))) pss_nil)
      (pss_cons (ps_if (pt_cmpR (k_eqD (K := K) rfl hr.units) (pv 2) pe_int (nomark _)) (pss_one (ps_set (i := 3) sc__law_no_numbers.nd rfl (Or.inl rfl) (pe_op op_sub (pe_callB (k_len (K := K) rfl) (by rfl) T.z_len (by decide +kernel) (pa_cons (pv 1) pa_nil)) pe_int))) pss_nil)
      (pss_one (ps_ret (pe_op (k_addU (K := K) rfl) (pe_op (k_addU (K := K) rfl) (pe_slice (k_sl (K := K) rfl) (pv 1) po_none (po_some (pv 3))) (Cr.pe_tup (pa_cons (pe_call G__law_odd (hr.mono (by decide)) (by rfl) T.m__law_odd T.F__law_odd.kp T.b__law_odd .nil pass0 (pa_cons (pv 0) pa_nil)) pa_nil))) (pe_slice (k_sl (K := K) rfl) (pv 1) (po_some (pe_op (k_addU (K := K) rfl) (pv 3) pe_int)) po_none))))))), fun q sls n c Φ A0 σ Q hR hA fin => ?_⟩
  obtain ⟨rfl, p, f, rfl, hf, hl, rfl, rfl⟩ := hR
  have h0 : 0 < f.length := List.length_pos_iff.mpr hf
  refine q_par (n := n + 1) (c := 2) (i := 2) (j := 3) (Ψ := fun a b => ∃ w s : Nat, a = .int (w : Int) ∧ b = .int (s : Int) ∧ w < 9 ∧ s < f.length) ((aj_int (c1 := 1) (c2 := 1) (P := fun x => 0 ≤ x ∧ x < 9) (Φr := fun sls => ∃ i : Int, (0 ≤ i ∧ i < (f.length : Int)) ∧ sls = [.dat (.int i)]) (j_pick rfl e_int (by omega) (by omega)) (aj_int (c1 := 1) (c2 := 0) (P := fun x => 0 ≤ x ∧ x < (f.length : Int)) (Φr := fun sls => sls = []) (j_pick rfl (e_is (e_lenT (ds := f.map .int) (e_var rfl)) (d1 := .int (f.length : Int)) (by rw [pol_len])) (by omega) (by omega)) ae_nil fun i sls hi e => ⟨i, hi, by rw [e]⟩) fun i sls hi ⟨k, hk, e⟩ => ⟨.int i, .int k, by rw [e], i.toNat, k.toNat, by congr 1; omega, by congr 1; omega, by omega, by omega⟩)) hA fun a b σ1 Hk1 H1 ⟨w, s, ea, eb, hw, hs⟩ g1 a1 => ?_
  subst ea; subst eb
  refine q_whenB (b := decide ((w : Int) < 5)) (tb_test (e_ltI (e_var rfl) e_int)) a1 (fun h Hk2 H2 g2 a2 => ?_) (fun h Hk2 H2 g2 a2 => ?_)
  · have hw5 := of_decide_eq_true h
    refine s_ret (n := n) (c := 0) (Φ := fun d => isSumsD d = false ∧ deep 2 d = true ∧ ShortT d) (j_ixOf (ds := [.tuple [], .list (f.map .int), .none, .int 0, .dict []]) (e_lst (ds := [.tuple [], .list (f.map .int), .none, .int 0, .dict []]) (ae_cons (e_tup (ds := []) ae_nil) (ae_cons (e_lstT (e_var rfl)) (ae_cons e_non (ae_cons e_int (ae_cons e_dnew ae_nil)))))) ((e_var rfl).is (P := fun x => 0 ≤ x ∧ x < 5) (by omega)) fun d hd => ?_) a2 (by omega) fin fun d h => h
    simp only [List.mem_cons, List.not_mem_nil, or_false] at hd
    rcases hd with rfl | rfl | rfl | rfl | rfl
    · exact ⟨rfl, rfl, short_tup (by simp)⟩
    · exact ⟨rfl, rfl, fun ds e => by cases e⟩
    · exact ⟨rfl, rfl, fun ds e => by cases e⟩
    · exact ⟨rfl, rfl, fun ds e => by cases e⟩
    · exact ⟨rfl, rfl, fun ds e => by cases e⟩
  · refine q_ifAsg (i := 3) (n := n + 1) (c := 0) (c1 := 0) (P0 := fun _ => True) (d0 := .int (s : Int)) (Φ := IntP fun x => 0 ≤ x ∧ x < (f.length : Int)) (tj_test (E.boolP (e_eqDI (e_var rfl) e_int)).boolAny) a2 (fun _ => (e_subI (e_is (e_lenT (ds := f.map .int) (e_var rfl)) (d1 := .int (f.length : Int)) (by rw [pol_len])) e_int).is (by omega)) rfl (fun _ => ⟨_, by omega, rfl⟩) fun d σ3 Hk3 H3 ⟨x, hx, ed⟩ a3 => ?_
    subst ed
    obtain ⟨s2, rfl⟩ : ∃ s2 : Nat, x = (s2 : Int) := ⟨x.toNat, by omega⟩
    refine s_ret (n := n) (c := 1) (Φ := fun x => ∃ d, d ∈ oddL ∧ x = .tuple ((f.map PyData.int).take s2 ++ [d] ++ (f.map PyData.int).drop (s2 + 1))) (j_putT (e_var rfl) (e_var rfl) (e_is (e_addI (e_var rfl) e_int) (d1 := .int ((s2 + 1 : Nat) : Int)) rfl) (j_call (R := R__law_odd) (c := 1) (c1 := 0) (ae_adr rfl ae_nil) fun sls e => ⟨rfl, p, rfl, e, rfl⟩) (by rw [List.length_map]; omega)) a3 (by omega) fin fun d ⟨y, hy, e⟩ => ?_
    subst e
    exact ⟨no_sums (d := y) (by simp) (odd_int hy), deep_cut (deep_ints 1 f) (odd_deep1 hy), short_cut (by rw [List.length_map]; omega)⟩
/-! ### is_sums -/
def R_is_sums (K : PySem.W.Frag) : RelX := fun _ sls c Φ => c = 0 ∧ ∃ d, Odd K d ∧ sls = [.dat d] ∧ Φ = fun x => x = .bool (isSumsD d)
theorem ok_is_sums (T : Tx K mg) : FnOk P w K mg base CX0 2 T.a_is_sums T.fd_is_sums P_is_sums (spX (R_is_sums K)) := by
  have G_is_an_integer := ok_is_an_integer (P := P) (w := w) (base := base) T
  refine fn_ok T.F_is_sums sc_is_sums (by decide) (fun q sls c Φ h => by obtain ⟨_, d, _, rfl, _⟩ := h; rfl) fun cdv A outer s B0 Ew hr => ⟨_,
    (pss_one (ps_ret (pe_and (pe_callB (k_isi (K := K) rfl) (by rfl) T.z_isinstance (by decide +kernel) (pa_cons (pv 0) (pa_cons (pe_bltn (v := .ty "tuple") (by rfl) T.z_tuple (by decide +kernel) rfl) pa_nil))) (pe_and (pe_cmpR op_gt (pe_callB (k_len (K := K) rfl) (by rfl) T.z_len (by decide +kernel) (pa_cons (pv 0) pa_nil)) pe_int (nomark _)) (pe_one (pe_callB (k_all (K := K) rfl rfl) (by rfl) T.z_all (by decide +kernel) (pa_cons (pe_lc (own := [("number", 1)]) rfl sc_is_sums.nd (k_piTup (K := K) rfl (pv 0)) (blkOk_by (own := [("number", 1)]) (N := N_is_sums) (sc := defScope s_is_sums) (by decide +kernel)) (fun _ _ _ _ _ => (pg_name (i := 1) sc_is_sums.nd rfl (Or.inl rfl))) (fun _ _ _ _ _ => pts_nil) (fun _ _ _ _ _ => (pe_call G_is_an_integer (hr.mono (by decide)) (by rfl) T.m_is_an_integer T.F_is_an_integer.kp T.b_is_an_integer .nil pass0 (pa_cons (pv 1) pa_nil)))) pa_nil))))))), fun q sls n c Φ A0 σ Q hR hA fin => ?_⟩
  obtain ⟨rfl, d, od, rfl, rfl⟩ := hR
  refine s_retE (d := .bool (isSumsD d)) ?_ hA (Nat.le_refl _) fin rfl
  have nonT : isiTup d = false → isSumsD d = false := fun h => by cases d <;> first | rfl | cases h
  by_cases ht : isiTup d = true
  · obtain ⟨ds, rfl⟩ : ∃ ds, d = .tuple ds := by
      cases d with
      | tuple ds => exact ⟨ds, rfl⟩
      | _ => cases ht
    have hlen := od.sh ds rfl
    exact e_is (e_andV (a := true) (b := decide ((0 : Int) < (ds.length : Int)) && ds.all isIntD) (e_isi (e_var rfl) (kit_tuple _)) fun _ => e_andV (e_gtI (e_lenT (e_var rfl)) e_int) fun _ => e_is (e_all (bs := ds.map isIntD) (e_is (e_lc1 (vs := [1]) (emb := id) (xs := ds) (by rw [List.map_id]; exact ie_tup (e_var rfl)) (fun x => .bool (isIntD x)) (by omega) fun x hx => ⟨_, gb_name (by simp), j_call (R := R_is_an_integer K) (ae_cons (e_var rfl) ae_nil) fun sls e => ⟨rfl, x, kn_deep (od.dp ds rfl x hx), e, rfl⟩⟩) (by rw [bools_map]))) (by rw [all_id_map])) rfl
  · have hf : isiTup d = false := by simpa using ht
    rw [nonT hf]
    exact e_andNo (e_is (e_isiT (e_var rfl) od.kn) (by rw [hf]))
/-! ### check_sums -/
def R_check_sums : RelX := fun _ sls c Φ => c = 0 ∧ ∃ f : List Int, f ≠ [] ∧ f.length ≤ 100000 ∧ sls = [.dat (pol f)] ∧ Φ = fun x => x = .none
theorem ok_check_sums (T : Tx K mg) : FnOk P w K mg base CX0 3 T.a_check_sums T.fd_check_sums P_check_sums (spX R_check_sums) := by
  have G_is_sums := ok_is_sums (P := P) (w := w) (base := base) T
  refine fn_ok T.F_check_sums sc_check_sums (by decide) (fun q sls c Φ h => by obtain ⟨_, f, _, _, rfl, _⟩ := h; rfl) fun cdv A outer s B0 Ew hr => ⟨_,
    (pss_one (ps_if (pt_not (pt_val (pe_call G_is_sums (hr.mono (by decide)) (by rfl) T.m_is_sums T.F_is_sums.kp T.b_is_sums .nil pass0 (pa_cons (pv 0) pa_nil)))) (pss_one ps_never) pss_nil)), fun q sls n c Φ A0 σ Q hR hA fin => ?_⟩
  obtain ⟨rfl, f, hf, hl, rfl, rfl⟩ := hR
  exact s_ifNo (tb_is (tb_not (tb_B (j_call (R := R_is_sums K) (ae_cons (e_var rfl) ae_nil) fun sls e => ⟨rfl, pol f, Odd.of (fun ds e => by cases e; rw [List.length_map]; exact hl) (deep_pol 2 f), e, rfl⟩))) (by rw [pol_isSums hf]; rfl)) hA fun Hk' H2 g a => s_end a (Nat.le_refl _) fin rfl
/-! ### check_sums, where it raises -/
def B_check_sums (K : PySem.W.Frag) : RelE := fun _ sls c x => c = 0 ∧ ∃ d, Odd K d ∧ isSumsD d = false ∧ sls = [.dat d] ∧ x = "InvalidSums"
theorem ck_sums {K : PySem.W.Frag} {mg : Str → Option Value} {q : Option Addr} {δ : List Sl} {te : TE} {d : PyData} {E0 : XK} (h : isSumsD d = true) (o : Odd K d) (ed : E q δ te d) : E q δ (tCall (spU (spX R_check_sums) (spE mg (B_check_sums K))) [] E0 (tCons te tNil)) .none := by
  obtain ⟨f, hf, rfl⟩ := sums_pol h
  exact j_callU (R := R_check_sums) (c := 0) (ae_cons ed ae_nil) fun sls e => ⟨rfl, f, hf, by have := o.sh _ rfl; rwa [List.length_map] at this, e, rfl⟩
theorem ox_check_sums (T : Tx K mg) : FnOk P w K mg base (L2.CX P w) 3 T.a_check_sums T.fd_check_sums P_check_sums (spE mg (B_check_sums K)) := by
  have G_is_sums := ok_is_sums (P := P) (w := w) (base := base) T
  refine fn_okE T.F_check_sums sc_check_sums (by decide) (fun q sls c x h => by obtain ⟨_, d, _, _, rfl, _⟩ := h; rfl) fun cdv A outer s B0 Ew hr => ⟨_,
    (pss_one (ps_if (pt_not (pt_val (pe_call G_is_sums (hr.mono (by decide)) (by rfl) T.m_is_sums T.F_is_sums.kp T.b_is_sums .nil pass0 (pa_cons (pv 0) pa_nil)))) (pss_one (ps_raise rfl (takes_of (E := Ew) rfl rfl rfl rfl) (pmk_own0 PySem.F.excBase_ValueError T.x_InvalidSums T.g_InvalidSums T.k_InvalidSums (raises_own T.u_InvalidSums T.t_InvalidSums) rfl))) pss_nil)), fun q sls n c x A0 σ Q hR hA fin => ?_⟩
  obtain ⟨rfl, d, kn, hd, rfl, rfl⟩ := hR
  exact s_ifB (b := true) (tb_is (tb_not (tb_B (j_call (R := R_is_sums K) (ae_cons (e_var rfl) ae_nil) fun sls e => ⟨rfl, d, kn, e, rfl⟩))) (by rw [hd]; rfl)) hA (fun _ Hk1 H1 g1 a1 => s_raise fin a1 (Nat.le_refl _) T.g_InvalidSums) (fun h => by cases h)
/-! ### Sums__init__ -/
theorem ok_Sums__init__ (T : Tx K mg) : FnOk P w K mg base CX0 4 T.a_Sums__init__ T.fd_Sums__init__ P_Sums__init__ (spI T.C_Sums "_numbers" (fun d => ∃ f : List Int, f ≠ [] ∧ f.length ≤ 100000 ∧ d = pol f)) := by
  have G_check_sums := ok_check_sums (P := P) (w := w) (base := base) T
  refine init_ok rfl rfl T.F_Sums__init__ sc_Sums__init__ T.cl_Sums T.n_Sums (fun cdv A outer s B0 E hr => (pss_cons (ps_expr (pe_call G_check_sums (hr.mono (by decide)) (by rfl) T.m_check_sums T.F_check_sums.kp T.b_check_sums .nil pass0 (pa_cons (pv 1) pa_nil)))
      (pss_one (ps_fld (pv 0) (pv 1) rfl)))) fun q δ d hd h1 => ?_
  obtain ⟨f, hf, hl, rfl⟩ := hd
  exact j_call (R := R_check_sums) (c := 0) (ae_cons (e_var h1) ae_nil) fun sls e => ⟨rfl, f, hf, hl, e, rfl⟩
/-! ### _law_bad -/
def Jk (s : Int) : Nat → PyData → Bool
  | 0 => isLedD
  | 1 => isSumsD
  | 2 => isFromD 0
  | 4 => isWidthD s
  | 5 => isKeysD s
  | _ => isIntD
def R__law_bad (K : PySem.W.Frag) : RelX := fun q sls c Φ => c = 12 ∧ ∃ (p : Addr) (k : Nat) (d0 : PyData) (s : Int), q = some p ∧ k < 6 ∧ 1 ≤ s ∧ s ≤ 40 ∧ Gd s k d0 ∧ sls = [.adr p, .dat (.str (kN k)), .dat d0, .dat (.int s)] ∧ Φ = fun d => Jk s k d = false ∧ Odd K d
theorem ok__law_bad (T : Tx K mg) : FnOk P w K mg base CX0 7 T.a__law_bad T.fd__law_bad P__law_bad (spX (R__law_bad K)) := by
  have G_Ledger__init__ := ok_Ledger__init__ (P := P) (w := w) (base := base) T
  have G_Sums__init__ := ok_Sums__init__ (P := P) (w := w) (base := base) T
  have G__law_no_book := ok__law_no_book (P := P) (w := w) (base := base) T
  have G__law_no_number := ok__law_no_number (P := P) (w := w) (base := base) T
  have G__law_no_numbers := ok__law_no_numbers (P := P) (w := w) (base := base) T
  have G__law_no_places := ok__law_no_places (P := P) (w := w) (base := base) T
  have G__law_odd := ok__law_odd (P := P) (w := w) (base := base) T
  have G__law_pick := ok__law_pick (P := P) (w := w) (base := base) T
  refine fn_ok T.F__law_bad sc__law_bad (by decide) (fun q sls c Φ h => by obtain ⟨_, p, k, d0, s, _, _, _, _, _, rfl, _⟩ := h; rfl) fun cdv A outer s B0 Ew hr => ⟨_,
    (pss_cons (ps_if (pt_cmpR (k_eqD (K := K) rfl hr.units) (pv 1) pe_str (nomark _)) (pss_one (ps_ret (pe_ifExp (pt_cmpR op_gt (pe_call G__law_pick (hr.mono (by decide)) (by rfl) T.m__law_pick T.F__law_pick.kp T.b__law_pick .nil pass0 (pa_cons (pv 0) (pa_cons pe_int pa_nil))) pe_int (nomark _)) (pe_call G__law_no_book (hr.mono (by decide)) (by rfl) T.m__law_no_book T.F__law_no_book.kp T.b__law_no_book .nil pass0 (pa_cons (pv 0) (pa_cons (pv 2) pa_nil))) (pe_make T.M_Ledger G_Ledger__init__ (hr.mono (by decide)) (by rfl) T.m_Ledger T.b_Ledger__init__ .nil pass0 (pa_cons (pv 2) pa_nil))))) pss_nil)
      (pss_cons (ps_if (pt_cmpR (k_eqD (K := K) rfl hr.units) (pv 1) pe_str (nomark _)) (pss_one (ps_ret (pe_ifExp (pt_cmpR op_gt (pe_call G__law_pick (hr.mono (by decide)) (by rfl) T.m__law_pick T.F__law_pick.kp T.b__law_pick .nil pass0 (pa_cons (pv 0) (pa_cons pe_int pa_nil))) pe_int (nomark _)) (pe_call G__law_no_numbers (hr.mono (by decide)) (by rfl) T.m__law_no_numbers T.F__law_no_numbers.kp T.b__law_no_numbers .nil pass0 (pa_cons (pv 0) (pa_cons (pv 2) pa_nil))) (pe_make T.M_Sums G_Sums__init__ (hr.mono (by decide)) (by rfl) T.m_Sums T.b_Sums__init__ .nil pass0 (pa_cons (pv 2) pa_nil))))) pss_nil)
      (pss_cons (ps_if (pt_cmpR (k_eqD (K := K) rfl hr.units) (pv 1) pe_str (nomark _)) (pss_one (ps_ret (pe_call G__law_no_number (hr.mono (by decide)) (by rfl) T.m__law_no_number T.F__law_no_number.kp T.b__law_no_number .nil pass0 (pa_cons (pv 0) (pa_cons pe_int pa_nil))))) pss_nil)
      (pss_cons (ps_if (pt_cmpR (k_eqD (K := K) rfl hr.units) (pv 1) pe_str (nomark _)) (pss_one (ps_ret (pe_call G__law_no_places (hr.mono (by decide)) (by rfl) T.m__law_no_places T.F__law_no_places.kp T.b__law_no_places .nil pass0 (pa_cons (pv 0) (pa_cons (pv 2) (pa_cons (pv 3) pa_nil)))))) pss_nil)
      (pss_cons (ps_if (PW.pt (pw_and (pt_cmpR (k_eqD (K := K) rfl hr.units) (pv 1) pe_str (nomark _)) (pw_and1 (pt_cmpR (k_eqD (K := K) rfl hr.units) (pe_call G__law_pick (hr.mono (by decide)) (by rfl) T.m__law_pick T.F__law_pick.kp T.b__law_pick .nil pass0 (pa_cons (pv 0) (pa_cons pe_int pa_nil))) pe_int (nomark _))))) (pss_one (ps_ret (pe_op (k_addU (K := K) rfl) (pe_op (k_addU (K := K) rfl) (pv 3) pe_int) (pe_ix (k_ix (K := K) rfl) (pe_lst (pa_cons pe_int (pa_cons (pe_call G__law_pick (hr.mono (by decide)) (by rfl) T.m__law_pick T.F__law_pick.kp T.b__law_pick .nil pass0 (pa_cons (pv 0) (pa_cons (pe_op op_powW pe_int pe_int) pa_nil))) pa_nil))) (pe_call G__law_pick (hr.mono (by decide)) (by rfl) T.m__law_pick T.F__law_pick.kp T.b__law_pick .nil pass0 (pa_cons (pv 0) (pa_cons pe_int pa_nil))) (fun _ _ => rfl))))) pss_nil)
      (pss_one (ps_ret (pe_ifExp (pt_cmpR (k_eqD (K := K) rfl hr.units) (pv 1) pe_str (nomark _)) (pe_call G__law_no_number (hr.mono (by decide)) (by rfl) T.m__law_no_number T.F__law_no_number.kp T.b__law_no_number .nil pass0 (pa_cons (pv 0) (pa_cons pe_int pa_nil))) (pe_call G__law_odd (hr.mono (by decide)) (by rfl) T.m__law_odd T.F__law_odd.kp T.b__law_odd .nil pass0 (pa_cons (pv 0) pa_nil)))))))))), fun q sls n c Φ A0 σ Q hR hA fin => ?_⟩
  obtain ⟨rfl, p, k, d0, s, rfl, hk, hs1, hs2, hg, rfl, rfl⟩ := hR
  have some0 : ∀ {δ : List Sl} {m : Int}, δ[0]? = some (.adr p) → 0 < m → m < 100 → TJ (some p) δ (tTest (tOp (rI0 fun i j => .bl (decide (j < i))) (tCall (spX R_pick) [] Ew (tCons (tVar 0) (tCons (tC (.int m)) tNil))) (tC (.int 0)))) 1 (fun _ => True) := fun h h0 h1 => tj_test ((j_I0 (Φ := BoolP fun _ => True) (j_pick h e_int (by omega) (by omega)) e_int.intP fun i j _ _ => ⟨_, trivial, rfl⟩).cost (by omega))
  have odd : ∀ {δ : List Sl}, δ[0]? = some (.adr p) → J (some p) δ (tCall (spX R__law_odd) [] Ew (tCons (tVar 0) tNil)) 1 (fun d => d ∈ oddL) := fun h => j_call (R := R__law_odd) (c := 1) (c1 := 0) (ae_adr h ae_nil) fun sls e => ⟨rfl, p, rfl, e, rfl⟩
  match k, hk, hg with
  | 0, _, hg =>
    obtain ⟨l, hL, hK, hl, hdn, rfl⟩ := hg
    refine q_whenB (b := true) (tb_is (tb_test (e_eqD (d1 := .str "book") (d2 := .str "book") (e_var rfl) e_str (by decide +kernel) (by decide +kernel))) (by decide +kernel)) hA (fun _ Hk1 H1 g1 a1 => ?_) (fun h => by cases h)
    exact s_ret (n := n) (c := 5) (Φ := fun d => isLedD d = false ∧ Odd K d) (j_if (c := 1) (c1 := 4) (P := fun _ => True) (some0 rfl (by omega) (by omega)) (fun _ => (j_call (R := R__law_no_book) (c := 4) (c1 := 0) (Φ := fun d => isLedD d = false ∧ deep 2 d = true ∧ ShortT d) (ae_adr rfl (ae_cons (e_var rfl) ae_nil)) fun sls e => ⟨rfl, p, l, rfl, hL, by omega, e, rfl⟩).imp fun d h => ⟨h.1, Odd.of h.2.2 h.2.1⟩) (fun _ => ((e_make (e_var rfl) ⟨l, hL, by omega, rfl⟩).imp fun d e => by rw [e]; exact ⟨rfl, Odd.ins T.cl_Ledger T.I_Ledger⟩).cost (by omega))) a1 (by omega) fin fun d h => h
  | 1, _, hg =>
    obtain ⟨f, hf, hB, rfl⟩ := hg
    refine q_whenB (b := false) (tb_is (tb_test (e_eqD (d1 := .str "nums") (d2 := .str "book") (e_var rfl) e_str (by decide +kernel) (by decide +kernel))) (by decide +kernel)) hA (fun h => by cases h) (fun _ Hk1 H1 g1 a1 => ?_)
    refine q_whenB (b := true) (tb_is (tb_test (e_eqD (d1 := .str "nums") (d2 := .str "nums") (e_var rfl) e_str (by decide +kernel) (by decide +kernel))) (by decide +kernel)) a1 (fun _ Hk2 H2 g2 a2 => ?_) (fun h => by cases h)
    exact s_ret (n := n) (c := 4) (Φ := fun d => isSumsD d = false ∧ Odd K d) (j_if (c := 1) (c1 := 3) (P := fun _ => True) (some0 rfl (by omega) (by omega)) (fun _ => (j_call (R := R__law_no_numbers) (c := 3) (c1 := 0) (Φ := fun d => isSumsD d = false ∧ deep 2 d = true ∧ ShortT d) (ae_adr rfl (ae_cons (e_var rfl) ae_nil)) fun sls e => ⟨rfl, p, f, rfl, List.length_pos_iff.mp (by omega), by omega, e, rfl⟩).imp fun d h => ⟨h.1, Odd.of h.2.2 h.2.1⟩) (fun _ => ((e_make (e_var rfl) ⟨f, List.length_pos_iff.mp (by omega), by omega, rfl⟩).imp fun d e => by rw [e]; exact ⟨rfl, Odd.ins T.cl_Sums T.I_Sums⟩).cost (by omega))) a2 (by omega) fin fun d h => h
  | 2, _, hg =>
    refine q_whenB (b := false) (tb_is (tb_test (e_eqD (d1 := .str "size") (d2 := .str "book") (e_var rfl) e_str (by decide +kernel) (by decide +kernel))) (by decide +kernel)) hA (fun h => by cases h) (fun _ Hk1 H1 g1 a1 => ?_)
    refine q_whenB (b := false) (tb_is (tb_test (e_eqD (d1 := .str "size") (d2 := .str "nums") (e_var rfl) e_str (by decide +kernel) (by decide +kernel))) (by decide +kernel)) a1 (fun h => by cases h) (fun _ Hk2 H2 g2 a2 => ?_)
    refine q_whenB (b := true) (tb_is (tb_test (e_eqD (d1 := .str "size") (d2 := .str "size") (e_var rfl) e_str (by decide +kernel) (by decide +kernel))) (by decide +kernel)) a2 (fun _ Hk3 H3 g3 a3 => ?_) (fun h => by cases h)
    exact s_ret (n := n) (c := 3) (Φ := fun d => isFromD 0 d = false ∧ deep 2 d = true ∧ ShortT d) (j_call (R := R__law_no_number) (c := 3) (c1 := 0) (ae_adr rfl (ae_cons e_int ae_nil)) fun sls e => ⟨rfl, p, 0, rfl, by omega, by omega, e, rfl⟩) a3 (by omega) fin fun d h => ⟨h.1, Odd.of h.2.2 h.2.1⟩
  | 3, _, hg =>
    refine q_whenB (b := false) (tb_is (tb_test (e_eqD (d1 := .str "place") (d2 := .str "book") (e_var rfl) e_str (by decide +kernel) (by decide +kernel))) (by decide +kernel)) hA (fun h => by cases h) (fun _ Hk1 H1 g1 a1 => ?_)
    refine q_whenB (b := false) (tb_is (tb_test (e_eqD (d1 := .str "place") (d2 := .str "nums") (e_var rfl) e_str (by decide +kernel) (by decide +kernel))) (by decide +kernel)) a1 (fun h => by cases h) (fun _ Hk2 H2 g2 a2 => ?_)
    refine q_whenB (b := false) (tb_is (tb_test (e_eqD (d1 := .str "place") (d2 := .str "size") (e_var rfl) e_str (by decide +kernel) (by decide +kernel))) (by decide +kernel)) a2 (fun h => by cases h) (fun _ Hk3 H3 g3 a3 => ?_)
    refine q_whenB (b := false) (tb_is (tb_test (e_eqD (d1 := .str "place") (d2 := .str "places") (e_var rfl) e_str (by decide +kernel) (by decide +kernel))) (by decide +kernel)) a3 (fun h => by cases h) (fun _ Hk4 H4 g4 a4 => ?_)
    refine q_whenB (b := false) (tb_is (tb_and (a := false) (b := false) (tb_is (tb_test (e_eqD (d1 := .str "place") (d2 := .str "wide") (e_var rfl) e_str (by decide +kernel) (by decide +kernel))) (by decide +kernel)) (fun h => by cases h)) rfl) a4 (fun h => by cases h) (fun _ Hk7 H7 g7 a7 => ?_)
    exact s_ret (n := n) (c := 1) (Φ := fun d => isIntD d = false ∧ Odd K d) ((j_if (c := 0) (c1 := 1) (P := fun b => b = false) (tb_is (tb_test (e_eqD (d1 := .str "place") (d2 := .str "wide") (e_var rfl) e_str (by decide +kernel) (by decide +kernel))) (by decide +kernel)) (fun h => by cases h) (fun _ => (odd rfl).imp fun d h => ⟨odd_int h, Odd.of (odd_short h) (odd_deep h)⟩)).cost (by omega)) a7 (by omega) fin fun d h => h
  | 4, _, hg =>
    refine q_whenB (b := false) (tb_is (tb_test (e_eqD (d1 := .str "wide") (d2 := .str "book") (e_var rfl) e_str (by decide +kernel) (by decide +kernel))) (by decide +kernel)) hA (fun h => by cases h) (fun _ Hk1 H1 g1 a1 => ?_)
    refine q_whenB (b := false) (tb_is (tb_test (e_eqD (d1 := .str "wide") (d2 := .str "nums") (e_var rfl) e_str (by decide +kernel) (by decide +kernel))) (by decide +kernel)) a1 (fun h => by cases h) (fun _ Hk2 H2 g2 a2 => ?_)
    refine q_whenB (b := false) (tb_is (tb_test (e_eqD (d1 := .str "wide") (d2 := .str "size") (e_var rfl) e_str (by decide +kernel) (by decide +kernel))) (by decide +kernel)) a2 (fun h => by cases h) (fun _ Hk3 H3 g3 a3 => ?_)
    refine q_whenB (b := false) (tb_is (tb_test (e_eqD (d1 := .str "wide") (d2 := .str "places") (e_var rfl) e_str (by decide +kernel) (by decide +kernel))) (by decide +kernel)) a3 (fun h => by cases h) (fun _ Hk4 H4 g4 a4 => ?_)
    refine q_when (n := n + 11) (c := 1) (P := fun _ => True) (tj_and (a := true) (tb_is (tb_test (e_eqD (d1 := .str "wide") (d2 := .str "wide") (e_var rfl) e_str (by decide +kernel) (by decide +kernel))) (by decide +kernel)) (fun _ => (tj_test ((j_eqDI (Φ := BoolP fun _ => True) (j_pick rfl e_int (by omega) (by omega)) e_int.intP fun i j _ _ => ⟨i == j, trivial, rfl⟩)))) (fun h => by cases h)) a4 (fun _ Hk7 H7 g7 a7 => ?_) (fun _ Hk7 H7 g7 a7 => ?_)
    · refine s_ret (n := n) (c := 2) (Φ := IntP fun x => s < x) ((j_addI (c1 := 0) (c2 := 2) (P1 := fun x => x = s + 1) (P2 := fun x => 0 ≤ x) (e_addI (e_var rfl) e_int).intP ((j_menu (P := fun x => 0 ≤ x) (aji_cons (e_int.is (by omega)) (aji_cons ((j_pick (b := 100000000000000) rfl (e_ten (v := 100000000000000) (by omega) (by omega) (by decide)) (by omega) (by omega)).intImp (c1 := 1) (by omega) fun x hx => hx.1) aji_nil)) (by omega) (j_pick rfl e_int (by omega) (by omega))).cost (by omega)) fun i k hi hk => ⟨i + k, by have h1 : i = s + 1 := hi; have h2 : 0 ≤ k := hk; show s < i + k; omega, rfl⟩).cost (by omega)) a7 (by omega) fin fun d ⟨x, hx, e⟩ => ?_
      subst e
      exact ⟨by show (decide (1 ≤ x) && decide (x ≤ s)) = false; rw [decide_eq_false (by omega : ¬ x ≤ s), Bool.and_false], Odd.of (fun ds e => by cases e) rfl⟩
    · exact s_ret (n := n) (c := 3) (Φ := fun d => isWidthD s d = false ∧ Odd K d) ((j_if (c := 0) (c1 := 3) (P := fun b => b = true) (tb_is (tb_test (e_eqD (d1 := .str "wide") (d2 := .str "wide") (e_var rfl) e_str (by decide +kernel) (by decide +kernel))) (by decide +kernel)) (fun _ => (j_call (R := R__law_no_number) (c := 3) (c1 := 0) (Φ := fun d => isFromD 1 d = false ∧ deep 2 d = true ∧ ShortT d) (ae_adr rfl (ae_cons e_int ae_nil)) fun sls e => ⟨rfl, p, 1, rfl, by omega, by omega, e, rfl⟩).imp fun d h => ⟨width_from h.1, Odd.of h.2.2 h.2.1⟩) (fun h => by cases h)).cost (by omega)) a7 (by omega) fin fun d h => h
  | 5, _, hg =>
    obtain ⟨f, hp, hB, hl, rfl⟩ := hg
    refine q_whenB (b := false) (tb_is (tb_test (e_eqD (d1 := .str "places") (d2 := .str "book") (e_var rfl) e_str (by decide +kernel) (by decide +kernel))) (by decide +kernel)) hA (fun h => by cases h) (fun _ Hk1 H1 g1 a1 => ?_)
    refine q_whenB (b := false) (tb_is (tb_test (e_eqD (d1 := .str "places") (d2 := .str "nums") (e_var rfl) e_str (by decide +kernel) (by decide +kernel))) (by decide +kernel)) a1 (fun h => by cases h) (fun _ Hk2 H2 g2 a2 => ?_)
    refine q_whenB (b := false) (tb_is (tb_test (e_eqD (d1 := .str "places") (d2 := .str "size") (e_var rfl) e_str (by decide +kernel) (by decide +kernel))) (by decide +kernel)) a2 (fun h => by cases h) (fun _ Hk3 H3 g3 a3 => ?_)
    refine q_whenB (b := true) (tb_is (tb_test (e_eqD (d1 := .str "places") (d2 := .str "places") (e_var rfl) e_str (by decide +kernel) (by decide +kernel))) (by decide +kernel)) a3 (fun _ Hk4 H4 g4 a4 => ?_) (fun h => by cases h)
    exact s_ret (n := n) (c := 9) (Φ := fun d => isKeysD s d = false ∧ deep 2 d = true ∧ ShortT d) (j_call (R := R__law_no_places) (c := 9) (c1 := 0) (ae_adr rfl (ae_cons (e_var rfl) (ae_cons (e_var rfl) ae_nil))) fun sls e => ⟨rfl, p, f, s, rfl, hB, by omega, by omega, by omega, e, rfl⟩) a4 (by omega) fin fun d h => ⟨h.1, Odd.of h.2.2 h.2.1⟩
/-! ### convolved -/
def R_convolved : RelX := fun _ sls c Φ => c = 0 ∧ ∃ (f g : List Int) (B : Nat), CB B f ∧ CB B g ∧ 0 < B ∧ B ≤ 100000 ∧ f.length ≤ 1000 ∧ g.length ≤ 1000 ∧ sls = [.dat (pol f), .dat (pol g)] ∧ Φ = fun d => d = pol (convP f g)
theorem ok_convolved (T : Tx K mg) : FnOk P w K mg base CX0 1 T.a_convolved T.fd_convolved P_convolved (spX R_convolved) := by
  refine fn_ok T.F_convolved sc_convolved (by decide) (fun q sls c Φ h => by obtain ⟨_, f, g, B, _, _, _, _, _, _, rfl, _⟩ := h; rfl) fun cdv A outer s B0 Ew hr => ⟨_,
    (pss_cons (ps_if (PW.pt (pw_or (pt_cmpR (k_eqD (K := K) rfl hr.units) (pv 0) (Cr.pe_tup pa_nil) (nomark _)) (pw_or1 (pt_cmpR (k_eqD (K := K) rfl hr.units) (pv 1) (Cr.pe_tup pa_nil) (nomark _))))) (pss_one (ps_ret (Cr.pe_tup pa_nil))) pss_nil)
      (pss_cons (ps_set (i := 2) sc_convolved.nd rfl (Or.inl rfl) (pe_op op_mulU (pe_lst (pa_cons pe_int pa_nil)) (pe_op op_sub (pe_op (k_addU (K := K) rfl) (pe_callB (k_len (K := K) rfl) (by rfl) T.z_len (by decide +kernel) (pa_cons (pv 0) pa_nil)) (pe_callB (k_len (K := K) rfl) (by rfl) T.z_len (by decide +kernel) (pa_cons (pv 1) pa_nil))) pe_int)))
      (pss_cons (ps_for PassesOwn.never rfl (pi_enumT (K := K) rfl rfl T.z_enumerate (pa_cons (pv 0) pa_nil)) (k_pgTup (K := K) (n := 2) rfl rfl (pgs_cons (pg_name (i := 3) sc_convolved.nd rfl (Or.inl rfl)) (pgs_cons (pg_name (i := 4) sc_convolved.nd rfl (Or.inl rfl)) pgs_nil))) (pss_one (ps_for PassesOwn.never rfl (pi_enumT (K := K) rfl rfl T.z_enumerate (pa_cons (pv 1) pa_nil)) (k_pgTup (K := K) (n := 2) rfl rfl (pgs_cons (pg_name (i := 5) sc_convolved.nd rfl (Or.inl rfl)) (pgs_cons (pg_name (i := 6) sc_convolved.nd rfl (Or.inl rfl)) pgs_nil))) (pss_one (ps_asg (pe_op (k_addU (K := K) rfl) (pe_ix (k_ix (K := K) rfl) (pv 2) (pe_op (k_addU (K := K) rfl) (pv 3) (pv 5)) (fun _ _ => rfl)) (pe_op op_mulU (pv 4) (pv 6))) (pg_sub (pv 2) (pe_op (k_addU (K := K) rfl) (pv 3) (pv 5)) set_list))))))
      (pss_one (ps_ret (pe_callTy (k_tup (K := K) rfl) (by rfl) T.z_tuple (by decide +kernel) (pa_cons (pv 2) pa_nil))))))), fun q sls n c Φ A0 σ Q hR hA fin => ?_⟩
  obtain ⟨rfl, f, g, B, hf, hg, hB0, hB, hl, hl2, rfl, rfl⟩ := hR
  refine q_whenB (b := f.isEmpty || g.isEmpty) (tb_or (tb_test (e_is (e_eqD (e_var rfl) (e_tup (ds := []) ae_nil) (pol_shape f) rfl) (by rw [eqv_pol_nil]))) fun _ => tb_test (e_is (e_eqD (e_var rfl) (e_tup (ds := []) ae_nil) (pol_shape g) rfl) (by rw [eqv_pol_nil]))) hA (fun h Hk1 H1 g1 a1 => ?_) (fun h Hk1 H1 g1 a1 => ?_)
  · have h2 : f = [] ∨ g = [] := by simpa using h
    exact s_retE (d := pol []) (e_is (e_tup (ds := []) ae_nil) rfl) a1 (Nat.le_refl _) fin (by unfold convP; rw [if_pos h2])
  · have h2 : ¬ (f = [] ∨ g = []) := by simpa using h
    have hf0 : 0 < f.length := List.length_pos_iff.mpr fun e => h2 (.inl e)
    have hg0 : 0 < g.length := List.length_pos_iff.mpr fun e => h2 (.inr e)
    refine q_newRep (i := 2) (m := (f.length : Int) + (g.length : Int) - 1) (es := [.int 0]) (ae_cons e_int ae_nil) (by simp) (e_is (e_subI (e_addI (e_lenT (e_var rfl)) (e_lenT (e_var rfl))) e_int) (by rw [pol_len, pol_len])) (by omega) (by omega) (by simp; omega) a1 fun p Hk2 H2 g2 a2 cl2 => ?_
    have em : ((f.length : Int) + (g.length : Int) - 1).toNat = f.length + g.length - 1 := by omega
    rw [em, zeros_data, ← part_zero f g] at cl2
    refine q_for (n := n) (c := 0) (ie_enumT (e_var rfl)) a2 fun items HkW H3 e g3 a3 => ?_
    subst e
    refine ⟨fun i σ' Hk' H' => Same HkW Hk' ∧ At q n [.dat (pol f), .dat (pol g), .adr p, .any, .any, .any, .any] A0 B0 σ' Hk' H' ∧ Cell q B0 Hk' H' p ((part f g i 0).map .int), ⟨Same.refl _, a3, cl2.go g3⟩, fun i σ' Hk' H' h => ⟨h.1, h.2.1.ok.a⟩, ?_, ?_⟩
    · rintro i d σ' Hk' H' ed ⟨h4, st, cl⟩ v Hk4 H4 g4 dv
      obtain ⟨hi, rfl⟩ := enumD_ints ed
      refine gb_tup2 (vs := [3, 4]) (by simp) (by simp) σ' Hk4 H4 v (st.sg.mono g4.k) g4.a dv _ fun σ2 sg2 _ _ => ?_
      have st2 : At q n _ A0 B0 σ2 Hk4 H4 := ⟨st.ok.go g4, sg2, st.gr.trans g4.none_to⟩
      refine s_for (n := n) (c := 0) (ie_enumT (e_var rfl)) st2 fun items HkV H5 e g5 a5 => ?_
      subst e
      refine ⟨fun j σ' Hk' H' => Same HkV Hk' ∧ At q n [.dat (pol f), .dat (pol g), .adr p, .dat (.int (i : Nat)), .dat (.int (f.getD i 0)), .any, .any] A0 B0 σ' Hk' H' ∧ Cell q B0 Hk' H' p ((part f g i j).map .int), ⟨Same.refl _, a5, (cl.go g4.none_to).go g5⟩, fun i σ' Hk' H' h => ⟨h.1, h.2.1.ok.a⟩, ?_, ?_⟩
      · rintro j d σ3 Hk6 H6 ed ⟨h6, st6, cl6⟩ v6 Hk7 H7 g7 dv7
        obtain ⟨hj, rfl⟩ := enumD_ints ed
        refine gb_tup2 (vs := [5, 6]) (by simp) (by simp) σ3 Hk7 H7 v6 (st6.sg.mono g7.k) g7.a dv7 _ fun σ4 sg4 _ _ => ?_
        have st7 : At q n _ A0 B0 σ4 Hk7 H7 := ⟨st6.ok.go g7, sg4, st6.gr.trans g7.none_to⟩
        have hlt : i + j < (part f g i j).length := by rw [part_len]; omega
        have at1 : atI ((part f g i j).map PyData.int) ((i : Int) + (j : Int)) = some (.int ((part f g i j).getD (i + j) 0)) := by
          have z := atI_nat (xs := (part f g i j).map PyData.int) (j := i + j) (v := .int ((part f g i j).getD (i + j) 0)) (by
            rw [List.getElem?_map, List.getElem?_eq_getElem hlt]
            simp [List.getD_eq_getElem?_getD, hlt])
          rwa [Int.natCast_add] at z
        refine s_setCE (i := 2) (j := i + j) (m := (i : Int) + (j : Int)) (c := 0) (Φ := fun d => d = .int ((part f g i j).getD (i + j) 0 + f.getD i 0 * g.getD j 0)) (e_addI (e_iL (e_var rfl) (e_addI (e_var rfl) (e_var rfl)) at1) (e_mulI (e_var rfl) (e_var rfl) (wide_mul (hf _ (Cr.getD_mem hi)) (hg _ (Cr.getD_mem hj)) hB0 hB0 (by omega)))) st7 (cl6.go g7.none_to) rfl (fun d ed => by rw [ed]; rfl) (e_addI (e_var rfl) (e_var rfl)) (by omega) (by rw [List.length_map]; exact hlt) fun d Hk8 H8 ed s8 a8 cl8 => ⟨Hk8, (h6.trans g7.k).trans s8, (a8.forget 5).forget 6, ?_⟩
        rw [ed] at cl8
        rw [part_step]
        unfold addAt
        rw [List.map_set]; exact cl8
      · rintro σ3 Hk6 H6 ⟨h6, st6, cl6⟩
        rw [enumD_len, List.length_map, part_row] at cl6
        exact ⟨Hk6, ((h4.trans g4.k).trans g5.k).trans h6, (st6.forget 3).forget 4, cl6⟩
    · rintro σ' Hk' H' ⟨h4, st, cl⟩
      rw [enumD_len, List.length_map, part_end] at cl
      obtain ⟨Hk5, s5, st5⟩ := st.freeze (i := 2) cl rfl
      exact s_retE (d := pol (conv f g)) (e_tupL (e_var rfl)) st5 (Nat.le_refl _) fin (by unfold convP; rw [if_neg h2])
/-! ### from_roots -/
def R_from_roots : RelX := fun _ sls c Φ => c = 0 ∧ ∃ rs : List Int, CB 56 rs ∧ rs.length ≤ 400 ∧ sls = [.dat (.list (rs.map .int))] ∧ Φ = fun d => d = pol (rootsP rs)
theorem ok_from_roots (T : Tx K mg) : FnOk P w K mg base CX0 2 T.a_from_roots T.fd_from_roots P_from_roots (spX R_from_roots) := by
  have G_convolved := ok_convolved (P := P) (w := w) (base := base) T
  have G_is_an_integer := ok_is_an_integer (P := P) (w := w) (base := base) T
  refine fn_ok T.F_from_roots sc_from_roots (by decide) (fun q sls c Φ h => by obtain ⟨_, rs, _, _, rfl, _⟩ := h; rfl) fun cdv A outer s B0 Ew hr => ⟨_,
    (pss_cons (ps_if (PW.pt (pw_or (pt_not (pt_val (pe_callB (k_isi (K := K) rfl) (by rfl) T.z_isinstance (by decide +kernel) (pa_cons (pv 0) (pa_cons (pe_bltn (v := .ty "list") (by rfl) T.z_list (by decide +kernel) rfl) pa_nil))))) (pw_or1 (pt_not (pt_val (pe_callB (k_all (K := K) rfl rfl) (by rfl) T.z_all (by decide +kernel) (pa_cons (pe_lc (own := [("root", 2)]) rfl sc_from_roots.nd (k_piList (K := K) rfl (pv 0)) (blkOk_by (own := [("root", 2)]) (N := N_from_roots) (sc := defScope s_from_roots) (by decide +kernel)) (fun _ _ _ _ _ => (pg_name (i := 2) sc_from_roots.nd rfl (Or.inl rfl))) (fun _ _ _ _ _ => pts_nil) (fun _ _ _ _ _ => (pe_call G_is_an_integer (hr.mono (by decide)) (by rfl) T.m_is_an_integer T.F_is_an_integer.kp T.b_is_an_integer .nil pass0 (pa_cons (pv 2) pa_nil)))) pa_nil))))))) (pss_one ps_never) pss_nil)
      (pss_cons (ps_set (i := 1) sc_from_roots.nd rfl (Or.inl rfl) (Cr.pe_tup (pa_cons pe_int pa_nil)))
      (pss_cons (ps_for PassesOwn.never rfl (k_piList (K := K) rfl (pv 0)) (pg_name (i := 2) sc_from_roots.nd rfl (Or.inl rfl)) (pss_one (ps_set (i := 1) sc_from_roots.nd rfl (Or.inl rfl) (pe_call G_convolved (hr.mono (by decide)) (by rfl) T.m_convolved T.F_convolved.kp T.b_convolved .nil pass0 (pa_cons (pv 1) (pa_cons (Cr.pe_tup (pa_cons (pe_un un_neg (pv 2)) (pa_cons pe_int pa_nil))) pa_nil))))))
      (pss_one (ps_ret (pv 1)))))), fun q sls n c Φ A0 σ Q hR hA fin => ?_⟩
  obtain ⟨rfl, rs, hB, hl, rfl, rfl⟩ := hR
  refine q_ifNo (tb_is (tb_or (b := false) (tb_not (tb_B (e_isi (e_var rfl) (kit_list _)))) fun _ => tb_is (tb_not (tb_B (e_is (e_all (bs := rs.map fun _ => true) (e_is (e_lc1 (vs := [2]) (emb := PyData.int) (xs := rs) (ie_lst (e_var rfl)) (fun _ => .bool true) (by omega) fun x hx => ⟨_, gb_name (by simp), j_call (R := R_is_an_integer K) (ae_cons (e_var rfl) ae_nil) fun sls e => ⟨rfl, .int x, .inl rfl, e, rfl⟩⟩) (by rw [bools_map]))) (by rw [all_id_map])))) (by simp)) rfl) hA fun Hk1 H1 g1 a1 => ?_
  refine q_asgE (d := pol (rootsP (rs.take 0))) (e_is (e_tup (ds := [.int 1]) (ae_cons e_int ae_nil)) rfl) a1 fun σ2 Hk2 H2 g2 a2 => ?_
  refine q_for (n := n) (c := 0) (ie_lst (e_var rfl)) a2 fun items HkW H3 e g3 a3 => ?_
  subst e
  refine ⟨fun i σ' Hk' H' => Same HkW Hk' ∧ At q n [.dat (.list (rs.map .int)), .dat (pol (rootsP (rs.take i))), .any] A0 B0 σ' Hk' H', ⟨Same.refl _, a3⟩, fun i σ' Hk' H' h => ⟨h.1, h.2.ok.a⟩, ?_, ?_⟩
  · rintro i d σ' Hk' H' ed ⟨h2, st⟩ v Hk4 H4 g4 dv
    rw [List.getElem?_map] at ed
    obtain ⟨r, er, rfl⟩ := Option.map_eq_some_iff.mp ed
    have hi : i < rs.length := (List.getElem?_eq_some_iff.mp er).1
    refine gb_name (vs := [2]) (by simp) σ' Hk4 H4 v (st.sg.mono g4.k) g4.a dv _ fun σ3 sg3 _ _ => ?_
    have st3 : At q n _ A0 B0 σ3 Hk4 H4 := ⟨st.ok.go g4, sg3, st.gr.trans g4.none_to⟩
    have hne : rootsP (rs.take i) ≠ [] := fun e => by
      have z := rootsP_len rs i (by omega)
      rw [e] at z; simp at z
    refine s_asgE (d := pol (rootsP (rs.take (i + 1)))) (j_call (R := R_convolved) (ae_cons (e_var rfl) (ae_cons (e_tup (ds := [.int (-r), .int 1]) (ae_cons (e_un (e_var rfl)) (ae_cons e_int ae_nil))) ae_nil)) fun sls e => ⟨rfl, rootsP (rs.take i), [-r, 1], 1 + 70 * i + 56, (rootsP_CB hB hl i (by omega)).mono (by omega), fun a ha => ?_, by omega, by omega, by rw [rootsP_len rs i (by omega)]; omega, by simp, e, ?_⟩) st3 fun σ4 Hk5 H5 g5 a5 => ⟨Hk5, (h2.trans g4.k).trans g5.k, a5.forget 2⟩
    · simp at ha
      refine Nat.lt_of_lt_of_le ?_ (Nat.pow_le_pow_right (by decide) (show 56 ≤ 1 + 70 * i + 56 by omega))
      rcases ha with e | e
      · rw [e, Int.natAbs_neg]; exact hB r (List.mem_of_getElem? er)
      · rw [e]; decide
    · rw [convP_ne hne (by simp), ← rootsP_snoc, List.take_add_one, er]; rfl
  · rintro σ' Hk' H' ⟨h2, st⟩
    rw [pol_len, List.take_length] at st
    exact s_retE (e_var rfl) st (Nat.le_refl _) fin rfl
/-! ### divided -/
def R_divided : RelX := fun _ sls c Φ => c = 0 ∧ ∃ (f : List Int) (x : Int) (B : Nat), CB B f ∧ B ≤ 100000 ∧ f.length ≤ 1000 ∧ x.natAbs < 2 ^ 60 ∧ sls = [.dat (pol f), .dat (.int x)] ∧ Φ = fun d => d = .tuple [pol (hornL x f).tail, .int (evalP f x)]
theorem ok_divided (T : Tx K mg) : FnOk P w K mg base CX0 1 T.a_divided T.fd_divided P_divided (spX R_divided) := by
  refine fn_ok T.F_divided sc_divided (by decide) (fun q sls c Φ h => by obtain ⟨_, f, x, B, _, _, _, _, rfl, _⟩ := h; rfl) fun cdv A outer s B0 Ew hr => ⟨_,
    (pss_cons (ps_set (i := 2) sc_divided.nd rfl (Or.inl rfl) (pe_lst pa_nil))
      (pss_cons (ps_set (i := 3) sc_divided.nd rfl (Or.inl rfl) pe_int)
      (pss_cons (ps_for PassesOwn.never rfl (k_piTup (K := K) rfl (pe_revT (K := K) rfl (pv 0))) (pg_name (i := 4) sc_divided.nd rfl (Or.inl rfl)) (pss_cons (ps_set (i := 3) sc_divided.nd rfl (Or.inl rfl) (pe_op (k_addU (K := K) rfl) (pe_op op_mulU (pv 3) (pv 1)) (pv 4)))
      (pss_one (ps_expr (pe_bm PySem.F.plainAttrs_list PySem.F.slot_list_append PySem.F.type_list_append mt_append (pv 2) (pa_cons (pv 3) pa_nil))))))
      (pss_one (ps_ret (Cr.pe_tup (pa_cons (pe_callTy (k_tup (K := K) rfl) (by rfl) T.z_tuple (by decide +kernel) (pa_cons (pe_backL (K := K) rfl (pv 2)) pa_nil)) (pa_cons (pv 3) pa_nil)))))))), fun q sls n c Φ A0 σ Q hR hA fin => ?_⟩
  obtain ⟨rfl, f, x, B, hB, hB2, hl, hx, rfl, rfl⟩ := hR
  refine q_newL (i := 2) hA fun p H0 a0 cl0 => ?_
  refine q_asgE e_int a0 fun σ1 Hk1 H1 g1 a1 => ?_
  refine q_for (n := n) (c := 0) (ie_tup (e_revT (e_var rfl))) a1 fun items HkW H2 e g2 a2 => ?_
  subst e
  refine ⟨fun i σ' Hk' H' => Same HkW Hk' ∧ At q n [.dat (pol f), .dat (.int x), .adr p, .dat (.int (evalP (f.drop (f.length - i)) x)), .any] A0 B0 σ' Hk' H' ∧ Cell q B0 Hk' H' p ((hornL x (f.drop (f.length - i))).reverse.map .int), ⟨Same.refl _, by rw [Nat.sub_zero, List.drop_length]; exact a2, by rw [Nat.sub_zero, List.drop_length]; exact (cl0.go g1).go g2⟩, fun i σ' Hk' H' h => ⟨h.1, h.2.1.ok.a⟩, ?_, ?_⟩
  · rintro i d σ' Hk' H' ed ⟨h2, st, cl⟩ v Hk2 H3 g3 dv
    have hi : i < f.length := by
      have z := (List.getElem?_eq_some_iff.mp ed).1
      simpa using z
    have ej : f.length - (i + 1) < f.length := by omega
    obtain rfl : d = .int f[f.length - (i + 1)] := by
      rw [← List.map_reverse, List.getElem?_map, List.getElem?_reverse hi] at ed
      rw [show f.length - 1 - i = f.length - (i + 1) by omega, List.getElem?_eq_getElem ej] at ed
      exact (Option.some.inj ed).symm
    have ec : f.drop (f.length - (i + 1)) = f[f.length - (i + 1)] :: f.drop (f.length - i) := by
      rw [List.drop_eq_getElem_cons ej]
      congr 2
      omega
    refine gb_name (vs := [4]) (by simp) σ' Hk2 H3 v (st.sg.mono g3.k) g3.a dv _ fun σ2 sg2 _ _ => ?_
    have st2 : At q n _ A0 B0 σ2 Hk2 H3 := ⟨st.ok.go g3, sg2, st.gr.trans g3.none_to⟩
    have bd := evalP_bound hx (f := f.drop (f.length - i)) (B := B) fun b hb => hB b (List.mem_of_mem_drop hb)
    have bl : (f.drop (f.length - i)).length ≤ 1000 := by rw [List.length_drop]; omega
    refine q_asgE (i := 3) (d := .int (evalP (f.drop (f.length - (i + 1))) x)) (e_is (e_addI (e_mulI (e_var rfl) (e_var rfl) (wide_mul (a := B + 61 * (f.drop (f.length - i)).length + 1) (Nat.lt_of_lt_of_le bd (Nat.pow_le_pow_right (by decide) (by omega))) hx (by omega) (by omega) (by omega))) (e_var rfl)) (by rw [ec]; rfl)) st2 fun σ3 Hk3 H4 g4 a4 => ?_
    refine s_append (n := n) (c := 0) (Φ := fun d => d = .int (evalP (f.drop (f.length - (i + 1))) x)) (e_var rfl) a4 ((cl.go g3.none_to).go g4) rfl (by rw [List.length_map, List.length_reverse, hornL_len]; omega) fun d Hk5 H5 ed s5 a5 cl5 => ⟨Hk5, ((h2.trans g3.k).trans g4.k).trans s5, a5.forget 4, ?_⟩
    rw [ed] at cl5
    have eh : (hornL x (f.drop (f.length - (i + 1)))).reverse = (hornL x (f.drop (f.length - i))).reverse ++ [evalP (f.drop (f.length - (i + 1))) x] := by
      rw [ec]
      show (_ :: hornL x (f.drop (f.length - i))).reverse = _
      rw [List.reverse_cons]
    rw [eh, List.map_append]; exact cl5
  · rintro σ' Hk' H' ⟨h2, st, cl⟩
    rw [List.length_reverse, pol_len, Nat.sub_self, List.drop_zero] at st cl
    obtain ⟨Hk5, s5, st5⟩ := st.freeze (i := 2) cl rfl
    exact s_retE (d := .tuple [pol (hornL x f).tail, .int (evalP f x)]) (e_tup (ds := [pol (hornL x f).tail, .int (evalP f x)]) (ae_cons (e_is (e_tupL (e_backL (e_var rfl))) (by rw [tail_back]; rfl)) (ae_cons (e_var rfl) ae_nil))) st5 (Nat.le_refl _) fin rfl
/-! ### value_of -/
def R_value_of : RelX := fun _ sls c Φ => c = 0 ∧ ∃ (f : List Int) (x : Int) (B : Nat), CB B f ∧ B ≤ 100000 ∧ f.length ≤ 1000 ∧ x.natAbs < 2 ^ 60 ∧ sls = [.dat (pol f), .dat (.int x)] ∧ Φ = fun d => d = .int (evalP f x)
theorem ok_value_of (T : Tx K mg) : FnOk P w K mg base CX0 1 T.a_value_of T.fd_value_of P_value_of (spX R_value_of) := by
  refine fn_ok T.F_value_of sc_value_of (by decide) (fun q sls c Φ h => by obtain ⟨_, f, x, B, _, _, _, _, rfl, _⟩ := h; rfl) fun cdv A outer s B0 Ew hr => ⟨_,
    (pss_cons (ps_set (i := 2) sc_value_of.nd rfl (Or.inl rfl) pe_int)
      (pss_cons (ps_for PassesOwn.never rfl (k_piTup (K := K) rfl (pe_revT (K := K) rfl (pv 0))) (pg_name (i := 3) sc_value_of.nd rfl (Or.inl rfl)) (pss_one (ps_set (i := 2) sc_value_of.nd rfl (Or.inl rfl) (pe_op (k_addU (K := K) rfl) (pe_op op_mulU (pv 2) (pv 1)) (pv 3)))))
      (pss_one (ps_ret (pv 2))))), fun q sls n c Φ A0 σ Q hR hA fin => ?_⟩
  obtain ⟨rfl, f, x, B, hB, hB2, hl, hx, rfl, rfl⟩ := hR
  refine q_asgE e_int hA fun σ1 Hk1 H1 g1 a1 => ?_
  refine q_for (n := n) (c := 0) (ie_tup (e_revT (e_var rfl))) a1 fun items HkW H2 e g2 a2 => ?_
  subst e
  refine ⟨fun i σ' Hk' H' => Same HkW Hk' ∧ At q n [.dat (pol f), .dat (.int x), .dat (.int (evalP (f.drop (f.length - i)) x)), .any] A0 B0 σ' Hk' H', ⟨Same.refl _, by rw [Nat.sub_zero, List.drop_length]; exact a2⟩, fun i σ' Hk' H' h => ⟨h.1, h.2.ok.a⟩, ?_, ?_⟩
  · rintro i d σ' Hk' H' ed ⟨h2, st⟩ v Hk2 H3 g3 dv
    have hi : i < f.length := by
      have z := (List.getElem?_eq_some_iff.mp ed).1
      simpa using z
    have ej : f.length - (i + 1) < f.length := by omega
    obtain rfl : d = .int f[f.length - (i + 1)] := by
      rw [← List.map_reverse, List.getElem?_map, List.getElem?_reverse hi] at ed
      rw [show f.length - 1 - i = f.length - (i + 1) by omega, List.getElem?_eq_getElem ej] at ed
      exact (Option.some.inj ed).symm
    have ec : f.drop (f.length - (i + 1)) = f[f.length - (i + 1)] :: f.drop (f.length - i) := by
      rw [List.drop_eq_getElem_cons ej]
      congr 2
      omega
    refine gb_name (vs := [3]) (by simp) σ' Hk2 H3 v (st.sg.mono g3.k) g3.a dv _ fun σ2 sg2 _ _ => ?_
    have st2 : At q n _ A0 B0 σ2 Hk2 H3 := ⟨st.ok.go g3, sg2, st.gr.trans g3.none_to⟩
    have bd := evalP_bound hx (f := f.drop (f.length - i)) (B := B) fun b hb => hB b (List.mem_of_mem_drop hb)
    have bl : (f.drop (f.length - i)).length ≤ 1000 := by rw [List.length_drop]; omega
    refine s_asgE (d := .int (evalP (f.drop (f.length - (i + 1))) x)) (e_is (e_addI (e_mulI (e_var rfl) (e_var rfl) (wide_mul (a := B + 61 * (f.drop (f.length - i)).length + 1) (Nat.lt_of_lt_of_le bd (Nat.pow_le_pow_right (by decide) (by omega))) hx (by omega) (by omega) (by omega))) (e_var rfl)) (by rw [ec]; rfl)) st2 fun σ3 Hk3 H4 g4 a4 => ⟨Hk3, (h2.trans g3.k).trans g4.k, a4.forget 3⟩
  · rintro σ' Hk' H' ⟨h2, st⟩
    rw [List.length_reverse, pol_len, Nat.sub_self, List.drop_zero] at st
    exact s_retE (e_var rfl) st (Nat.le_refl _) fin rfl
/-! ### fractions_at -/
def R_fractions_at : RelX := fun _ sls c Φ => c = 0 ∧ ∃ (nums keys : List Int) (B : Nat), CB 56 keys ∧ keys.Nodup ∧ keys.length ≤ 60 ∧ CB B nums ∧ 0 < B ∧ B ≤ 70000 ∧ nums.length ≤ 400 ∧ sls = [.dat (pol nums), .dat (pol keys)] ∧ Φ = fun d => d = .list (pd (keys.map (share keys nums)))
theorem ok_fractions_at (T : Tx K mg) : FnOk P w K mg base CX0 3 T.a_fractions_at T.fd_fractions_at P_fractions_at (spX R_fractions_at) := by
  have G_divided := ok_divided (P := P) (w := w) (base := base) T
  have G_from_roots := ok_from_roots (P := P) (w := w) (base := base) T
  have G_value_of := ok_value_of (P := P) (w := w) (base := base) T
  refine fn_ok T.F_fractions_at sc_fractions_at (by decide) (fun q sls c Φ h => by obtain ⟨_, f, x, B, _, _, _, _, _, _, _, rfl, _⟩ := h; rfl) fun cdv A outer s B0 Ew hr => ⟨_,
    (pss_cons (ps_set (i := 2) sc_fractions_at.nd rfl (Or.inl rfl) (pe_call G_from_roots (hr.mono (by decide)) (by rfl) T.m_from_roots T.F_from_roots.kp T.b_from_roots .nil pass0 (pa_cons (pe_callTy (k_lst (K := K) rfl) (by rfl) T.z_list (by decide +kernel) (pa_cons (pv 1) pa_nil)) pa_nil)))
      (pss_cons (ps_set (i := 3) sc_fractions_at.nd rfl (Or.inl rfl) (pe_lst pa_nil))
      (pss_cons (ps_for PassesOwn.never rfl (k_piTup (K := K) rfl (pv 1)) (pg_name (i := 4) sc_fractions_at.nd rfl (Or.inl rfl)) (pss_cons (ps_asg (pe_call G_divided (hr.mono (by decide)) (by rfl) T.m_divided T.F_divided.kp T.b_divided .nil pass0 (pa_cons (pv 2) (pa_cons (pv 4) pa_nil))) (k_pgTup (K := K) (n := 2) rfl rfl (pgs_cons (pg_name (i := 5) sc_fractions_at.nd rfl (Or.inl rfl)) (pgs_cons (pg_name (i := 6) sc_fractions_at.nd rfl (Or.inl rfl)) pgs_nil))))
      (pss_cons (ps_set (i := 7) sc_fractions_at.nd rfl (Or.inl rfl) (pe_callB (k_sum (K := K) rfl rfl) (by rfl) T.z_sum (by decide +kernel) (pa_cons (pe_lc (own := [("factor", 8), ("number", 9)]) rfl sc_fractions_at.nd (k_piZip (K := K) rfl rfl T.z_zip (pa_cons (pv 5) (pa_cons (pv 0) pa_nil))) (blkOk_by (own := [("factor", 8), ("number", 9)]) (N := N_fractions_at) (sc := defScope s_fractions_at) (by decide +kernel)) (fun _ _ _ _ _ => (k_pgTup (K := K) (n := 2) rfl rfl (pgs_cons (pg_name (i := 8) sc_fractions_at.nd rfl (Or.inl rfl)) (pgs_cons (pg_name (i := 9) sc_fractions_at.nd rfl (Or.inl rfl)) pgs_nil)))) (fun _ _ _ _ _ => pts_nil) (fun _ _ _ _ _ => (pe_op op_mulU (pv 8) (pv 9)))) pa_nil)))
      (pss_one (ps_expr (pe_bm PySem.F.plainAttrs_list PySem.F.slot_list_append PySem.F.type_list_append mt_append (pv 3) (pa_cons (Cr.pe_tup (pa_cons (pv 7) (pa_cons (pe_call G_value_of (hr.mono (by decide)) (by rfl) T.m_value_of T.F_value_of.kp T.b_value_of .nil pass0 (pa_cons (pv 5) (pa_cons (pv 4) pa_nil))) pa_nil))) pa_nil)))))))
      (pss_one (ps_ret (pv 3)))))), fun q sls n c Φ A0 σ Q hR hA fin => ?_⟩
  obtain ⟨rfl, nums, keys, B, hk, hn, hl, hB, hB0, hB1, hnl, rfl, rfl⟩ := hR
  refine q_asgE (i := 2) (d := pol (lagr keys)) (j_call (R := R_from_roots) (ae_cons (e_lstT (e_var rfl)) ae_nil) fun sls e => ⟨rfl, keys, hk, by omega, e, by rw [lagr_roots]⟩) hA fun σ1 Hk1 H1 g1 a1 => ?_
  refine q_newL (i := 3) a1 fun p H0 a0 cl0 => ?_
  refine q_for (n := n) (c := 0) (ie_tup (e_var rfl)) a0 fun items HkW H2 e g2 a2 => ?_
  subst e
  refine ⟨fun i σ' Hk' H' => Same HkW Hk' ∧ At q n [.dat (pol nums), .dat (pol keys), .dat (pol (lagr keys)), .adr p, .any, .any, .any, .any, .any, .any] A0 B0 σ' Hk' H' ∧ Cell q B0 Hk' H' p (pd ((keys.take i).map (share keys nums))), ⟨Same.refl _, a2, cl0.go g2⟩, fun i σ' Hk' H' h => ⟨h.1, h.2.1.ok.a⟩, ?_, ?_⟩
  · rintro i d σ' Hk' H' ed ⟨h2, st, cl⟩ v Hk2 H3 g3 dv
    rw [List.getElem?_map] at ed
    obtain ⟨k, er, rfl⟩ := Option.map_eq_some_iff.mp ed
    have hi : i < keys.length := (List.getElem?_eq_some_iff.mp er).1
    have hm : k ∈ keys := List.mem_of_getElem? er
    have hk2 := hk k hm
    refine gb_name (vs := [4]) (by simp) σ' Hk2 H3 v (st.sg.mono g3.k) g3.a dv _ fun σ2 sg2 _ _ => ?_
    have st2 : At q n _ A0 B0 σ2 Hk2 H3 := ⟨st.ok.go g3, sg2, st.gr.trans g3.none_to⟩
    have hC := lag_CB hk (by omega) k
    have hC2 : CB 30000 (lagr keys) := by
      have z := rootsP_CB hk (by omega) _ (Nat.le_refl _)
      rw [List.take_length, lagr_roots] at z
      exact z.mono (by omega)
    have hL2 : (lagr keys).length ≤ 1000 := by
      have z := rootsP_len keys _ (Nat.le_refl _)
      rw [List.take_length, lagr_roots] at z
      omega
    have hL : (lag keys k).length ≤ 61 := by rw [lag_len_in hm hn]; omega
    refine q_asgG (vs := [5, 6]) (d := .tuple [pol (lag keys k), .int (evalP (lagr keys) k)]) (j_call (R := R_divided) (ae_cons (e_var rfl) (ae_cons (e_var rfl) ae_nil)) fun sls e => ⟨rfl, lagr keys, k, 30000, hC2, by omega, hL2, lt_pow hk2 (by omega), e, by rw [lagr_out hm hn, hornL_mlin]⟩) (gb_tup2 (by simp) (by simp)) st2 fun σ4 Hk4 H4 g4 a4 => ?_
    refine q_asgE (i := 7) (d := .int (dotI (lag keys k) nums)) (e_is (e_sum (ns := zmul (lag keys k) nums) (e_is (e_lc1 (vs := [8, 9]) (emb := pr) (xs := (lag keys k).zip nums) ((ie_zipT (e_var rfl) (e_var rfl)).is (zipD_ints _ _)) (fun x => .int (x.1 * x.2)) (by rw [List.length_zip]; omega) fun x hx => ⟨_, gb_tup2 (by simp) (by simp), e_mulI (e_var rfl) (e_var rfl) ?_⟩) (by unfold zmul; rw [List.map_map]; rfl))) rfl) a4 fun σ5 Hk5 H5 g5 a5 => ?_
    · have hz := List.of_mem_zip (a := x.1) (b := x.2) hx
      exact wide_mul (hC _ hz.1) (hB _ hz.2) (by omega) (by omega) (by omega)
    have cl5 := ((cl.go g3.none_to).go g4).go g5
    refine s_append (n := n) (c := 0) (Φ := fun d => d = pr (share keys nums k)) (e_pr (x := dotI (lag keys k) nums) (y := evalP (lag keys k) k) (e_var rfl) (j_call (R := R_value_of) (ae_cons (e_var rfl) (ae_cons (e_var rfl) ae_nil)) fun sls e => ⟨rfl, lag keys k, k, 30000, hC.mono (by omega), by omega, by omega, lt_pow hk2 (by omega), e, rfl⟩)) a5 cl5 rfl (by rw [pd_len, List.length_map, List.length_take]; omega) fun d Hk6 H6 ed s6 a6 cl6 => ⟨Hk6, (((h2.trans g3.k).trans g4.k).trans g5.k).trans s6, (((a6.forget 4).forget 5).forget 6).forget 7, ?_⟩
    rw [ed] at cl6
    rw [List.take_add_one, er]
    show Cell q B0 Hk6 H6 p (pd ((keys.take i ++ [k]).map (share keys nums)))
    rw [List.map_append, ← pd_app]; exact cl6
  · rintro σ' Hk' H' ⟨h2, st, cl⟩
    rw [pol_len, List.take_length] at cl
    obtain ⟨Hk5, s5, st5⟩ := st.freeze (i := 3) cl rfl
    exact s_retE (d := .list (pd (keys.map (share keys nums)))) (e_var rfl) st5 (Nat.le_refl _) fin rfl
/-! ### first_sums -/
def R_first_sums : RelX := fun _ sls c Φ => c = 0 ∧ ∃ (l : List (Int × Int)) (m : Int) (A B : Nat), Kb A B l ∧ A ≤ 1000 ∧ 0 < A ∧ 0 < B ∧ B ≤ 100000 ∧ l.length ≤ 100000 ∧ 0 ≤ m ∧ m ≤ 400 ∧ sls = [.dat (led l), .dat (.int m)] ∧ Φ = fun d => d = pol (psums l m.toNat)
theorem ok_first_sums (T : Tx K mg) : FnOk P w K mg base CX0 1 T.a_first_sums T.fd_first_sums P_first_sums (spX R_first_sums) := by
  refine fn_ok T.F_first_sums sc_first_sums (by decide) (fun q sls c Φ h => by obtain ⟨_, l, m, A, B, _, _, _, _, _, _, _, _, rfl, _⟩ := h; rfl) fun cdv A outer s B0 Ew hr => ⟨_,
    (pss_cons (ps_set (i := 2) sc_first_sums.nd rfl (Or.inl rfl) (pe_lst pa_nil))
      (pss_cons (ps_setLc (i := 3) (own := [("key", 6), ("amount", 7)]) rfl sc_first_sums.nd rfl rfl (sw_true rfl rfl rfl (by decide +kernel)) (k_piTup (K := K) rfl (pv 0)) (blkOk_by (own := [("key", 6), ("amount", 7)]) (N := N_first_sums) (sc := defScope s_first_sums) (by decide +kernel)) (fun _ _ _ _ _ => (k_pgTup (K := K) (n := 2) rfl rfl (pgs_cons (pg_name (i := 6) sc_first_sums.nd rfl (Or.inl rfl)) (pgs_cons (pg_name (i := 7) sc_first_sums.nd rfl (Or.inl rfl)) pgs_nil)))) (fun _ _ _ _ _ => pts_nil) (fun _ _ _ _ _ => (pv 6)))
      (pss_cons (ps_setLc (i := 4) (own := [("key", 6), ("amount", 7)]) rfl sc_first_sums.nd rfl rfl (sw_true rfl rfl rfl (by decide +kernel)) (k_piTup (K := K) rfl (pv 0)) (blkOk_by (own := [("key", 6), ("amount", 7)]) (N := N_first_sums) (sc := defScope s_first_sums) (by decide +kernel)) (fun _ _ _ _ _ => (k_pgTup (K := K) (n := 2) rfl rfl (pgs_cons (pg_name (i := 6) sc_first_sums.nd rfl (Or.inl rfl)) (pgs_cons (pg_name (i := 7) sc_first_sums.nd rfl (Or.inl rfl)) pgs_nil)))) (fun _ _ _ _ _ => pts_nil) (fun _ _ _ _ _ => (pv 7)))
      (pss_cons (ps_for PassesOwn.never rfl (pi_range1 rfl T.z_range (pa_cons (pv 1) pa_nil)) (pg_name (i := 5) sc_first_sums.nd rfl (Or.inl rfl)) (pss_cons (ps_expr (pe_bm PySem.F.plainAttrs_list PySem.F.slot_list_append PySem.F.type_list_append mt_append (pv 2) (pa_cons (pe_callB (k_sum (K := K) rfl rfl) (by rfl) T.z_sum (by decide +kernel) (pa_cons (pv 4) pa_nil)) pa_nil)))
      (pss_one (ps_setLc (i := 4) (own := [("term", 8), ("key", 6)]) rfl sc_first_sums.nd rfl rfl (sw_true rfl rfl rfl (by decide +kernel)) (k_piZip (K := K) rfl rfl T.z_zip (pa_cons (pv 4) (pa_cons (pv 3) pa_nil))) (blkOk_by (own := [("term", 8), ("key", 6)]) (N := N_first_sums) (sc := defScope s_first_sums) (by decide +kernel)) (fun _ _ _ _ _ => (k_pgTup (K := K) (n := 2) rfl rfl (pgs_cons (pg_name (i := 8) sc_first_sums.nd rfl (Or.inl rfl)) (pgs_cons (pg_name (i := 6) sc_first_sums.nd rfl (Or.inl rfl)) pgs_nil)))) (fun _ _ _ _ _ => pts_nil) (fun _ _ _ _ _ => (pe_op op_mulU (pv 8) (pv 6)))))))
      (pss_one (ps_ret (pe_callTy (k_tup (K := K) rfl) (by rfl) T.z_tuple (by decide +kernel) (pa_cons (pv 2) pa_nil)))))))), fun q sls n c Φ A0 σ Q hR hA fin => ?_⟩
  obtain ⟨rfl, l, m, A, B, hK, hA1, hA0, hB0, hB1, hl, h0, h1, rfl, rfl⟩ := hR
  refine q_newL (i := 2) hA fun p H1 a1 cl1 => ?_
  refine q_asgE (i := 3) (d := .list ((l.map fun x : Int × Int => x.1).map .int)) (e_is (e_lc1 (vs := [6, 7]) (emb := pr) (xs := l) (ie_tup (e_var rfl)) (fun x => .int x.1) (by omega) fun x hx => ⟨_, gb_tup2 (by simp) (by simp), e_var rfl⟩) (by rw [List.map_map]; rfl)) a1 fun σ2 Hk2 H2 g2 a2 => ?_
  have cl2 := cl1.go g2
  refine q_asgE (i := 4) (d := .list ((tms l 0).map .int)) (e_is (e_lc1 (vs := [6, 7]) (emb := pr) (xs := l) (ie_tup (e_var rfl)) (fun x => .int x.2) (by omega) fun x hx => ⟨_, gb_tup2 (by simp) (by simp), e_var rfl⟩) (by rw [tms_zero, List.map_map]; rfl)) a2 fun σ3 Hk3 H3 g3 a3 => ?_
  have cl3 := cl2.go g3
  refine q_for (n := n) (c := 0) (ie_rng1 (e_var rfl) (by omega) (by omega)) a3 fun items HkW H4 e g4 a4 => ?_
  subst e
  refine ⟨fun i σ' Hk' H' => Same HkW Hk' ∧ At q n [.dat (led l), .dat (.int m), .adr p, .dat (.list ((l.map fun x : Int × Int => x.1).map .int)), .dat (.list ((tms l i).map .int)), .any, .any, .any, .any] A0 B0 σ' Hk' H' ∧ Cell q B0 Hk' H' p ((psums l i).map .int), ⟨Same.refl _, a4, cl3.go g4⟩, fun i σ' Hk' H' h => ⟨h.1, h.2.1.ok.a⟩, ?_, ?_⟩
  · rintro i d σ' Hk' H' ed ⟨h4, st, cl⟩ v Hk5 H5 g5 dv
    obtain ⟨hi, rfl⟩ := rng_get' ed
    refine gb_name (vs := [5]) (by simp) σ' Hk5 H5 v (st.sg.mono g5.k) g5.a dv _ fun σ2 sg2 _ _ => ?_
    have st2 : At q n _ A0 B0 σ2 Hk5 H5 := ⟨st.ok.go g5, sg2, st.gr.trans g5.none_to⟩
    refine q_append (n := n) (c := 0) (Φ := fun d => d = .int (psum l i)) (e_sum (e_var rfl)) st2 (cl.go g5.none_to) rfl (by rw [List.length_map, psums_len]; omega) fun d Hk6 H6 ed s6 a6 cl6 => ?_
    have hil : A * i ≤ A * 400 := Nat.mul_le_mul_left _ (by omega)
    have hil2 : A * 400 ≤ 1000 * 400 := Nat.mul_le_mul_right _ hA1
    refine s_asgE (i := 4) (d := .list ((tms l (i + 1)).map .int)) (e_is (e_lc1 (vs := [8, 6]) (emb := fun x => pr (x.2 * x.1 ^ i, x.1)) (xs := l) ((ie_zipL (e_var rfl) (e_var rfl)).is (zip_terms l i)) (fun x => .int (x.2 * x.1 ^ i * x.1)) (by omega) fun x hx => ⟨_, gb_tup2 (by simp) (by simp), e_mulI (e_var rfl) (e_var rfl) (wide_mul (tm_bits (hK x hx).1 (hK x hx).2 i) (hK x hx).1 (by omega) (by omega) (by omega))⟩) (by rw [tms_succ, List.map_map]; rfl)) a6 fun σ7 Hk7 H7 g7 a7 => ⟨Hk7, ((h4.trans g5.k).trans s6).trans g7.k, a7.forget 5, ?_⟩
    have cl7 := cl6.go g7
    rw [ed] at cl7
    rw [psums_succ, List.map_append]; exact cl7
  · rintro σ' Hk' H' ⟨h4, st, cl⟩
    rw [rng_len] at cl
    obtain ⟨Hk5, s5, st5⟩ := st.freeze (i := 2) cl rfl
    exact s_retE (d := pol (psums l m.toNat)) (e_tupL (e_var rfl)) st5 (Nat.le_refl _) fin rfl
/-! ### only_ledger -/
def R_only_ledger : RelX := fun _ sls c Φ => c = 0 ∧ ∃ (nums keys : List Int) (B : Nat), CB 56 keys ∧ keys.Nodup ∧ keys.length ≤ 60 ∧ CB B nums ∧ 0 < B ∧ B ≤ 70000 ∧ nums.length ≤ 400 ∧ sls = [.dat (pol nums), .dat (pol keys)] ∧ Φ = fun d => d = oLed (onlyL keys nums)
theorem ok_only_ledger (T : Tx K mg) : FnOk P w K mg base CX0 4 T.a_only_ledger T.fd_only_ledger P_only_ledger (spX R_only_ledger) := by
  have G_first_sums := ok_first_sums (P := P) (w := w) (base := base) T
  have G_fractions_at := ok_fractions_at (P := P) (w := w) (base := base) T
  refine fn_ok T.F_only_ledger sc_only_ledger (by decide) (fun q sls c Φ h => by obtain ⟨_, f, x, B, _, _, _, _, _, _, _, rfl, _⟩ := h; rfl) fun cdv A outer s B0 Ew hr => ⟨_,
    (pss_cons (ps_set (i := 2) sc_only_ledger.nd rfl (Or.inl rfl) (pe_call G_fractions_at (hr.mono (by decide)) (by rfl) T.m_fractions_at T.F_fractions_at.kp T.b_fractions_at .nil pass0 (pa_cons (pv 0) (pa_cons (pv 1) pa_nil))))
      (pss_cons (ps_if (pt_val (pe_callB (k_any (K := K) rfl rfl) (by rfl) T.z_any (by decide +kernel) (pa_cons (pe_lc (own := [("top", 5), ("bottom", 6)]) rfl sc_only_ledger.nd (k_piList (K := K) rfl (pv 2)) (blkOk_by (own := [("top", 5), ("bottom", 6)]) (N := N_only_ledger) (sc := defScope s_only_ledger) (by decide +kernel)) (fun _ _ _ _ _ => (k_pgTup (K := K) (n := 2) rfl rfl (pgs_cons (pg_name (i := 5) sc_only_ledger.nd rfl (Or.inl rfl)) (pgs_cons (pg_name (i := 6) sc_only_ledger.nd rfl (Or.inl rfl)) pgs_nil)))) (fun _ _ _ _ _ => pts_nil) (fun _ _ _ _ _ => (pe_cmpR (k_neD (K := K) rfl hr.units) (pe_op op_modN (pv 5) (pv 6)) pe_int (nomark _)))) pa_nil))) (pss_one (ps_ret pe_non)) pss_nil)
      (pss_cons (ps_setLc (i := 3) (own := [("key", 7), ("top", 5), ("bottom", 6)]) rfl sc_only_ledger.nd rfl rfl (sw_true rfl rfl rfl (by decide +kernel)) (Zm.pi_zipM (K := K) rfl (by rfl) T.z_zip (pa_cons (pv 1) (pa_cons (pv 2) pa_nil))) (blkOk_by (own := [("key", 7), ("top", 5), ("bottom", 6)]) (N := N_only_ledger) (sc := defScope s_only_ledger) (by decide +kernel)) (fun _ _ _ _ _ => (k_pgTup (K := K) (n := 2) rfl rfl (pgs_cons (pg_name (i := 7) sc_only_ledger.nd rfl (Or.inl rfl)) (pgs_cons (k_pgTup (K := K) (n := 2) rfl rfl (pgs_cons (pg_name (i := 5) sc_only_ledger.nd rfl (Or.inl rfl)) (pgs_cons (pg_name (i := 6) sc_only_ledger.nd rfl (Or.inl rfl)) pgs_nil))) pgs_nil)))) (fun _ _ _ _ _ => pts_nil) (fun _ _ _ _ _ => (Cr.pe_tup (pa_cons (pv 7) (pa_cons (pe_op op_fdivNW (pv 5) (pv 6)) pa_nil)))))
      (pss_cons (ps_set (i := 4) sc_only_ledger.nd rfl (Or.inl rfl) (pe_callTy (k_tup (K := K) rfl) (by rfl) T.z_tuple (by decide +kernel) (pa_cons (pe_lc (own := [("key", 7), ("amount", 8)]) rfl sc_only_ledger.nd (k_piList (K := K) rfl (pv 3)) (blkOk_by (own := [("key", 7), ("amount", 8)]) (N := N_only_ledger) (sc := defScope s_only_ledger) (by decide +kernel)) (fun _ _ _ _ _ => (k_pgTup (K := K) (n := 2) rfl rfl (pgs_cons (pg_name (i := 7) sc_only_ledger.nd rfl (Or.inl rfl)) (pgs_cons (pg_name (i := 8) sc_only_ledger.nd rfl (Or.inl rfl)) pgs_nil)))) (fun _ _ _ _ _ => (pts_one (pt_cmpR (k_neD (K := K) rfl hr.units) (pv 8) pe_int (nomark _)))) (fun _ _ _ _ _ => (Cr.pe_tup (pa_cons (pv 7) (pa_cons (pv 8) pa_nil))))) pa_nil)))
      (pss_one (ps_ret (pe_ifExp (pt_cmpR (k_eqD (K := K) rfl hr.units) (pe_call G_first_sums (hr.mono (by decide)) (by rfl) T.m_first_sums T.F_first_sums.kp T.b_first_sums .nil pass0 (pa_cons (pv 4) (pa_cons (pe_callB (k_len (K := K) rfl) (by rfl) T.z_len (by decide +kernel) (pa_cons (pv 0) pa_nil)) pa_nil))) (pv 0) (nomark _)) (pv 4) pe_non))))))), fun q sls n c Φ A0 σ Q hR hA fin => ?_⟩
  obtain ⟨rfl, nums, keys, B, hk, hn, hl, hB, hB0, hB1, hnl, rfl, rfl⟩ := hR
  refine q_asgE (i := 2) (d := .list (pd (keys.map (share keys nums)))) (j_call (R := R_fractions_at) (ae_cons (e_var rfl) (ae_cons (e_var rfl) ae_nil)) fun sls e => ⟨rfl, nums, keys, B, hk, hn, hl, hB, hB0, hB1, hnl, e, rfl⟩) hA fun σ1 Hk1 H1 g1 a1 => ?_
  refine q_whenB (b := keys.any (shBad keys nums)) (tb_B (e_is (e_any (bs := keys.map (shBad keys nums)) (e_is (e_lc1 (vs := [5, 6]) (emb := fun k => pr (share keys nums k)) (xs := keys) ((ie_lst (e_var rfl)).is (by unfold pd; rw [List.map_map]; rfl)) (fun k => .bool (shBad keys nums k)) (by omega) fun x hx => ⟨_, gb_tup2 (by simp) (by simp), e_is (e_neDI (e_mod (e_var rfl) (e_var rfl) (share_bot keys nums x)) e_int) ?_⟩) (by rw [bools_map]))) (by rw [any_id_map]))) a1 (fun hb Hk2 H2 g2 a2 => ?_) (fun hb Hk2 H2 g2 a2 => ?_)
  · unfold shBad
    congr 1
    by_cases z : (share keys nums x).1.fmod (share keys nums x).2 = 0
    · rw [z]; rfl
    · rw [decide_eq_true z]; simpa using z
  · exact s_retE (d := .none) e_non a2 (Nat.le_refl _) fin (by unfold onlyL; rw [if_pos hb]; rfl)
  refine q_asgE (i := 3) (d := .list (pd (keys.map (shPair keys nums)))) (e_is (e_lc1 (vs := [7, 5, 6]) (emb := fun k => .tuple [.int k, pr (share keys nums k)]) (xs := keys) ((ie_zipM (e_var rfl) (e_var rfl)).is (by unfold pd; rw [List.map_map]; exact zipD_map _ _ _)) (fun k => pr (shPair keys nums k)) (by omega) fun x hx => ⟨_, gb_tupN (by simp) (by simp) (by simp), e_pr (e_var rfl) (e_fdivN (e_var rfl) (e_var rfl) (divNW (share_bot keys nums x) (share_low hk hl (hk x hx)) (by omega) (by omega)))⟩) (by unfold pd; rw [List.map_map]; rfl)) a2 fun σ3 Hk3 H3 g3 a3 => ?_
  refine q_asgE (i := 4) (d := led (onlyB keys nums)) (e_is (e_tupL (e_lc (vs := [7, 8]) (emb := pr) (xs := keys.map (shPair keys nums)) (ie_lst (e_var rfl)) (fun x => decide (x.2 ≠ 0)) pr (by rw [List.length_map]; omega) fun x hx => ⟨_, gb_tup2 (by simp) (by simp), tb_is (tb_test (e_neDI (e_var rfl) e_int)) ?_, fun _ => e_pr (e_var rfl) (e_var rfl)⟩)) rfl) a3 fun σ4 Hk4 H4 g4 a4 => ?_
  · by_cases z : x.2 = 0
    · rw [z]; rfl
    · rw [decide_eq_true z]; simpa using z
  have hKb := onlyB_Kb hk (by omega) hB hb
  have hlen := onlyB_len keys nums
  refine s_retE (d := oLed (onlyL keys nums)) (e_if (b := decide (psums (onlyB keys nums) nums.length = nums)) (tb_is (tb_test (e_eqD (d1 := pol (psums (onlyB keys nums) nums.length)) (j_call (R := R_first_sums) (ae_cons (e_var rfl) (ae_cons (e_is (e_lenT (e_var rfl)) (d1 := .int ((nums.length : Nat) : Int)) (by rw [pol_len])) ae_nil)) fun sls e => ⟨rfl, onlyB keys nums, (nums.length : Nat), 56, 28020 + B, hKb, by omega, by omega, by omega, by omega, by omega, by omega, by omega, e, rfl⟩) (e_var rfl) (pol_shape _) (pol_shape _))) (eqv_pols _ _)) (fun h => e_is (e_var rfl) ?_) (fun h => e_is e_non ?_)) a4 (Nat.le_refl _) fin rfl
  · unfold onlyL
    rw [if_neg (by rw [hb]; simp), if_pos (of_decide_eq_true h)]; rfl
  · unfold onlyL
    rw [if_neg (by rw [hb]; simp), if_neg (of_decide_eq_false h)]; rfl
/-! ### ledger_in_span -/
def R_ledger_in_span : RelX := fun _ sls c Φ => c = 0 ∧ ∃ (nums : List Int) (a b : Int) (B : Nat), a.natAbs < 2 ^ 55 ∧ 0 ≤ b ∧ b ≤ 60 ∧ CB B nums ∧ 0 < B ∧ B ≤ 70000 ∧ nums.length ≤ 400 ∧ sls = [.dat (pol nums), .dat (.int a), .dat (.int b)] ∧ Φ = fun d => d = oLed (onlyL (rgI a (a + b)) nums)
theorem ok_ledger_in_span (T : Tx K mg) : FnOk P w K mg base CX0 5 T.a_ledger_in_span T.fd_ledger_in_span P_ledger_in_span (spX R_ledger_in_span) := by
  have G_only_ledger := ok_only_ledger (P := P) (w := w) (base := base) T
  refine fn_ok T.F_ledger_in_span sc_ledger_in_span (by decide) (fun q sls c Φ h => by obtain ⟨_, f, x, y, B, _, _, _, _, _, _, _, rfl, _⟩ := h; rfl) fun cdv A outer s B0 Ew hr => ⟨_,
    (pss_one (ps_ret (pe_call G_only_ledger (hr.mono (by decide)) (by rfl) T.m_only_ledger T.F_only_ledger.kp T.b_only_ledger .nil pass0 (pa_cons (pv 0) (pa_cons (pe_tupRg rfl (by rfl) T.z_tuple (prg_2 (by rfl) T.z_range (pv 1) (pe_op (k_addU (K := K) rfl) (pv 1) (pv 2)))) pa_nil))))), fun q sls n c Φ A0 σ Q hR hA fin => ?_⟩
  obtain ⟨rfl, nums, a, b, B, ha, h0, h1, hB, hB0, hB1, hnl, rfl, rfl⟩ := hR
  exact s_retE (j_call (R := R_only_ledger) (ae_cons (e_var rfl) (ae_cons (e_tupRg (e_var rfl) (e_addI (e_var rfl) (e_var rfl)) ⟨by omega, by omega, by omega, by omega, by omega⟩) ae_nil)) fun sls e => ⟨rfl, nums, rgI a (a + b), B, rgI_CB ha h0 h1, rgI_nodup _ _, by rw [rgI_len]; omega, hB, hB0, hB1, hnl, e, rfl⟩) hA (Nat.le_refl _) fin rfl
/-! ### brief -/
def R_brief : RelX := fun _ sls c Φ => c = 0 ∧ ∃ (nums : List Int) (B : Nat), nums ≠ [] ∧ CB B nums ∧ 0 < B ∧ B ≤ 70000 ∧ nums.length ≤ 60 ∧ sls = [.dat (pol nums)] ∧ Φ = fun d => d = oLed (onlyL (rgI 0 nums.length) nums)
theorem ok_brief (T : Tx K mg) : FnOk P w K mg base CX0 6 T.a_brief T.fd_brief P_brief (spX R_brief) := by
  have G_check_sums := ok_check_sums (P := P) (w := w) (base := base) T
  have G_ledger_in_span := ok_ledger_in_span (P := P) (w := w) (base := base) T
  refine fn_ok T.F_brief sc_brief (by decide) (fun q sls c Φ h => by obtain ⟨_, f, B, _, _, _, _, _, rfl, _⟩ := h; rfl) fun cdv A outer s B0 Ew hr => ⟨_,
    (pss_cons (ps_expr (pe_call G_check_sums (hr.mono (by decide)) (by rfl) T.m_check_sums T.F_check_sums.kp T.b_check_sums .nil pass0 (pa_cons (pv 0) pa_nil)))
      (pss_one (ps_ret (pe_call G_ledger_in_span (hr.mono (by decide)) (by rfl) T.m_ledger_in_span T.F_ledger_in_span.kp T.b_ledger_in_span .nil pass0 (pa_cons (pv 0) (pa_cons pe_int (pa_cons (pe_callB (k_len (K := K) rfl) (by rfl) T.z_len (by decide +kernel) (pa_cons (pv 0) pa_nil)) pa_nil))))))), fun q sls n c Φ A0 σ Q hR hA fin => ?_⟩
  obtain ⟨rfl, nums, B, hne, hB, hB0, hB1, hnl, rfl, rfl⟩ := hR
  refine q_drop (j_call (R := R_check_sums) (ae_cons (e_var rfl) ae_nil) fun sls e => ⟨rfl, nums, hne, by omega, e, rfl⟩) hA fun Hk1 H1 g1 a1 => ?_
  exact s_retE (j_call (R := R_ledger_in_span) (ae_cons (e_var rfl) (ae_cons e_int (ae_cons (e_is (e_lenT (e_var rfl)) (d1 := .int ((nums.length : Nat) : Int)) (by rw [pol_len])) ae_nil))) fun sls e => ⟨rfl, nums, 0, (nums.length : Nat), B, by decide, by omega, by omega, hB, hB0, hB1, by omega, e, by rw [Int.zero_add]⟩) a1 (Nat.le_refl _) fin rfl
/-! ### brief, where it raises -/
def B_brief (K : PySem.W.Frag) : RelE := fun _ sls c x => c = 0 ∧ ∃ d0, Odd K d0 ∧ sls = [.dat d0] ∧ ((isSumsD d0 = false ∧ x = "InvalidSums"))
theorem ox_brief (T : Tx K mg) : FnOk P w K mg base (L2.CX P w) 6 T.a_brief T.fd_brief P_brief (spE mg (B_brief K)) := by
  have U_check_sums := fn_or (fn_lift (ok_check_sums (P := P) (w := w) (base := base) T)) (ox_check_sums (P := P) (w := w) (base := base) T)
  refine fn_okE T.F_brief sc_brief (by decide) (fun q sls c x h => by obtain ⟨_, d0, _, rfl, _⟩ := h; rfl) fun cdv A outer s B0 Ew hr => ⟨_,
    (pss_cons (ps_expr (pe_call U_check_sums (hr.mono (by decide)) (by rfl) T.m_check_sums T.F_check_sums.kp T.b_check_sums .nil (passes_call (W := fun cls d _ H => Ew cls d H) (E := Ew) (takes_of rfl rfl rfl rfl) fun _ _ _ _ h => h) (pa_cons (pv 0) pa_nil)))
      (pss_one ps_never)), fun q sls n c x A0 σ Q hR hA fin => ?_⟩
  obtain ⟨rfl, d0, o0, rfl, h⟩ := hR
  obtain ⟨h0, rfl⟩ := h
  exact q_dropR (rs_call (c := 0) (B := B_check_sums K) (ae_cons (e_var rfl) ae_nil) fun sls es => ⟨rfl, d0, o0, h0, es, rfl⟩) hA (Nat.le_refl _) (fin_w fin (Nat.le_refl _))
/-! ### is_made -/
def R_is_made : RelX := fun _ sls c Φ => c = 0 ∧ ∃ (nums : List Int) (B : Nat), nums ≠ [] ∧ CB B nums ∧ 0 < B ∧ B ≤ 70000 ∧ nums.length ≤ 60 ∧ sls = [.dat (pol nums)] ∧ Φ = fun d => d = .bool (onlyL (rgI 0 nums.length) nums).isSome
theorem ok_is_made (T : Tx K mg) : FnOk P w K mg base CX0 7 T.a_is_made T.fd_is_made P_is_made (spX R_is_made) := by
  have G_brief := ok_brief (P := P) (w := w) (base := base) T
  refine fn_ok T.F_is_made sc_is_made (by decide) (fun q sls c Φ h => by obtain ⟨_, f, B, _, _, _, _, _, rfl, _⟩ := h; rfl) fun cdv A outer s B0 Ew hr => ⟨_,
    (pss_one (ps_ret (pe_cmpR op_notNQ (pe_call G_brief (hr.mono (by decide)) (by rfl) T.m_brief T.F_brief.kp T.b_brief .nil pass0 (pa_cons (pv 0) pa_nil)) pe_non (nomark _)))), fun q sls n c Φ A0 σ Q hR hA fin => ?_⟩
  obtain ⟨rfl, nums, B, hne, hB, hB0, hB1, hnl, rfl, rfl⟩ := hR
  exact s_retE (e_is (e_notN (j_call (R := R_brief) (ae_cons (e_var rfl) ae_nil) fun sls e => ⟨rfl, nums, B, hne, hB, hB0, hB1, hnl, e, rfl⟩)) (by cases onlyL (rgI 0 nums.length) nums <;> rfl)) hA (Nat.le_refl _) fin rfl
/-! ### is_made, where it raises -/
def B_is_made (K : PySem.W.Frag) : RelE := fun q sls c x => B_brief K q sls c x
theorem ox_is_made (T : Tx K mg) : FnOk P w K mg base (L2.CX P w) 7 T.a_is_made T.fd_is_made P_is_made (spE mg (B_is_made K)) := by
  have U_brief := fn_or (fn_lift (ok_brief (P := P) (w := w) (base := base) T)) (ox_brief (P := P) (w := w) (base := base) T)
  refine fn_okE T.F_is_made sc_is_made (by decide) (fun q sls c x h => by obtain ⟨_, d, _, rfl, _⟩ := h; rfl) fun cdv A outer s B0 Ew hr => ⟨_,
    (pss_one (ps_ret (pe_cmpR op_notNQ (pe_call U_brief (hr.mono (by decide)) (by rfl) T.m_brief T.F_brief.kp T.b_brief .nil (passes_call (W := fun cls d _ H => Ew cls d H) (E := Ew) (takes_of rfl rfl rfl rfl) fun _ _ _ _ h => h) (pa_cons (pv 0) pa_nil)) pe_non (nomark _)))), fun q sls n c x A0 σ Q hR hA fin => ?_⟩
  obtain ⟨rfl, d, od, rfl, h⟩ := hR
  exact s_retR (rs_op1 (rs_call (c := 0) (B := B_brief K) (ae_cons (e_var rfl) ae_nil) fun sls es => ⟨rfl, d, od, es, h⟩)) hA (Nat.le_refl _) (fin_w fin (Nat.le_refl _))
/-! ### check_key -/
def R_check_key : RelX := fun _ sls c Φ => c = 0 ∧ ∃ i, sls = [.dat (.int i)] ∧ Φ = fun x => x = .none
theorem ok_check_key (T : Tx K mg) : FnOk P w K mg base CX0 2 T.a_check_key T.fd_check_key P_check_key (spX R_check_key) := by
  have G_is_an_integer := ok_is_an_integer (P := P) (w := w) (base := base) T
  refine fn_ok T.F_check_key sc_check_key (by decide) (fun q sls c Φ h => by obtain ⟨_, i, rfl, _⟩ := h; rfl) fun cdv A outer s B0 Ew hr => ⟨_,
    (pss_one (ps_if (pt_not (pt_val (pe_call G_is_an_integer (hr.mono (by decide)) (by rfl) T.m_is_an_integer T.F_is_an_integer.kp T.b_is_an_integer .nil pass0 (pa_cons (pv 0) pa_nil)))) (pss_one ps_never) pss_nil)), fun q sls n c Φ A0 σ Q hR hA fin => ?_⟩
  obtain ⟨rfl, i, rfl, rfl⟩ := hR
  exact s_ifNo (tb_not (tb_B (j_call (R := R_is_an_integer K) (ae_cons (e_var rfl) ae_nil) fun sls e => ⟨rfl, .int i, .inl rfl, e, rfl⟩))) hA fun Hk' H2 g a => s_end a (Nat.le_refl _) fin rfl
/-! ### check_key, where it raises -/
def B_check_key (K : PySem.W.Frag) : RelE := fun _ sls c x => c = 0 ∧ ∃ d, Kn K d ∧ isIntD d = false ∧ sls = [.dat d] ∧ x = "InvalidKey"
theorem ck_key {K : PySem.W.Frag} {mg : Str → Option Value} {q : Option Addr} {δ : List Sl} {te : TE} {d : PyData} {E0 : XK} (h : isIntD d = true) (o : Odd K d) (ed : E q δ te d) : E q δ (tCall (spU (spX R_check_key) (spE mg (B_check_key K))) [] E0 (tCons te tNil)) .none := by
  obtain ⟨i, rfl⟩ : ∃ i, d = .int i := by
    cases d with
    | int i => exact ⟨i, rfl⟩
    | _ => cases h
  exact j_callU (R := R_check_key) (c := 0) (ae_cons ed ae_nil) fun sls e => ⟨rfl, i, e, rfl⟩
theorem ox_check_key (T : Tx K mg) : FnOk P w K mg base (L2.CX P w) 2 T.a_check_key T.fd_check_key P_check_key (spE mg (B_check_key K)) := by
  have G_is_an_integer := ok_is_an_integer (P := P) (w := w) (base := base) T
  refine fn_okE T.F_check_key sc_check_key (by decide) (fun q sls c x h => by obtain ⟨_, d, _, _, rfl, _⟩ := h; rfl) fun cdv A outer s B0 Ew hr => ⟨_,
    (pss_one (ps_if (pt_not (pt_val (pe_call G_is_an_integer (hr.mono (by decide)) (by rfl) T.m_is_an_integer T.F_is_an_integer.kp T.b_is_an_integer .nil pass0 (pa_cons (pv 0) pa_nil)))) (pss_one (ps_raise rfl (takes_of (E := Ew) rfl rfl rfl rfl) (pmk_own0 PySem.F.excBase_ValueError T.x_InvalidKey T.g_InvalidKey T.k_InvalidKey (raises_own T.u_InvalidKey T.t_InvalidKey) rfl))) pss_nil)), fun q sls n c x A0 σ Q hR hA fin => ?_⟩
  obtain ⟨rfl, d, kn, hd, rfl, rfl⟩ := hR
  exact s_ifB (b := true) (tb_is (tb_not (tb_B (j_call (R := R_is_an_integer K) (ae_cons (e_var rfl) ae_nil) fun sls e => ⟨rfl, d, kn, e, rfl⟩))) (by rw [hd]; rfl)) hA (fun _ Hk1 H1 g1 a1 => s_raise fin a1 (Nat.le_refl _) T.g_InvalidKey) (fun h => by cases h)
/-! ### in_span -/
def R_in_span : RelX := fun _ sls c Φ => c = 0 ∧ ∃ (nums : List Int) (a b : Int) (B : Nat), a.natAbs < 2 ^ 55 ∧ 1 ≤ b ∧ b ≤ (nums.length : Int) ∧ CB B nums ∧ 0 < B ∧ B ≤ 70000 ∧ nums.length ≤ 60 ∧ sls = [.dat (pol nums), .dat (.int a), .dat (.int b)] ∧ Φ = fun d => d = oLed (onlyL (rgI a (a + b)) nums)
theorem ok_in_span (T : Tx K mg) : FnOk P w K mg base CX0 6 T.a_in_span T.fd_in_span P_in_span (spX R_in_span) := by
  have G_check_key := ok_check_key (P := P) (w := w) (base := base) T
  have G_check_sums := ok_check_sums (P := P) (w := w) (base := base) T
  have G_is_an_integer := ok_is_an_integer (P := P) (w := w) (base := base) T
  have G_ledger_in_span := ok_ledger_in_span (P := P) (w := w) (base := base) T
  refine fn_ok T.F_in_span sc_in_span (by decide) (fun q sls c Φ h => by obtain ⟨_, f, x, y, B, _, _, _, _, _, _, _, rfl, _⟩ := h; rfl) fun cdv A outer s B0 Ew hr => ⟨_,
    (pss_cons (ps_expr (pe_call G_check_sums (hr.mono (by decide)) (by rfl) T.m_check_sums T.F_check_sums.kp T.b_check_sums .nil pass0 (pa_cons (pv 0) pa_nil)))
      (pss_cons (ps_expr (pe_call G_check_key (hr.mono (by decide)) (by rfl) T.m_check_key T.F_check_key.kp T.b_check_key .nil pass0 (pa_cons (pv 1) pa_nil)))
      (pss_cons (ps_if (PW.pt (pw_or (pt_not (pt_val (pe_call G_is_an_integer (hr.mono (by decide)) (by rfl) T.m_is_an_integer T.F_is_an_integer.kp T.b_is_an_integer .nil pass0 (pa_cons (pv 2) pa_nil)))) (pw_or1 (pt_not (pt_chain op_le op_le pe_int (pv 2) (pe_callB (k_len (K := K) rfl) (by rfl) T.z_len (by decide +kernel) (pa_cons (pv 0) pa_nil))))))) (pss_one ps_never) pss_nil)
      (pss_one (ps_ret (pe_call G_ledger_in_span (hr.mono (by decide)) (by rfl) T.m_ledger_in_span T.F_ledger_in_span.kp T.b_ledger_in_span .nil pass0 (pa_cons (pv 0) (pa_cons (pv 1) (pa_cons (pv 2) pa_nil))))))))), fun q sls n c Φ A0 σ Q hR hA fin => ?_⟩
  obtain ⟨rfl, nums, a, b, B, ha, h0, h1, hB, hB0, hB1, hnl, rfl, rfl⟩ := hR
  have hne : nums ≠ [] := List.length_pos_iff.mp (by omega)
  refine q_drop (j_call (R := R_check_sums) (ae_cons (e_var rfl) ae_nil) fun sls e => ⟨rfl, nums, hne, by omega, e, rfl⟩) hA fun Hk1 H1 g1 a1 => ?_
  refine q_drop (j_call (R := R_check_key) (ae_cons (e_var rfl) ae_nil) fun sls e => ⟨rfl, a, e, rfl⟩) a1 fun Hk2 H2 g2 a2 => ?_
  refine q_ifNo (tb_is (tb_or (b := false) (tb_not (tb_B (j_call (R := R_is_an_integer K) (ae_cons (e_var rfl) ae_nil) fun sls e => ⟨rfl, .int b, .inl rfl, e, rfl⟩))) fun _ => tb_is (tb_not (tb_test (e_chainI (g := fun i j => decide (i ≤ j)) (g' := fun i j => decide (i ≤ j)) e_int (e_var rfl) fun _ => e_is (e_lenT (e_var rfl)) (d1 := .int ((nums.length : Nat) : Int)) (by rw [pol_len])))) (by simp; omega)) rfl) a2 fun Hk3 H3 g3 a3 => ?_
  exact s_retE (j_call (R := R_ledger_in_span) (ae_cons (e_var rfl) (ae_cons (e_var rfl) (ae_cons (e_var rfl) ae_nil))) fun sls e => ⟨rfl, nums, a, b, B, ha, by omega, by omega, hB, hB0, hB1, by omega, e, rfl⟩) a3 (Nat.le_refl _) fin rfl
/-! ### in_span, where it raises -/
def B_in_span (K : PySem.W.Frag) : RelE := fun _ sls c x => c = 0 ∧ ∃ d0 d1 d2, Odd K d0 ∧ Odd K d1 ∧ Odd K d2 ∧ sls = [.dat d0, .dat d1, .dat d2] ∧ ((isSumsD d0 = false ∧ x = "InvalidSums") ∨ (isSumsD d0 = true ∧ isIntD d1 = false ∧ x = "InvalidKey") ∨ (isSumsD d0 = true ∧ isIntD d1 = true ∧ isWidthD (lenD d0) d2 = false ∧ x = "InvalidWidth"))
theorem ox_in_span (T : Tx K mg) : FnOk P w K mg base (L2.CX P w) 6 T.a_in_span T.fd_in_span P_in_span (spE mg (B_in_span K)) := by
  have U_check_key := fn_or (fn_lift (ok_check_key (P := P) (w := w) (base := base) T)) (ox_check_key (P := P) (w := w) (base := base) T)
  have U_check_sums := fn_or (fn_lift (ok_check_sums (P := P) (w := w) (base := base) T)) (ox_check_sums (P := P) (w := w) (base := base) T)
  have G_is_an_integer := ok_is_an_integer (P := P) (w := w) (base := base) T
  refine fn_okE T.F_in_span sc_in_span (by decide) (fun q sls c x h => by obtain ⟨_, d0, d1, d2, _, _, _, rfl, _⟩ := h; rfl) fun cdv A outer s B0 Ew hr => ⟨_,
    (pss_cons (ps_expr (pe_call U_check_sums (hr.mono (by decide)) (by rfl) T.m_check_sums T.F_check_sums.kp T.b_check_sums .nil (passes_call (W := fun cls d _ H => Ew cls d H) (E := Ew) (takes_of rfl rfl rfl rfl) fun _ _ _ _ h => h) (pa_cons (pv 0) pa_nil)))
      (pss_cons (ps_expr (pe_call U_check_key (hr.mono (by decide)) (by rfl) T.m_check_key T.F_check_key.kp T.b_check_key .nil (passes_call (W := fun cls d _ H => Ew cls d H) (E := Ew) (takes_of rfl rfl rfl rfl) fun _ _ _ _ h => h) (pa_cons (pv 1) pa_nil)))
      (pss_cons (ps_if (PW.pt (pw_or (pt_not (pt_val (pe_call G_is_an_integer (hr.mono (by decide)) (by rfl) T.m_is_an_integer T.F_is_an_integer.kp T.b_is_an_integer .nil pass0 (pa_cons (pv 2) pa_nil)))) (pw_or1 (pt_not (pt_chain op_le op_le pe_int (pv 2) (pe_callB (k_len (K := K) rfl) (by rfl) T.z_len (by decide +kernel) (pa_cons (pv 0) pa_nil))))))) (pss_one (ps_raise rfl (takes_of (E := Ew) rfl rfl rfl rfl) (pmk_own0 PySem.F.excBase_ValueError T.x_InvalidWidth T.g_InvalidWidth T.k_InvalidWidth (raises_own T.u_InvalidWidth T.t_InvalidWidth) rfl))) pss_nil)
      (pss_one ps_never)))), fun q sls n c x A0 σ Q hR hA fin => ?_⟩
  obtain ⟨rfl, d0, d1, d2, o0, o1, o2, rfl, h⟩ := hR
  rcases h with ⟨h0, rfl⟩ | ⟨h0, h1, rfl⟩ | ⟨h0, h1, h2, rfl⟩
  · exact q_dropR (rs_call (c := 0) (B := B_check_sums K) (ae_cons (e_var rfl) ae_nil) fun sls es => ⟨rfl, d0, o0, h0, es, rfl⟩) hA (Nat.le_refl _) (fin_w fin (Nat.le_refl _))
  · refine q_drop (ck_sums h0 o0 (e_var rfl)) hA fun Hk1 H1 g1 a1 => ?_
    exact q_dropR (rs_call (c := 0) (B := B_check_key K) (ae_cons (e_var rfl) ae_nil) fun sls es => ⟨rfl, d1, o1.kn, h1, es, rfl⟩) a1 (Nat.le_refl _) (fin_w fin (Nat.le_refl _))
  · refine q_drop (ck_sums h0 o0 (e_var rfl)) hA fun Hk1 H1 g1 a1 => ?_
    refine q_drop (ck_key h1 o1 (e_var rfl)) a1 fun Hk2 H2 g2 a2 => ?_
    obtain ⟨f, hf, rfl⟩ := sums_pol h0
    rw [len_pol] at h2
    refine q_whenB (b := true) ?_ a2 (fun _ Hk3 H3 g3 a3 => s_raise fin a3 (Nat.le_refl _) T.g_InvalidWidth) (fun h => by cases h)
    by_cases hi : isIntD d2 = true
    · obtain ⟨b, rfl⟩ : ∃ b, d2 = .int b := by
        cases d2 with
        | int b => exact ⟨b, rfl⟩
        | _ => cases hi
      exact tb_is (tb_or (a := false) (b := true) (tb_is (tb_not (tb_B (j_call (R := R_is_an_integer K) (c := 0) (Φ := fun x => x = .bool true) (ae_cons (e_var rfl) ae_nil) fun sls e => ⟨rfl, .int b, o2.kn, e, rfl⟩))) rfl) fun _ => tb_is (tb_not (tb_test (e_chainI (g := fun i j => decide (i ≤ j)) (g' := fun i j => decide (i ≤ j)) e_int (e_var rfl) fun _ => e_is (e_lenT (ds := f.map .int) (e_var rfl)) (d1 := .int ((f.length : Nat) : Int)) (by rw [pol_len])))) (by
        have h3 : (decide (1 ≤ b) && decide (b ≤ (f.length : Int))) = false := h2
        rw [h3]; rfl)) rfl
    · have hf2 : isIntD d2 = false := by simpa using hi
      exact tb_is (tb_or (a := true) (b := true) (tb_is (tb_not (tb_B (j_call (R := R_is_an_integer K) (c := 0) (Φ := fun x => x = .bool (isIntD d2)) (ae_cons (e_var rfl) ae_nil) fun sls e => ⟨rfl, d2, o2.kn, e, rfl⟩))) (by rw [hf2]; rfl)) (fun z => by cases z)) rfl
/-! ### are_keys -/
def R_are_keys (K : PySem.W.Frag) : RelX := fun _ sls c Φ => c = 0 ∧ ∃ d, Odd K d ∧ sls = [.dat d] ∧ Φ = fun x => x = .bool (ascKD d)
theorem ok_are_keys (T : Tx K mg) : FnOk P w K mg base CX0 2 T.a_are_keys T.fd_are_keys P_are_keys (spX (R_are_keys K)) := by
  have G_is_an_integer := ok_is_an_integer (P := P) (w := w) (base := base) T
  refine fn_ok T.F_are_keys sc_are_keys (by decide) (fun q sls c Φ h => by obtain ⟨_, d, _, rfl, _⟩ := h; rfl) fun cdv A outer s B0 Ew hr => ⟨_,
    (pss_cons (ps_if (PW.pt (pw_or (pt_not (pt_val (pe_callB (k_isi (K := K) rfl) (by rfl) T.z_isinstance (by decide +kernel) (pa_cons (pv 0) (pa_cons (pe_bltn (v := .ty "tuple") (by rfl) T.z_tuple (by decide +kernel) rfl) pa_nil))))) (pw_or1 (pt_not (pt_val (pe_callB (k_all (K := K) rfl rfl) (by rfl) T.z_all (by decide +kernel) (pa_cons (pe_lc (own := [("key", 1)]) rfl sc_are_keys.nd (k_piTup (K := K) rfl (pv 0)) (blkOk_by (own := [("key", 1)]) (N := N_are_keys) (sc := defScope s_are_keys) (by decide +kernel)) (fun _ _ _ _ _ => (pg_name (i := 1) sc_are_keys.nd rfl (Or.inl rfl))) (fun _ _ _ _ _ => pts_nil) (fun _ _ _ _ _ => (pe_call G_is_an_integer (hr.mono (by decide)) (by rfl) T.m_is_an_integer T.F_is_an_integer.kp T.b_is_an_integer .nil pass0 (pa_cons (pv 1) pa_nil)))) pa_nil))))))) (pss_one (ps_ret pe_bl)) pss_nil)
      (pss_one (ps_ret (pe_callB (k_all (K := K) rfl rfl) (by rfl) T.z_all (by decide +kernel) (pa_cons (pe_lc (own := [("one", 2), ("other", 3)]) rfl sc_are_keys.nd (k_piZip (K := K) rfl rfl T.z_zip (pa_cons (pv 0) (pa_cons (pe_slice (k_sl (K := K) rfl) (pv 0) (po_some pe_int) po_none) pa_nil))) (blkOk_by (own := [("one", 2), ("other", 3)]) (N := N_are_keys) (sc := defScope s_are_keys) (by decide +kernel)) (fun _ _ _ _ _ => (k_pgTup (K := K) (n := 2) rfl rfl (pgs_cons (pg_name (i := 2) sc_are_keys.nd rfl (Or.inl rfl)) (pgs_cons (pg_name (i := 3) sc_are_keys.nd rfl (Or.inl rfl)) pgs_nil)))) (fun _ _ _ _ _ => pts_nil) (fun _ _ _ _ _ => (pe_cmpR op_lt (pv 2) (pv 3) (nomark _)))) pa_nil))))), fun q sls n c Φ A0 σ Q hR hA fin => ?_⟩
  obtain ⟨rfl, d, od, rfl, rfl⟩ := hR
  have first : isiTup d = false → ascKD d = false := fun h => by cases d <;> first | rfl | cases h
  by_cases ht : isiTup d = true
  · obtain ⟨ds, rfl⟩ : ∃ ds, d = .tuple ds := by
      cases d with
      | tuple ds => exact ⟨ds, rfl⟩
      | _ => cases ht
    have hlen := od.sh ds rfl
    refine q_whenB (b := !(ds.all isIntD)) (tb_is (tb_or (b := !(ds.all isIntD)) (tb_not (tb_B (e_isi (e_var rfl) (kit_tuple _)))) fun _ => tb_not (tb_B (e_is (e_all (bs := ds.map isIntD) (e_is (e_lc1 (vs := [1]) (emb := id) (xs := ds) (by rw [List.map_id]; exact ie_tup (e_var rfl)) (fun x => .bool (isIntD x)) (by omega) fun x hx => ⟨_, gb_name (by simp), j_call (R := R_is_an_integer K) (ae_cons (e_var rfl) ae_nil) fun sls e => ⟨rfl, x, kn_deep (od.dp ds rfl x hx), e, rfl⟩⟩) (by rw [bools_map]))) (by rw [all_id_map])))) (by rw [ht]; rfl)) hA (fun hb Hk1 H1 g1 a1 => ?_) (fun hb Hk1 H1 g1 a1 => ?_)
    · refine s_retE (d := .bool false) e_bl a1 (Nat.le_refl _) fin ?_
      have : ascKD (.tuple ds) = false := by
        show (ds.all isIntD && _) = false
        rw [show ds.all isIntD = false by simpa using hb, Bool.false_and]
      rw [this]
    · obtain ⟨f, rfl⟩ := intsD_of (ds := ds) (by simpa using hb)
      rw [List.length_map] at hlen
      exact s_retE (d := .bool ((adj f).all fun p => decide (p.1 < p.2))) (e_is (e_all (bs := (adj f).map fun p => decide (p.1 < p.2)) (e_is (e_lc1 (vs := [2, 3]) (emb := pr) (xs := adj f) ((ie_zipT (e_var rfl) (e_dropI (n := 1) (e_var rfl) e_int rfl)).is (zipD_ints _ _)) (fun p => .bool (decide (p.1 < p.2))) (by show (f.zip (f.drop 1)).length ≤ 1000000; rw [List.length_zip]; omega) fun p hp => ⟨_, gb_tup2 (by simp) (by simp), e_ltI (e_var rfl) (e_var rfl)⟩) (by rw [bools_map]))) (by rw [all_id_map])) a1 (Nat.le_refl _) fin (by show _ = PyData.bool (ascKD (pol f)); rw [ascKD_pol])
  · have hf : isiTup d = false := by simpa using ht
    refine q_whenB (b := true) (tb_is (tb_or (b := true) (tb_not (tb_B (e_isiT (e_var rfl) od.kn))) fun h => by rw [hf] at h; cases h) (by rw [hf]; rfl)) hA (fun hb Hk1 H1 g1 a1 => ?_) (fun hb => by cases hb)
    exact s_retE (d := .bool false) e_bl a1 (Nat.le_refl _) fin (by rw [first hf])
/-! ### check_keys -/
def R_check_keys : RelX := fun _ sls c Φ => c = 0 ∧ ∃ (keys : List Int) (m : Int), keys.Pairwise (· < ·) ∧ keys.length ≤ 100000 ∧ (keys.length : Int) ≤ m ∧ sls = [.dat (pol keys), .dat (.int m)] ∧ Φ = fun d => d = .none
theorem ok_check_keys (T : Tx K mg) : FnOk P w K mg base CX0 3 T.a_check_keys T.fd_check_keys P_check_keys (spX R_check_keys) := by
  have G_are_keys := ok_are_keys (P := P) (w := w) (base := base) T
  refine fn_ok T.F_check_keys sc_check_keys (by decide) (fun q sls c Φ h => by obtain ⟨_, f, m, _, _, _, rfl, _⟩ := h; rfl) fun cdv A outer s B0 Ew hr => ⟨_,
    (pss_one (ps_if (PW.pt (pw_or (pt_not (pt_val (pe_call G_are_keys (hr.mono (by decide)) (by rfl) T.m_are_keys T.F_are_keys.kp T.b_are_keys .nil pass0 (pa_cons (pv 0) pa_nil)))) (pw_or1 (pt_cmpR op_gt (pe_callB (k_len (K := K) rfl) (by rfl) T.z_len (by decide +kernel) (pa_cons (pv 0) pa_nil)) (pv 1) (nomark _))))) (pss_one ps_never) pss_nil)), fun q sls n c Φ A0 σ Q hR hA fin => ?_⟩
  obtain ⟨rfl, keys, m, hs, hl, hm, rfl, rfl⟩ := hR
  exact s_ifNo (tb_is (tb_or (a := false) (b := decide ((keys.length : Int) > m)) (tb_is (tb_not (tb_B (j_call (R := R_are_keys K) (c := 0) (Φ := fun x => x = .bool true) (ae_cons (e_var rfl) ae_nil) fun sls e => ⟨rfl, pol keys, Odd.of (short_tup (by rw [List.length_map]; exact hl)) (deep_pol 2 keys), e, by rw [asc_ascKD hs]⟩))) rfl) fun _ => tb_test (e_gtI (e_is (e_lenT (ds := keys.map .int) (e_var rfl)) (d1 := .int ((keys.length : Nat) : Int)) (by rw [pol_len])) (e_var rfl))) (by rw [decide_eq_false (by omega)]; rfl)) hA fun Hk' H2 g a => s_end a (Nat.le_refl _) fin rfl
/-! ### check_keys, where it raises -/
def B_check_keys (K : PySem.W.Frag) : RelE := fun _ sls c x => c = 0 ∧ ∃ d m, Odd K d ∧ isKeysD m d = false ∧ sls = [.dat d, .dat (.int m)] ∧ x = "InvalidKeys"
theorem ox_check_keys (T : Tx K mg) : FnOk P w K mg base (L2.CX P w) 3 T.a_check_keys T.fd_check_keys P_check_keys (spE mg (B_check_keys K)) := by
  have G_are_keys := ok_are_keys (P := P) (w := w) (base := base) T
  refine fn_okE T.F_check_keys sc_check_keys (by decide) (fun q sls c x h => by obtain ⟨_, d, m, _, _, rfl, _⟩ := h; rfl) fun cdv A outer s B0 Ew hr => ⟨_,
    (pss_one (ps_if (PW.pt (pw_or (pt_not (pt_val (pe_call G_are_keys (hr.mono (by decide)) (by rfl) T.m_are_keys T.F_are_keys.kp T.b_are_keys .nil pass0 (pa_cons (pv 0) pa_nil)))) (pw_or1 (pt_cmpR op_gt (pe_callB (k_len (K := K) rfl) (by rfl) T.z_len (by decide +kernel) (pa_cons (pv 0) pa_nil)) (pv 1) (nomark _))))) (pss_one (ps_raise rfl (takes_of (E := Ew) rfl rfl rfl rfl) (pmk_own0 PySem.F.excBase_ValueError T.x_InvalidKeys T.g_InvalidKeys T.k_InvalidKeys (raises_own T.u_InvalidKeys T.t_InvalidKeys) rfl))) pss_nil)), fun q sls n c x A0 σ Q hR hA fin => ?_⟩
  obtain ⟨rfl, d, m, od, hd, rfl, rfl⟩ := hR
  refine s_ifB (b := true) ?_ hA (fun _ Hk1 H1 g1 a1 => s_raise fin a1 (Nat.le_refl _) T.g_InvalidKeys) (fun h => by cases h)
  by_cases h : ascKD d = true
  · obtain ⟨f, rfl⟩ := ascKD_of h
    have h2 : (m : Int) < (f.length : Int) := by
      have : decide ((lenD (pol f) : Int) ≤ m) = false := by
        have h3 : (ascKD (pol f) && decide ((lenD (pol f) : Int) ≤ m)) = false := hd
        rw [h, Bool.true_and] at h3; exact h3
      have := of_decide_eq_false this
      rw [len_pol] at this
      omega
    exact tb_is (tb_or (a := false) (b := true) (tb_is (tb_not (tb_B (j_call (R := R_are_keys K) (c := 0) (Φ := fun x => x = .bool (ascKD (pol f))) (ae_cons (e_var rfl) ae_nil) fun sls e => ⟨rfl, pol f, od, e, rfl⟩))) (by rw [h]; rfl)) fun _ => tb_is (tb_test (e_gtI (e_is (e_lenT (ds := f.map .int) (e_var rfl)) (d1 := .int ((f.length : Nat) : Int)) (by rw [pol_len])) (e_var rfl))) (decide_eq_true h2)) rfl
  · have hf : ascKD d = false := by simpa using h
    exact tb_is (tb_or (a := true) (b := true) (tb_is (tb_not (tb_B (j_call (R := R_are_keys K) (c := 0) (Φ := fun x => x = .bool (ascKD d)) (ae_cons (e_var rfl) ae_nil) fun sls e => ⟨rfl, d, od, e, rfl⟩))) (by rw [hf]; rfl)) (fun z => by cases z)) rfl
/-! ### on_keys -/
def R_on_keys : RelX := fun _ sls c Φ => c = 0 ∧ ∃ (nums keys : List Int) (B : Nat), CB 56 keys ∧ keys.Pairwise (· < ·) ∧ keys.length ≤ nums.length ∧ nums ≠ [] ∧ CB B nums ∧ 0 < B ∧ B ≤ 70000 ∧ nums.length ≤ 60 ∧ sls = [.dat (pol nums), .dat (pol keys)] ∧ Φ = fun d => d = oLed (onlyL keys nums)
theorem ok_on_keys (T : Tx K mg) : FnOk P w K mg base CX0 5 T.a_on_keys T.fd_on_keys P_on_keys (spX R_on_keys) := by
  have G_check_keys := ok_check_keys (P := P) (w := w) (base := base) T
  have G_check_sums := ok_check_sums (P := P) (w := w) (base := base) T
  have G_only_ledger := ok_only_ledger (P := P) (w := w) (base := base) T
  refine fn_ok T.F_on_keys sc_on_keys (by decide) (fun q sls c Φ h => by obtain ⟨_, f, x, B, _, _, _, _, _, _, _, _, rfl, _⟩ := h; rfl) fun cdv A outer s B0 Ew hr => ⟨_,
    (pss_cons (ps_expr (pe_call G_check_sums (hr.mono (by decide)) (by rfl) T.m_check_sums T.F_check_sums.kp T.b_check_sums .nil pass0 (pa_cons (pv 0) pa_nil)))
      (pss_cons (ps_expr (pe_call G_check_keys (hr.mono (by decide)) (by rfl) T.m_check_keys T.F_check_keys.kp T.b_check_keys .nil pass0 (pa_cons (pv 1) (pa_cons (pe_callB (k_len (K := K) rfl) (by rfl) T.z_len (by decide +kernel) (pa_cons (pv 0) pa_nil)) pa_nil))))
      (pss_one (ps_ret (pe_call G_only_ledger (hr.mono (by decide)) (by rfl) T.m_only_ledger T.F_only_ledger.kp T.b_only_ledger .nil pass0 (pa_cons (pv 0) (pa_cons (pv 1) pa_nil))))))), fun q sls n c Φ A0 σ Q hR hA fin => ?_⟩
  obtain ⟨rfl, nums, keys, B, hk, hs, hle, hne, hB, hB0, hB1, hnl, rfl, rfl⟩ := hR
  refine q_drop (j_call (R := R_check_sums) (ae_cons (e_var rfl) ae_nil) fun sls e => ⟨rfl, nums, hne, by omega, e, rfl⟩) hA fun Hk1 H1 g1 a1 => ?_
  refine q_drop (j_call (R := R_check_keys) (ae_cons (e_var rfl) (ae_cons (e_is (e_lenT (e_var rfl)) (d1 := .int ((nums.length : Nat) : Int)) (by rw [pol_len])) ae_nil)) fun sls e => ⟨rfl, keys, (nums.length : Nat), hs, by omega, by omega, e, rfl⟩) a1 fun Hk2 H2 g2 a2 => ?_
  exact s_retE (j_call (R := R_only_ledger) (ae_cons (e_var rfl) (ae_cons (e_var rfl) ae_nil)) fun sls e => ⟨rfl, nums, keys, B, hk, asc_nodup hs, by omega, hB, hB0, hB1, by omega, e, rfl⟩) a2 (Nat.le_refl _) fin rfl
/-! ### on_keys, where it raises -/
def B_on_keys (K : PySem.W.Frag) : RelE := fun _ sls c x => c = 0 ∧ ∃ d0 d1, Odd K d0 ∧ Odd K d1 ∧ sls = [.dat d0, .dat d1] ∧ ((isSumsD d0 = false ∧ x = "InvalidSums") ∨ (isSumsD d0 = true ∧ isKeysD (lenD d0) d1 = false ∧ x = "InvalidKeys"))
theorem ox_on_keys (T : Tx K mg) : FnOk P w K mg base (L2.CX P w) 5 T.a_on_keys T.fd_on_keys P_on_keys (spE mg (B_on_keys K)) := by
  have U_check_keys := fn_or (fn_lift (ok_check_keys (P := P) (w := w) (base := base) T)) (ox_check_keys (P := P) (w := w) (base := base) T)
  have U_check_sums := fn_or (fn_lift (ok_check_sums (P := P) (w := w) (base := base) T)) (ox_check_sums (P := P) (w := w) (base := base) T)
  refine fn_okE T.F_on_keys sc_on_keys (by decide) (fun q sls c x h => by obtain ⟨_, d0, d1, _, _, rfl, _⟩ := h; rfl) fun cdv A outer s B0 Ew hr => ⟨_,
    (pss_cons (ps_expr (pe_call U_check_sums (hr.mono (by decide)) (by rfl) T.m_check_sums T.F_check_sums.kp T.b_check_sums .nil (passes_call (W := fun cls d _ H => Ew cls d H) (E := Ew) (takes_of rfl rfl rfl rfl) fun _ _ _ _ h => h) (pa_cons (pv 0) pa_nil)))
      (pss_cons (ps_expr (pe_call U_check_keys (hr.mono (by decide)) (by rfl) T.m_check_keys T.F_check_keys.kp T.b_check_keys .nil (passes_call (W := fun cls d _ H => Ew cls d H) (E := Ew) (takes_of rfl rfl rfl rfl) fun _ _ _ _ h => h) (pa_cons (pv 1) (pa_cons (pe_callB (k_len (K := K) rfl) (by rfl) T.z_len (by decide +kernel) (pa_cons (pv 0) pa_nil)) pa_nil))))
      (pss_one ps_never))), fun q sls n c x A0 σ Q hR hA fin => ?_⟩
  obtain ⟨rfl, d0, d1, o0, o1, rfl, h⟩ := hR
  rcases h with ⟨h0, rfl⟩ | ⟨h0, h1, rfl⟩
  · exact q_dropR (rs_call (c := 0) (B := B_check_sums K) (ae_cons (e_var rfl) ae_nil) fun sls es => ⟨rfl, d0, o0, h0, es, rfl⟩) hA (Nat.le_refl _) (fin_w fin (Nat.le_refl _))
  · refine q_drop (ck_sums h0 o0 (e_var rfl)) hA fun Hk1 H1 g1 a1 => ?_
    obtain ⟨f, hf, rfl⟩ := sums_pol h0
    rw [len_pol] at h1
    exact q_dropR (rs_call (c := 0) (B := B_check_keys K) (ae_cons (e_var rfl) (ae_cons (e_is (e_lenT (ds := f.map .int) (e_var rfl)) (d1 := .int ((f.length : Nat) : Int)) (by rw [pol_len])) ae_nil)) fun sls es => ⟨rfl, d1, (f.length : Int), o1, h1, es, rfl⟩) a1 (Nat.le_refl _) (fin_w fin (Nat.le_refl _))
/-! ### is_from -/
def R_is_from (K : PySem.W.Frag) : RelX := fun _ sls c Φ => c = 0 ∧ ∃ d j, Kn K d ∧ sls = [.dat d, .dat (.int j)] ∧ Φ = fun x => x = .bool (isFromD j d)
theorem ok_is_from (T : Tx K mg) : FnOk P w K mg base CX0 2 T.a_is_from T.fd_is_from P_is_from (spX (R_is_from K)) := by
  have G_is_an_integer := ok_is_an_integer (P := P) (w := w) (base := base) T
  refine fn_ok T.F_is_from sc_is_from (by decide) (fun q sls c Φ h => by obtain ⟨_, d, j, _, rfl, _⟩ := h; rfl) fun cdv A outer s B0 Ew hr => ⟨_,
    (pss_one (ps_ret (pe_and (pe_call G_is_an_integer (hr.mono (by decide)) (by rfl) T.m_is_an_integer T.F_is_an_integer.kp T.b_is_an_integer .nil pass0 (pa_cons (pv 0) pa_nil)) (pe_one (pe_cmpR op_ge (pv 0) (pv 1) (nomark _)))))), fun q sls n c Φ A0 σ Q hR hA fin => ?_⟩
  obtain ⟨rfl, d, j, kn, rfl, rfl⟩ := hR
  refine s_retE (d := .bool (isFromD j d)) ?_ hA (Nat.le_refl _) fin rfl
  by_cases h : isIntD d = true
  · obtain ⟨i, rfl⟩ : ∃ i, d = .int i := by
      cases d with
      | int i => exact ⟨i, rfl⟩
      | _ => cases h
    exact e_is (e_andV (a := true) (b := decide (j ≤ i)) (j_call (R := R_is_an_integer K) (ae_cons (e_var rfl) ae_nil) fun sls e => ⟨rfl, .int i, kn, e, rfl⟩) (fun _ => e_geI (e_var rfl) (e_var rfl))) rfl
  · have hf : isIntD d = false := by simpa using h
    have hz : isFromD j d = false := by cases d <;> first | rfl | cases hf
    rw [hz]
    exact e_andNo (e_is (j_call (R := R_is_an_integer K) (c := 0) (Φ := fun x => x = .bool (isIntD d)) (ae_cons (e_var rfl) ae_nil) fun sls e => ⟨rfl, d, kn, e, rfl⟩) (by rw [hf]))
/-! ### check_number -/
def R_check_number : RelX := fun _ sls c Φ => c = 0 ∧ ∃ i j, j ≤ i ∧ sls = [.dat (.int i), .dat (.int j)] ∧ Φ = fun x => x = .none
theorem ok_check_number (T : Tx K mg) : FnOk P w K mg base CX0 3 T.a_check_number T.fd_check_number P_check_number (spX R_check_number) := by
  have G_is_from := ok_is_from (P := P) (w := w) (base := base) T
  refine fn_ok T.F_check_number sc_check_number (by decide) (fun q sls c Φ h => by obtain ⟨_, i, j, _, rfl, _⟩ := h; rfl) fun cdv A outer s B0 Ew hr => ⟨_,
    (pss_one (ps_if (pt_not (pt_val (pe_call G_is_from (hr.mono (by decide)) (by rfl) T.m_is_from T.F_is_from.kp T.b_is_from .nil pass0 (pa_cons (pv 0) (pa_cons (pv 1) pa_nil))))) (pss_one ps_never) pss_nil)), fun q sls n c Φ A0 σ Q hR hA fin => ?_⟩
  obtain ⟨rfl, i, j, hij, rfl, rfl⟩ := hR
  exact s_ifNo (tb_is (tb_not (tb_B (j_call (R := R_is_from K) (ae_cons (e_var rfl) (ae_cons (e_var rfl) ae_nil)) fun sls e => ⟨rfl, .int i, j, .inl rfl, e, rfl⟩))) (by rw [show isFromD j (.int i) = decide (j ≤ i) from rfl, decide_eq_true hij]; rfl)) hA fun Hk' H2 g a => s_end a (Nat.le_refl _) fin rfl
/-! ### check_number, where it raises -/
def B_check_number (K : PySem.W.Frag) : RelE := fun _ sls c x => c = 0 ∧ ∃ d j, Kn K d ∧ isFromD j d = false ∧ sls = [.dat d, .dat (.int j)] ∧ x = "InvalidNumber"
theorem ck_number {K : PySem.W.Frag} {mg : Str → Option Value} {q : Option Addr} {δ : List Sl} {te : TE} {d : PyData} {E0 : XK} {j : Int} {tj : TE} (ej : E q δ tj (.int j)) (h : isFromD j d = true) (o : Odd K d) (ed : E q δ te d) : E q δ (tCall (spU (spX R_check_number) (spE mg (B_check_number K))) [] E0 (tCons te (tCons tj tNil))) .none := by
  obtain ⟨i, rfl⟩ : ∃ i, d = .int i := by
    cases d with
    | int i => exact ⟨i, rfl⟩
    | _ => cases h
  exact j_callU (R := R_check_number) (c := 0) (ae_cons ed (ae_cons ej ae_nil)) fun sls e => ⟨rfl, i, j, of_decide_eq_true h, e, rfl⟩
theorem ox_check_number (T : Tx K mg) : FnOk P w K mg base (L2.CX P w) 3 T.a_check_number T.fd_check_number P_check_number (spE mg (B_check_number K)) := by
  have G_is_from := ok_is_from (P := P) (w := w) (base := base) T
  refine fn_okE T.F_check_number sc_check_number (by decide) (fun q sls c x h => by obtain ⟨_, d, j, _, _, rfl, _⟩ := h; rfl) fun cdv A outer s B0 Ew hr => ⟨_,
    (pss_one (ps_if (pt_not (pt_val (pe_call G_is_from (hr.mono (by decide)) (by rfl) T.m_is_from T.F_is_from.kp T.b_is_from .nil pass0 (pa_cons (pv 0) (pa_cons (pv 1) pa_nil))))) (pss_one (ps_raise rfl (takes_of (E := Ew) rfl rfl rfl rfl) (pmk_own0 PySem.F.excBase_ValueError T.x_InvalidNumber T.g_InvalidNumber T.k_InvalidNumber (raises_own T.u_InvalidNumber T.t_InvalidNumber) rfl))) pss_nil)), fun q sls n c x A0 σ Q hR hA fin => ?_⟩
  obtain ⟨rfl, d, j, kn, hd, rfl, rfl⟩ := hR
  exact s_ifB (b := true) (tb_is (tb_not (tb_B (j_call (R := R_is_from K) (ae_cons (e_var rfl) (ae_cons (e_var rfl) ae_nil)) fun sls e => ⟨rfl, d, j, kn, e, rfl⟩))) (by rw [hd]; rfl)) hA (fun _ Hk1 H1 g1 a1 => s_raise fin a1 (Nat.le_refl _) T.g_InvalidNumber) (fun h => by cases h)
/-! ### least_blind -/
def R_least_blind : RelX := fun _ sls c Φ => c = 0 ∧ ∃ (s : Nat) (f : Int), s ≤ 9000 ∧ sls = [.dat (.int (s : Int)), .dat (.int f)] ∧ Φ = fun d => d = led (turn s f)
theorem ok_least_blind (T : Tx K mg) : FnOk P w K mg base CX0 4 T.a_least_blind T.fd_least_blind P_least_blind (spX R_least_blind) := by
  have G_check_key := ok_check_key (P := P) (w := w) (base := base) T
  have G_check_number := ok_check_number (P := P) (w := w) (base := base) T
  refine fn_ok T.F_least_blind sc_least_blind (by decide) (fun q sls c Φ h => by obtain ⟨_, s, f, _, rfl, _⟩ := h; rfl) fun cdv A outer s B0 Ew hr => ⟨_,
    (pss_cons (ps_expr (pe_call G_check_number (hr.mono (by decide)) (by rfl) T.m_check_number T.F_check_number.kp T.b_check_number .nil pass0 (pa_cons (pv 0) (pa_cons pe_int pa_nil))))
      (pss_cons (ps_expr (pe_call G_check_key (hr.mono (by decide)) (by rfl) T.m_check_key T.F_check_key.kp T.b_check_key .nil pass0 (pa_cons (pv 1) pa_nil)))
      (pss_cons (ps_setLc (i := 2) (own := [("k", 3)]) rfl sc_least_blind.nd rfl rfl (sw_true rfl rfl rfl (by decide +kernel)) (pi_range1 rfl T.z_range (pa_cons (pe_op (k_addU (K := K) rfl) (pv 0) pe_int) pa_nil)) (blkOk_by (own := [("k", 3)]) (N := N_least_blind) (sc := defScope s_least_blind) (by decide +kernel)) (fun _ _ _ _ _ => (pg_name (i := 3) sc_least_blind.nd rfl (Or.inl rfl))) (fun _ _ _ _ _ => pts_nil) (fun _ _ _ _ _ => (pe_ifExp (pt_cmpR (k_eqD (K := K) rfl hr.units) (pe_op op_modN (pe_op op_sub (pv 0) (pv 3)) pe_int) pe_int (nomark _)) pe_int (pe_un un_neg pe_int))))
      (pss_one (ps_ret (pe_callTy (k_tup (K := K) rfl) (by rfl) T.z_tuple (by decide +kernel) (pa_cons (pe_lc (own := [("k", 3), ("sign", 4)]) rfl sc_least_blind.nd (k_enumL (K := K) rfl rfl T.z_enumerate (pa_cons (pv 2) pa_nil)) (blkOk_by (own := [("k", 3), ("sign", 4)]) (N := N_least_blind) (sc := defScope s_least_blind) (by decide +kernel)) (fun _ _ _ _ _ => (k_pgTup (K := K) (n := 2) rfl rfl (pgs_cons (pg_name (i := 3) sc_least_blind.nd rfl (Or.inl rfl)) (pgs_cons (pg_name (i := 4) sc_least_blind.nd rfl (Or.inl rfl)) pgs_nil)))) (fun _ _ _ _ _ => pts_nil) (fun _ _ _ _ _ => (Cr.pe_tup (pa_cons (pe_op (k_addU (K := K) rfl) (pv 1) (pv 3)) (pa_cons (pe_op op_mulU (pv 4) (pe_callBfun call_combQ (by rfl) T.y_comb (pa_cons (pv 0) (pa_cons (pv 3) pa_nil)))) pa_nil))))) pa_nil))))))), fun q sls n c Φ A0 σ Q hR hA fin => ?_⟩
  obtain ⟨rfl, s, f, hs, rfl, rfl⟩ := hR
  refine q_drop (j_call (R := R_check_number) (ae_cons (e_var rfl) (ae_cons e_int ae_nil)) fun sls e => ⟨rfl, s, 0, by omega, e, rfl⟩) hA fun Hk1 H1 g1 a1 => ?_
  refine q_drop (j_call (R := R_check_key) (ae_cons (e_var rfl) ae_nil) fun sls e => ⟨rfl, f, e, rfl⟩) a1 fun Hk2 H2 g2 a2 => ?_
  refine q_asgE (i := 2) (d := .list ((List.range (s + 1)).map fun k : Nat => PyData.int (sgz ((s : Int) - (0 + (k : Int)))))) (e_lcR (i := 3) (m := s + 1) (e_addI (e_var rfl) e_int) (by omega) (by omega) (fun k : Nat => .int (sgz ((s : Int) - (0 + (k : Int))))) fun k hk => ?_) a2 fun σ3 Hk3 H3 g3 a3 => ?_
  · refine e_if (b := (((s : Int) - (0 + (k : Int))).fmod 2 == 0)) (tb_test (e_eqDI (e_mod (e_subI (e_var rfl) (e_var rfl)) e_int (by decide)) e_int)) (fun h => ?_) (fun h => ?_)
    · exact e_is e_int (by rw [sgz_if, if_pos h])
    · rw [sgz_if, if_neg (by rw [h]; simp)]
      exact e_is (d1 := .int (-1)) (e_un e_int) rfl
  refine s_retE (d := led (turn s f)) (e_tupL (e_is (e_lc1 (vs := [3, 4]) (emb := fun k : Nat => .tuple [.int (k : Int), .int (sgz ((s : Int) - (0 + (k : Int))))]) (xs := List.range (s + 1)) ((ie_enumL (e_var rfl)).is (enumD_range _ _)) (fun k => pr (f + (0 + (k : Int)), (chs s k : Int) * sgz ((s : Int) - (0 + (k : Int))))) (by rw [List.length_range]; omega) fun k hk => ⟨_, gb_tup2 (by simp) (by simp), ?_⟩) (by unfold turn pd; rw [List.map_map]; rfl))) a3 (Nat.le_refl _) fin rfl
  have hk2 := List.mem_range.mp hk
  exact e_is (e_pr (e_addI (e_var rfl) (e_var rfl)) (e_mulI (e_var rfl) (e_is (e_comb (a := s) (b := k) (e_var rfl) (e_var rfl) (by omega) (by omega)) (by rw [comb_chs])) (wide_mul (a := 1) (by rw [sgz_abs]; decide) (chs_bits s k) (by omega) (by omega) (by omega)))) (by rw [Int.mul_comm, Int.zero_add])
/-! ### least_blind, where it raises -/
def B_least_blind (K : PySem.W.Frag) : RelE := fun _ sls c x => c = 0 ∧ ∃ d0 d1, Odd K d0 ∧ Odd K d1 ∧ sls = [.dat d0, .dat d1] ∧ ((isFromD 0 d0 = false ∧ x = "InvalidNumber") ∨ (isFromD 0 d0 = true ∧ isIntD d1 = false ∧ x = "InvalidKey"))
theorem ox_least_blind (T : Tx K mg) : FnOk P w K mg base (L2.CX P w) 4 T.a_least_blind T.fd_least_blind P_least_blind (spE mg (B_least_blind K)) := by
  have U_check_key := fn_or (fn_lift (ok_check_key (P := P) (w := w) (base := base) T)) (ox_check_key (P := P) (w := w) (base := base) T)
  have U_check_number := fn_or (fn_lift (ok_check_number (P := P) (w := w) (base := base) T)) (ox_check_number (P := P) (w := w) (base := base) T)
  refine fn_okE T.F_least_blind sc_least_blind (by decide) (fun q sls c x h => by obtain ⟨_, d0, d1, _, _, rfl, _⟩ := h; rfl) fun cdv A outer s B0 Ew hr => ⟨_,
    (pss_cons (ps_expr (pe_call U_check_number (hr.mono (by decide)) (by rfl) T.m_check_number T.F_check_number.kp T.b_check_number .nil (passes_call (W := fun cls d _ H => Ew cls d H) (E := Ew) (takes_of rfl rfl rfl rfl) fun _ _ _ _ h => h) (pa_cons (pv 0) (pa_cons pe_int pa_nil))))
      (pss_cons (ps_expr (pe_call U_check_key (hr.mono (by decide)) (by rfl) T.m_check_key T.F_check_key.kp T.b_check_key .nil (passes_call (W := fun cls d _ H => Ew cls d H) (E := Ew) (takes_of rfl rfl rfl rfl) fun _ _ _ _ h => h) (pa_cons (pv 1) pa_nil)))
      (pss_cons ps_never
      (pss_one ps_never)))), fun q sls n c x A0 σ Q hR hA fin => ?_⟩
  obtain ⟨rfl, d0, d1, o0, o1, rfl, h⟩ := hR
  rcases h with ⟨h0, rfl⟩ | ⟨h0, h1, rfl⟩
  · exact q_dropR (rs_call (c := 0) (B := B_check_number K) (ae_cons (e_var rfl) (ae_cons e_int ae_nil)) fun sls es => ⟨rfl, d0, 0, o0.kn, h0, es, rfl⟩) hA (Nat.le_refl _) (fin_w fin (Nat.le_refl _))
  · refine q_drop (ck_number e_int h0 o0 (e_var rfl)) hA fun Hk1 H1 g1 a1 => ?_
    exact q_dropR (rs_call (c := 0) (B := B_check_key K) (ae_cons (e_var rfl) ae_nil) fun sls es => ⟨rfl, d1, o1.kn, h1, es, rfl⟩) a1 (Nat.le_refl _) (fin_w fin (Nat.le_refl _))
/-! ### first_apart -/
def R_first_apart : RelX := fun _ sls c Φ => c = 0 ∧ ∃ (l : List (Int × Int)) (A B : Nat), Led l ∧ Kb A B l ∧ A ≤ 200 ∧ 0 < A ∧ 0 < B ∧ B ≤ 10000 ∧ l.length ≤ 1000 ∧ sls = [.dat (led l)] ∧ Φ = fun d => d = blD l
theorem ok_first_apart (T : Tx K mg) : FnOk P w K mg base CX0 1 T.a_first_apart T.fd_first_apart P_first_apart (spX R_first_apart) := by
  refine fn_ok T.F_first_apart sc_first_apart (by decide) (fun q sls c Φ h => by obtain ⟨_, l, A, B, _, _, _, _, _, _, _, rfl, _⟩ := h; rfl) fun cdv A outer s B0 Ew hr => ⟨_,
    (pss_cons (ps_if (pt_cmpR (k_eqD (K := K) rfl hr.units) (pv 0) (Cr.pe_tup pa_nil) (nomark _)) (pss_one (ps_ret pe_non)) pss_nil)
      (pss_cons (ps_set (i := 1) sc_first_apart.nd rfl (Or.inl rfl) pe_int)
      (pss_cons (ps_setLc (i := 2) (own := [("key", 4), ("amount", 5)]) rfl sc_first_apart.nd rfl rfl (sw_true rfl rfl rfl (by decide +kernel)) (k_piTup (K := K) rfl (pv 0)) (blkOk_by (own := [("key", 4), ("amount", 5)]) (N := N_first_apart) (sc := defScope s_first_apart) (by decide +kernel)) (fun _ _ _ _ _ => (k_pgTup (K := K) (n := 2) rfl rfl (pgs_cons (pg_name (i := 4) sc_first_apart.nd rfl (Or.inl rfl)) (pgs_cons (pg_name (i := 5) sc_first_apart.nd rfl (Or.inl rfl)) pgs_nil)))) (fun _ _ _ _ _ => pts_nil) (fun _ _ _ _ _ => (pv 4)))
      (pss_cons (ps_setLc (i := 3) (own := [("key", 4), ("amount", 5)]) rfl sc_first_apart.nd rfl rfl (sw_true rfl rfl rfl (by decide +kernel)) (k_piTup (K := K) rfl (pv 0)) (blkOk_by (own := [("key", 4), ("amount", 5)]) (N := N_first_apart) (sc := defScope s_first_apart) (by decide +kernel)) (fun _ _ _ _ _ => (k_pgTup (K := K) (n := 2) rfl rfl (pgs_cons (pg_name (i := 4) sc_first_apart.nd rfl (Or.inl rfl)) (pgs_cons (pg_name (i := 5) sc_first_apart.nd rfl (Or.inl rfl)) pgs_nil)))) (fun _ _ _ _ _ => pts_nil) (fun _ _ _ _ _ => (pv 5)))
      (pss_cons (ps_while PassesOwn.never (pt_cmpR (k_eqD (K := K) rfl hr.units) (pe_callB (k_sum (K := K) rfl rfl) (by rfl) T.z_sum (by decide +kernel) (pa_cons (pv 3) pa_nil)) pe_int (nomark _)) (pss_cons (ps_set (i := 1) sc_first_apart.nd rfl (Or.inl rfl) (pe_op (k_addU (K := K) rfl) (pv 1) pe_int))
      (pss_one (ps_setLc (i := 3) (own := [("term", 6), ("key", 4)]) rfl sc_first_apart.nd rfl rfl (sw_true rfl rfl rfl (by decide +kernel)) (k_piZip (K := K) rfl rfl T.z_zip (pa_cons (pv 3) (pa_cons (pv 2) pa_nil))) (blkOk_by (own := [("term", 6), ("key", 4)]) (N := N_first_apart) (sc := defScope s_first_apart) (by decide +kernel)) (fun _ _ _ _ _ => (k_pgTup (K := K) (n := 2) rfl rfl (pgs_cons (pg_name (i := 6) sc_first_apart.nd rfl (Or.inl rfl)) (pgs_cons (pg_name (i := 4) sc_first_apart.nd rfl (Or.inl rfl)) pgs_nil)))) (fun _ _ _ _ _ => pts_nil) (fun _ _ _ _ _ => (pe_op op_mulU (pv 6) (pv 4)))))))
      (pss_one (ps_ret (pv 1)))))))), fun q sls n c Φ A0 σ Q hR hA fin => ?_⟩
  obtain ⟨rfl, l, A, B, hL, hK, hA1, hA0, hB0, hB1, hl, rfl, rfl⟩ := hR
  by_cases hne : l = []
  · subst hne
    refine q_whenB (b := true) (tb_is (tb_test (e_is (e_eqD (e_var rfl) (e_tup (ds := []) ae_nil) (shaped_led []) rfl) (by rw [eqv_led_nil]; rfl))) rfl) hA (fun _ Hk2 H2 g2 a2 => ?_) (fun h => by cases h)
    exact s_retE (d := .none) e_non a2 (Nat.le_refl _) fin (by rw [blD_nil])
  obtain ⟨t, ht, hb⟩ := led_bl hL hne
  have hct := chg_lt hne
  refine q_whenB (b := false) (tb_is (tb_test (e_is (e_eqD (e_var rfl) (e_tup (ds := []) ae_nil) (shaped_led l) rfl) (by rw [eqv_led_nil]))) (by simpa using hne)) hA (fun h => by cases h) (fun _ Hk2 H2 g2 a2 => ?_)
  refine q_asgE (i := 1) e_int a2 fun σ3 Hk3 H3 g3 a3 => ?_
  refine q_asgE (i := 2) (d := .list ((l.map fun x : Int × Int => x.1).map .int)) (e_is (e_lc1 (vs := [4, 5]) (emb := pr) (xs := l) (ie_tup (e_var rfl)) (fun x => .int x.1) (by omega) fun x hx => ⟨_, gb_tup2 (by simp) (by simp), e_var rfl⟩) (by rw [List.map_map]; rfl)) a3 fun σ4 Hk4 H4 g4 a4 => ?_
  refine q_asgE (i := 3) (d := .list ((tms l 0).map .int)) (e_is (e_lc1 (vs := [4, 5]) (emb := pr) (xs := l) (ie_tup (e_var rfl)) (fun x => .int x.2) (by omega) fun x hx => ⟨_, gb_tup2 (by simp) (by simp), e_var rfl⟩) (by rw [tms_zero, List.map_map]; rfl)) a4 fun σ5 Hk5 H5 g5 a5 => ?_
  refine q_while (q := q) (A0 := A0) (B0 := B0) (fun m σ' Hk' H' => ∃ i : Nat, i + m = t ∧ At q n [.dat (led l), .dat (.int (i : Int)), .dat (.list ((l.map fun x : Int × Int => x.1).map .int)), .dat (.list ((tms l i).map .int)), .any, .any, .any] A0 B0 σ' Hk' H') t ⟨0, by omega, a5⟩ fun m σ' Hk' H' ⟨i, hi, st⟩ => ?_
  have hAi : A * i ≤ 200 * 1000 := Nat.mul_le_mul hA1 (by omega)
  refine ⟨_, psum l i == 0, n, tb_test (e_eqDI (e_sum (e_var rfl)) e_int), st, fun hz Hk6 H6 g6 a6 => ?_, fun hz Hk6 H6 g6 a6 => ?_⟩
  · have hz' : psum l i = 0 := by simpa using hz
    have hit : i < t := by
      by_cases h : i < t
      · exact h
      · exact absurd hz' (by rw [show i = t by omega]; exact hb.1)
    refine q_asgE (i := 1) (d := .int ((i + 1 : Nat) : Int)) (e_is (e_addI (e_var rfl) e_int) (by congr 1)) a6 fun σ7 Hk7 H7 g7 a7 => ?_
    exact s_asgE (i := 3) (d := .list ((tms l (i + 1)).map .int)) (e_is (e_lc1 (vs := [6, 4]) (emb := fun x => pr (x.2 * x.1 ^ i, x.1)) (xs := l) ((ie_zipL (e_var rfl) (e_var rfl)).is (zip_terms l i)) (fun x => .int (x.2 * x.1 ^ i * x.1)) (by omega) fun x hx => ⟨_, gb_tup2 (by simp) (by simp), e_mulI (e_var rfl) (e_var rfl) (wide_mul (tm_bits (hK x hx).1 (hK x hx).2 i) (hK x hx).1 (by omega) (by omega) (by omega))⟩) (by rw [tms_succ, List.map_map]; rfl)) a7 fun σ8 Hk8 H8 g8 a8 => ⟨m - 1, Hk8, by omega, i + 1, by omega, a8⟩
  · have hz' : psum l i ≠ 0 := by simpa using hz
    have hit : i = t := by
      by_cases h : i < t
      · exact absurd (hb.2 i h) hz'
      · omega
    subst hit
    exact s_retE (e_var rfl) a6 (Nat.le_refl _) fin (by rw [blD_is hb])
/-! ### without_step -/
def R_without_step : RelX := fun _ sls c Φ => c = 0 ∧ ∃ A : List Int, A.length ≤ 100000 ∧ sls = [.dat (.list (A.map .int))] ∧ Φ = fun d => d = .list ((wst A).map .int)
theorem ok_without_step (T : Tx K mg) : FnOk P w K mg base CX0 1 T.a_without_step T.fd_without_step P_without_step (spX R_without_step) := by
  refine fn_ok T.F_without_step sc_without_step (by decide) (fun q sls c Φ h => by obtain ⟨_, A, _, rfl, _⟩ := h; rfl) fun cdv A outer s B0 Ew hr => ⟨_,
    (pss_cons (ps_set (i := 1) sc_without_step.nd rfl (Or.inl rfl) (pe_lst pa_nil))
      (pss_cons (ps_set (i := 2) sc_without_step.nd rfl (Or.inl rfl) pe_int)
      (pss_cons (ps_for PassesOwn.never rfl (k_piList (K := K) rfl (pe_slice (k_sl (K := K) rfl) (pv 0) po_none (po_some (pe_un un_neg pe_int)))) (pg_name (i := 3) sc_without_step.nd rfl (Or.inl rfl)) (pss_cons (ps_set (i := 2) sc_without_step.nd rfl (Or.inl rfl) (pe_op op_sub (pv 2) (pv 3)))
      (pss_one (ps_expr (pe_bm PySem.F.plainAttrs_list PySem.F.slot_list_append PySem.F.type_list_append mt_append (pv 1) (pa_cons (pv 2) pa_nil))))))
      (pss_one (ps_ret (pv 1)))))), fun q sls n c Φ A0 σ Q hR hA fin => ?_⟩
  obtain ⟨rfl, A, hl, rfl, rfl⟩ := hR
  refine q_newL (i := 1) hA fun p H1 a1 cl1 => ?_
  refine q_asgE (i := 2) (d := .int (0 - (A.dropLast.take 0).sum)) (e_is (d1 := .int 0) e_int rfl) a1 fun σ2 Hk2 H2 g2 a2 => ?_
  refine q_for (n := n) (c := 0) ((ie_lst (e_slL (e_var rfl) to_none (to_some (e_is (d1 := .int (-1)) (e_un e_int) rfl)))).is (show _ = A.dropLast.map PyData.int by rw [cutD_m1, List.map_dropLast])) a2 fun items HkW H4 e g4 a4 => ?_
  subst e
  refine ⟨fun i σ' Hk' H' => Same HkW Hk' ∧ At q n [.dat (.list (A.map .int)), .adr p, .dat (.int (0 - (A.dropLast.take i).sum)), .any] A0 B0 σ' Hk' H' ∧ Cell q B0 Hk' H' p ((pre 0 (A.dropLast.take i)).map .int), ⟨Same.refl _, a4, (cl1.go g2).go g4⟩, fun i σ' Hk' H' h => ⟨h.1, h.2.1.ok.a⟩, ?_, ?_⟩
  · rintro i d σ' Hk' H' ed ⟨h4, st, cl⟩ v Hk5 H5 g5 dv
    rw [List.getElem?_map] at ed
    obtain ⟨a, ea, rfl⟩ := Option.map_eq_some_iff.mp ed
    have et : A.dropLast.take (i + 1) = A.dropLast.take i ++ [a] := by rw [List.take_succ, ea]; rfl
    refine gb_name (vs := [3]) (by simp) σ' Hk5 H5 v (st.sg.mono g5.k) g5.a dv _ fun σ2 sg2 _ _ => ?_
    have st2 : At q n _ A0 B0 σ2 Hk5 H5 := ⟨st.ok.go g5, sg2, st.gr.trans g5.none_to⟩
    refine q_asgE (i := 2) (d := .int (0 - (A.dropLast.take (i + 1)).sum)) (e_is (e_subI (e_var rfl) (e_var rfl)) (by rw [et, List.sum_append, List.sum_singleton]; congr 1; omega)) st2 fun σ6 Hk6 H6 g6 a6 => ?_
    refine s_append (n := n) (c := 0) (Φ := fun d => d = .int (0 - (A.dropLast.take (i + 1)).sum)) (e_var rfl) a6 ((cl.go g5.none_to).go g6) rfl (by rw [List.length_map, pre_len, List.length_take, List.length_dropLast]; omega) fun d Hk7 H7 e7 s7 a7 cl7 => ⟨Hk7, ((h4.trans g5.k).trans g6.k).trans s7, a7.forget 3, ?_⟩
    have e8 : (0 : Int) - (A.dropLast.take (i + 1)).sum = 0 - (A.dropLast.take i).sum - a := by rw [et, List.sum_append, List.sum_singleton]; omega
    rw [e7, e8] at cl7
    rw [et, pre_snoc, List.map_append]
    exact cl7
  · rintro σ' Hk' H' ⟨h4, st, cl⟩
    rw [List.take_of_length_le (by rw [List.length_map]; exact Nat.le_refl _)] at cl
    obtain ⟨Hk5, s5, st5⟩ := st.freeze (i := 1) cl rfl
    exact s_retE (e_var rfl) st5 (Nat.le_refl _) fin rfl
/-! ### cleared -/
def R_cleared : RelX := fun _ sls c Φ => c = 0 ∧ ∃ (l : List (Int × Int)) (A B : Nat), Led l ∧ Kb A B l ∧ A ≤ 60 ∧ 0 < A ∧ 0 < B ∧ B ≤ 5000 ∧ l.length ≤ 400 ∧ (dense l).length ≤ 1024 ∧ sls = [.dat (led l)] ∧ Φ = fun d => d = led (clr l)
theorem ok_cleared (T : Tx K mg) : FnOk P w K mg base CX0 5 T.a_cleared T.fd_cleared P_cleared (spX R_cleared) := by
  have G_check_ledger := ok_check_ledger (P := P) (w := w) (base := base) T
  have G_first_apart := ok_first_apart (P := P) (w := w) (base := base) T
  have G_without_step := ok_without_step (P := P) (w := w) (base := base) T
  refine fn_ok T.F_cleared sc_cleared (by decide) (fun q sls c Φ h => by obtain ⟨_, l, A, B, _, _, _, _, _, _, _, _, rfl, _⟩ := h; rfl) fun cdv A outer s B0 Ew hr => ?_
  have hu := hu_of hr
  refine ⟨_,
    (pss_cons (ps_expr (pe_call G_check_ledger (hr.mono (by decide)) (by rfl) T.m_check_ledger T.F_check_ledger.kp T.b_check_ledger .nil pass0 (pa_cons (pv 0) pa_nil)))
      (pss_cons (ps_set (i := 1) sc_cleared.nd rfl (Or.inl rfl) (pe_call G_first_apart (hr.mono (by decide)) (by rfl) T.m_first_apart T.F_first_apart.kp T.b_first_apart .nil pass0 (pa_cons (pv 0) pa_nil)))
      (pss_cons (ps_if (PW.pt (pw_or (pt_cmpR op_isNQ (pv 1) pe_non (nomark _)) (pw_or1 (pt_cmpR (k_eqD (K := K) rfl hr.units) (pv 1) pe_int (nomark _))))) (pss_one (ps_ret (pv 0))) pss_nil)
      (pss_cons (ps_set (i := 2) sc_cleared.nd rfl (Or.inr rfl) (pe_ix (k_ix (K := K) rfl) (pe_ix (k_ix (K := K) rfl) (pv 0) pe_int (fun _ _ => rfl)) pe_int (fun _ _ => rfl)))
      (pss_cons (ps_set (i := 3) sc_cleared.nd rfl (Or.inr rfl) (pe_callTy (k_dictT (K := K) rfl rfl) (by rfl) T.z_dict (by decide +kernel) (pa_cons (pv 0) pa_nil)))
      (pss_cons (ps_setLc (i := 4) (own := [("key", 6)]) rfl sc_cleared.nd rfl rfl (sw_true rfl rfl rfl (by decide +kernel)) (pi_range2 rfl T.z_range (pa_cons (pv 2) (pa_cons (pe_op (k_addU (K := K) rfl) (pe_ix (k_ix (K := K) rfl) (pe_ix (k_ix (K := K) rfl) (pv 0) (pe_un un_neg pe_int) (fun _ _ => rfl)) pe_int (fun _ _ => rfl)) pe_int) pa_nil))) (blkOk_by (own := [("key", 6)]) (N := N_cleared) (sc := defScope s_cleared) (by decide +kernel)) (fun _ _ _ _ _ => (pg_name (i := 6) sc_cleared.nd rfl (Or.inl rfl))) (fun _ _ _ _ _ => pts_nil) (fun _ _ _ _ _ => (pe_dget2 hu (pv 3) (pv 6) pe_int ⟨rfl, rfl, rfl, rfl⟩)))
      (pss_cons (ps_for PassesOwn.never rfl (pi_range1 rfl T.z_range (pa_cons (pv 1) pa_nil)) (pg_name (i := 5) sc_cleared.nd rfl (Or.inl rfl)) (pss_one (ps_set (i := 4) sc_cleared.nd rfl (Or.inl rfl) (pe_call G_without_step (hr.mono (by decide)) (by rfl) T.m_without_step T.F_without_step.kp T.b_without_step .nil pass0 (pa_cons (pv 4) pa_nil)))))
      (pss_one (ps_ret (pe_callTy (k_tup (K := K) rfl) (by rfl) T.z_tuple (by decide +kernel) (pa_cons (pe_lc (own := [("k", 7), ("amount", 8)]) rfl sc_cleared.nd (k_enumL (K := K) rfl rfl T.z_enumerate (pa_cons (pv 4) pa_nil)) (blkOk_by (own := [("k", 7), ("amount", 8)]) (N := N_cleared) (sc := defScope s_cleared) (by decide +kernel)) (fun _ _ _ _ _ => (k_pgTup (K := K) (n := 2) rfl rfl (pgs_cons (pg_name (i := 7) sc_cleared.nd rfl (Or.inl rfl)) (pgs_cons (pg_name (i := 8) sc_cleared.nd rfl (Or.inl rfl)) pgs_nil)))) (fun _ _ _ _ _ => (pts_one (pt_cmpR (k_neD (K := K) rfl hr.units) (pv 8) pe_int (nomark _)))) (fun _ _ _ _ _ => (Cr.pe_tup (pa_cons (pe_op (k_addU (K := K) rfl) (pv 2) (pv 7)) (pa_cons (pv 8) pa_nil))))) pa_nil))))))))))), fun q sls n c Φ A0 σ Q hR hA fin => ?_⟩
  obtain ⟨rfl, l, A, B, hL, hK, hA1, hA0, hB0, hB1, hl, hd, rfl, rfl⟩ := hR
  refine q_drop (j_call (R := R_check_ledger) (ae_cons (e_var rfl) ae_nil) fun sls e => ⟨rfl, l, hL, by omega, e, rfl⟩) hA fun Hk1 H1 g1 a1 => ?_
  refine q_asgE (i := 1) (d := blD l) (j_call (R := R_first_apart) (c := 0) (Φ := fun d => d = blD l) (ae_cons (e_var rfl) ae_nil) fun sls e => ⟨rfl, l, A, B, hL, hK, by omega, hA0, hB0, by omega, by omega, e, rfl⟩) a1 fun σ2 Hk2 H2 g2 a2 => ?_
  by_cases hne : l = []
  · subst hne
    refine q_whenB (b := true) (tb_is (tb_or (a := true) (b := true) (tb_is (tb_test (e_isN (e_var rfl))) (by rw [blD_nil]; rfl)) fun h => by cases h) rfl) a2 (fun _ Hk3 H3 g3 a3 => ?_) (fun h => by cases h)
    exact s_retE (e_var rfl) a3 (Nat.le_refl _) fin (by rw [clr_nil])
  obtain ⟨t, ht, hb⟩ := led_bl hL hne
  have hct := chg_lt hne
  rw [blD_is hb] at a2
  refine q_whenB (b := ((t : Int) == 0)) (tb_is (tb_or (a := false) (b := ((t : Int) == 0)) (tb_is (tb_test (e_isN (e_var rfl))) rfl) fun _ => tb_test (e_eqDI (e_var rfl) e_int)) rfl) a2 (fun h Hk3 H3 g3 a3 => ?_) (fun h Hk3 H3 g3 a3 => ?_)
  · have h0 : t = 0 := by simpa using h
    subst h0
    exact s_retE (d := led l) (e_var rfl) a3 (Nat.le_refl _) fin (by rw [clr_is hb]; show _ = led (fz (dense l) (lowL l)); rw [fz_dense hL])
  have hlen : 0 < l.length := List.length_pos_iff.mpr hne
  have ends := led_ends hne
  obtain ⟨⟨y, hy, ey⟩, z, hz, ez⟩ := ends
  have ky := (hK y hy).1
  have kz := (hK z hz).1
  rw [ey] at ky
  rw [ez] at kz
  have p60 : (2 : Nat) ^ A ≤ 2 ^ 60 := Nat.pow_le_pow_right (by decide) hA1
  have e60 : (2 : Nat) ^ 60 = 1152921504606846976 := by decide
  refine q_asgE (i := 2) (d := .int (lowL l)) ?_ a3 fun σ4 Hk4 H4 g4 a4 => ?_
  · cases l with
    | nil => exact absurd rfl hne
    | cons x r => exact e_iT (ds := [.int x.1, .int x.2]) (e_iT (ds := pd (x :: r)) (e_var rfl) e_int (show atI (pd (x :: r)) ((0 : Nat) : Int) = _ from atI_nat rfl)) e_int rfl
  refine q_dictT (i := 3) (l := l) (e_var rfl) hne (asc_nodup (List.pairwise_map.mpr hL.1)) a4 fun σ5 Hk5 H5 g5 a5 => ?_
  refine q_asgE (i := 4) (d := .list ((wsn 0 (dense l)).map .int)) (e_is (e_lc1 (vs := [6]) (emb := PyData.int) (xs := rgI (lowL l) (hiL l + 1)) ((ie_rng2 (i := lowL l) (j := hiL l + 1) (e_var rfl) (e_addI (e_iT (ds := [.int (hiL l), .int (l.getLast hne).2]) (e_iT (ds := pd l) (e_var rfl) (e_is (d1 := .int (-1)) (e_un e_int) rfl) (at_hi hne)) e_int rfl) e_int) (by omega)).is (by unfold rgI rng; rw [List.map_map]; rfl)) (fun k => .int (tot l k)) (by rw [rgI_len, ← dense_len]; omega) fun k hk => ⟨_, gb_name (by simp), e_is (e_dget2 rfl (e_var rfl)) (by rw [getI_tot hL])⟩) (by show _ = PyData.list ((dense l).map .int); unfold dense; rw [List.map_map]; rfl)) a5 fun σ6 Hk6 H6 g6 a6 => ?_
  refine q_for (n := n) (c := 0) (ie_rng1 (e_var rfl) (by omega) (by omega)) a6 fun items HkW H7 e g7 a7 => ?_
  subst e
  refine ⟨fun i σ' Hk' H' => Same HkW Hk' ∧ At q n [.dat (led l), .dat (.int (t : Int)), .dat (.int (lowL l)), .dic l, .dat (.list ((wsn i (dense l)).map .int)), .any, .any, .any, .any] A0 B0 σ' Hk' H', ⟨Same.refl _, a7⟩, fun i σ' Hk' H' h => ⟨h.1, h.2.ok.a⟩, ?_, ?_⟩
  · rintro i d σ' Hk' H' ed ⟨h4, st⟩ v Hk8 H8 g8 dv
    refine gb_name (vs := [5]) (by simp) σ' Hk8 H8 v (st.sg.mono g8.k) g8.a dv _ fun σ2 sg2 _ _ => ?_
    have st2 : At q n _ A0 B0 σ2 Hk8 H8 := ⟨st.ok.go g8, sg2, st.gr.trans g8.none_to⟩
    exact s_asgE (i := 4) (d := .list ((wsn (i + 1) (dense l)).map .int)) (j_call (R := R_without_step) (c := 0) (ae_cons (e_var rfl) ae_nil) fun sls e => ⟨rfl, wsn i (dense l), by rw [wsn_len]; omega, e, rfl⟩) st2 fun σ9 Hk9 H9 g9 a9 => ⟨Hk9, (h4.trans g8.k).trans g9.k, a9.forget 5⟩
  · rintro σ' Hk' H' ⟨h4, st⟩
    rw [rng_len, show ((t : Nat) : Int).toNat = t from rfl] at st
    refine s_retE (d := led (clr l)) (e_tupL (e_is (e_lc (vs := [7, 8]) (emb := fun k : Nat => .tuple [.int (k : Int), .int ((wsn t (dense l)).getD k 0)]) (xs := List.range (wsn t (dense l)).length) ((ie_enumL (e_var rfl)).is ?_) (fun k => !((wsn t (dense l)).getD k 0 == 0)) (fun k => pr (lowL l + (k : Int), (wsn t (dense l)).getD k 0)) (by rw [List.length_range, wsn_len]; omega) fun k hk => ⟨_, gb_tup2 (by simp) (by simp), tb_test (e_neDI (e_var rfl) e_int), fun _ => e_pr (e_addI (e_var rfl) (e_var rfl)) (e_var rfl)⟩) ?_)) st (Nat.le_refl _) fin rfl
    · rw [← enumD_range (fun k => PyData.int ((wsn t (dense l)).getD k 0)), ← ints_range]
    · rw [clr_is hb]
      unfold fz pd
      rw [dl_range, List.filter_map, List.map_map]
      congr 2
      refine List.filter_congr fun k _ => ?_
      show (!((wsn t (dense l)).getD k 0 == 0)) = decide ((wsn t (dense l)).getD k 0 ≠ 0)
      generalize (wsn t (dense l)).getD k 0 = w
      by_cases h : w = 0 <;> simp [h]
/-! ### cleared, where it raises -/
def B_cleared (K : PySem.W.Frag) : RelE := fun _ sls c x => c = 0 ∧ ∃ d0, Odd K d0 ∧ sls = [.dat d0] ∧ ((isLedD d0 = false ∧ x = "InvalidLedger"))
theorem ox_cleared (T : Tx K mg) : FnOk P w K mg base (L2.CX P w) 5 T.a_cleared T.fd_cleared P_cleared (spE mg (B_cleared K)) := by
  have U_check_ledger := fn_or (fn_lift (ok_check_ledger (P := P) (w := w) (base := base) T)) (ox_check_ledger (P := P) (w := w) (base := base) T)
  refine fn_okE T.F_cleared sc_cleared (by decide) (fun q sls c x h => by obtain ⟨_, d0, _, rfl, _⟩ := h; rfl) fun cdv A outer s B0 Ew hr => ⟨_,
    (pss_cons (ps_expr (pe_call U_check_ledger (hr.mono (by decide)) (by rfl) T.m_check_ledger T.F_check_ledger.kp T.b_check_ledger .nil (passes_call (W := fun cls d _ H => Ew cls d H) (E := Ew) (takes_of rfl rfl rfl rfl) fun _ _ _ _ h => h) (pa_cons (pv 0) pa_nil)))
      (pss_cons ps_never
      (pss_cons ps_never
      (pss_cons ps_never
      (pss_cons ps_never
      (pss_cons ps_never
      (pss_cons ps_never
      (pss_one ps_never)))))))), fun q sls n c x A0 σ Q hR hA fin => ?_⟩
  obtain ⟨rfl, d0, o0, rfl, h⟩ := hR
  obtain ⟨h0, rfl⟩ := h
  exact q_dropR (rs_call (c := 0) (B := B_check_ledger K) (ae_cons (e_var rfl) ae_nil) fun sls es => ⟨rfl, d0, o0, h0, es, rfl⟩) hA (Nat.le_refl _) (fin_w fin (Nat.le_refl _))
/-! ### _law_call -/
def GoodC (s : Int) : Nat → List PyData → Prop
  | 0, [a] => Gd s 1 a
  | 1, [a] => Gd s 1 a
  | 2, [a, b, d] => Gd s 1 a ∧ Gd s 3 b ∧ Gd s 4 d
  | 3, [a, b] => Gd s 1 a ∧ Gd s 5 b
  | 4, [a, b] => Gd s 2 a ∧ Gd s 3 b
  | 5, [a] => Gd s 0 a
  | _, _ => False
def BadC (K : PySem.W.Frag) : Nat → List PyData → Str → Prop
  | 0, [a], x => B_is_made K none [.dat a] 0 x
  | 1, [a], x => B_brief K none [.dat a] 0 x
  | 2, [a, b, d], x => B_in_span K none [.dat a, .dat b, .dat d] 0 x
  | 3, [a, b], x => B_on_keys K none [.dat a, .dat b] 0 x
  | 4, [a, b], x => B_least_blind K none [.dat a, .dat b] 0 x
  | 5, [a], x => B_cleared K none [.dat a] 0 x
  | _, _, _ => False
def R__law_call : RelX := fun _ sls c Φ => c = 0 ∧ ∃ (w : Nat) (ds : List PyData) (v : Bool) (s : Int), 1 ≤ s ∧ s ≤ 40 ∧ GoodC s w ds ∧ sls = [.dat (.int (w : Int)), .dat (.list ds), .dat (.bool v)] ∧ Φ = fun d => d = .none
theorem ok__law_call (T : Tx K mg) : FnOk P w K mg base CX0 8 T.a__law_call T.fd__law_call P__law_call (spX R__law_call) := by
  have G_brief := ok_brief (P := P) (w := w) (base := base) T
  have G_cleared := ok_cleared (P := P) (w := w) (base := base) T
  have G_in_span := ok_in_span (P := P) (w := w) (base := base) T
  have G_is_made := ok_is_made (P := P) (w := w) (base := base) T
  have G_least_blind := ok_least_blind (P := P) (w := w) (base := base) T
  have G_on_keys := ok_on_keys (P := P) (w := w) (base := base) T
  refine fn_ok T.F__law_call sc__law_call (by decide) (fun q sls c Φ h => by obtain ⟨_, w, ds, v, s, _, _, _, rfl, _⟩ := h; rfl) fun cdv A outer s B0 Ew hr => ⟨_,
    (pss_one (ps_if (PW.pt (pw_and (pt_cmpR (k_eqD (K := K) rfl hr.units) (pv 0) pe_int (nomark _)) (pw_and1 (pt_val (pv 2))))) (pss_one (ps_expr (pe_callK0 G_is_made (hr.mono (by decide)) (by rfl) T.m_is_made T.F_is_made.kp (kb_is_made_0_sums T.F_is_made) pass0 (pk_cons (pe_ix (k_ix (K := K) rfl) (pv 1) pe_int (fun _ _ => rfl)) pk_nil)))) (pss_one (ps_if (pt_cmpR (k_eqD (K := K) rfl hr.units) (pv 0) pe_int (nomark _)) (pss_one (ps_expr (pe_call G_is_made (hr.mono (by decide)) (by rfl) T.m_is_made T.F_is_made.kp T.b_is_made .nil pass0 (pa_cons (pe_ix (k_ix (K := K) rfl) (pv 1) pe_int (fun _ _ => rfl)) pa_nil)))) (pss_one (ps_if (PW.pt (pw_and (pt_cmpR (k_eqD (K := K) rfl hr.units) (pv 0) pe_int (nomark _)) (pw_and1 (pt_val (pv 2))))) (pss_one (ps_expr (pe_callK0 G_brief (hr.mono (by decide)) (by rfl) T.m_brief T.F_brief.kp (kb_brief_0_sums T.F_brief) pass0 (pk_cons (pe_ix (k_ix (K := K) rfl) (pv 1) pe_int (fun _ _ => rfl)) pk_nil)))) (pss_one (ps_if (pt_cmpR (k_eqD (K := K) rfl hr.units) (pv 0) pe_int (nomark _)) (pss_one (ps_expr (pe_call G_brief (hr.mono (by decide)) (by rfl) T.m_brief T.F_brief.kp T.b_brief .nil pass0 (pa_cons (pe_ix (k_ix (K := K) rfl) (pv 1) pe_int (fun _ _ => rfl)) pa_nil)))) (pss_one (ps_if (PW.pt (pw_and (pt_cmpR (k_eqD (K := K) rfl hr.units) (pv 0) pe_int (nomark _)) (pw_and1 (pt_val (pv 2))))) (pss_one (ps_expr (pe_callK0 G_in_span (hr.mono (by decide)) (by rfl) T.m_in_span T.F_in_span.kp (kb_in_span_0_width_low_sums T.F_in_span) pass0 (pk_cons (pe_ix (k_ix (K := K) rfl) (pv 1) pe_int (fun _ _ => rfl)) (pk_cons (pe_ix (k_ix (K := K) rfl) (pv 1) pe_int (fun _ _ => rfl)) (pk_cons (pe_ix (k_ix (K := K) rfl) (pv 1) pe_int (fun _ _ => rfl)) pk_nil)))))) (pss_one (ps_if (pt_cmpR (k_eqD (K := K) rfl hr.units) (pv 0) pe_int (nomark _)) (pss_one (ps_expr (pe_call G_in_span (hr.mono (by decide)) (by rfl) T.m_in_span T.F_in_span.kp T.b_in_span .nil pass0 (pa_cons (pe_ix (k_ix (K := K) rfl) (pv 1) pe_int (fun _ _ => rfl)) (pa_cons (pe_ix (k_ix (K := K) rfl) (pv 1) pe_int (fun _ _ => rfl)) (pa_cons (pe_ix (k_ix (K := K) rfl) (pv 1) pe_int (fun _ _ => rfl)) pa_nil)))))) (pss_one (ps_if (PW.pt (pw_and (pt_cmpR (k_eqD (K := K) rfl hr.units) (pv 0) pe_int (nomark _)) (pw_and1 (pt_val (pv 2))))) (pss_one (ps_expr (pe_callK0 G_on_keys (hr.mono (by decide)) (by rfl) T.m_on_keys T.F_on_keys.kp (kb_on_keys_0_keys_sums T.F_on_keys) pass0 (pk_cons (pe_ix (k_ix (K := K) rfl) (pv 1) pe_int (fun _ _ => rfl)) (pk_cons (pe_ix (k_ix (K := K) rfl) (pv 1) pe_int (fun _ _ => rfl)) pk_nil))))) (pss_one (ps_if (pt_cmpR (k_eqD (K := K) rfl hr.units) (pv 0) pe_int (nomark _)) (pss_one (ps_expr (pe_call G_on_keys (hr.mono (by decide)) (by rfl) T.m_on_keys T.F_on_keys.kp T.b_on_keys .nil pass0 (pa_cons (pe_ix (k_ix (K := K) rfl) (pv 1) pe_int (fun _ _ => rfl)) (pa_cons (pe_ix (k_ix (K := K) rfl) (pv 1) pe_int (fun _ _ => rfl)) pa_nil))))) (pss_one (ps_if (PW.pt (pw_and (pt_cmpR (k_eqD (K := K) rfl hr.units) (pv 0) pe_int (nomark _)) (pw_and1 (pt_val (pv 2))))) (pss_one (ps_expr (pe_callK0 G_least_blind (hr.mono (by decide)) (by rfl) T.m_least_blind T.F_least_blind.kp (kb_least_blind_0_low_number T.F_least_blind) pass0 (pk_cons (pe_ix (k_ix (K := K) rfl) (pv 1) pe_int (fun _ _ => rfl)) (pk_cons (pe_ix (k_ix (K := K) rfl) (pv 1) pe_int (fun _ _ => rfl)) pk_nil))))) (pss_one (ps_if (pt_cmpR (k_eqD (K := K) rfl hr.units) (pv 0) pe_int (nomark _)) (pss_one (ps_expr (pe_call G_least_blind (hr.mono (by decide)) (by rfl) T.m_least_blind T.F_least_blind.kp T.b_least_blind .nil pass0 (pa_cons (pe_ix (k_ix (K := K) rfl) (pv 1) pe_int (fun _ _ => rfl)) (pa_cons (pe_ix (k_ix (K := K) rfl) (pv 1) pe_int (fun _ _ => rfl)) pa_nil))))) (pss_one (ps_if (pt_val (pv 2)) (pss_one (ps_expr (pe_callK0 G_cleared (hr.mono (by decide)) (by rfl) T.m_cleared T.F_cleared.kp (kb_cleared_0_ledger T.F_cleared) pass0 (pk_cons (pe_ix (k_ix (K := K) rfl) (pv 1) pe_int (fun _ _ => rfl)) pk_nil)))) (pss_one (ps_expr (pe_call G_cleared (hr.mono (by decide)) (by rfl) T.m_cleared T.F_cleared.kp T.b_cleared .nil pass0 (pa_cons (pe_ix (k_ix (K := K) rfl) (pv 1) pe_int (fun _ _ => rfl)) pa_nil)))))))))))))))))))))))))), fun q sls n c Φ A0 σ Q hR hA fin => ?_⟩
  obtain ⟨rfl, w, ds, v, s, hs1, hs2, h, rfl, rfl⟩ := hR
  match w, ds, h with
  | 0, [a], h =>
    obtain ⟨fa, hfa, hBa, rfl⟩ := h
    refine s_ifB (b := v) (tb_and (a := true) (tb_is (tb_test (e_eqDI (e_var rfl) e_int)) rfl) fun _ => tb_B (e_var rfl)) hA (fun _ Hk0 H0 g0 a0 => ?_) (fun _ Hk0 H0 g0 a0 => ?_)
    · exact s_drop (j_callK (R := R_is_made) (c := 0) (gS := fun _ _ => [.dat (pol fa)]) ae_nil (ae_cons (e_iL (ds := [pol fa]) (e_var rfl) e_int rfl) ae_nil) (fun H vs zs s u h1 h2 e1 e2 => by subst e1; subst e2; exact v_kb_is_made_0_sums vs zs h1 h2) fun ss us _ _ => ⟨rfl, fa, 3100, List.length_pos_iff.mp (by omega), hBa, by omega, by omega, by omega, rfl, rfl⟩) a0 fun Hk' H2 g a => s_end a (Nat.le_refl _) fin rfl
    · refine s_ifB (b := true) (tb_is (tb_test (e_eqDI (e_var rfl) e_int)) rfl) a0 (fun _ Hk1 H1 g1 a1 => ?_) (fun h => by cases h)
      exact s_drop (j_call (R := R_is_made) (c := 0) (ae_cons (e_iL (ds := [pol fa]) (e_var rfl) e_int rfl) ae_nil) fun sls es => ⟨rfl, fa, 3100, List.length_pos_iff.mp (by omega), hBa, by omega, by omega, by omega, es, rfl⟩) a1 fun Hk' H2 g a => s_end a (Nat.le_refl _) fin rfl
  | 1, [a], h =>
    obtain ⟨fa, hfa, hBa, rfl⟩ := h
    refine s_ifB (b := false) (tb_is (tb_and (a := false) (b := false) (tb_is (tb_test (e_eqDI (e_var rfl) e_int)) rfl) (fun h => by cases h)) rfl) hA (fun h => by cases h) (fun _ Hk0 H0 g0 a0 => ?_)
    refine s_ifB (b := false) (tb_is (tb_test (e_eqDI (e_var rfl) e_int)) rfl) a0 (fun h => by cases h) (fun _ Hk1 H1 g1 a1 => ?_)
    refine s_ifB (b := v) (tb_and (a := true) (tb_is (tb_test (e_eqDI (e_var rfl) e_int)) rfl) fun _ => tb_B (e_var rfl)) a1 (fun _ Hk2 H2 g2 a2 => ?_) (fun _ Hk2 H2 g2 a2 => ?_)
    · exact s_drop (j_callK (R := R_brief) (c := 0) (gS := fun _ _ => [.dat (pol fa)]) ae_nil (ae_cons (e_iL (ds := [pol fa]) (e_var rfl) e_int rfl) ae_nil) (fun H vs zs s u h1 h2 e1 e2 => by subst e1; subst e2; exact v_kb_brief_0_sums vs zs h1 h2) fun ss us _ _ => ⟨rfl, fa, 3100, List.length_pos_iff.mp (by omega), hBa, by omega, by omega, by omega, rfl, rfl⟩) a2 fun Hk' H2 g a => s_end a (Nat.le_refl _) fin rfl
    · refine s_ifB (b := true) (tb_is (tb_test (e_eqDI (e_var rfl) e_int)) rfl) a2 (fun _ Hk3 H3 g3 a3 => ?_) (fun h => by cases h)
      exact s_drop (j_call (R := R_brief) (c := 0) (ae_cons (e_iL (ds := [pol fa]) (e_var rfl) e_int rfl) ae_nil) fun sls es => ⟨rfl, fa, 3100, List.length_pos_iff.mp (by omega), hBa, by omega, by omega, by omega, es, rfl⟩) a3 fun Hk' H2 g a => s_end a (Nat.le_refl _) fin rfl
  | 2, [a, b, d], h =>
    obtain ⟨⟨fa, hfa, hBa, rfl⟩, ⟨ib, hbb, rfl⟩, ⟨id, h0d, h1d, rfl⟩⟩ := h
    refine s_ifB (b := false) (tb_is (tb_and (a := false) (b := false) (tb_is (tb_test (e_eqDI (e_var rfl) e_int)) rfl) (fun h => by cases h)) rfl) hA (fun h => by cases h) (fun _ Hk0 H0 g0 a0 => ?_)
    refine s_ifB (b := false) (tb_is (tb_test (e_eqDI (e_var rfl) e_int)) rfl) a0 (fun h => by cases h) (fun _ Hk1 H1 g1 a1 => ?_)
    refine s_ifB (b := false) (tb_is (tb_and (a := false) (b := false) (tb_is (tb_test (e_eqDI (e_var rfl) e_int)) rfl) (fun h => by cases h)) rfl) a1 (fun h => by cases h) (fun _ Hk2 H2 g2 a2 => ?_)
    refine s_ifB (b := false) (tb_is (tb_test (e_eqDI (e_var rfl) e_int)) rfl) a2 (fun h => by cases h) (fun _ Hk3 H3 g3 a3 => ?_)
    refine s_ifB (b := v) (tb_and (a := true) (tb_is (tb_test (e_eqDI (e_var rfl) e_int)) rfl) fun _ => tb_B (e_var rfl)) a3 (fun _ Hk4 H4 g4 a4 => ?_) (fun _ Hk4 H4 g4 a4 => ?_)
    · exact s_drop (j_callK (R := R_in_span) (c := 0) (gS := fun _ _ => [.dat (pol fa), .dat (.int ib), .dat (.int id)]) ae_nil (ae_cons (e_iL (ds := [pol fa, .int ib, .int id]) (e_var rfl) e_int rfl) (ae_cons (e_iL (ds := [pol fa, .int ib, .int id]) (e_var rfl) e_int rfl) (ae_cons (e_iL (ds := [pol fa, .int ib, .int id]) (e_var rfl) e_int rfl) ae_nil))) (fun H vs zs s u h1 h2 e1 e2 => by subst e1; subst e2; exact v_kb_in_span_0_width_low_sums vs zs h1 h2) fun ss us _ _ => ⟨rfl, fa, ib, id, 3100, lt_pow hbb (by omega), h0d, by omega, hBa, by omega, by omega, by omega, rfl, rfl⟩) a4 fun Hk' H2 g a => s_end a (Nat.le_refl _) fin rfl
    · refine s_ifB (b := true) (tb_is (tb_test (e_eqDI (e_var rfl) e_int)) rfl) a4 (fun _ Hk5 H5 g5 a5 => ?_) (fun h => by cases h)
      exact s_drop (j_call (R := R_in_span) (c := 0) (ae_cons (e_iL (ds := [pol fa, .int ib, .int id]) (e_var rfl) e_int rfl) (ae_cons (e_iL (ds := [pol fa, .int ib, .int id]) (e_var rfl) e_int rfl) (ae_cons (e_iL (ds := [pol fa, .int ib, .int id]) (e_var rfl) e_int rfl) ae_nil))) fun sls es => ⟨rfl, fa, ib, id, 3100, lt_pow hbb (by omega), h0d, by omega, hBa, by omega, by omega, by omega, es, rfl⟩) a5 fun Hk' H2 g a => s_end a (Nat.le_refl _) fin rfl
  | 3, [a, b], h =>
    obtain ⟨⟨fa, hfa, hBa, rfl⟩, ⟨fb, hpb, hBb, hlb, rfl⟩⟩ := h
    refine s_ifB (b := false) (tb_is (tb_and (a := false) (b := false) (tb_is (tb_test (e_eqDI (e_var rfl) e_int)) rfl) (fun h => by cases h)) rfl) hA (fun h => by cases h) (fun _ Hk0 H0 g0 a0 => ?_)
    refine s_ifB (b := false) (tb_is (tb_test (e_eqDI (e_var rfl) e_int)) rfl) a0 (fun h => by cases h) (fun _ Hk1 H1 g1 a1 => ?_)
    refine s_ifB (b := false) (tb_is (tb_and (a := false) (b := false) (tb_is (tb_test (e_eqDI (e_var rfl) e_int)) rfl) (fun h => by cases h)) rfl) a1 (fun h => by cases h) (fun _ Hk2 H2 g2 a2 => ?_)
    refine s_ifB (b := false) (tb_is (tb_test (e_eqDI (e_var rfl) e_int)) rfl) a2 (fun h => by cases h) (fun _ Hk3 H3 g3 a3 => ?_)
    refine s_ifB (b := false) (tb_is (tb_and (a := false) (b := false) (tb_is (tb_test (e_eqDI (e_var rfl) e_int)) rfl) (fun h => by cases h)) rfl) a3 (fun h => by cases h) (fun _ Hk4 H4 g4 a4 => ?_)
    refine s_ifB (b := false) (tb_is (tb_test (e_eqDI (e_var rfl) e_int)) rfl) a4 (fun h => by cases h) (fun _ Hk5 H5 g5 a5 => ?_)
    refine s_ifB (b := v) (tb_and (a := true) (tb_is (tb_test (e_eqDI (e_var rfl) e_int)) rfl) fun _ => tb_B (e_var rfl)) a5 (fun _ Hk6 H6 g6 a6 => ?_) (fun _ Hk6 H6 g6 a6 => ?_)
    · exact s_drop (j_callK (R := R_on_keys) (c := 0) (gS := fun _ _ => [.dat (pol fa), .dat (pol fb)]) ae_nil (ae_cons (e_iL (ds := [pol fa, pol fb]) (e_var rfl) e_int rfl) (ae_cons (e_iL (ds := [pol fa, pol fb]) (e_var rfl) e_int rfl) ae_nil)) (fun H vs zs s u h1 h2 e1 e2 => by subst e1; subst e2; exact v_kb_on_keys_0_keys_sums vs zs h1 h2) fun ss us _ _ => ⟨rfl, fa, fb, 3100, hBb, hpb, by omega, List.length_pos_iff.mp (by omega), hBa, by omega, by omega, by omega, rfl, rfl⟩) a6 fun Hk' H2 g a => s_end a (Nat.le_refl _) fin rfl
    · refine s_ifB (b := true) (tb_is (tb_test (e_eqDI (e_var rfl) e_int)) rfl) a6 (fun _ Hk7 H7 g7 a7 => ?_) (fun h => by cases h)
      exact s_drop (j_call (R := R_on_keys) (c := 0) (ae_cons (e_iL (ds := [pol fa, pol fb]) (e_var rfl) e_int rfl) (ae_cons (e_iL (ds := [pol fa, pol fb]) (e_var rfl) e_int rfl) ae_nil)) fun sls es => ⟨rfl, fa, fb, 3100, hBb, hpb, by omega, List.length_pos_iff.mp (by omega), hBa, by omega, by omega, by omega, es, rfl⟩) a7 fun Hk' H2 g a => s_end a (Nat.le_refl _) fin rfl
  | 4, [a, b], h =>
    obtain ⟨⟨ia, h0a, h1a, rfl⟩, ⟨ib, hbb, rfl⟩⟩ := h
    obtain ⟨ia, rfl⟩ : ∃ m : Nat, ia = (m : Int) := ⟨ia.toNat, by omega⟩
    refine s_ifB (b := false) (tb_is (tb_and (a := false) (b := false) (tb_is (tb_test (e_eqDI (e_var rfl) e_int)) rfl) (fun h => by cases h)) rfl) hA (fun h => by cases h) (fun _ Hk0 H0 g0 a0 => ?_)
    refine s_ifB (b := false) (tb_is (tb_test (e_eqDI (e_var rfl) e_int)) rfl) a0 (fun h => by cases h) (fun _ Hk1 H1 g1 a1 => ?_)
    refine s_ifB (b := false) (tb_is (tb_and (a := false) (b := false) (tb_is (tb_test (e_eqDI (e_var rfl) e_int)) rfl) (fun h => by cases h)) rfl) a1 (fun h => by cases h) (fun _ Hk2 H2 g2 a2 => ?_)
    refine s_ifB (b := false) (tb_is (tb_test (e_eqDI (e_var rfl) e_int)) rfl) a2 (fun h => by cases h) (fun _ Hk3 H3 g3 a3 => ?_)
    refine s_ifB (b := false) (tb_is (tb_and (a := false) (b := false) (tb_is (tb_test (e_eqDI (e_var rfl) e_int)) rfl) (fun h => by cases h)) rfl) a3 (fun h => by cases h) (fun _ Hk4 H4 g4 a4 => ?_)
    refine s_ifB (b := false) (tb_is (tb_test (e_eqDI (e_var rfl) e_int)) rfl) a4 (fun h => by cases h) (fun _ Hk5 H5 g5 a5 => ?_)
    refine s_ifB (b := false) (tb_is (tb_and (a := false) (b := false) (tb_is (tb_test (e_eqDI (e_var rfl) e_int)) rfl) (fun h => by cases h)) rfl) a5 (fun h => by cases h) (fun _ Hk6 H6 g6 a6 => ?_)
    refine s_ifB (b := false) (tb_is (tb_test (e_eqDI (e_var rfl) e_int)) rfl) a6 (fun h => by cases h) (fun _ Hk7 H7 g7 a7 => ?_)
    refine s_ifB (b := v) (tb_and (a := true) (tb_is (tb_test (e_eqDI (e_var rfl) e_int)) rfl) fun _ => tb_B (e_var rfl)) a7 (fun _ Hk8 H8 g8 a8 => ?_) (fun _ Hk8 H8 g8 a8 => ?_)
    · exact s_drop (j_callK (R := R_least_blind) (c := 0) (gS := fun _ _ => [.dat (.int (ia : Int)), .dat (.int ib)]) ae_nil (ae_cons (e_iL (ds := [.int (ia : Int), .int ib]) (e_var rfl) e_int rfl) (ae_cons (e_iL (ds := [.int (ia : Int), .int ib]) (e_var rfl) e_int rfl) ae_nil)) (fun H vs zs s u h1 h2 e1 e2 => by subst e1; subst e2; exact v_kb_least_blind_0_low_number vs zs h1 h2) fun ss us _ _ => ⟨rfl, ia, ib, by omega, rfl, rfl⟩) a8 fun Hk' H2 g a => s_end a (Nat.le_refl _) fin rfl
    · refine s_ifB (b := true) (tb_is (tb_test (e_eqDI (e_var rfl) e_int)) rfl) a8 (fun _ Hk9 H9 g9 a9 => ?_) (fun h => by cases h)
      exact s_drop (j_call (R := R_least_blind) (c := 0) (ae_cons (e_iL (ds := [.int (ia : Int), .int ib]) (e_var rfl) e_int rfl) (ae_cons (e_iL (ds := [.int (ia : Int), .int ib]) (e_var rfl) e_int rfl) ae_nil)) fun sls es => ⟨rfl, ia, ib, by omega, es, rfl⟩) a9 fun Hk' H2 g a => s_end a (Nat.le_refl _) fin rfl
  | 5, [a], h =>
    obtain ⟨la, hLa, hKa, hla, hda, rfl⟩ := h
    refine s_ifB (b := false) (tb_is (tb_and (a := false) (b := false) (tb_is (tb_test (e_eqDI (e_var rfl) e_int)) rfl) (fun h => by cases h)) rfl) hA (fun h => by cases h) (fun _ Hk0 H0 g0 a0 => ?_)
    refine s_ifB (b := false) (tb_is (tb_test (e_eqDI (e_var rfl) e_int)) rfl) a0 (fun h => by cases h) (fun _ Hk1 H1 g1 a1 => ?_)
    refine s_ifB (b := false) (tb_is (tb_and (a := false) (b := false) (tb_is (tb_test (e_eqDI (e_var rfl) e_int)) rfl) (fun h => by cases h)) rfl) a1 (fun h => by cases h) (fun _ Hk2 H2 g2 a2 => ?_)
    refine s_ifB (b := false) (tb_is (tb_test (e_eqDI (e_var rfl) e_int)) rfl) a2 (fun h => by cases h) (fun _ Hk3 H3 g3 a3 => ?_)
    refine s_ifB (b := false) (tb_is (tb_and (a := false) (b := false) (tb_is (tb_test (e_eqDI (e_var rfl) e_int)) rfl) (fun h => by cases h)) rfl) a3 (fun h => by cases h) (fun _ Hk4 H4 g4 a4 => ?_)
    refine s_ifB (b := false) (tb_is (tb_test (e_eqDI (e_var rfl) e_int)) rfl) a4 (fun h => by cases h) (fun _ Hk5 H5 g5 a5 => ?_)
    refine s_ifB (b := false) (tb_is (tb_and (a := false) (b := false) (tb_is (tb_test (e_eqDI (e_var rfl) e_int)) rfl) (fun h => by cases h)) rfl) a5 (fun h => by cases h) (fun _ Hk6 H6 g6 a6 => ?_)
    refine s_ifB (b := false) (tb_is (tb_test (e_eqDI (e_var rfl) e_int)) rfl) a6 (fun h => by cases h) (fun _ Hk7 H7 g7 a7 => ?_)
    refine s_ifB (b := false) (tb_is (tb_and (a := false) (b := false) (tb_is (tb_test (e_eqDI (e_var rfl) e_int)) rfl) (fun h => by cases h)) rfl) a7 (fun h => by cases h) (fun _ Hk8 H8 g8 a8 => ?_)
    refine s_ifB (b := false) (tb_is (tb_test (e_eqDI (e_var rfl) e_int)) rfl) a8 (fun h => by cases h) (fun _ Hk9 H9 g9 a9 => ?_)
    refine s_ifB (b := v) (tb_B (e_var rfl)) a9 (fun _ Hk10 H10 g10 a10 => ?_) (fun _ Hk10 H10 g10 a10 => ?_)
    · exact s_drop (j_callK (R := R_cleared) (c := 0) (gS := fun _ _ => [.dat (led la)]) ae_nil (ae_cons (e_iL (ds := [led la]) (e_var rfl) e_int rfl) ae_nil) (fun H vs zs s u h1 h2 e1 e2 => by subst e1; subst e2; exact v_kb_cleared_0_ledger vs zs h1 h2) fun ss us _ _ => ⟨rfl, la, 50, 60, hLa, hKa, by omega, by omega, by omega, by omega, by omega, by omega, rfl, rfl⟩) a10 fun Hk' H2 g a => s_end a (Nat.le_refl _) fin rfl
    · exact s_drop (j_call (R := R_cleared) (c := 0) (ae_cons (e_iL (ds := [led la]) (e_var rfl) e_int rfl) ae_nil) fun sls es => ⟨rfl, la, 50, 60, hLa, hKa, by omega, by omega, by omega, by omega, by omega, by omega, es, rfl⟩) a10 fun Hk' H2 g a => s_end a (Nat.le_refl _) fin rfl
/-! ### _law_call, where it raises -/
def B__law_call (K : PySem.W.Frag) : RelE := fun _ sls c x => c = 0 ∧ ∃ (w : Nat) (ds : List PyData) (v : Bool), BadC K w ds x ∧ sls = [.dat (.int (w : Int)), .dat (.list ds), .dat (.bool v)]
theorem ox__law_call (T : Tx K mg) : FnOk P w K mg base (L2.CX P w) 8 T.a__law_call T.fd__law_call P__law_call (spE mg (B__law_call K)) := by
  have U_brief := fn_or (fn_lift (ok_brief (P := P) (w := w) (base := base) T)) (ox_brief (P := P) (w := w) (base := base) T)
  have U_cleared := fn_or (fn_lift (ok_cleared (P := P) (w := w) (base := base) T)) (ox_cleared (P := P) (w := w) (base := base) T)
  have U_in_span := fn_or (fn_lift (ok_in_span (P := P) (w := w) (base := base) T)) (ox_in_span (P := P) (w := w) (base := base) T)
  have U_is_made := fn_or (fn_lift (ok_is_made (P := P) (w := w) (base := base) T)) (ox_is_made (P := P) (w := w) (base := base) T)
  have U_least_blind := fn_or (fn_lift (ok_least_blind (P := P) (w := w) (base := base) T)) (ox_least_blind (P := P) (w := w) (base := base) T)
  have U_on_keys := fn_or (fn_lift (ok_on_keys (P := P) (w := w) (base := base) T)) (ox_on_keys (P := P) (w := w) (base := base) T)
  refine fn_okE T.F__law_call sc__law_call (by decide) (fun q sls c x h => by obtain ⟨_, w, ds, v, _, rfl⟩ := h; rfl) fun cdv A outer s B0 Ew hr => ⟨_,
    (pss_one (ps_if (PW.pt (pw_and (pt_cmpR (k_eqD (K := K) rfl hr.units) (pv 0) pe_int (nomark _)) (pw_and1 (pt_val (pv 2))))) (pss_one (ps_expr (pe_callK0 U_is_made (hr.mono (by decide)) (by rfl) T.m_is_made T.F_is_made.kp (kb_is_made_0_sums T.F_is_made) (passes_call (W := fun cls d _ H => Ew cls d H) (E := Ew) (takes_of rfl rfl rfl rfl) fun _ _ _ _ h => h) (pk_cons (pe_ix (k_ix (K := K) rfl) (pv 1) pe_int (fun _ _ => rfl)) pk_nil)))) (pss_one (ps_if (pt_cmpR (k_eqD (K := K) rfl hr.units) (pv 0) pe_int (nomark _)) (pss_one (ps_expr (pe_call U_is_made (hr.mono (by decide)) (by rfl) T.m_is_made T.F_is_made.kp T.b_is_made .nil (passes_call (W := fun cls d _ H => Ew cls d H) (E := Ew) (takes_of rfl rfl rfl rfl) fun _ _ _ _ h => h) (pa_cons (pe_ix (k_ix (K := K) rfl) (pv 1) pe_int (fun _ _ => rfl)) pa_nil)))) (pss_one (ps_if (PW.pt (pw_and (pt_cmpR (k_eqD (K := K) rfl hr.units) (pv 0) pe_int (nomark _)) (pw_and1 (pt_val (pv 2))))) (pss_one (ps_expr (pe_callK0 U_brief (hr.mono (by decide)) (by rfl) T.m_brief T.F_brief.kp (kb_brief_0_sums T.F_brief) (passes_call (W := fun cls d _ H => Ew cls d H) (E := Ew) (takes_of rfl rfl rfl rfl) fun _ _ _ _ h => h) (pk_cons (pe_ix (k_ix (K := K) rfl) (pv 1) pe_int (fun _ _ => rfl)) pk_nil)))) (pss_one (ps_if (pt_cmpR (k_eqD (K := K) rfl hr.units) (pv 0) pe_int (nomark _)) (pss_one (ps_expr (pe_call U_brief (hr.mono (by decide)) (by rfl) T.m_brief T.F_brief.kp T.b_brief .nil (passes_call (W := fun cls d _ H => Ew cls d H) (E := Ew) (takes_of rfl rfl rfl rfl) fun _ _ _ _ h => h) (pa_cons (pe_ix (k_ix (K := K) rfl) (pv 1) pe_int (fun _ _ => rfl)) pa_nil)))) (pss_one (ps_if (PW.pt (pw_and (pt_cmpR (k_eqD (K := K) rfl hr.units) (pv 0) pe_int (nomark _)) (pw_and1 (pt_val (pv 2))))) (pss_one (ps_expr (pe_callK0 U_in_span (hr.mono (by decide)) (by rfl) T.m_in_span T.F_in_span.kp (kb_in_span_0_width_low_sums T.F_in_span) (passes_call (W := fun cls d _ H => Ew cls d H) (E := Ew) (takes_of rfl rfl rfl rfl) fun _ _ _ _ h => h) (pk_cons (pe_ix (k_ix (K := K) rfl) (pv 1) pe_int (fun _ _ => rfl)) (pk_cons (pe_ix (k_ix (K := K) rfl) (pv 1) pe_int (fun _ _ => rfl)) (pk_cons (pe_ix (k_ix (K := K) rfl) (pv 1) pe_int (fun _ _ => rfl)) pk_nil)))))) (pss_one (ps_if (pt_cmpR (k_eqD (K := K) rfl hr.units) (pv 0) pe_int (nomark _)) (pss_one (ps_expr (pe_call U_in_span (hr.mono (by decide)) (by rfl) T.m_in_span T.F_in_span.kp T.b_in_span .nil (passes_call (W := fun cls d _ H => Ew cls d H) (E := Ew) (takes_of rfl rfl rfl rfl) fun _ _ _ _ h => h) (pa_cons (pe_ix (k_ix (K := K) rfl) (pv 1) pe_int (fun _ _ => rfl)) (pa_cons (pe_ix (k_ix (K := K) rfl) (pv 1) pe_int (fun _ _ => rfl)) (pa_cons (pe_ix (k_ix (K := K) rfl) (pv 1) pe_int (fun _ _ => rfl)) pa_nil)))))) (pss_one (ps_if (PW.pt (pw_and (pt_cmpR (k_eqD (K := K) rfl hr.units) (pv 0) pe_int (nomark _)) (pw_and1 (pt_val (pv 2))))) (pss_one (ps_expr (pe_callK0 U_on_keys (hr.mono (by decide)) (by rfl) T.m_on_keys T.F_on_keys.kp (kb_on_keys_0_keys_sums T.F_on_keys) (passes_call (W := fun cls d _ H => Ew cls d H) (E := Ew) (takes_of rfl rfl rfl rfl) fun _ _ _ _ h => h) (pk_cons (pe_ix (k_ix (K := K) rfl) (pv 1) pe_int (fun _ _ => rfl)) (pk_cons (pe_ix (k_ix (K := K) rfl) (pv 1) pe_int (fun _ _ => rfl)) pk_nil))))) (pss_one (ps_if (pt_cmpR (k_eqD (K := K) rfl hr.units) (pv 0) pe_int (nomark _)) (pss_one (ps_expr (pe_call U_on_keys (hr.mono (by decide)) (by rfl) T.m_on_keys T.F_on_keys.kp T.b_on_keys .nil (passes_call (W := fun cls d _ H => Ew cls d H) (E := Ew) (takes_of rfl rfl rfl rfl) fun _ _ _ _ h => h) (pa_cons (pe_ix (k_ix (K := K) rfl) (pv 1) pe_int (fun _ _ => rfl)) (pa_cons (pe_ix (k_ix (K := K) rfl) (pv 1) pe_int (fun _ _ => rfl)) pa_nil))))) (pss_one (ps_if (PW.pt (pw_and (pt_cmpR (k_eqD (K := K) rfl hr.units) (pv 0) pe_int (nomark _)) (pw_and1 (pt_val (pv 2))))) (pss_one (ps_expr (pe_callK0 U_least_blind (hr.mono (by decide)) (by rfl) T.m_least_blind T.F_least_blind.kp (kb_least_blind_0_low_number T.F_least_blind) (passes_call (W := fun cls d _ H => Ew cls d H) (E := Ew) (takes_of rfl rfl rfl rfl) fun _ _ _ _ h => h) (pk_cons (pe_ix (k_ix (K := K) rfl) (pv 1) pe_int (fun _ _ => rfl)) (pk_cons (pe_ix (k_ix (K := K) rfl) (pv 1) pe_int (fun _ _ => rfl)) pk_nil))))) (pss_one (ps_if (pt_cmpR (k_eqD (K := K) rfl hr.units) (pv 0) pe_int (nomark _)) (pss_one (ps_expr (pe_call U_least_blind (hr.mono (by decide)) (by rfl) T.m_least_blind T.F_least_blind.kp T.b_least_blind .nil (passes_call (W := fun cls d _ H => Ew cls d H) (E := Ew) (takes_of rfl rfl rfl rfl) fun _ _ _ _ h => h) (pa_cons (pe_ix (k_ix (K := K) rfl) (pv 1) pe_int (fun _ _ => rfl)) (pa_cons (pe_ix (k_ix (K := K) rfl) (pv 1) pe_int (fun _ _ => rfl)) pa_nil))))) (pss_one (ps_if (pt_val (pv 2)) (pss_one (ps_expr (pe_callK0 U_cleared (hr.mono (by decide)) (by rfl) T.m_cleared T.F_cleared.kp (kb_cleared_0_ledger T.F_cleared) (passes_call (W := fun cls d _ H => Ew cls d H) (E := Ew) (takes_of rfl rfl rfl rfl) fun _ _ _ _ h => h) (pk_cons (pe_ix (k_ix (K := K) rfl) (pv 1) pe_int (fun _ _ => rfl)) pk_nil)))) (pss_one (ps_expr (pe_call U_cleared (hr.mono (by decide)) (by rfl) T.m_cleared T.F_cleared.kp T.b_cleared .nil (passes_call (W := fun cls d _ H => Ew cls d H) (E := Ew) (takes_of rfl rfl rfl rfl) fun _ _ _ _ h => h) (pa_cons (pe_ix (k_ix (K := K) rfl) (pv 1) pe_int (fun _ _ => rfl)) pa_nil)))))))))))))))))))))))))), fun q sls n c x A0 σ Q hR hA fin => ?_⟩
  obtain ⟨rfl, w, ds, v, h, rfl⟩ := hR
  match w, ds, h with
  | 0, [a], h =>
    refine s_ifB (b := v) (tb_and (a := true) (tb_is (tb_test (e_eqDI (e_var rfl) e_int)) rfl) fun _ => tb_B (e_var rfl)) hA (fun _ Hk0 H0 g0 a0 => ?_) (fun _ Hk0 H0 g0 a0 => ?_)
    · exact s_dropR (rs_callK (B := B_is_made K) (rs := [.dat a]) ae_nil (ae_cons (e_iL (ds := [a]) (e_var rfl) e_int rfl) ae_nil) (fun H vs zs h1 h2 => v_kb_is_made_0_sums vs zs h1 h2) (show B_is_made K q [.dat a] 0 x from h)) a0 (Nat.le_refl _) (fin_w fin (Nat.le_refl _))
    · refine s_ifB (b := true) (tb_is (tb_test (e_eqDI (e_var rfl) e_int)) rfl) a0 (fun _ Hk1 H1 g1 a1 => ?_) (fun h => by cases h)
      exact s_dropR (rs_call (c := 0) (B := B_is_made K) (ae_cons (e_iL (ds := [a]) (e_var rfl) e_int rfl) ae_nil) fun sls es => by subst es; exact h) a1 (Nat.le_refl _) (fin_w fin (Nat.le_refl _))
  | 1, [a], h =>
    refine s_ifB (b := false) (tb_is (tb_and (a := false) (b := false) (tb_is (tb_test (e_eqDI (e_var rfl) e_int)) rfl) (fun h => by cases h)) rfl) hA (fun h => by cases h) (fun _ Hk0 H0 g0 a0 => ?_)
    refine s_ifB (b := false) (tb_is (tb_test (e_eqDI (e_var rfl) e_int)) rfl) a0 (fun h => by cases h) (fun _ Hk1 H1 g1 a1 => ?_)
    refine s_ifB (b := v) (tb_and (a := true) (tb_is (tb_test (e_eqDI (e_var rfl) e_int)) rfl) fun _ => tb_B (e_var rfl)) a1 (fun _ Hk2 H2 g2 a2 => ?_) (fun _ Hk2 H2 g2 a2 => ?_)
    · exact s_dropR (rs_callK (B := B_brief K) (rs := [.dat a]) ae_nil (ae_cons (e_iL (ds := [a]) (e_var rfl) e_int rfl) ae_nil) (fun H vs zs h1 h2 => v_kb_brief_0_sums vs zs h1 h2) (show B_brief K q [.dat a] 0 x from h)) a2 (Nat.le_refl _) (fin_w fin (Nat.le_refl _))
    · refine s_ifB (b := true) (tb_is (tb_test (e_eqDI (e_var rfl) e_int)) rfl) a2 (fun _ Hk3 H3 g3 a3 => ?_) (fun h => by cases h)
      exact s_dropR (rs_call (c := 0) (B := B_brief K) (ae_cons (e_iL (ds := [a]) (e_var rfl) e_int rfl) ae_nil) fun sls es => by subst es; exact h) a3 (Nat.le_refl _) (fin_w fin (Nat.le_refl _))
  | 2, [a, b, d], h =>
    refine s_ifB (b := false) (tb_is (tb_and (a := false) (b := false) (tb_is (tb_test (e_eqDI (e_var rfl) e_int)) rfl) (fun h => by cases h)) rfl) hA (fun h => by cases h) (fun _ Hk0 H0 g0 a0 => ?_)
    refine s_ifB (b := false) (tb_is (tb_test (e_eqDI (e_var rfl) e_int)) rfl) a0 (fun h => by cases h) (fun _ Hk1 H1 g1 a1 => ?_)
    refine s_ifB (b := false) (tb_is (tb_and (a := false) (b := false) (tb_is (tb_test (e_eqDI (e_var rfl) e_int)) rfl) (fun h => by cases h)) rfl) a1 (fun h => by cases h) (fun _ Hk2 H2 g2 a2 => ?_)
    refine s_ifB (b := false) (tb_is (tb_test (e_eqDI (e_var rfl) e_int)) rfl) a2 (fun h => by cases h) (fun _ Hk3 H3 g3 a3 => ?_)
    refine s_ifB (b := v) (tb_and (a := true) (tb_is (tb_test (e_eqDI (e_var rfl) e_int)) rfl) fun _ => tb_B (e_var rfl)) a3 (fun _ Hk4 H4 g4 a4 => ?_) (fun _ Hk4 H4 g4 a4 => ?_)
    · exact s_dropR (rs_callK (B := B_in_span K) (rs := [.dat a, .dat b, .dat d]) ae_nil (ae_cons (e_iL (ds := [a, b, d]) (e_var rfl) e_int rfl) (ae_cons (e_iL (ds := [a, b, d]) (e_var rfl) e_int rfl) (ae_cons (e_iL (ds := [a, b, d]) (e_var rfl) e_int rfl) ae_nil))) (fun H vs zs h1 h2 => v_kb_in_span_0_width_low_sums vs zs h1 h2) (show B_in_span K q [.dat a, .dat b, .dat d] 0 x from h)) a4 (Nat.le_refl _) (fin_w fin (Nat.le_refl _))
    · refine s_ifB (b := true) (tb_is (tb_test (e_eqDI (e_var rfl) e_int)) rfl) a4 (fun _ Hk5 H5 g5 a5 => ?_) (fun h => by cases h)
      exact s_dropR (rs_call (c := 0) (B := B_in_span K) (ae_cons (e_iL (ds := [a, b, d]) (e_var rfl) e_int rfl) (ae_cons (e_iL (ds := [a, b, d]) (e_var rfl) e_int rfl) (ae_cons (e_iL (ds := [a, b, d]) (e_var rfl) e_int rfl) ae_nil))) fun sls es => by subst es; exact h) a5 (Nat.le_refl _) (fin_w fin (Nat.le_refl _))
  | 3, [a, b], h =>
    refine s_ifB (b := false) (tb_is (tb_and (a := false) (b := false) (tb_is (tb_test (e_eqDI (e_var rfl) e_int)) rfl) (fun h => by cases h)) rfl) hA (fun h => by cases h) (fun _ Hk0 H0 g0 a0 => ?_)
    refine s_ifB (b := false) (tb_is (tb_test (e_eqDI (e_var rfl) e_int)) rfl) a0 (fun h => by cases h) (fun _ Hk1 H1 g1 a1 => ?_)
    refine s_ifB (b := false) (tb_is (tb_and (a := false) (b := false) (tb_is (tb_test (e_eqDI (e_var rfl) e_int)) rfl) (fun h => by cases h)) rfl) a1 (fun h => by cases h) (fun _ Hk2 H2 g2 a2 => ?_)
    refine s_ifB (b := false) (tb_is (tb_test (e_eqDI (e_var rfl) e_int)) rfl) a2 (fun h => by cases h) (fun _ Hk3 H3 g3 a3 => ?_)
    refine s_ifB (b := false) (tb_is (tb_and (a := false) (b := false) (tb_is (tb_test (e_eqDI (e_var rfl) e_int)) rfl) (fun h => by cases h)) rfl) a3 (fun h => by cases h) (fun _ Hk4 H4 g4 a4 => ?_)
    refine s_ifB (b := false) (tb_is (tb_test (e_eqDI (e_var rfl) e_int)) rfl) a4 (fun h => by cases h) (fun _ Hk5 H5 g5 a5 => ?_)
    refine s_ifB (b := v) (tb_and (a := true) (tb_is (tb_test (e_eqDI (e_var rfl) e_int)) rfl) fun _ => tb_B (e_var rfl)) a5 (fun _ Hk6 H6 g6 a6 => ?_) (fun _ Hk6 H6 g6 a6 => ?_)
    · exact s_dropR (rs_callK (B := B_on_keys K) (rs := [.dat a, .dat b]) ae_nil (ae_cons (e_iL (ds := [a, b]) (e_var rfl) e_int rfl) (ae_cons (e_iL (ds := [a, b]) (e_var rfl) e_int rfl) ae_nil)) (fun H vs zs h1 h2 => v_kb_on_keys_0_keys_sums vs zs h1 h2) (show B_on_keys K q [.dat a, .dat b] 0 x from h)) a6 (Nat.le_refl _) (fin_w fin (Nat.le_refl _))
    · refine s_ifB (b := true) (tb_is (tb_test (e_eqDI (e_var rfl) e_int)) rfl) a6 (fun _ Hk7 H7 g7 a7 => ?_) (fun h => by cases h)
      exact s_dropR (rs_call (c := 0) (B := B_on_keys K) (ae_cons (e_iL (ds := [a, b]) (e_var rfl) e_int rfl) (ae_cons (e_iL (ds := [a, b]) (e_var rfl) e_int rfl) ae_nil)) fun sls es => by subst es; exact h) a7 (Nat.le_refl _) (fin_w fin (Nat.le_refl _))
  | 4, [a, b], h =>
    refine s_ifB (b := false) (tb_is (tb_and (a := false) (b := false) (tb_is (tb_test (e_eqDI (e_var rfl) e_int)) rfl) (fun h => by cases h)) rfl) hA (fun h => by cases h) (fun _ Hk0 H0 g0 a0 => ?_)
    refine s_ifB (b := false) (tb_is (tb_test (e_eqDI (e_var rfl) e_int)) rfl) a0 (fun h => by cases h) (fun _ Hk1 H1 g1 a1 => ?_)
    refine s_ifB (b := false) (tb_is (tb_and (a := false) (b := false) (tb_is (tb_test (e_eqDI (e_var rfl) e_int)) rfl) (fun h => by cases h)) rfl) a1 (fun h => by cases h) (fun _ Hk2 H2 g2 a2 => ?_)
    refine s_ifB (b := false) (tb_is (tb_test (e_eqDI (e_var rfl) e_int)) rfl) a2 (fun h => by cases h) (fun _ Hk3 H3 g3 a3 => ?_)
    refine s_ifB (b := false) (tb_is (tb_and (a := false) (b := false) (tb_is (tb_test (e_eqDI (e_var rfl) e_int)) rfl) (fun h => by cases h)) rfl) a3 (fun h => by cases h) (fun _ Hk4 H4 g4 a4 => ?_)
    refine s_ifB (b := false) (tb_is (tb_test (e_eqDI (e_var rfl) e_int)) rfl) a4 (fun h => by cases h) (fun _ Hk5 H5 g5 a5 => ?_)
    refine s_ifB (b := false) (tb_is (tb_and (a := false) (b := false) (tb_is (tb_test (e_eqDI (e_var rfl) e_int)) rfl) (fun h => by cases h)) rfl) a5 (fun h => by cases h) (fun _ Hk6 H6 g6 a6 => ?_)
    refine s_ifB (b := false) (tb_is (tb_test (e_eqDI (e_var rfl) e_int)) rfl) a6 (fun h => by cases h) (fun _ Hk7 H7 g7 a7 => ?_)
    refine s_ifB (b := v) (tb_and (a := true) (tb_is (tb_test (e_eqDI (e_var rfl) e_int)) rfl) fun _ => tb_B (e_var rfl)) a7 (fun _ Hk8 H8 g8 a8 => ?_) (fun _ Hk8 H8 g8 a8 => ?_)
    · exact s_dropR (rs_callK (B := B_least_blind K) (rs := [.dat a, .dat b]) ae_nil (ae_cons (e_iL (ds := [a, b]) (e_var rfl) e_int rfl) (ae_cons (e_iL (ds := [a, b]) (e_var rfl) e_int rfl) ae_nil)) (fun H vs zs h1 h2 => v_kb_least_blind_0_low_number vs zs h1 h2) (show B_least_blind K q [.dat a, .dat b] 0 x from h)) a8 (Nat.le_refl _) (fin_w fin (Nat.le_refl _))
    · refine s_ifB (b := true) (tb_is (tb_test (e_eqDI (e_var rfl) e_int)) rfl) a8 (fun _ Hk9 H9 g9 a9 => ?_) (fun h => by cases h)
      exact s_dropR (rs_call (c := 0) (B := B_least_blind K) (ae_cons (e_iL (ds := [a, b]) (e_var rfl) e_int rfl) (ae_cons (e_iL (ds := [a, b]) (e_var rfl) e_int rfl) ae_nil)) fun sls es => by subst es; exact h) a9 (Nat.le_refl _) (fin_w fin (Nat.le_refl _))
  | 5, [a], h =>
    refine s_ifB (b := false) (tb_is (tb_and (a := false) (b := false) (tb_is (tb_test (e_eqDI (e_var rfl) e_int)) rfl) (fun h => by cases h)) rfl) hA (fun h => by cases h) (fun _ Hk0 H0 g0 a0 => ?_)
    refine s_ifB (b := false) (tb_is (tb_test (e_eqDI (e_var rfl) e_int)) rfl) a0 (fun h => by cases h) (fun _ Hk1 H1 g1 a1 => ?_)
    refine s_ifB (b := false) (tb_is (tb_and (a := false) (b := false) (tb_is (tb_test (e_eqDI (e_var rfl) e_int)) rfl) (fun h => by cases h)) rfl) a1 (fun h => by cases h) (fun _ Hk2 H2 g2 a2 => ?_)
    refine s_ifB (b := false) (tb_is (tb_test (e_eqDI (e_var rfl) e_int)) rfl) a2 (fun h => by cases h) (fun _ Hk3 H3 g3 a3 => ?_)
    refine s_ifB (b := false) (tb_is (tb_and (a := false) (b := false) (tb_is (tb_test (e_eqDI (e_var rfl) e_int)) rfl) (fun h => by cases h)) rfl) a3 (fun h => by cases h) (fun _ Hk4 H4 g4 a4 => ?_)
    refine s_ifB (b := false) (tb_is (tb_test (e_eqDI (e_var rfl) e_int)) rfl) a4 (fun h => by cases h) (fun _ Hk5 H5 g5 a5 => ?_)
    refine s_ifB (b := false) (tb_is (tb_and (a := false) (b := false) (tb_is (tb_test (e_eqDI (e_var rfl) e_int)) rfl) (fun h => by cases h)) rfl) a5 (fun h => by cases h) (fun _ Hk6 H6 g6 a6 => ?_)
    refine s_ifB (b := false) (tb_is (tb_test (e_eqDI (e_var rfl) e_int)) rfl) a6 (fun h => by cases h) (fun _ Hk7 H7 g7 a7 => ?_)
    refine s_ifB (b := false) (tb_is (tb_and (a := false) (b := false) (tb_is (tb_test (e_eqDI (e_var rfl) e_int)) rfl) (fun h => by cases h)) rfl) a7 (fun h => by cases h) (fun _ Hk8 H8 g8 a8 => ?_)
    refine s_ifB (b := false) (tb_is (tb_test (e_eqDI (e_var rfl) e_int)) rfl) a8 (fun h => by cases h) (fun _ Hk9 H9 g9 a9 => ?_)
    refine s_ifB (b := v) (tb_B (e_var rfl)) a9 (fun _ Hk10 H10 g10 a10 => ?_) (fun _ Hk10 H10 g10 a10 => ?_)
    · exact s_dropR (rs_callK (B := B_cleared K) (rs := [.dat a]) ae_nil (ae_cons (e_iL (ds := [a]) (e_var rfl) e_int rfl) ae_nil) (fun H vs zs h1 h2 => v_kb_cleared_0_ledger vs zs h1 h2) (show B_cleared K q [.dat a] 0 x from h)) a10 (Nat.le_refl _) (fin_w fin (Nat.le_refl _))
    · exact s_dropR (rs_call (c := 0) (B := B_cleared K) (ae_cons (e_iL (ds := [a]) (e_var rfl) e_int rfl) ae_nil) fun sls es => by subst es; exact h) a10 (Nat.le_refl _) (fin_w fin (Nat.le_refl _))
/-! ### _law_said -/
def xN : Nat → Str
  | 0 => "InvalidLedger"
  | 1 => "InvalidSums"
  | 2 => "InvalidNumber"
  | 3 => "InvalidKey"
  | 4 => "InvalidWidth"
  | _ => "InvalidKeys"
def wN : Option Nat → Str
  | none => "none"
  | some k => kN k
def OutC (K : PySem.W.Frag) (s : Int) (w : Nat) (ds : List PyData) : Option Nat → Prop
  | none => GoodC s w ds
  | some k => k < 6 ∧ BadC K w ds (xN k)
def R__law_said (K : PySem.W.Frag) : RelX := fun _ sls c Φ => c = 0 ∧ ∃ (w : Nat) (ds : List PyData) (b : Bool) (o : Option Nat) (s : Int), 1 ≤ s ∧ s ≤ 40 ∧ OutC K s w ds o ∧ sls = [.dat (.int (w : Int)), .dat (.list ds), .dat (.bool b)] ∧ Φ = fun d => d = .str (wN o)
theorem ok__law_said (T : Tx K mg) : FnOk P w K mg base CX0 9 T.a__law_said T.fd__law_said P__law_said (spX (R__law_said K)) := by
  have G__law_call := ok__law_call (P := P) (w := w) (base := base) T
  have U__law_call := fn_or (fn_lift (ok__law_call (P := P) (w := w) (base := base) T)) (ox__law_call (P := P) (w := w) (base := base) T)
  refine fn_ok T.F__law_said sc__law_said (by decide) (fun q sls c Φ h => by obtain ⟨_, w, ds, b, o, s, _, _, _, rfl, _⟩ := h; rfl) fun cdv A outer s B0 Ew hr => ⟨_,
    (pss_cons (ps_set (i := 3) sc__law_said.nd rfl (Or.inl rfl) pe_str)
      (pss_cons (ps_try_many rfl rfl takes0 (fun W pn xe tk _ => (pss_one (ps_expr (pe_callS U__law_call (hr.mono (by decide)) (by rfl) T.m__law_call T.F__law_call.kp T.b__law_call (fun σ => passAt tk σ) (pa_cons (pv 0) (pa_cons (pv 1) (pa_cons (pv 2) pa_nil))))))) (.cons ⟨rfl, by decide, .inl T.g_InvalidLedger⟩ (fun a oe cls d pn _ _ => (pss_one (ps_set (i := 3) sc__law_said.nd rfl (Or.inl rfl) pe_str))) (.cons ⟨rfl, by decide, .inl T.g_InvalidSums⟩ (fun a oe cls d pn _ _ => (pss_one (ps_set (i := 3) sc__law_said.nd rfl (Or.inl rfl) pe_str))) (.cons ⟨rfl, by decide, .inl T.g_InvalidNumber⟩ (fun a oe cls d pn _ _ => (pss_one (ps_set (i := 3) sc__law_said.nd rfl (Or.inl rfl) pe_str))) (.cons ⟨rfl, by decide, .inl T.g_InvalidKey⟩ (fun a oe cls d pn _ _ => (pss_one (ps_set (i := 3) sc__law_said.nd rfl (Or.inl rfl) pe_str))) (.cons ⟨rfl, by decide, .inl T.g_InvalidWidth⟩ (fun a oe cls d pn _ _ => (pss_one (ps_set (i := 3) sc__law_said.nd rfl (Or.inl rfl) pe_str))) (.cons ⟨rfl, by decide, .inl T.g_InvalidKeys⟩ (fun a oe cls d pn _ _ => (pss_one (ps_set (i := 3) sc__law_said.nd rfl (Or.inl rfl) pe_str))) .nil)))))))
      (pss_one (ps_ret (pv 3))))), fun q sls n c Φ A0 σ Q hR hA fin => ?_⟩
  obtain ⟨rfl, w, ds, b, o, s, hs1, hs2, h, rfl, rfl⟩ := hR
  refine q_asgE e_str hA fun σ1 Hk1 H1 g1 a1 => ?_
  refine s_seq ?_
  match o, h with
  | none, h =>
    exact s_drop (j_callUS (R := R__law_call) (c := 0) (Φ := fun d => d = .none) (ae_cons (e_var rfl) (ae_cons (e_var rfl) (ae_cons (e_var rfl) ae_nil))) fun sls es => ⟨rfl, w, ds, b, s, hs1, hs2, h, es, rfl⟩) a1 fun Hk3 H3 g3 a3 => s_retE (e_var rfl) a3 (Nat.le_refl _) fin rfl
  | some k, ⟨hk, h⟩ =>
    refine s_dropR (rs_callS (c := 0) (B := B__law_call K) (ae_cons (e_var rfl) (ae_cons (e_var rfl) (ae_cons (e_var rfl) ae_nil))) fun sls es => ⟨rfl, w, ds, b, h, es⟩) a1 (Nat.le_refl _) fun C hC Hk3 H3 g3 a3 => ?_
    match k, hk with
    | 0, _ =>
      obtain rfl := ref_inj T.g_InvalidLedger hC
      exact w_hit (PySem.W.exm_ref T.u_InvalidLedger T.h_InvalidLedger T.t_InvalidLedger T.s_InvalidLedger_InvalidLedger) fun a ha => s_asgE e_str a3 fun σ4 Hk4 H4 g4 a4 => s_retE (e_var rfl) a4 (Nat.le_refl _) fin rfl
    | 1, _ =>
      obtain rfl := ref_inj T.g_InvalidSums hC
      exact w_skip (PySem.W.exm_ref T.u_InvalidLedger T.h_InvalidLedger T.t_InvalidLedger T.s_InvalidSums_InvalidLedger) (w_hit (PySem.W.exm_ref T.u_InvalidSums T.h_InvalidSums T.t_InvalidSums T.s_InvalidSums_InvalidSums) fun a ha => s_asgE e_str a3 fun σ4 Hk4 H4 g4 a4 => s_retE (e_var rfl) a4 (Nat.le_refl _) fin rfl)
    | 2, _ =>
      obtain rfl := ref_inj T.g_InvalidNumber hC
      exact w_skip (PySem.W.exm_ref T.u_InvalidLedger T.h_InvalidLedger T.t_InvalidLedger T.s_InvalidNumber_InvalidLedger) (w_skip (PySem.W.exm_ref T.u_InvalidSums T.h_InvalidSums T.t_InvalidSums T.s_InvalidNumber_InvalidSums) (w_hit (PySem.W.exm_ref T.u_InvalidNumber T.h_InvalidNumber T.t_InvalidNumber T.s_InvalidNumber_InvalidNumber) fun a ha => s_asgE e_str a3 fun σ4 Hk4 H4 g4 a4 => s_retE (e_var rfl) a4 (Nat.le_refl _) fin rfl))
    | 3, _ =>
      obtain rfl := ref_inj T.g_InvalidKey hC
      exact w_skip (PySem.W.exm_ref T.u_InvalidLedger T.h_InvalidLedger T.t_InvalidLedger T.s_InvalidKey_InvalidLedger) (w_skip (PySem.W.exm_ref T.u_InvalidSums T.h_InvalidSums T.t_InvalidSums T.s_InvalidKey_InvalidSums) (w_skip (PySem.W.exm_ref T.u_InvalidNumber T.h_InvalidNumber T.t_InvalidNumber T.s_InvalidKey_InvalidNumber) (w_hit (PySem.W.exm_ref T.u_InvalidKey T.h_InvalidKey T.t_InvalidKey T.s_InvalidKey_InvalidKey) fun a ha => s_asgE e_str a3 fun σ4 Hk4 H4 g4 a4 => s_retE (e_var rfl) a4 (Nat.le_refl _) fin rfl)))
    | 4, _ =>
      obtain rfl := ref_inj T.g_InvalidWidth hC
      exact w_skip (PySem.W.exm_ref T.u_InvalidLedger T.h_InvalidLedger T.t_InvalidLedger T.s_InvalidWidth_InvalidLedger) (w_skip (PySem.W.exm_ref T.u_InvalidSums T.h_InvalidSums T.t_InvalidSums T.s_InvalidWidth_InvalidSums) (w_skip (PySem.W.exm_ref T.u_InvalidNumber T.h_InvalidNumber T.t_InvalidNumber T.s_InvalidWidth_InvalidNumber) (w_skip (PySem.W.exm_ref T.u_InvalidKey T.h_InvalidKey T.t_InvalidKey T.s_InvalidWidth_InvalidKey) (w_hit (PySem.W.exm_ref T.u_InvalidWidth T.h_InvalidWidth T.t_InvalidWidth T.s_InvalidWidth_InvalidWidth) fun a ha => s_asgE e_str a3 fun σ4 Hk4 H4 g4 a4 => s_retE (e_var rfl) a4 (Nat.le_refl _) fin rfl))))
    | 5, _ =>
      obtain rfl := ref_inj T.g_InvalidKeys hC
      exact w_skip (PySem.W.exm_ref T.u_InvalidLedger T.h_InvalidLedger T.t_InvalidLedger T.s_InvalidKeys_InvalidLedger) (w_skip (PySem.W.exm_ref T.u_InvalidSums T.h_InvalidSums T.t_InvalidSums T.s_InvalidKeys_InvalidSums) (w_skip (PySem.W.exm_ref T.u_InvalidNumber T.h_InvalidNumber T.t_InvalidNumber T.s_InvalidKeys_InvalidNumber) (w_skip (PySem.W.exm_ref T.u_InvalidKey T.h_InvalidKey T.t_InvalidKey T.s_InvalidKeys_InvalidKey) (w_skip (PySem.W.exm_ref T.u_InvalidWidth T.h_InvalidWidth T.t_InvalidWidth T.s_InvalidKeys_InvalidWidth) (w_hit (PySem.W.exm_ref T.u_InvalidKeys T.h_InvalidKeys T.t_InvalidKeys T.s_InvalidKeys_InvalidKeys) fun a ha => s_asgE e_str a3 fun σ4 Hk4 H4 g4 a4 => s_retE (e_var rfl) a4 (Nat.le_refl _) fin rfl)))))
/-! ### _law_kin -/
def R__law_kin (K : PySem.W.Frag) : RelX := fun _ sls c Φ => c = 0 ∧ ∃ (w : Nat) (ds : List PyData) (o : Option Nat) (s : Int), 1 ≤ s ∧ s ≤ 40 ∧ OutC K s w ds o ∧ sls = [.dat (.int (w : Int)), .dat (.list ds)] ∧ Φ = fun d => d = .bool o.isSome
theorem ok__law_kin (T : Tx K mg) : FnOk P w K mg base CX0 9 T.a__law_kin T.fd__law_kin P__law_kin (spX (R__law_kin K)) := by
  have G__law_call := ok__law_call (P := P) (w := w) (base := base) T
  have U__law_call := fn_or (fn_lift (ok__law_call (P := P) (w := w) (base := base) T)) (ox__law_call (P := P) (w := w) (base := base) T)
  refine fn_ok T.F__law_kin sc__law_kin (by decide) (fun q sls c Φ h => by obtain ⟨_, w, ds, o, s, _, _, _, rfl, _⟩ := h; rfl) fun cdv A outer s B0 Ew hr => ⟨_,
    (pss_cons (ps_set (i := 2) sc__law_kin.nd rfl (Or.inl rfl) pe_bl)
      (pss_cons (ps_try_as (i := 3) rfl rfl sc__law_kin.nd rfl rfl ⟨rfl, by decide, .inl T.g_SumsError⟩ takes0 (fun W pn xe tk _ => (pss_one (ps_expr (pe_callS U__law_call (hr.mono (by decide)) (by rfl) T.m__law_call T.F__law_call.kp T.b__law_call (fun σ => passAt tk σ) (pa_cons (pv 0) (pa_cons (pv 1) (pa_cons pe_bl pa_nil))))))) (fun a oe cls d pn hz hf => (pss_one (ps_set (i := 2) sc__law_kin.nd rfl (Or.inl rfl) (pe_callB (call_isEG hz hf) (by rfl) T.z_isinstance (by decide +kernel) (pa_cons (pv 3) (pa_cons (pe_bltn (v := .ty "ValueError") (by rfl) T.z_ValueError (by decide +kernel) rfl) pa_nil)))))))
      (pss_one (ps_ret (pv 2))))), fun q sls n c Φ A0 σ Q hR hA fin => ?_⟩
  obtain ⟨rfl, w, ds, o, s, hs1, hs2, h, rfl, rfl⟩ := hR
  refine q_asgE e_bl hA fun σ1 Hk1 H1 g1 a1 => ?_
  refine s_seq ?_
  match o, h with
  | none, h =>
    exact s_drop (j_callUS (R := R__law_call) (c := 0) (Φ := fun d => d = .none) (ae_cons (e_var rfl) (ae_cons (e_var rfl) (ae_cons e_bl ae_nil))) fun sls es => ⟨rfl, w, ds, false, s, hs1, hs2, h, es, rfl⟩) a1 fun Hk3 H3 g3 a3 => s_retE (e_var rfl) a3 (Nat.le_refl _) fin rfl
  | some k, ⟨hk, h⟩ =>
    refine s_dropR (rs_callS (c := 0) (B := B__law_call K) (ae_cons (e_var rfl) (ae_cons (e_var rfl) (ae_cons e_bl ae_nil))) fun sls es => ⟨rfl, w, ds, false, h, es⟩) a1 (Nat.le_refl _) fun C hC Hk3 H3 g3 a3 => ?_
    match k, hk with
    | 0, _ =>
      obtain rfl := ref_inj T.g_InvalidLedger hC
      exact w_as (PySem.W.exm_ref T.u_SumsError T.h_SumsError T.t_SumsError T.s_InvalidLedger_SumsError) fun a ha => s_asgE (e_isE rfl T.E_InvalidLedger T.v_InvalidLedger) (a3.bound (i := 3) (a := a)) fun σ4 Hk4 H4 g4 a4 => s_retE (e_var rfl) (a4.unbound (i := 3)) (Nat.le_refl _) fin rfl
    | 1, _ =>
      obtain rfl := ref_inj T.g_InvalidSums hC
      exact w_as (PySem.W.exm_ref T.u_SumsError T.h_SumsError T.t_SumsError T.s_InvalidSums_SumsError) fun a ha => s_asgE (e_isE rfl T.E_InvalidSums T.v_InvalidSums) (a3.bound (i := 3) (a := a)) fun σ4 Hk4 H4 g4 a4 => s_retE (e_var rfl) (a4.unbound (i := 3)) (Nat.le_refl _) fin rfl
    | 2, _ =>
      obtain rfl := ref_inj T.g_InvalidNumber hC
      exact w_as (PySem.W.exm_ref T.u_SumsError T.h_SumsError T.t_SumsError T.s_InvalidNumber_SumsError) fun a ha => s_asgE (e_isE rfl T.E_InvalidNumber T.v_InvalidNumber) (a3.bound (i := 3) (a := a)) fun σ4 Hk4 H4 g4 a4 => s_retE (e_var rfl) (a4.unbound (i := 3)) (Nat.le_refl _) fin rfl
    | 3, _ =>
      obtain rfl := ref_inj T.g_InvalidKey hC
      exact w_as (PySem.W.exm_ref T.u_SumsError T.h_SumsError T.t_SumsError T.s_InvalidKey_SumsError) fun a ha => s_asgE (e_isE rfl T.E_InvalidKey T.v_InvalidKey) (a3.bound (i := 3) (a := a)) fun σ4 Hk4 H4 g4 a4 => s_retE (e_var rfl) (a4.unbound (i := 3)) (Nat.le_refl _) fin rfl
    | 4, _ =>
      obtain rfl := ref_inj T.g_InvalidWidth hC
      exact w_as (PySem.W.exm_ref T.u_SumsError T.h_SumsError T.t_SumsError T.s_InvalidWidth_SumsError) fun a ha => s_asgE (e_isE rfl T.E_InvalidWidth T.v_InvalidWidth) (a3.bound (i := 3) (a := a)) fun σ4 Hk4 H4 g4 a4 => s_retE (e_var rfl) (a4.unbound (i := 3)) (Nat.le_refl _) fin rfl
    | 5, _ =>
      obtain rfl := ref_inj T.g_InvalidKeys hC
      exact w_as (PySem.W.exm_ref T.u_SumsError T.h_SumsError T.t_SumsError T.s_InvalidKeys_SumsError) fun a ha => s_asgE (e_isE rfl T.E_InvalidKeys T.v_InvalidKeys) (a3.bound (i := 3) (a := a)) fun σ4 Hk4 H4 g4 a4 => s_retE (e_var rfl) (a4.unbound (i := 3)) (Nat.le_refl _) fin rfl
/-! ### law -/
def kw : Nat → List Nat
  | 0 => [1]
  | 1 => [1]
  | 2 => [1, 3, 4]
  | 3 => [1, 5]
  | 4 => [2, 3]
  | _ => [0]
def rowD (w : Nat) : PyData := .list ((kw w).map fun k => .str (kN k))
theorem kw_len (w : Nat) : 1 ≤ (kw w).length ∧ (kw w).length ≤ 3 := by
  unfold kw
  split <;> exact ⟨by decide, by decide⟩
theorem kw_lt (w k : Nat) (h : k ∈ kw w) : k < 6 := by
  have : (kw w).all (fun k => decide (k < 6)) = true := by
    unfold kw
    split <;> rfl
  exact of_decide_eq_true (List.all_eq_true.mp this k h)
theorem gd_ok {K : PySem.W.Frag} {s : Int} (hs1 : 1 ≤ s) (hs2 : s ≤ 40) : ∀ (k : Nat) (d : PyData), Gd s k d → Jk s k d = true ∧ Odd K d
  | 0, d, ⟨l, h1, h2, h3, h4, e⟩ => by
    subst e
    exact ⟨led_isLed h1, Odd.of (short_tup (by rw [pd_len]; omega)) (deep_led 2 l)⟩
  | 1, d, ⟨f, h1, h2, e⟩ => by
    subst e
    exact ⟨pol_isSums (List.length_pos_iff.mp (by omega)), Odd.of (short_tup (by rw [List.length_map]; omega)) (deep_pol 2 f)⟩
  | 2, d, ⟨i, h1, h2, e⟩ => by
    subst e
    exact ⟨decide_eq_true h1, Odd.of (fun ds e => by cases e) rfl⟩
  | 3, d, ⟨i, h1, e⟩ => by
    subst e
    exact ⟨rfl, Odd.of (fun ds e => by cases e) rfl⟩
  | 4, d, ⟨i, h1, h2, e⟩ => by
    subst e
    exact ⟨by show (decide (1 ≤ i) && decide (i ≤ s)) = true; rw [decide_eq_true h1, decide_eq_true h2]; rfl, Odd.of (fun ds e => by cases e) rfl⟩
  | 5, d, ⟨f, h1, h2, h3, e⟩ => by
    subst e
    exact ⟨by show (ascKD (pol f) && decide ((lenD (pol f) : Int) ≤ s)) = true; rw [asc_ascKD h1, len_pol, decide_eq_true h3]; rfl, Odd.of (short_tup (by rw [List.length_map]; omega)) (deep_pol 2 f)⟩
  | k + 6, d, ⟨i, h1, e⟩ => by
    subst e
    exact ⟨rfl, Odd.of (fun ds e => by cases e) rfl⟩
theorem gd_len {s : Int} {d : PyData} (h : Gd s 1 d) : (lenD d : Int) = s := by
  obtain ⟨f, h1, _, rfl⟩ := h
  rw [len_pol]
  exact h1
theorem gd_noBool {s : Int} {k : Nat} {d : PyData} (h : Gd s k d) (b : Bool) : d ≠ .bool b := fun e => by
  subst e
  match k, h with
  | 0, ⟨l, _, _, _, _, e⟩ => cases e
  | 1, ⟨f, _, _, e⟩ => cases e
  | 2, ⟨i, _, _, e⟩ => cases e
  | 3, ⟨i, _, e⟩ => cases e
  | 4, ⟨i, _, _, e⟩ => cases e
  | 5, ⟨f, _, _, _, e⟩ => cases e
  | k + 6, ⟨i, _, e⟩ => cases e
def outO (w : Nat) (bs : List Bool) : Option Nat :=
  match (List.range (kw w).length).filter (fun k => bs.getD k false) with
  | h :: _ => some ((kw w).getD h 0)
  | [] => none
/-- what is asked of a call with the pieces ds, bs: which are bad -/
theorem out_ok {K : PySem.W.Frag} {s : Int} (hs1 : 1 ≤ s) (hs2 : s ≤ 40) (w : Nat) (hw : w < 6) (ds : List PyData) (bs : List Bool) (hl : ds.length = (kw w).length) (hb : bs.length = (kw w).length)
    (h : ∀ (j k : Nat) (d : PyData), (kw w)[j]? = some k → ds[j]? = some d → (bs.getD j false = true → Jk s k d = false ∧ Odd K d) ∧ (bs.getD j false = false → Gd s k d)) : OutC K s w ds (outO w bs) := by
  match w, hw with
  | 0, _ =>
    obtain ⟨a, rfl⟩ : ∃ a, ds = [a] := by
      match ds, hl with
      | [a], _ => exact ⟨a, rfl⟩
    obtain ⟨x, rfl⟩ : ∃ x, bs = [x] := by
      match bs, hb with
      | [x], _ => exact ⟨x, rfl⟩
    have h0 := h 0 1 a rfl rfl
    cases x with
    | true =>
      have b0 := h0.1 rfl
      exact ⟨(by decide : 1 < 6), (show B_is_made K none [.dat a] 0 (xN 1) from ⟨rfl, a, b0.2, rfl, ⟨b0.1, rfl⟩⟩)⟩
    | false =>
      exact (show GoodC s 0 [a] from h0.2 rfl)
  | 1, _ =>
    obtain ⟨a, rfl⟩ : ∃ a, ds = [a] := by
      match ds, hl with
      | [a], _ => exact ⟨a, rfl⟩
    obtain ⟨x, rfl⟩ : ∃ x, bs = [x] := by
      match bs, hb with
      | [x], _ => exact ⟨x, rfl⟩
    have h0 := h 0 1 a rfl rfl
    cases x with
    | true =>
      have b0 := h0.1 rfl
      exact ⟨(by decide : 1 < 6), (show B_brief K none [.dat a] 0 (xN 1) from ⟨rfl, a, b0.2, rfl, ⟨b0.1, rfl⟩⟩)⟩
    | false =>
      exact (show GoodC s 1 [a] from h0.2 rfl)
  | 2, _ =>
    obtain ⟨a, b, d, rfl⟩ : ∃ a b d, ds = [a, b, d] := by
      match ds, hl with
      | [a, b, d], _ => exact ⟨a, b, d, rfl⟩
    obtain ⟨x, y, z, rfl⟩ : ∃ x y z, bs = [x, y, z] := by
      match bs, hb with
      | [x, y, z], _ => exact ⟨x, y, z, rfl⟩
    have h0 := h 0 1 a rfl rfl
    have h1 := h 1 3 b rfl rfl
    have h2 := h 2 4 d rfl rfl
    cases x with
    | true =>
      have b0 := h0.1 rfl
      have o1 : Odd K b := by
        cases y with
        | true => exact (h1.1 rfl).2
        | false => exact (gd_ok (K := K) hs1 hs2 _ _ (h1.2 rfl)).2
      have o2 : Odd K d := by
        cases z with
        | true => exact (h2.1 rfl).2
        | false => exact (gd_ok (K := K) hs1 hs2 _ _ (h2.2 rfl)).2
      exact ⟨(by decide : 1 < 6), (show B_in_span K none [.dat a, .dat b, .dat d] 0 (xN 1) from ⟨rfl, a, b, d, b0.2, o1, o2, rfl, .inl ⟨b0.1, rfl⟩⟩)⟩
    | false =>
      cases y with
      | true =>
        have b1 := h1.1 rfl
        have g0 := gd_ok (K := K) hs1 hs2 _ _ (h0.2 rfl)
        have o2 : Odd K d := by
          cases z with
          | true => exact (h2.1 rfl).2
          | false => exact (gd_ok (K := K) hs1 hs2 _ _ (h2.2 rfl)).2
        exact ⟨(by decide : 3 < 6), (show B_in_span K none [.dat a, .dat b, .dat d] 0 (xN 3) from ⟨rfl, a, b, d, g0.2, b1.2, o2, rfl, .inr (.inl ⟨g0.1, b1.1, rfl⟩)⟩)⟩
      | false =>
        cases z with
        | true =>
          have b2 := h2.1 rfl
          have g0 := gd_ok (K := K) hs1 hs2 _ _ (h0.2 rfl)
          have g1 := gd_ok (K := K) hs1 hs2 _ _ (h1.2 rfl)
          exact ⟨(by decide : 4 < 6), (show B_in_span K none [.dat a, .dat b, .dat d] 0 (xN 4) from ⟨rfl, a, b, d, g0.2, g1.2, b2.2, rfl, .inr (.inr (⟨g0.1, g1.1, (by rw [gd_len (h0.2 rfl)]; exact b2.1), rfl⟩))⟩)⟩
        | false =>
          exact (show GoodC s 2 [a, b, d] from ⟨h0.2 rfl, h1.2 rfl, h2.2 rfl⟩)
  | 3, _ =>
    obtain ⟨a, b, rfl⟩ : ∃ a b, ds = [a, b] := by
      match ds, hl with
      | [a, b], _ => exact ⟨a, b, rfl⟩
    obtain ⟨x, y, rfl⟩ : ∃ x y, bs = [x, y] := by
      match bs, hb with
      | [x, y], _ => exact ⟨x, y, rfl⟩
    have h0 := h 0 1 a rfl rfl
    have h1 := h 1 5 b rfl rfl
    cases x with
    | true =>
      have b0 := h0.1 rfl
      have o1 : Odd K b := by
        cases y with
        | true => exact (h1.1 rfl).2
        | false => exact (gd_ok (K := K) hs1 hs2 _ _ (h1.2 rfl)).2
      exact ⟨(by decide : 1 < 6), (show B_on_keys K none [.dat a, .dat b] 0 (xN 1) from ⟨rfl, a, b, b0.2, o1, rfl, .inl ⟨b0.1, rfl⟩⟩)⟩
    | false =>
      cases y with
      | true =>
        have b1 := h1.1 rfl
        have g0 := gd_ok (K := K) hs1 hs2 _ _ (h0.2 rfl)
        exact ⟨(by decide : 5 < 6), (show B_on_keys K none [.dat a, .dat b] 0 (xN 5) from ⟨rfl, a, b, g0.2, b1.2, rfl, .inr (⟨g0.1, (by rw [gd_len (h0.2 rfl)]; exact b1.1), rfl⟩)⟩)⟩
      | false =>
        exact (show GoodC s 3 [a, b] from ⟨h0.2 rfl, h1.2 rfl⟩)
  | 4, _ =>
    obtain ⟨a, b, rfl⟩ : ∃ a b, ds = [a, b] := by
      match ds, hl with
      | [a, b], _ => exact ⟨a, b, rfl⟩
    obtain ⟨x, y, rfl⟩ : ∃ x y, bs = [x, y] := by
      match bs, hb with
      | [x, y], _ => exact ⟨x, y, rfl⟩
    have h0 := h 0 2 a rfl rfl
    have h1 := h 1 3 b rfl rfl
    cases x with
    | true =>
      have b0 := h0.1 rfl
      have o1 : Odd K b := by
        cases y with
        | true => exact (h1.1 rfl).2
        | false => exact (gd_ok (K := K) hs1 hs2 _ _ (h1.2 rfl)).2
      exact ⟨(by decide : 2 < 6), (show B_least_blind K none [.dat a, .dat b] 0 (xN 2) from ⟨rfl, a, b, b0.2, o1, rfl, .inl ⟨b0.1, rfl⟩⟩)⟩
    | false =>
      cases y with
      | true =>
        have b1 := h1.1 rfl
        have g0 := gd_ok (K := K) hs1 hs2 _ _ (h0.2 rfl)
        exact ⟨(by decide : 3 < 6), (show B_least_blind K none [.dat a, .dat b] 0 (xN 3) from ⟨rfl, a, b, g0.2, b1.2, rfl, .inr (⟨g0.1, b1.1, rfl⟩)⟩)⟩
      | false =>
        exact (show GoodC s 4 [a, b] from ⟨h0.2 rfl, h1.2 rfl⟩)
  | 5, _ =>
    obtain ⟨a, rfl⟩ : ∃ a, ds = [a] := by
      match ds, hl with
      | [a], _ => exact ⟨a, rfl⟩
    obtain ⟨x, rfl⟩ : ∃ x, bs = [x] := by
      match bs, hb with
      | [x], _ => exact ⟨x, rfl⟩
    have h0 := h 0 0 a rfl rfl
    cases x with
    | true =>
      have b0 := h0.1 rfl
      exact ⟨(by decide : 0 < 6), (show B_cleared K none [.dat a] 0 (xN 0) from ⟨rfl, a, b0.2, rfl, ⟨b0.1, rfl⟩⟩)⟩
    | false =>
      exact (show GoodC s 5 [a] from h0.2 rfl)
theorem wN_shaped : ∀ o : Option Nat, SeqAt.shaped (.str (wN o)) = true
  | none => by decide +kernel
  | some 0 => by decide +kernel
  | some 1 => by decide +kernel
  | some 2 => by decide +kernel
  | some 3 => by decide +kernel
  | some 4 => by decide +kernel
  | some (_ + 5) => by
    show SeqAt.shaped (.str "places") = true
    decide +kernel
theorem eqv_self_str : ∀ o : Option Nat, (!PyData.eqv (.str (wN o)) (.str (wN o))) = false
  | none => by decide +kernel
  | some 0 => by decide +kernel
  | some 1 => by decide +kernel
  | some 2 => by decide +kernel
  | some 3 => by decide +kernel
  | some 4 => by decide +kernel
  | some (_ + 5) => by
    show (!PyData.eqv (.str "places") (.str "places")) = false
    decide +kernel
theorem wN_none : ∀ o : Option Nat, (!PyData.eqv (.str (wN o)) (.str "none")) = o.isSome
  | none => by decide +kernel
  | some 0 => by decide +kernel
  | some 1 => by decide +kernel
  | some 2 => by decide +kernel
  | some 3 => by decide +kernel
  | some 4 => by decide +kernel
  | some (_ + 5) => by
    show (!PyData.eqv (.str "places") (.str "none")) = true
    decide +kernel
theorem due_str (w : Nat) (bs : List Bool) : atI ((((List.range (kw w).length).filter fun k => bs.getD k false).map fun k => PyData.str (kN ((kw w).getD k 0))) ++ [.str "none"]) 0 = some (.str (wN (outO w bs))) := by
  unfold outO
  cases e : (List.range (kw w).length).filter (fun k => bs.getD k false) with
  | nil => rfl
  | cons x t =>
    have h0 : atI (((x :: t).map fun k => PyData.str (kN ((kw w).getD k 0))) ++ [.str "none"]) ((0 : Nat) : Int) = some (.str (kN ((kw w).getD x 0))) := atI_nat rfl
    exact h0
theorem ok_law (T : Tx K mg) : FnOk P w K mg base CX0 10 T.a_law T.fd_law P_law (spLaw K) := by
  have G__law_bad := ok__law_bad (P := P) (w := w) (base := base) T
  have G__law_drawn := ok__law_drawn (P := P) (w := w) (base := base) T
  have G__law_jar := ok__law_jar (P := P) (w := w) (base := base) T
  have G__law_kin := ok__law_kin (P := P) (w := w) (base := base) T
  have G__law_pick := ok__law_pick (P := P) (w := w) (base := base) T
  have G__law_said := ok__law_said (P := P) (w := w) (base := base) T
  refine T.F_law.ok sc_law (fun vs H Q Ew h => by obtain ⟨a, ns, rfl, _⟩ := h; rfl) (fun cdv A outer s H vs Q Ew hr h => ?_)
  obtain ⟨a, ns, rfl, hS, hlen, k⟩ := h
  refine ⟨_, (pss_cons (ps_set (i := 1) sc_law.nd rfl (Or.inr rfl) (pe_lst (pa_cons (pe_lst (pa_cons pe_str pa_nil)) (pa_cons (pe_lst (pa_cons pe_str pa_nil)) (pa_cons (pe_lst (pa_cons pe_str (pa_cons pe_str (pa_cons pe_str pa_nil)))) (pa_cons (pe_lst (pa_cons pe_str (pa_cons pe_str pa_nil))) (pa_cons (pe_lst (pa_cons pe_str (pa_cons pe_str pa_nil))) (pa_cons (pe_lst (pa_cons pe_str pa_nil)) pa_nil))))))))
      (pss_cons (ps_for PassesOwn.never rfl (pi_range1 rfl T.z_range (pa_cons (pe_callB (call_maxQ rfl) (by rfl) T.z_max (by decide +kernel) (pa_cons pe_int (pa_cons (pe_callB (call_minQ rfl) (by rfl) T.z_min (by decide +kernel) (pa_cons (pe_callB (k_len (K := K) rfl) (by rfl) T.z_len (by decide +kernel) (pa_cons (pv 0) pa_nil)) (pa_cons pe_int pa_nil))) pa_nil))) pa_nil)) (pg_name (i := 2) sc_law.nd rfl (Or.inl rfl)) (pss_cons (ps_set (i := 3) sc_law.nd rfl (Or.inr rfl) (pe_call G__law_jar (hr.mono (by decide)) (by rfl) T.m__law_jar T.F__law_jar.kp T.b__law_jar .nil pass0 (pa_cons (pv 0) (pa_cons (pv 2) pa_nil))))
      (pss_cons (ps_asg (Cr.pe_tup (pa_cons (pe_ix (k_ix (K := K) rfl) (pe_lst (pa_cons pe_int (pa_cons pe_int (pa_cons pe_int (pa_cons pe_int (pa_cons pe_int (pa_cons pe_int (pa_cons pe_int (pa_cons pe_int pa_nil))))))))) (pe_call G__law_pick (hr.mono (by decide)) (by rfl) T.m__law_pick T.F__law_pick.kp T.b__law_pick .nil pass0 (pa_cons (pv 3) (pa_cons pe_int pa_nil))) (fun _ _ => rfl)) (pa_cons (pe_op (k_addU (K := K) rfl) pe_int (pe_call G__law_pick (hr.mono (by decide)) (by rfl) T.m__law_pick T.F__law_pick.kp T.b__law_pick .nil pass0 (pa_cons (pv 3) (pa_cons (pe_ix (k_ix (K := K) rfl) (pe_lst (pa_cons pe_int (pa_cons pe_int (pa_cons pe_int (pa_cons pe_int pa_nil))))) (pe_call G__law_pick (hr.mono (by decide)) (by rfl) T.m__law_pick T.F__law_pick.kp T.b__law_pick .nil pass0 (pa_cons (pv 3) (pa_cons pe_int pa_nil))) (fun _ _ => rfl)) pa_nil)))) pa_nil))) (k_pgTup (K := K) (n := 2) rfl rfl (pgs_cons (pg_name (i := 4) sc_law.nd rfl (Or.inr rfl)) (pgs_cons (pg_name (i := 5) sc_law.nd rfl (Or.inr rfl)) pgs_nil))))
      (pss_cons (ps_setLc (i := 6) (own := [("kind", 10)]) rfl sc_law.nd rfl rfl (sw_true rfl rfl rfl (by decide +kernel)) (k_piList (K := K) rfl (pe_ix (k_ix (K := K) rfl) (pv 1) (pv 4) (fun _ _ => rfl))) (blkOk_by (own := [("kind", 10)]) (N := N_law) (sc := defScope s_law) (by decide +kernel)) (fun _ _ _ _ _ => (pg_name (i := 10) sc_law.nd rfl (Or.inl rfl))) (fun _ _ _ _ _ => pts_nil) (fun _ _ _ _ _ => (pe_call G__law_drawn (hr.mono (by decide)) (by rfl) T.m__law_drawn T.F__law_drawn.kp T.b__law_drawn .nil pass0 (pa_cons (pv 3) (pa_cons (pv 10) (pa_cons (pv 5) pa_nil))))))
      (pss_cons (ps_set (i := 7) sc_law.nd rfl (Or.inr rfl) (pe_lc (own := [("piece", 11)]) rfl sc_law.nd (k_piList (K := K) rfl (pv 6)) (blkOk_by (own := [("piece", 11)]) (N := N_law) (sc := defScope s_law) (by decide +kernel)) (fun _ _ _ _ _ => (pg_name (i := 11) sc_law.nd rfl (Or.inl rfl))) (fun _ _ _ _ _ => pts_nil) (fun _ _ _ _ _ => (pe_cmpR (k_eqD (K := K) rfl hr.units) (pe_call G__law_pick (hr.mono (by decide)) (by rfl) T.m__law_pick T.F__law_pick.kp T.b__law_pick .nil pass0 (pa_cons (pv 3) (pa_cons pe_int pa_nil))) pe_int (nomark _)))))
      (pss_cons (ps_for PassesOwn.never rfl (pi_range1 rfl T.z_range (pa_cons (pe_callB (k_len (K := K) rfl) (by rfl) T.z_len (by decide +kernel) (pa_cons (pv 6) pa_nil)) pa_nil)) (pg_name (i := 8) sc_law.nd rfl (Or.inl rfl)) (pss_one (ps_if (pt_val (pe_ix (k_ix (K := K) rfl) (pv 7) (pv 8) (fun _ _ => rfl))) (pss_one (ps_asg (pe_call G__law_bad (hr.mono (by decide)) (by rfl) T.m__law_bad T.F__law_bad.kp T.b__law_bad .nil pass0 (pa_cons (pv 3) (pa_cons (pe_ix (k_ix (K := K) rfl) (pe_ix (k_ix (K := K) rfl) (pv 1) (pv 4) (fun _ _ => rfl)) (pv 8) (fun _ _ => rfl)) (pa_cons (pe_ix (k_ix (K := K) rfl) (pv 6) (pv 8) (fun _ _ => rfl)) (pa_cons (pv 5) pa_nil))))) (pg_sub (pv 6) (pv 8) set_list))) pss_nil)))
      (pss_cons (ps_set (i := 9) sc_law.nd rfl (Or.inl rfl) (pe_ix (k_ix (K := K) rfl) (pe_op (k_addU (K := K) rfl) (pe_lc (own := [("k", 8)]) rfl sc_law.nd (pi_range1 rfl T.z_range (pa_cons (pe_callB (k_len (K := K) rfl) (by rfl) T.z_len (by decide +kernel) (pa_cons (pv 6) pa_nil)) pa_nil)) (blkOk_by (own := [("k", 8)]) (N := N_law) (sc := defScope s_law) (by decide +kernel)) (fun _ _ _ _ _ => (pg_name (i := 8) sc_law.nd rfl (Or.inl rfl))) (fun _ _ _ _ _ => (pts_one (pt_val (pe_ix (k_ix (K := K) rfl) (pv 7) (pv 8) (fun _ _ => rfl))))) (fun _ _ _ _ _ => (pe_ix (k_ix (K := K) rfl) (pe_ix (k_ix (K := K) rfl) (pv 1) (pv 4) (fun _ _ => rfl)) (pv 8) (fun _ _ => rfl)))) (pe_lst (pa_cons pe_str pa_nil))) pe_int (fun _ _ => rfl)))
      (pss_one (ps_if (PW.pt (pw_or (pt_cmpR (k_neD (K := K) rfl hr.units) (pe_call G__law_said (hr.mono (by decide)) (by rfl) T.m__law_said T.F__law_said.kp T.b__law_said .nil pass0 (pa_cons (pv 4) (pa_cons (pv 6) (pa_cons (pe_cmpR (k_eqD (K := K) rfl hr.units) (pe_call G__law_pick (hr.mono (by decide)) (by rfl) T.m__law_pick T.F__law_pick.kp T.b__law_pick .nil pass0 (pa_cons (pv 3) (pa_cons pe_int pa_nil))) pe_int (nomark _)) pa_nil)))) (pv 9) (nomark _)) (pw_or1 (pt_cmpR (k_neD (K := K) rfl hr.units) (pe_call G__law_kin (hr.mono (by decide)) (by rfl) T.m__law_kin T.F__law_kin.kp T.b__law_kin .nil pass0 (pa_cons (pv 4) (pa_cons (pv 6) pa_nil))) (pe_cmpR (k_neD (K := K) rfl hr.units) (pv 9) pe_str (nomark _)) (nomark _))))) (pss_one (ps_ret pe_bl)) pss_nil)))))))))
      (pss_one (ps_ret pe_bl)))), ?_⟩
  have hA : At none 0 [.scr K ns, .any, .any, .any, .any, .any, .any, .any, .any, .any, .any, .any] H H (L2.start N_law [.ref a]) H H := ⟨⟨Same.refl _, fun p e => (by cases e), fun p e => (by cases e)⟩, start_sg (N := N_law) (VS.cons (s := .scr K ns) ⟨a, rfl, hS⟩ VS.nil) (by show 1 ≤ 12; decide), Gr.refl (Same.refl _)⟩
  obtain ⟨tab, etab⟩ : ∃ tab : List PyData, tab = (List.range 6).map rowD := ⟨_, rfl⟩
  have s1 : ∀ {q : Option Addr} {δ : List Sl} (x : Str), AE q δ (tCons (tC (.str x)) tNil) [.dat (.str x)] := fun x => ae_cons e_str ae_nil
  have s2 : ∀ {q : Option Addr} {δ : List Sl} (x y : Str), AE q δ (tCons (tC (.str x)) (tCons (tC (.str y)) tNil)) [.dat (.str x), .dat (.str y)] := fun x y => ae_cons e_str (ae_cons e_str ae_nil)
  have s3 : ∀ {q : Option Addr} {δ : List Sl} (x y z : Str), AE q δ (tCons (tC (.str x)) (tCons (tC (.str y)) (tCons (tC (.str z)) tNil))) [.dat (.str x), .dat (.str y), .dat (.str z)] := fun x y z => ae_cons e_str (ae_cons e_str (ae_cons e_str ae_nil))
  refine q_asgE (i := 1) (d := .list tab) (e_is (e_lst (ds := [rowD 0, rowD 1, rowD 2, rowD 3, rowD 4, rowD 5]) (ae_cons (e_lst (ds := [.str "nums"]) (s1 _)) (ae_cons (e_lst (ds := [.str "nums"]) (s1 _)) (ae_cons (e_lst (ds := [.str "nums", .str "place", .str "wide"]) (s3 _ _ _)) (ae_cons (e_lst (ds := [.str "nums", .str "places"]) (s2 _ _)) (ae_cons (e_lst (ds := [.str "size", .str "place"]) (s2 _ _)) (ae_cons (e_lst (ds := [.str "book"]) (s1 _)) ae_nil))))))) (by rw [etab]; rfl)) hA fun σ3 Hk3 H3 g3 a3 => ?_
  have row : ∀ {q : Option Addr} {δ : List Sl} {w : Nat}, w < 6 → δ[1]? = some (.dat (.list tab)) → δ[4]? = some (.dat (.int (w : Int))) → E q δ (tOp (rIx K) (tVar 1) (tVar 4)) (rowD w) := fun {q δ w} hw h1 h2 => e_iL (ds := tab) (e_var h1) (e_var h2) (atI_nat (by rw [etab, List.getElem?_map, List.getElem?_range hw]; rfl))
  refine q_for (n := 0) (c := 0) (e_ats0 rfl (by omega) (by omega)) a3 fun items HkW H10 ⟨m9, hm9, ei⟩ g10 a10 => ?_
  subst ei
  refine ⟨fun i σ' Hk' H' => Same HkW Hk' ∧ At none 0 [.scr K ns, .dat (.list tab), .any, .any, .any, .any, .any, .any, .any, .any, .any, .any] Hk' H' σ' Hk' H', ⟨Same.refl _, a10.reset⟩, fun i σ' Hk' H' h => ⟨h.1, h.2.ok.a⟩, ?_, ?_⟩
  · rintro i d σ' Hk' H' ed ⟨h2, st⟩ v Hk11 H11 g11 dv
    obtain ⟨hi, rfl⟩ := rng_get' ed
    refine gb_name (vs := [2]) (by simp) σ' Hk11 H11 v (st.sg.mono g11.k) g11.a dv _ fun σ2 sg2 _ _ => ?_
    have st2 : At none 0 [.scr K ns, .dat (.list tab), .dat (.int (0 + (i : Int))), .any, .any, .any, .any, .any, .any, .any, .any, .any] Hk11 H11 σ2 Hk11 H11 := ⟨st.ok.go g11, sg2, Gr.refl g11.a⟩
    refine q_mkJarE st2 rfl (e_var rfl) (by omega) (by omega) fun p σ12 Hk12 H12 sm12 a12 => ?_
    refine q_asgT2 (i := 4) (j := 5) (n := 99000) (c := 3) (Ψ := fun a b => ∃ x z : Int, (0 ≤ x ∧ x < 6) ∧ (1 ≤ z ∧ z ≤ 24) ∧ a = .int x ∧ b = .int z) (((aj_pair (Ψ1 := IntP fun x => 0 ≤ x ∧ x < 6) (Ψ2 := IntP fun x => 1 ≤ x ∧ x ≤ 24) (j_menu (P := fun x => 0 ≤ x ∧ x < 6) (aji_cons (e_int.is (by omega)) (aji_cons (e_int.is (by omega)) (aji_cons (e_int.is (by omega)) (aji_cons (e_int.is (by omega)) (aji_cons (e_int.is (by omega)) (aji_cons (e_int.is (by omega)) (aji_cons (e_int.is (by omega)) (aji_cons (e_int.is (by omega)) aji_nil)))))))) (by omega) (j_pick rfl e_int (by omega) (by omega))) (j_addI (c1 := 0) (c2 := 2) (P1 := fun x => x = 1) (P2 := fun x => 0 ≤ x ∧ x ≤ 23) e_int.intP ((j_pickJ (c := 1) (P := fun x => 1 ≤ x ∧ x ≤ 24) rfl ((j_menu (P := fun x => 1 ≤ x ∧ x ≤ 24) (aji_cons (e_int.is (by omega)) (aji_cons (e_int.is (by omega)) (aji_cons (e_int.is (by omega)) (aji_cons (e_int.is (by omega)) aji_nil)))) (by omega) (j_pick rfl e_int (by omega) (by omega))).cost (by omega)) fun b hb => ⟨by omega, by omega⟩).intImp (by omega) fun x ⟨b, hb, hx⟩ => by omega) fun i j hi hj => ⟨i + j, by have h1 : i = 1 := hi; have h2 : 0 ≤ j ∧ j ≤ 23 := hj; omega, rfl⟩)).imp fun sls ⟨a, b, e, ⟨x, hx, ea⟩, ⟨z, hz, eb⟩⟩ => ⟨a, b, e, x, z, hx, hz, ea, eb⟩).cost (by omega)) (a12.mono (by omega)) fun a b σ14 Hk14 H14 ⟨w0, z, hw0, hz, ea, eb⟩ g14 a14 => ?_
    subst ea; subst eb
    obtain ⟨w, rfl⟩ : ∃ w : Nat, w0 = (w : Int) := ⟨w0.toNat, by omega⟩
    have hw : w < 6 := by omega
    have hz1 : 1 ≤ z := hz.1
    have hz2 : z ≤ 40 := by omega
    have hkl := kw_len w
    refine q_newLcI (i0 := 6) (vs := [10]) (N := 3) (c1 := 2900) (n := 90000) (emb := fun k : Nat => PyData.str (kN k)) (xs := kw w) (Φi := fun j d => ∃ k, (kw w)[j]? = some k ∧ Gd z k d) ((ie_lst (row hw rfl rfl)).is rfl) hkl.2 (by omega) (fun j x hx => ⟨_, gb_name (by simp), (j_call (R := R__law_drawn) (c := 2900) (c1 := 0) (ae_adr rfl (ae_cons (e_var rfl) (ae_cons (e_var rfl) ae_nil))) fun sls e => ⟨rfl, p, x, z, rfl, kw_lt w x (List.mem_of_getElem? hx), hz1, hz2, e, rfl⟩).imp fun d h => ⟨x, hx, h⟩⟩) (a14.mono (by omega)) fun c0 es Hk15 H15 hel hds g15 a20 cl20 => ?_
    have heg : ∀ (j k : Nat) (d : PyData), (kw w)[j]? = some k → es[j]? = some d → Gd z k d := fun j k d h1 h2 => by
      obtain ⟨k', e1, e2⟩ := hds j d h2
      rw [h1] at e1
      cases e1
      exact e2
    have hne : ∃ d0 rest, es = d0 :: rest ∧ ∀ b, d0 ≠ .bool b := by
      cases hes : es with
      | nil => rw [hes] at hel; have := hkl.1; simp at hel; omega
      | cons d0 rest =>
        obtain ⟨k0, e0⟩ : ∃ k0, (kw w)[0]? = some k0 := ⟨(kw w)[0]'(by omega), List.getElem?_eq_getElem _⟩
        exact ⟨d0, rest, rfl, gd_noBool (heg 0 k0 d0 e0 (by rw [hes]; rfl))⟩
    refine q_asgCB (i := 6) (j := 7) (n := 70000) (c := 3) (ΨB := fun bs => bs.length = es.length) ((j_lcD (c := 0) (c1 := 1) (N := 3) (vs := [11]) (α := PyData) (emb := id) (Ψ := fun xs => xs = es) (Φ := BoolP fun _ => True) (ie_lst (e_var rfl)).lcd (fun xs e => by rw [e, hel]; exact hkl.2) (by omega) fun xs e x hx => ⟨_, gb_name (by simp), (j_eqDI (Φ := BoolP fun _ => True) (j_pick rfl e_int (by omega) (by omega)) e_int.intP fun i j _ _ => ⟨i == j, trivial, rfl⟩)⟩).to (by omega) fun r ⟨xs, rs, e1, e2, e3, e4⟩ => ?_) (a20.mono (by omega)) cl20 rfl hne fun bs σ21 Hk21 H21 hbl g21 a21 cl21 => ?_
    · obtain ⟨bs, ebs⟩ := bools_of e3
      exact ⟨bs, by rw [← List.length_map (f := PyData.bool), ← ebs, e2, e1], by rw [e4, ebs]⟩
    refine q_forLen a21 cl21 rfl ?_
    refine q_for (n := 70000) (c := 0) (ie_rng1 e_int (by omega) (by omega)) a21 fun items HkT H22 ei g22 a22 => ?_
    subst ei
    have hrl : (rng 0 ((es.length : Int)).toNat).length = es.length := by rw [rng_len]; exact Int.toNat_natCast _
    refine ⟨fun t σ' Hk' H' => Same HkT Hk' ∧ ∃ (e : Nat) (fs : List PyData), e + 20 * t = 70000 ∧ fs.length = es.length ∧ (∀ (j k : Nat) (d : PyData), (kw w)[j]? = some k → fs[j]? = some d → (j < t → bs.getD j false = true → Jk z k d = false ∧ Odd K d) ∧ ((j < t → bs.getD j false = false) → es[j]? = some d)) ∧ At (some p) e [.scr K ns, .dat (.list tab), .dat (.int (0 + (i : Int))), .adr p, .dat (.int (w : Int)), .dat (.int z), .adr c0, .dat (.list (bs.map .bool)), .any, .any, .any, .any] Hk12 H12 σ' Hk' H' ∧ Cell (some p) H12 Hk' H' c0 fs, ⟨Same.refl _, 70000, es, by omega, rfl, fun j k d h1 h2 => ⟨fun h => absurd h (Nat.not_lt_zero _), fun _ => h2⟩, a22, cl21.go g22⟩, fun t σ' Hk' H' h => ⟨h.1, by obtain ⟨_, e, fs, _, _, _, st, _⟩ := h; exact st.ok.a⟩, ?_, ?_⟩
    · rintro t d σ' Hk' H' ed ⟨h4, e, fs, he, hfl, hf, st4, cl4⟩ v4 Hk23 H23 g23 dv4
      obtain ⟨ht, rfl⟩ := rng_get' ed
      have ht2 : t < es.length := by rw [Int.toNat_natCast] at ht; exact ht
      refine gb_name (vs := [8]) (by simp) σ' Hk23 H23 v4 (st4.sg.mono g23.k) g23.a dv4 _ fun σ24 sg24 _ _ => ?_
      have st5 : At (some p) e _ Hk12 H12 σ24 Hk23 H23 := ⟨st4.ok.go g23, sg24, st4.gr.trans g23.none_to⟩
      have cl5 := cl4.go g23.none_to
      obtain ⟨b, eb⟩ : ∃ b, bs[t]? = some b := ⟨bs[t]'(by omega), List.getElem?_eq_getElem _⟩
      obtain ⟨k0, ek⟩ : ∃ k0, (kw w)[t]? = some k0 := ⟨(kw w)[t]'(by omega), List.getElem?_eq_getElem _⟩
      obtain ⟨d0, ed0⟩ : ∃ d0, fs[t]? = some d0 := ⟨fs[t]'(by omega), List.getElem?_eq_getElem _⟩
      have hge : Gd z k0 d0 := heg t k0 d0 ek ((hf t k0 d0 ek ed0).2 fun h => absurd h (Nat.lt_irrefl _))
      have ebd : bs.getD t false = b := by rw [List.getD_eq_getElem?_getD, eb]; rfl
      have it : ∀ {δ : List Sl}, δ[8]? = some (.dat (.int (0 + (t : Int)))) → E (some p) δ (tVar 8) (.int (t : Int)) := fun h => e_is (e_var h) (by rw [Int.zero_add])
      obtain ⟨e', ee'⟩ : ∃ e', e = e' + 20 := ⟨e - 20, by omega⟩
      refine s_ifB (b := b) (tb_B (e_iL (ds := bs.map .bool) (e_var rfl) (it rfl) (atI_nat (by rw [List.getElem?_map, eb]; rfl)))) (st5.mono (m := e' + 12) (by omega)) (fun hb Hk25 H25 g25 a25 => ?_) (fun hb Hk25 H25 g25 a25 => ?_)
      · have a25' : At (some p) (e' + 12) [.scr K ns, .dat (.list tab), .dat (.int (0 + (i : Int))), .adr p, .dat (.int (w : Int)), .dat (.int z), .adr c0, .dat (.list (bs.map .bool)), .dat (.int (t : Int)), .any, .any, .any] Hk12 H12 σ24 Hk25 H25 := by
          have h9 := a25
          rw [Int.zero_add (t : Int)] at h9
          exact h9
        refine s_putCallZ (n := e') (c := 12) (jx := 8) (j := t) (zz := 5) (R := R__law_bad K) (Φ := fun d => Jk z k0 d = false ∧ Odd K d) (db := .str (kN k0)) (e_iL (ds := (kw w).map fun k => .str (kN k)) (row hw rfl rfl) (e_var rfl) (atI_nat (by rw [List.getElem?_map, ek]; rfl))) a25' (cl5.go g25) rfl rfl rfl ed0 rfl ⟨rfl, p, k0, d0, z, rfl, kw_lt w k0 (List.mem_of_getElem? ek), hz1, hz2, hge, rfl, rfl⟩ fun d Hk26 H26 hd s26 a26 cl26 => ⟨Hk26, ((h4.trans g23.k).trans g25.k).trans s26, e', fs.set t d, by omega, by rw [List.length_set]; exact hfl, fun j k d' h1 h2 => ?_, a26.forget 8, cl26⟩
        by_cases hjt : t = j
        · subst hjt
          rw [List.getElem?_set_self (by omega)] at h2
          cases h2
          rw [ek] at h1
          cases h1
          exact ⟨fun _ _ => hd, fun h => by have := h (Nat.lt_succ_self _); rw [ebd, hb] at this; cases this⟩
        · rw [List.getElem?_set_ne hjt] at h2
          exact ⟨fun hj => (hf j k d' h1 h2).1 (by omega), fun h => (hf j k d' h1 h2).2 fun hj => h (by omega)⟩
      · refine ⟨Hk25, (h4.trans g23.k).trans g25.k, e', fs, by omega, hfl, fun j k d' h1 h2 => ?_, (a25.mono (by omega)).forget 8, cl5.go g25⟩
        by_cases hjt : t = j
        · subst hjt
          exact ⟨fun _ hbt => (by rw [ebd, hb] at hbt; cases hbt), fun _ => (hf t k d' h1 h2).2 fun h => absurd h (Nat.lt_irrefl _)⟩
        · exact ⟨fun hj => (hf j k d' h1 h2).1 (by omega), fun h => (hf j k d' h1 h2).2 fun hj => h (by omega)⟩
    · rintro σ' Hk' H' ⟨h4, e, fs, he, hfl, hf, st4, cl4⟩
      rw [hrl] at he hf
      have hkl2 : es.length ≤ 3 := by rw [hel]; exact hkl.2
      obtain ⟨Hk27, s27, a27⟩ := st4.freeze (i := 6) cl4 rfl
      have hout : OutC K z w fs (outO w bs) := by
        refine out_ok hz1 hz2 w hw fs bs (by rw [hfl]; exact hel) (by rw [hbl]; exact hel) (fun j k d h1 h2 => ?_)
        have hj : j < es.length := by rw [hel]; exact (List.getElem?_eq_some_iff.mp h1).1
        exact ⟨fun hb => (hf j k d h1 h2).1 hj hb, fun hb => heg j k d h1 ((hf j k d h1 h2).2 fun _ => hb)⟩
      refine q_asgE (i := 9) (d := .str (wN (outO w bs))) (e_iL (ds := (((List.range (kw w).length).filter fun k => bs.getD k false).map fun k => PyData.str (kN ((kw w).getD k 0))) ++ [.str "none"]) (e_catL (ds := ((List.range (kw w).length).filter fun k => bs.getD k false).map fun k => PyData.str (kN ((kw w).getD k 0))) (es := [.str "none"]) (e_lc (vs := [8]) (emb := fun k : Nat => PyData.int (0 + (k : Int))) (xs := List.range (kw w).length) ((ie_rng1 (j := ((kw w).length : Int)) (e_is (e_lenL (ds := fs) (e_var rfl)) (by rw [hfl, hel])) (by omega) (by omega)).is (by rw [Int.toNat_natCast]; rfl)) (fun k => bs.getD k false) (fun k => .str (kN ((kw w).getD k 0))) (by rw [List.length_range]; omega) fun x hx => ?_) (e_lst (ds := [.str "none"]) (s1 _)) (by
          have h1 := List.length_filter_le (fun k => bs.getD k false) (List.range (kw w).length)
          rw [List.length_range] at h1
          rw [List.length_map, List.length_singleton]; omega)) e_int (due_str w bs)) a27 fun σ28 Hk28 H28 g28 a28 => ?_
      · have hx := List.mem_range.mp hx
        obtain ⟨b, eb⟩ : ∃ b, bs[x]? = some b := ⟨bs[x]'(by omega), List.getElem?_eq_getElem _⟩
        obtain ⟨k0, ek⟩ : ∃ k0, (kw w)[x]? = some k0 := ⟨(kw w)[x]'hx, List.getElem?_eq_getElem _⟩
        refine ⟨_, gb_name (by simp), tb_is (tb_B (e_iL (ds := bs.map .bool) (e_var rfl) (e_is (e_var rfl) (d1 := .int (x : Int)) (by rw [Int.zero_add])) (atI_nat (v := PyData.bool b) (by rw [List.getElem?_map, eb]; rfl)))) (by simp [List.getD_eq_getElem?_getD, eb]), fun _ => e_iL (ds := (kw w).map fun k => .str (kN k)) (row hw rfl rfl) (e_is (e_var rfl) (d1 := .int (x : Int)) (by rw [Int.zero_add])) (atI_nat (by rw [List.getElem?_map, ek, List.getD_eq_getElem?_getD, ek]; rfl))⟩
      have wsh := wN_shaped (outO w bs)
      refine s_ifNoJ (n := 0) (c := 1) (tj_or2 (c1 := 1) (c2 := 0) (tj_test ((j_op (c1 := 1) (c2 := 0) (Φ1 := fun d => d = .str (wN (outO w bs))) (Φ2 := fun d => d = .str (wN (outO w bs))) (Φ := BoolP fun b => b = false) ((j_callD (R := R__law_said K) (c := 0) (c1 := 1) (Φa := fun sls => ∃ b : Bool, sls = [.dat (.int (w : Int)), .dat (.list fs), .dat (.bool b)]) (aj_cons (c1 := 0) (c2 := 1) (Φ1 := fun d => d = .int (w : Int)) (Φr := fun sls => ∃ b : Bool, sls = [.dat (.list fs), .dat (.bool b)]) (e_var rfl) (aj_cons (c1 := 0) (c2 := 1) (Φ1 := fun d => d = .list fs) (Φr := fun sls => ∃ b : Bool, sls = [.dat (.bool b)]) (e_var rfl) ((aj_cons (c1 := 1) (c2 := 0) (Φr := fun sls => sls = []) (j_eqDI (Φ := BoolP fun _ => True) (j_pick rfl e_int (by omega) (by omega)) e_int.intP fun i j _ _ => ⟨i == j, trivial, rfl⟩) ae_nil fun d sls ⟨b, _, ed⟩ e => ⟨b, by rw [ed, e]⟩).cost (by omega)) fun d sls ed ⟨b, e⟩ => ⟨b, by rw [ed, e]⟩) fun d sls ed ⟨b, e⟩ => ⟨b, by rw [ed, e]⟩) fun sls ⟨b, e⟩ => ⟨_, ⟨rfl, w, fs, b, outO w bs, z, hz1, hz2, hout, e, rfl⟩, fun d h => h⟩).cost (by omega)) (e_var rfl) fun x y ex ey => by subst ex; subst ey; exact rj_neD wsh wsh ⟨_, by rw [eqv_self_str], rfl⟩).cost (by omega))) (tb_is (tb_test (e_neDB (i := (outO w bs).isSome) (j := (outO w bs).isSome) (j_call (R := R__law_kin K) (c := 0) (Φ := fun d => d = .bool (outO w bs).isSome) (ae_cons (e_var rfl) (ae_cons (e_var rfl) ae_nil)) fun sls e => ⟨rfl, w, fs, outO w bs, z, hz1, hz2, hout, e, rfl⟩) (e_is (e_neD (d1 := .str (wN (outO w bs))) (d2 := .str "none") (e_var rfl) e_str wsh (by decide +kernel)) (by rw [wN_none])))) (by simp))) (a28.mono (by have h5 : e + 20 * es.length = 70000 := he; omega)) fun Hk29 H29 g29 a29 => ?_
      exact ⟨Hk29, h2.trans (g11.k.trans (sm12.trans a29.gr.k)), ((((((((a29.forget 2).forget 3).forget 4).forget 5).forget 6).forget 7).forget 8).forget 9).reset⟩
  · rintro σ' Hk' H' ⟨h2, st⟩
    refine s_retE (d := .bool true) (n := 0) (Φ1 := fun d => d = .bool true) e_bl st (Nat.le_refl _) (fun d v Hk2 H2 g o ed dv => ?_) rfl
    subst ed
    have ev := dv.blOf
    subst ev
    exact k H2
end
/-! ### what the top has left, told -/
theorem facts2 {l : PySem.W.OpenLaw} {w : World} {K : PySem.W.Frag} {h : Heap} {mg : Str → Option Value} {fa : Addr} (X : K.In h) (G : h.Ns mainGlobals mg) (hfa : mg "law" = some (.ref fa)) (c : He.SaysB faL fnL exL K) :
    ∃ fd : FuncData, (∀ (s : Shared) (v : Value), BindsTo s fd ⟨[v], []⟩ [("script", v)]) ∧ ∀ base : Heap, K.In base → base.Ns mainGlobals mg → FnOk l.prog w K mg base CX0 10 fa fd P_law (spLaw K) := by
  obtain ⟨fd0, F0⟩ : ∃ fd, FunD K "_law_jar" "_law_jar" (defArgs s__law_jar) (defBody s__law_jar) (defScope s__law_jar) [] [] (He.ga K "_law_jar") fd := c.d.def_ 0 (d := ⟨("_law_jar", none), "_law_jar", "_law_jar", defArgs s__law_jar, defBody s__law_jar, defScope s__law_jar, [], []⟩) rfl
  obtain ⟨fd1, F1⟩ : ∃ fd, FunD K "_law_gather" "_law_gather" (defArgs s__law_gather) (defBody s__law_gather) (defScope s__law_gather) [] [] (He.ga K "_law_gather") fd := c.d.def_ 1 (d := ⟨("_law_gather", none), "_law_gather", "_law_gather", defArgs s__law_gather, defBody s__law_gather, defScope s__law_gather, [], []⟩) rfl
  obtain ⟨fd2, F2⟩ : ∃ fd, FunD K "_law_pick" "_law_pick" (defArgs s__law_pick) (defBody s__law_pick) (defScope s__law_pick) [] [] (He.ga K "_law_pick") fd := c.d.def_ 2 (d := ⟨("_law_pick", none), "_law_pick", "_law_pick", defArgs s__law_pick, defBody s__law_pick, defScope s__law_pick, [], []⟩) rfl
  obtain ⟨fd3, F3⟩ : ∃ fd, FunD K "_law_amount" "_law_amount" (defArgs s__law_amount) (defBody s__law_amount) (defScope s__law_amount) [] [] (He.ga K "_law_amount") fd := c.d.def_ 3 (d := ⟨("_law_amount", none), "_law_amount", "_law_amount", defArgs s__law_amount, defBody s__law_amount, defScope s__law_amount, [], []⟩) rfl
  obtain ⟨fd4, F4⟩ : ∃ fd, FunD K "_law_book" "_law_book" (defArgs s__law_book) (defBody s__law_book) (defScope s__law_book) [] [] (He.ga K "_law_book") fd := c.d.def_ 4 (d := ⟨("_law_book", none), "_law_book", "_law_book", defArgs s__law_book, defBody s__law_book, defScope s__law_book, [], []⟩) rfl
  obtain ⟨fd5, F5⟩ : ∃ fd, FunD K "_law_any" "_law_any" (defArgs s__law_any) (defBody s__law_any) (defScope s__law_any) [] [] (He.ga K "_law_any") fd := c.d.def_ 5 (d := ⟨("_law_any", none), "_law_any", "_law_any", defArgs s__law_any, defBody s__law_any, defScope s__law_any, [], []⟩) rfl
  obtain ⟨fd6, F6⟩ : ∃ fd, FunD K "_law_numbers" "_law_numbers" (defArgs s__law_numbers) (defBody s__law_numbers) (defScope s__law_numbers) [] [] (He.ga K "_law_numbers") fd := c.d.def_ 6 (d := ⟨("_law_numbers", none), "_law_numbers", "_law_numbers", defArgs s__law_numbers, defBody s__law_numbers, defScope s__law_numbers, [], []⟩) rfl
  obtain ⟨fd7, F7⟩ : ∃ fd, FunD K "_law_wide" "_law_wide" (defArgs s__law_wide) (defBody s__law_wide) (defScope s__law_wide) [] [] (He.ga K "_law_wide") fd := c.d.def_ 7 (d := ⟨("_law_wide", none), "_law_wide", "_law_wide", defArgs s__law_wide, defBody s__law_wide, defScope s__law_wide, [], []⟩) rfl
  obtain ⟨fd8, F8⟩ : ∃ fd, FunD K "_law_drawn" "_law_drawn" (defArgs s__law_drawn) (defBody s__law_drawn) (defScope s__law_drawn) [] [] (He.ga K "_law_drawn") fd := c.d.def_ 8 (d := ⟨("_law_drawn", none), "_law_drawn", "_law_drawn", defArgs s__law_drawn, defBody s__law_drawn, defScope s__law_drawn, [], []⟩) rfl
  obtain ⟨fd9, F9⟩ : ∃ fd, FunD K "_law_odd" "_law_odd" (defArgs s__law_odd) (defBody s__law_odd) (defScope s__law_odd) [] [] (He.ga K "_law_odd") fd := c.d.def_ 9 (d := ⟨("_law_odd", none), "_law_odd", "_law_odd", defArgs s__law_odd, defBody s__law_odd, defScope s__law_odd, [], []⟩) rfl
  obtain ⟨fd10, F10⟩ : ∃ fd, FunD K "_law_no_number" "_law_no_number" (defArgs s__law_no_number) (defBody s__law_no_number) (defScope s__law_no_number) [] [] (He.ga K "_law_no_number") fd := c.d.def_ 10 (d := ⟨("_law_no_number", none), "_law_no_number", "_law_no_number", defArgs s__law_no_number, defBody s__law_no_number, defScope s__law_no_number, [], []⟩) rfl
  obtain ⟨fd11, F11⟩ : ∃ fd, FunD K "_law_no_places" "_law_no_places" (defArgs s__law_no_places) (defBody s__law_no_places) (defScope s__law_no_places) [] [] (He.ga K "_law_no_places") fd := c.d.def_ 11 (d := ⟨("_law_no_places", none), "_law_no_places", "_law_no_places", defArgs s__law_no_places, defBody s__law_no_places, defScope s__law_no_places, [], []⟩) rfl
  obtain ⟨fd12, F12⟩ : ∃ fd, FunD K "_law_no_book" "_law_no_book" (defArgs s__law_no_book) (defBody s__law_no_book) (defScope s__law_no_book) [] [] (He.ga K "_law_no_book") fd := c.d.def_ 12 (d := ⟨("_law_no_book", none), "_law_no_book", "_law_no_book", defArgs s__law_no_book, defBody s__law_no_book, defScope s__law_no_book, [], []⟩) rfl
  obtain ⟨fd13, F13⟩ : ∃ fd, FunD K "is_an_integer" "is_an_integer" (defArgs s_is_an_integer) (defBody s_is_an_integer) (defScope s_is_an_integer) [] [] (He.ga K "is_an_integer") fd := c.d.def_ 13 (d := ⟨("is_an_integer", none), "is_an_integer", "is_an_integer", defArgs s_is_an_integer, defBody s_is_an_integer, defScope s_is_an_integer, [], []⟩) rfl
  obtain ⟨fd14, F14⟩ : ∃ fd, FunD K "is_change" "is_change" (defArgs s_is_change) (defBody s_is_change) (defScope s_is_change) [] [] (He.ga K "is_change") fd := c.d.def_ 14 (d := ⟨("is_change", none), "is_change", "is_change", defArgs s_is_change, defBody s_is_change, defScope s_is_change, [], []⟩) rfl
  obtain ⟨fd15, F15⟩ : ∃ fd, FunD K "is_ledger" "is_ledger" (defArgs s_is_ledger) (defBody s_is_ledger) (defScope s_is_ledger) [] [] (He.ga K "is_ledger") fd := c.d.def_ 15 (d := ⟨("is_ledger", none), "is_ledger", "is_ledger", defArgs s_is_ledger, defBody s_is_ledger, defScope s_is_ledger, [], []⟩) rfl
  obtain ⟨fd16, F16⟩ : ∃ fd, FunD K "check_ledger" "check_ledger" (defArgs s_check_ledger) (defBody s_check_ledger) (defScope s_check_ledger) [] [] (He.ga K "check_ledger") fd := c.d.def_ 16 (d := ⟨("check_ledger", none), "check_ledger", "check_ledger", defArgs s_check_ledger, defBody s_check_ledger, defScope s_check_ledger, [], []⟩) rfl
  obtain ⟨fd17, F17⟩ : ∃ fd, FunD K "__init__" "Ledger.__init__" (defArgs s_Ledger__init__) (defBody s_Ledger__init__) (defScope s_Ledger__init__) [.ref (He.dflAt ("Ledger", some "__init__") 0 K)] [] (He.ma K (He.ga K "Ledger") "__init__") fd := c.d.def_ 17 (d := ⟨("Ledger", some "__init__"), "__init__", "Ledger.__init__", defArgs s_Ledger__init__, defBody s_Ledger__init__, defScope s_Ledger__init__, [.adr (He.dflAt ("Ledger", some "__init__") 0)], []⟩) rfl
  obtain ⟨fd18, F18⟩ : ∃ fd, FunD K "_law_no_numbers" "_law_no_numbers" (defArgs s__law_no_numbers) (defBody s__law_no_numbers) (defScope s__law_no_numbers) [] [] (He.ga K "_law_no_numbers") fd := c.d.def_ 18 (d := ⟨("_law_no_numbers", none), "_law_no_numbers", "_law_no_numbers", defArgs s__law_no_numbers, defBody s__law_no_numbers, defScope s__law_no_numbers, [], []⟩) rfl
  obtain ⟨fd19, F19⟩ : ∃ fd, FunD K "is_sums" "is_sums" (defArgs s_is_sums) (defBody s_is_sums) (defScope s_is_sums) [] [] (He.ga K "is_sums") fd := c.d.def_ 19 (d := ⟨("is_sums", none), "is_sums", "is_sums", defArgs s_is_sums, defBody s_is_sums, defScope s_is_sums, [], []⟩) rfl
  obtain ⟨fd20, F20⟩ : ∃ fd, FunD K "check_sums" "check_sums" (defArgs s_check_sums) (defBody s_check_sums) (defScope s_check_sums) [] [] (He.ga K "check_sums") fd := c.d.def_ 20 (d := ⟨("check_sums", none), "check_sums", "check_sums", defArgs s_check_sums, defBody s_check_sums, defScope s_check_sums, [], []⟩) rfl
  obtain ⟨fd21, F21⟩ : ∃ fd, FunD K "__init__" "Sums.__init__" (defArgs s_Sums__init__) (defBody s_Sums__init__) (defScope s_Sums__init__) [] [] (He.ma K (He.ga K "Sums") "__init__") fd := c.d.def_ 21 (d := ⟨("Sums", some "__init__"), "__init__", "Sums.__init__", defArgs s_Sums__init__, defBody s_Sums__init__, defScope s_Sums__init__, [], []⟩) rfl
  obtain ⟨fd22, F22⟩ : ∃ fd, FunD K "_law_bad" "_law_bad" (defArgs s__law_bad) (defBody s__law_bad) (defScope s__law_bad) [] [] (He.ga K "_law_bad") fd := c.d.def_ 22 (d := ⟨("_law_bad", none), "_law_bad", "_law_bad", defArgs s__law_bad, defBody s__law_bad, defScope s__law_bad, [], []⟩) rfl
  obtain ⟨fd23, F23⟩ : ∃ fd, FunD K "convolved" "convolved" (defArgs s_convolved) (defBody s_convolved) (defScope s_convolved) [] [] (He.ga K "convolved") fd := c.d.def_ 23 (d := ⟨("convolved", none), "convolved", "convolved", defArgs s_convolved, defBody s_convolved, defScope s_convolved, [], []⟩) rfl
  obtain ⟨fd24, F24⟩ : ∃ fd, FunD K "from_roots" "from_roots" (defArgs s_from_roots) (defBody s_from_roots) (defScope s_from_roots) [] [] (He.ga K "from_roots") fd := c.d.def_ 24 (d := ⟨("from_roots", none), "from_roots", "from_roots", defArgs s_from_roots, defBody s_from_roots, defScope s_from_roots, [], []⟩) rfl
  obtain ⟨fd25, F25⟩ : ∃ fd, FunD K "divided" "divided" (defArgs s_divided) (defBody s_divided) (defScope s_divided) [] [] (He.ga K "divided") fd := c.d.def_ 25 (d := ⟨("divided", none), "divided", "divided", defArgs s_divided, defBody s_divided, defScope s_divided, [], []⟩) rfl
  obtain ⟨fd26, F26⟩ : ∃ fd, FunD K "value_of" "value_of" (defArgs s_value_of) (defBody s_value_of) (defScope s_value_of) [] [] (He.ga K "value_of") fd := c.d.def_ 26 (d := ⟨("value_of", none), "value_of", "value_of", defArgs s_value_of, defBody s_value_of, defScope s_value_of, [], []⟩) rfl
  obtain ⟨fd27, F27⟩ : ∃ fd, FunD K "fractions_at" "fractions_at" (defArgs s_fractions_at) (defBody s_fractions_at) (defScope s_fractions_at) [] [] (He.ga K "fractions_at") fd := c.d.def_ 27 (d := ⟨("fractions_at", none), "fractions_at", "fractions_at", defArgs s_fractions_at, defBody s_fractions_at, defScope s_fractions_at, [], []⟩) rfl
  obtain ⟨fd28, F28⟩ : ∃ fd, FunD K "first_sums" "first_sums" (defArgs s_first_sums) (defBody s_first_sums) (defScope s_first_sums) [] [] (He.ga K "first_sums") fd := c.d.def_ 28 (d := ⟨("first_sums", none), "first_sums", "first_sums", defArgs s_first_sums, defBody s_first_sums, defScope s_first_sums, [], []⟩) rfl
  obtain ⟨fd29, F29⟩ : ∃ fd, FunD K "only_ledger" "only_ledger" (defArgs s_only_ledger) (defBody s_only_ledger) (defScope s_only_ledger) [] [] (He.ga K "only_ledger") fd := c.d.def_ 29 (d := ⟨("only_ledger", none), "only_ledger", "only_ledger", defArgs s_only_ledger, defBody s_only_ledger, defScope s_only_ledger, [], []⟩) rfl
  obtain ⟨fd30, F30⟩ : ∃ fd, FunD K "ledger_in_span" "ledger_in_span" (defArgs s_ledger_in_span) (defBody s_ledger_in_span) (defScope s_ledger_in_span) [] [] (He.ga K "ledger_in_span") fd := c.d.def_ 30 (d := ⟨("ledger_in_span", none), "ledger_in_span", "ledger_in_span", defArgs s_ledger_in_span, defBody s_ledger_in_span, defScope s_ledger_in_span, [], []⟩) rfl
  obtain ⟨fd31, F31⟩ : ∃ fd, FunD K "brief" "brief" (defArgs s_brief) (defBody s_brief) (defScope s_brief) [] [] (He.ga K "brief") fd := c.d.def_ 31 (d := ⟨("brief", none), "brief", "brief", defArgs s_brief, defBody s_brief, defScope s_brief, [], []⟩) rfl
  obtain ⟨fd32, F32⟩ : ∃ fd, FunD K "is_made" "is_made" (defArgs s_is_made) (defBody s_is_made) (defScope s_is_made) [] [] (He.ga K "is_made") fd := c.d.def_ 32 (d := ⟨("is_made", none), "is_made", "is_made", defArgs s_is_made, defBody s_is_made, defScope s_is_made, [], []⟩) rfl
  obtain ⟨fd33, F33⟩ : ∃ fd, FunD K "check_key" "check_key" (defArgs s_check_key) (defBody s_check_key) (defScope s_check_key) [] [] (He.ga K "check_key") fd := c.d.def_ 33 (d := ⟨("check_key", none), "check_key", "check_key", defArgs s_check_key, defBody s_check_key, defScope s_check_key, [], []⟩) rfl
  obtain ⟨fd34, F34⟩ : ∃ fd, FunD K "in_span" "in_span" (defArgs s_in_span) (defBody s_in_span) (defScope s_in_span) [] [] (He.ga K "in_span") fd := c.d.def_ 34 (d := ⟨("in_span", none), "in_span", "in_span", defArgs s_in_span, defBody s_in_span, defScope s_in_span, [], []⟩) rfl
  obtain ⟨fd35, F35⟩ : ∃ fd, FunD K "are_keys" "are_keys" (defArgs s_are_keys) (defBody s_are_keys) (defScope s_are_keys) [] [] (He.ga K "are_keys") fd := c.d.def_ 35 (d := ⟨("are_keys", none), "are_keys", "are_keys", defArgs s_are_keys, defBody s_are_keys, defScope s_are_keys, [], []⟩) rfl
  obtain ⟨fd36, F36⟩ : ∃ fd, FunD K "check_keys" "check_keys" (defArgs s_check_keys) (defBody s_check_keys) (defScope s_check_keys) [] [] (He.ga K "check_keys") fd := c.d.def_ 36 (d := ⟨("check_keys", none), "check_keys", "check_keys", defArgs s_check_keys, defBody s_check_keys, defScope s_check_keys, [], []⟩) rfl
  obtain ⟨fd37, F37⟩ : ∃ fd, FunD K "on_keys" "on_keys" (defArgs s_on_keys) (defBody s_on_keys) (defScope s_on_keys) [] [] (He.ga K "on_keys") fd := c.d.def_ 37 (d := ⟨("on_keys", none), "on_keys", "on_keys", defArgs s_on_keys, defBody s_on_keys, defScope s_on_keys, [], []⟩) rfl
  obtain ⟨fd38, F38⟩ : ∃ fd, FunD K "is_from" "is_from" (defArgs s_is_from) (defBody s_is_from) (defScope s_is_from) [] [] (He.ga K "is_from") fd := c.d.def_ 38 (d := ⟨("is_from", none), "is_from", "is_from", defArgs s_is_from, defBody s_is_from, defScope s_is_from, [], []⟩) rfl
  obtain ⟨fd39, F39⟩ : ∃ fd, FunD K "check_number" "check_number" (defArgs s_check_number) (defBody s_check_number) (defScope s_check_number) [] [] (He.ga K "check_number") fd := c.d.def_ 39 (d := ⟨("check_number", none), "check_number", "check_number", defArgs s_check_number, defBody s_check_number, defScope s_check_number, [], []⟩) rfl
  obtain ⟨fd40, F40⟩ : ∃ fd, FunD K "least_blind" "least_blind" (defArgs s_least_blind) (defBody s_least_blind) (defScope s_least_blind) [] [] (He.ga K "least_blind") fd := c.d.def_ 40 (d := ⟨("least_blind", none), "least_blind", "least_blind", defArgs s_least_blind, defBody s_least_blind, defScope s_least_blind, [], []⟩) rfl
  obtain ⟨fd41, F41⟩ : ∃ fd, FunD K "first_apart" "first_apart" (defArgs s_first_apart) (defBody s_first_apart) (defScope s_first_apart) [] [] (He.ga K "first_apart") fd := c.d.def_ 41 (d := ⟨("first_apart", none), "first_apart", "first_apart", defArgs s_first_apart, defBody s_first_apart, defScope s_first_apart, [], []⟩) rfl
  obtain ⟨fd42, F42⟩ : ∃ fd, FunD K "without_step" "without_step" (defArgs s_without_step) (defBody s_without_step) (defScope s_without_step) [] [] (He.ga K "without_step") fd := c.d.def_ 42 (d := ⟨("without_step", none), "without_step", "without_step", defArgs s_without_step, defBody s_without_step, defScope s_without_step, [], []⟩) rfl
  obtain ⟨fd43, F43⟩ : ∃ fd, FunD K "cleared" "cleared" (defArgs s_cleared) (defBody s_cleared) (defScope s_cleared) [] [] (He.ga K "cleared") fd := c.d.def_ 43 (d := ⟨("cleared", none), "cleared", "cleared", defArgs s_cleared, defBody s_cleared, defScope s_cleared, [], []⟩) rfl
  obtain ⟨fd44, F44⟩ : ∃ fd, FunD K "_law_call" "_law_call" (defArgs s__law_call) (defBody s__law_call) (defScope s__law_call) [] [] (He.ga K "_law_call") fd := c.d.def_ 44 (d := ⟨("_law_call", none), "_law_call", "_law_call", defArgs s__law_call, defBody s__law_call, defScope s__law_call, [], []⟩) rfl
  obtain ⟨fd45, F45⟩ : ∃ fd, FunD K "_law_said" "_law_said" (defArgs s__law_said) (defBody s__law_said) (defScope s__law_said) [] [] (He.ga K "_law_said") fd := c.d.def_ 45 (d := ⟨("_law_said", none), "_law_said", "_law_said", defArgs s__law_said, defBody s__law_said, defScope s__law_said, [], []⟩) rfl
  obtain ⟨fd46, F46⟩ : ∃ fd, FunD K "_law_kin" "_law_kin" (defArgs s__law_kin) (defBody s__law_kin) (defScope s__law_kin) [] [] (He.ga K "_law_kin") fd := c.d.def_ 46 (d := ⟨("_law_kin", none), "_law_kin", "_law_kin", defArgs s__law_kin, defBody s__law_kin, defScope s__law_kin, [], []⟩) rfl
  obtain ⟨fd47, F47⟩ : ∃ fd, FunD K "law" "law" (defArgs s_law) (defBody s_law) (defScope s_law) [] [] (He.ga K "law") fd := c.d.def_ 47 (d := ⟨("law", none), "law", "law", defArgs s_law, defBody s_law, defScope s_law, [], []⟩) rfl
  have e := hfa.symm.trans (He.glo_ok X G (c.d.fact 53 (f := .glo "law") rfl))
  cases e
  have bl := FunD.bindsA (ps := ["script"]) F47 fun _ _ _ _ _ _ us hl => match us, hl with | [_], _ => rfl
  exact ⟨_, fun s v => bl s [v] rfl, fun base _ _ => ok_law (T := {
    a__law_jar := He.ga K "_law_jar", fd__law_jar := _, F__law_jar := fun_of F0, b__law_jar := (fun_of F0).binds (ps := P__law_jar) fun _ _ _ _ _ _ us hl => match us, hl with | [_, _], _ => rfl, m__law_jar := He.glo_ok X G (c.d.fact 0 (f := .glo "_law_jar") rfl),
    a__law_gather := He.ga K "_law_gather", fd__law_gather := _, F__law_gather := fun_of F1, b__law_gather := (fun_of F1).binds (ps := P__law_gather) fun _ _ _ _ _ _ us hl => match us, hl with | [_], _ => rfl, m__law_gather := He.glo_ok X G (c.d.fact 1 (f := .glo "_law_gather") rfl),
    a__law_pick := He.ga K "_law_pick", fd__law_pick := _, F__law_pick := fun_of F2, b__law_pick := (fun_of F2).binds (ps := P__law_pick) fun _ _ _ _ _ _ us hl => match us, hl with | [_, _], _ => rfl, m__law_pick := He.glo_ok X G (c.d.fact 2 (f := .glo "_law_pick") rfl),
    a__law_amount := He.ga K "_law_amount", fd__law_amount := _, F__law_amount := fun_of F3, b__law_amount := (fun_of F3).binds (ps := P__law_amount) fun _ _ _ _ _ _ us hl => match us, hl with | [_, _], _ => rfl, m__law_amount := He.glo_ok X G (c.d.fact 3 (f := .glo "_law_amount") rfl),
    a__law_book := He.ga K "_law_book", fd__law_book := _, F__law_book := fun_of F4, b__law_book := (fun_of F4).binds (ps := P__law_book) fun _ _ _ _ _ _ us hl => match us, hl with | [_, _, _, _], _ => rfl, m__law_book := He.glo_ok X G (c.d.fact 4 (f := .glo "_law_book") rfl),
    a__law_any := He.ga K "_law_any", fd__law_any := _, F__law_any := fun_of F5, b__law_any := (fun_of F5).binds (ps := P__law_any) fun _ _ _ _ _ _ us hl => match us, hl with | [_, _], _ => rfl, m__law_any := He.glo_ok X G (c.d.fact 5 (f := .glo "_law_any") rfl),
    a__law_numbers := He.ga K "_law_numbers", fd__law_numbers := _, F__law_numbers := fun_of F6, b__law_numbers := (fun_of F6).binds (ps := P__law_numbers) fun _ _ _ _ _ _ us hl => match us, hl with | [_, _, _], _ => rfl, m__law_numbers := He.glo_ok X G (c.d.fact 6 (f := .glo "_law_numbers") rfl),
    a__law_wide := He.ga K "_law_wide", fd__law_wide := _, F__law_wide := fun_of F7, b__law_wide := (fun_of F7).binds (ps := P__law_wide) fun _ _ _ _ _ _ us hl => match us, hl with | [_], _ => rfl, m__law_wide := He.glo_ok X G (c.d.fact 7 (f := .glo "_law_wide") rfl),
    a__law_drawn := He.ga K "_law_drawn", fd__law_drawn := _, F__law_drawn := fun_of F8, b__law_drawn := (fun_of F8).binds (ps := P__law_drawn) fun _ _ _ _ _ _ us hl => match us, hl with | [_, _, _], _ => rfl, m__law_drawn := He.glo_ok X G (c.d.fact 8 (f := .glo "_law_drawn") rfl),
    a__law_odd := He.ga K "_law_odd", fd__law_odd := _, F__law_odd := fun_of F9, b__law_odd := (fun_of F9).binds (ps := P__law_odd) fun _ _ _ _ _ _ us hl => match us, hl with | [_], _ => rfl, m__law_odd := He.glo_ok X G (c.d.fact 9 (f := .glo "_law_odd") rfl),
    a__law_no_number := He.ga K "_law_no_number", fd__law_no_number := _, F__law_no_number := fun_of F10, b__law_no_number := (fun_of F10).binds (ps := P__law_no_number) fun _ _ _ _ _ _ us hl => match us, hl with | [_, _], _ => rfl, m__law_no_number := He.glo_ok X G (c.d.fact 10 (f := .glo "_law_no_number") rfl),
    a__law_no_places := He.ga K "_law_no_places", fd__law_no_places := _, F__law_no_places := fun_of F11, b__law_no_places := (fun_of F11).binds (ps := P__law_no_places) fun _ _ _ _ _ _ us hl => match us, hl with | [_, _, _], _ => rfl, m__law_no_places := He.glo_ok X G (c.d.fact 11 (f := .glo "_law_no_places") rfl),
    a__law_no_book := He.ga K "_law_no_book", fd__law_no_book := _, F__law_no_book := fun_of F12, b__law_no_book := (fun_of F12).binds (ps := P__law_no_book) fun _ _ _ _ _ _ us hl => match us, hl with | [_, _], _ => rfl, m__law_no_book := He.glo_ok X G (c.d.fact 12 (f := .glo "_law_no_book") rfl),
    a_is_an_integer := He.ga K "is_an_integer", fd_is_an_integer := _, F_is_an_integer := fun_of F13, b_is_an_integer := (fun_of F13).binds (ps := P_is_an_integer) fun _ _ _ _ _ _ us hl => match us, hl with | [_], _ => rfl, m_is_an_integer := He.glo_ok X G (c.d.fact 13 (f := .glo "is_an_integer") rfl),
    a_is_change := He.ga K "is_change", fd_is_change := _, F_is_change := fun_of F14, b_is_change := (fun_of F14).binds (ps := P_is_change) fun _ _ _ _ _ _ us hl => match us, hl with | [_], _ => rfl, m_is_change := He.glo_ok X G (c.d.fact 14 (f := .glo "is_change") rfl),
    a_is_ledger := He.ga K "is_ledger", fd_is_ledger := _, F_is_ledger := fun_of F15, b_is_ledger := (fun_of F15).binds (ps := P_is_ledger) fun _ _ _ _ _ _ us hl => match us, hl with | [_], _ => rfl, m_is_ledger := He.glo_ok X G (c.d.fact 15 (f := .glo "is_ledger") rfl),
    a_check_ledger := He.ga K "check_ledger", fd_check_ledger := _, F_check_ledger := fun_of F16, b_check_ledger := (fun_of F16).binds (ps := P_check_ledger) fun _ _ _ _ _ _ us hl => match us, hl with | [_], _ => rfl, m_check_ledger := He.glo_ok X G (c.d.fact 16 (f := .glo "check_ledger") rfl),
    a_Ledger__init__ := _, fd_Ledger__init__ := _, F_Ledger__init__ := funV_of F17, b_Ledger__init__ := binds_of1 F17 fun _ _ _ _ _ _ _ us its hl hi => match us, hl, its, hi with | [_, _], _, [_], _ => ⟨_, rfl, rfl⟩,
    C_Ledger := He.ga K "Ledger", M_Ledger := He.mkr_ok (c.d.fact 18 (f := .mkr "Ledger") rfl), m_Ledger := He.glo_ok X G (c.d.fact 17 (f := .glo "Ledger") rfl), cl_Ledger := He.cls_ok (c.d.fact 19 (f := .cls "Ledger") rfl), n_Ledger := He.noat_ok (c.d.fact 20 (f := .noat "Ledger" "_pairs") rfl), I_Ledger := ⟨(He.eqO_ok (c.ex 0 rfl)), (He.eqO_ok (c.ex 8 rfl)), (of_decide_eq_true (c.ex 9 rfl)), (of_decide_eq_true (c.ex 1 rfl)), kit_no (of_decide_eq_true (c.ex 2 rfl)), kit_noI (of_decide_eq_true (c.ex 3 rfl))⟩,
    a__law_no_numbers := He.ga K "_law_no_numbers", fd__law_no_numbers := _, F__law_no_numbers := fun_of F18, b__law_no_numbers := (fun_of F18).binds (ps := P__law_no_numbers) fun _ _ _ _ _ _ us hl => match us, hl with | [_, _], _ => rfl, m__law_no_numbers := He.glo_ok X G (c.d.fact 21 (f := .glo "_law_no_numbers") rfl),
    a_is_sums := He.ga K "is_sums", fd_is_sums := _, F_is_sums := fun_of F19, b_is_sums := (fun_of F19).binds (ps := P_is_sums) fun _ _ _ _ _ _ us hl => match us, hl with | [_], _ => rfl, m_is_sums := He.glo_ok X G (c.d.fact 22 (f := .glo "is_sums") rfl),
    a_check_sums := He.ga K "check_sums", fd_check_sums := _, F_check_sums := fun_of F20, b_check_sums := (fun_of F20).binds (ps := P_check_sums) fun _ _ _ _ _ _ us hl => match us, hl with | [_], _ => rfl, m_check_sums := He.glo_ok X G (c.d.fact 23 (f := .glo "check_sums") rfl),
    a_Sums__init__ := _, fd_Sums__init__ := _, F_Sums__init__ := funV_of F21, b_Sums__init__ := (fun_of F21).binds (ps := P_Sums__init__) fun _ _ _ _ _ _ us hl => match us, hl with | [_, _], _ => rfl,
    C_Sums := He.ga K "Sums", M_Sums := He.mkr_ok (c.d.fact 25 (f := .mkr "Sums") rfl), m_Sums := He.glo_ok X G (c.d.fact 24 (f := .glo "Sums") rfl), cl_Sums := He.cls_ok (c.d.fact 26 (f := .cls "Sums") rfl), n_Sums := He.noat_ok (c.d.fact 27 (f := .noat "Sums" "_numbers") rfl), I_Sums := ⟨(He.eqO_ok (c.ex 4 rfl)), (He.eqO_ok (c.ex 8 rfl)), (of_decide_eq_true (c.ex 9 rfl)), (of_decide_eq_true (c.ex 5 rfl)), kit_no (of_decide_eq_true (c.ex 6 rfl)), kit_noI (of_decide_eq_true (c.ex 7 rfl))⟩,
    a__law_bad := He.ga K "_law_bad", fd__law_bad := _, F__law_bad := fun_of F22, b__law_bad := (fun_of F22).binds (ps := P__law_bad) fun _ _ _ _ _ _ us hl => match us, hl with | [_, _, _, _], _ => rfl, m__law_bad := He.glo_ok X G (c.d.fact 28 (f := .glo "_law_bad") rfl),
    a_convolved := He.ga K "convolved", fd_convolved := _, F_convolved := fun_of F23, b_convolved := (fun_of F23).binds (ps := P_convolved) fun _ _ _ _ _ _ us hl => match us, hl with | [_, _], _ => rfl, m_convolved := He.glo_ok X G (c.d.fact 29 (f := .glo "convolved") rfl),
    a_from_roots := He.ga K "from_roots", fd_from_roots := _, F_from_roots := fun_of F24, b_from_roots := (fun_of F24).binds (ps := P_from_roots) fun _ _ _ _ _ _ us hl => match us, hl with | [_], _ => rfl, m_from_roots := He.glo_ok X G (c.d.fact 30 (f := .glo "from_roots") rfl),
    a_divided := He.ga K "divided", fd_divided := _, F_divided := fun_of F25, b_divided := (fun_of F25).binds (ps := P_divided) fun _ _ _ _ _ _ us hl => match us, hl with | [_, _], _ => rfl, m_divided := He.glo_ok X G (c.d.fact 31 (f := .glo "divided") rfl),
    a_value_of := He.ga K "value_of", fd_value_of := _, F_value_of := fun_of F26, b_value_of := (fun_of F26).binds (ps := P_value_of) fun _ _ _ _ _ _ us hl => match us, hl with | [_, _], _ => rfl, m_value_of := He.glo_ok X G (c.d.fact 32 (f := .glo "value_of") rfl),
    a_fractions_at := He.ga K "fractions_at", fd_fractions_at := _, F_fractions_at := fun_of F27, b_fractions_at := (fun_of F27).binds (ps := P_fractions_at) fun _ _ _ _ _ _ us hl => match us, hl with | [_, _], _ => rfl, m_fractions_at := He.glo_ok X G (c.d.fact 33 (f := .glo "fractions_at") rfl),
    a_first_sums := He.ga K "first_sums", fd_first_sums := _, F_first_sums := fun_of F28, b_first_sums := (fun_of F28).binds (ps := P_first_sums) fun _ _ _ _ _ _ us hl => match us, hl with | [_, _], _ => rfl, m_first_sums := He.glo_ok X G (c.d.fact 34 (f := .glo "first_sums") rfl),
    a_only_ledger := He.ga K "only_ledger", fd_only_ledger := _, F_only_ledger := fun_of F29, b_only_ledger := (fun_of F29).binds (ps := P_only_ledger) fun _ _ _ _ _ _ us hl => match us, hl with | [_, _], _ => rfl, m_only_ledger := He.glo_ok X G (c.d.fact 35 (f := .glo "only_ledger") rfl),
    a_ledger_in_span := He.ga K "ledger_in_span", fd_ledger_in_span := _, F_ledger_in_span := fun_of F30, b_ledger_in_span := (fun_of F30).binds (ps := P_ledger_in_span) fun _ _ _ _ _ _ us hl => match us, hl with | [_, _, _], _ => rfl, m_ledger_in_span := He.glo_ok X G (c.d.fact 36 (f := .glo "ledger_in_span") rfl),
    a_brief := He.ga K "brief", fd_brief := _, F_brief := fun_of F31, b_brief := (fun_of F31).binds (ps := P_brief) fun _ _ _ _ _ _ us hl => match us, hl with | [_], _ => rfl, m_brief := He.glo_ok X G (c.d.fact 37 (f := .glo "brief") rfl),
    a_is_made := He.ga K "is_made", fd_is_made := _, F_is_made := fun_of F32, b_is_made := (fun_of F32).binds (ps := P_is_made) fun _ _ _ _ _ _ us hl => match us, hl with | [_], _ => rfl, m_is_made := He.glo_ok X G (c.d.fact 38 (f := .glo "is_made") rfl),
    a_check_key := He.ga K "check_key", fd_check_key := _, F_check_key := fun_of F33, b_check_key := (fun_of F33).binds (ps := P_check_key) fun _ _ _ _ _ _ us hl => match us, hl with | [_], _ => rfl, m_check_key := He.glo_ok X G (c.d.fact 39 (f := .glo "check_key") rfl),
    a_in_span := He.ga K "in_span", fd_in_span := _, F_in_span := fun_of F34, b_in_span := (fun_of F34).binds (ps := P_in_span) fun _ _ _ _ _ _ us hl => match us, hl with | [_, _, _], _ => rfl, m_in_span := He.glo_ok X G (c.d.fact 40 (f := .glo "in_span") rfl),
    a_are_keys := He.ga K "are_keys", fd_are_keys := _, F_are_keys := fun_of F35, b_are_keys := (fun_of F35).binds (ps := P_are_keys) fun _ _ _ _ _ _ us hl => match us, hl with | [_], _ => rfl, m_are_keys := He.glo_ok X G (c.d.fact 41 (f := .glo "are_keys") rfl),
    a_check_keys := He.ga K "check_keys", fd_check_keys := _, F_check_keys := fun_of F36, b_check_keys := (fun_of F36).binds (ps := P_check_keys) fun _ _ _ _ _ _ us hl => match us, hl with | [_, _], _ => rfl, m_check_keys := He.glo_ok X G (c.d.fact 42 (f := .glo "check_keys") rfl),
    a_on_keys := He.ga K "on_keys", fd_on_keys := _, F_on_keys := fun_of F37, b_on_keys := (fun_of F37).binds (ps := P_on_keys) fun _ _ _ _ _ _ us hl => match us, hl with | [_, _], _ => rfl, m_on_keys := He.glo_ok X G (c.d.fact 43 (f := .glo "on_keys") rfl),
    a_is_from := He.ga K "is_from", fd_is_from := _, F_is_from := fun_of F38, b_is_from := (fun_of F38).binds (ps := P_is_from) fun _ _ _ _ _ _ us hl => match us, hl with | [_, _], _ => rfl, m_is_from := He.glo_ok X G (c.d.fact 44 (f := .glo "is_from") rfl),
    a_check_number := He.ga K "check_number", fd_check_number := _, F_check_number := fun_of F39, b_check_number := (fun_of F39).binds (ps := P_check_number) fun _ _ _ _ _ _ us hl => match us, hl with | [_, _], _ => rfl, m_check_number := He.glo_ok X G (c.d.fact 45 (f := .glo "check_number") rfl),
    a_least_blind := He.ga K "least_blind", fd_least_blind := _, F_least_blind := fun_of F40, b_least_blind := (fun_of F40).binds (ps := P_least_blind) fun _ _ _ _ _ _ us hl => match us, hl with | [_, _], _ => rfl, m_least_blind := He.glo_ok X G (c.d.fact 46 (f := .glo "least_blind") rfl),
    a_first_apart := He.ga K "first_apart", fd_first_apart := _, F_first_apart := fun_of F41, b_first_apart := (fun_of F41).binds (ps := P_first_apart) fun _ _ _ _ _ _ us hl => match us, hl with | [_], _ => rfl, m_first_apart := He.glo_ok X G (c.d.fact 47 (f := .glo "first_apart") rfl),
    a_without_step := He.ga K "without_step", fd_without_step := _, F_without_step := fun_of F42, b_without_step := (fun_of F42).binds (ps := P_without_step) fun _ _ _ _ _ _ us hl => match us, hl with | [_], _ => rfl, m_without_step := He.glo_ok X G (c.d.fact 48 (f := .glo "without_step") rfl),
    a_cleared := He.ga K "cleared", fd_cleared := _, F_cleared := fun_of F43, b_cleared := (fun_of F43).binds (ps := P_cleared) fun _ _ _ _ _ _ us hl => match us, hl with | [_], _ => rfl, m_cleared := He.glo_ok X G (c.d.fact 49 (f := .glo "cleared") rfl),
    a__law_call := He.ga K "_law_call", fd__law_call := _, F__law_call := fun_of F44, b__law_call := (fun_of F44).binds (ps := P__law_call) fun _ _ _ _ _ _ us hl => match us, hl with | [_, _, _], _ => rfl, m__law_call := He.glo_ok X G (c.d.fact 50 (f := .glo "_law_call") rfl),
    a__law_said := He.ga K "_law_said", fd__law_said := _, F__law_said := fun_of F45, b__law_said := (fun_of F45).binds (ps := P__law_said) fun _ _ _ _ _ _ us hl => match us, hl with | [_, _, _], _ => rfl, m__law_said := He.glo_ok X G (c.d.fact 51 (f := .glo "_law_said") rfl),
    a__law_kin := He.ga K "_law_kin", fd__law_kin := _, F__law_kin := fun_of F46, b__law_kin := (fun_of F46).binds (ps := P__law_kin) fun _ _ _ _ _ _ us hl => match us, hl with | [_, _], _ => rfl, m__law_kin := He.glo_ok X G (c.d.fact 52 (f := .glo "_law_kin") rfl),
    a_law := He.ga K "law", fd_law := _, F_law := fun_of F47, b_law := (fun_of F47).binds (ps := P_law) fun _ _ _ _ _ _ us hl => match us, hl with | [_], _ => rfl, m_law := He.glo_ok X G (c.d.fact 53 (f := .glo "law") rfl),
    e_InvalidKey := He.ga K "InvalidKey", g_InvalidKey := He.glo_ok X G (c.d.fact 54 (f := .glo "InvalidKey") rfl), u_InvalidKey := (He.exc_ok (c.d.fact 55 (f := .exc "InvalidKey") rfl)).2.2.1, t_InvalidKey := (He.exc_ok (c.d.fact 55 (f := .exc "InvalidKey") rfl)).2.2.2, h_InvalidKey := (c.ex 10 rfl),
    x_InvalidKey := (He.exc_ok (c.d.fact 55 (f := .exc "InvalidKey") rfl)).1, k_InvalidKey := (He.exc_ok (c.d.fact 55 (f := .exc "InvalidKey") rfl)).2.1, v_InvalidKey := kit_yesV (of_decide_eq_true (c.ex 21 rfl)), E_InvalidKey := ⟨(He.eqO_ok (c.ex 17 rfl)), (He.eqO_ok (c.ex 18 rfl)), (He.exc_ok (c.d.fact 55 (f := .exc "InvalidKey") rfl)).2.2.1, (c.ex 10 rfl), (He.eqO_ok (c.ex 19 rfl)), (He.eqO_ok (c.ex 8 rfl)), (of_decide_eq_true (c.ex 9 rfl)), (of_decide_eq_true (c.ex 20 rfl))⟩,
    e_InvalidKeys := He.ga K "InvalidKeys", g_InvalidKeys := He.glo_ok X G (c.d.fact 56 (f := .glo "InvalidKeys") rfl), u_InvalidKeys := (He.exc_ok (c.d.fact 57 (f := .exc "InvalidKeys") rfl)).2.2.1, t_InvalidKeys := (He.exc_ok (c.d.fact 57 (f := .exc "InvalidKeys") rfl)).2.2.2, h_InvalidKeys := (c.ex 11 rfl),
    x_InvalidKeys := (He.exc_ok (c.d.fact 57 (f := .exc "InvalidKeys") rfl)).1, k_InvalidKeys := (He.exc_ok (c.d.fact 57 (f := .exc "InvalidKeys") rfl)).2.1, v_InvalidKeys := kit_yesV (of_decide_eq_true (c.ex 26 rfl)), E_InvalidKeys := ⟨(He.eqO_ok (c.ex 22 rfl)), (He.eqO_ok (c.ex 23 rfl)), (He.exc_ok (c.d.fact 57 (f := .exc "InvalidKeys") rfl)).2.2.1, (c.ex 11 rfl), (He.eqO_ok (c.ex 24 rfl)), (He.eqO_ok (c.ex 8 rfl)), (of_decide_eq_true (c.ex 9 rfl)), (of_decide_eq_true (c.ex 25 rfl))⟩,
    e_InvalidLedger := He.ga K "InvalidLedger", g_InvalidLedger := He.glo_ok X G (c.d.fact 58 (f := .glo "InvalidLedger") rfl), u_InvalidLedger := (He.exc_ok (c.d.fact 59 (f := .exc "InvalidLedger") rfl)).2.2.1, t_InvalidLedger := (He.exc_ok (c.d.fact 59 (f := .exc "InvalidLedger") rfl)).2.2.2, h_InvalidLedger := (c.ex 12 rfl),
    x_InvalidLedger := (He.exc_ok (c.d.fact 59 (f := .exc "InvalidLedger") rfl)).1, k_InvalidLedger := (He.exc_ok (c.d.fact 59 (f := .exc "InvalidLedger") rfl)).2.1, v_InvalidLedger := kit_yesV (of_decide_eq_true (c.ex 31 rfl)), E_InvalidLedger := ⟨(He.eqO_ok (c.ex 27 rfl)), (He.eqO_ok (c.ex 28 rfl)), (He.exc_ok (c.d.fact 59 (f := .exc "InvalidLedger") rfl)).2.2.1, (c.ex 12 rfl), (He.eqO_ok (c.ex 29 rfl)), (He.eqO_ok (c.ex 8 rfl)), (of_decide_eq_true (c.ex 9 rfl)), (of_decide_eq_true (c.ex 30 rfl))⟩,
    e_InvalidNumber := He.ga K "InvalidNumber", g_InvalidNumber := He.glo_ok X G (c.d.fact 60 (f := .glo "InvalidNumber") rfl), u_InvalidNumber := (He.exc_ok (c.d.fact 61 (f := .exc "InvalidNumber") rfl)).2.2.1, t_InvalidNumber := (He.exc_ok (c.d.fact 61 (f := .exc "InvalidNumber") rfl)).2.2.2, h_InvalidNumber := (c.ex 13 rfl),
    x_InvalidNumber := (He.exc_ok (c.d.fact 61 (f := .exc "InvalidNumber") rfl)).1, k_InvalidNumber := (He.exc_ok (c.d.fact 61 (f := .exc "InvalidNumber") rfl)).2.1, v_InvalidNumber := kit_yesV (of_decide_eq_true (c.ex 36 rfl)), E_InvalidNumber := ⟨(He.eqO_ok (c.ex 32 rfl)), (He.eqO_ok (c.ex 33 rfl)), (He.exc_ok (c.d.fact 61 (f := .exc "InvalidNumber") rfl)).2.2.1, (c.ex 13 rfl), (He.eqO_ok (c.ex 34 rfl)), (He.eqO_ok (c.ex 8 rfl)), (of_decide_eq_true (c.ex 9 rfl)), (of_decide_eq_true (c.ex 35 rfl))⟩,
    e_InvalidSums := He.ga K "InvalidSums", g_InvalidSums := He.glo_ok X G (c.d.fact 62 (f := .glo "InvalidSums") rfl), u_InvalidSums := (He.exc_ok (c.d.fact 63 (f := .exc "InvalidSums") rfl)).2.2.1, t_InvalidSums := (He.exc_ok (c.d.fact 63 (f := .exc "InvalidSums") rfl)).2.2.2, h_InvalidSums := (c.ex 14 rfl),
    x_InvalidSums := (He.exc_ok (c.d.fact 63 (f := .exc "InvalidSums") rfl)).1, k_InvalidSums := (He.exc_ok (c.d.fact 63 (f := .exc "InvalidSums") rfl)).2.1, v_InvalidSums := kit_yesV (of_decide_eq_true (c.ex 41 rfl)), E_InvalidSums := ⟨(He.eqO_ok (c.ex 37 rfl)), (He.eqO_ok (c.ex 38 rfl)), (He.exc_ok (c.d.fact 63 (f := .exc "InvalidSums") rfl)).2.2.1, (c.ex 14 rfl), (He.eqO_ok (c.ex 39 rfl)), (He.eqO_ok (c.ex 8 rfl)), (of_decide_eq_true (c.ex 9 rfl)), (of_decide_eq_true (c.ex 40 rfl))⟩,
    e_InvalidWidth := He.ga K "InvalidWidth", g_InvalidWidth := He.glo_ok X G (c.d.fact 64 (f := .glo "InvalidWidth") rfl), u_InvalidWidth := (He.exc_ok (c.d.fact 65 (f := .exc "InvalidWidth") rfl)).2.2.1, t_InvalidWidth := (He.exc_ok (c.d.fact 65 (f := .exc "InvalidWidth") rfl)).2.2.2, h_InvalidWidth := (c.ex 15 rfl),
    x_InvalidWidth := (He.exc_ok (c.d.fact 65 (f := .exc "InvalidWidth") rfl)).1, k_InvalidWidth := (He.exc_ok (c.d.fact 65 (f := .exc "InvalidWidth") rfl)).2.1, v_InvalidWidth := kit_yesV (of_decide_eq_true (c.ex 46 rfl)), E_InvalidWidth := ⟨(He.eqO_ok (c.ex 42 rfl)), (He.eqO_ok (c.ex 43 rfl)), (He.exc_ok (c.d.fact 65 (f := .exc "InvalidWidth") rfl)).2.2.1, (c.ex 15 rfl), (He.eqO_ok (c.ex 44 rfl)), (He.eqO_ok (c.ex 8 rfl)), (of_decide_eq_true (c.ex 9 rfl)), (of_decide_eq_true (c.ex 45 rfl))⟩,
    e_SumsError := He.ga K "SumsError", g_SumsError := He.glo_ok X G (c.d.fact 66 (f := .glo "SumsError") rfl), u_SumsError := (He.exc_ok (c.d.fact 67 (f := .exc "SumsError") rfl)).2.2.1, t_SumsError := (He.exc_ok (c.d.fact 67 (f := .exc "SumsError") rfl)).2.2.2, h_SumsError := (c.ex 16 rfl),
    s_InvalidKey_InvalidKey := (of_decide_eq_true (c.ex 47 rfl)),
    s_InvalidKey_InvalidKeys := (of_decide_eq_true (c.ex 48 rfl)),
    s_InvalidKey_InvalidLedger := (of_decide_eq_true (c.ex 49 rfl)),
    s_InvalidKey_InvalidNumber := (of_decide_eq_true (c.ex 50 rfl)),
    s_InvalidKey_InvalidSums := (of_decide_eq_true (c.ex 51 rfl)),
    s_InvalidKey_InvalidWidth := (of_decide_eq_true (c.ex 52 rfl)),
    s_InvalidKey_SumsError := (of_decide_eq_true (c.ex 53 rfl)),
    s_InvalidKeys_InvalidKey := (of_decide_eq_true (c.ex 54 rfl)),
    s_InvalidKeys_InvalidKeys := (of_decide_eq_true (c.ex 55 rfl)),
    s_InvalidKeys_InvalidLedger := (of_decide_eq_true (c.ex 56 rfl)),
    s_InvalidKeys_InvalidNumber := (of_decide_eq_true (c.ex 57 rfl)),
    s_InvalidKeys_InvalidSums := (of_decide_eq_true (c.ex 58 rfl)),
    s_InvalidKeys_InvalidWidth := (of_decide_eq_true (c.ex 59 rfl)),
    s_InvalidKeys_SumsError := (of_decide_eq_true (c.ex 60 rfl)),
    s_InvalidLedger_InvalidKey := (of_decide_eq_true (c.ex 61 rfl)),
    s_InvalidLedger_InvalidKeys := (of_decide_eq_true (c.ex 62 rfl)),
    s_InvalidLedger_InvalidLedger := (of_decide_eq_true (c.ex 63 rfl)),
    s_InvalidLedger_InvalidNumber := (of_decide_eq_true (c.ex 64 rfl)),
    s_InvalidLedger_InvalidSums := (of_decide_eq_true (c.ex 65 rfl)),
    s_InvalidLedger_InvalidWidth := (of_decide_eq_true (c.ex 66 rfl)),
    s_InvalidLedger_SumsError := (of_decide_eq_true (c.ex 67 rfl)),
    s_InvalidNumber_InvalidKey := (of_decide_eq_true (c.ex 68 rfl)),
    s_InvalidNumber_InvalidKeys := (of_decide_eq_true (c.ex 69 rfl)),
    s_InvalidNumber_InvalidLedger := (of_decide_eq_true (c.ex 70 rfl)),
    s_InvalidNumber_InvalidNumber := (of_decide_eq_true (c.ex 71 rfl)),
    s_InvalidNumber_InvalidSums := (of_decide_eq_true (c.ex 72 rfl)),
    s_InvalidNumber_InvalidWidth := (of_decide_eq_true (c.ex 73 rfl)),
    s_InvalidNumber_SumsError := (of_decide_eq_true (c.ex 74 rfl)),
    s_InvalidSums_InvalidKey := (of_decide_eq_true (c.ex 75 rfl)),
    s_InvalidSums_InvalidKeys := (of_decide_eq_true (c.ex 76 rfl)),
    s_InvalidSums_InvalidLedger := (of_decide_eq_true (c.ex 77 rfl)),
    s_InvalidSums_InvalidNumber := (of_decide_eq_true (c.ex 78 rfl)),
    s_InvalidSums_InvalidSums := (of_decide_eq_true (c.ex 79 rfl)),
    s_InvalidSums_InvalidWidth := (of_decide_eq_true (c.ex 80 rfl)),
    s_InvalidSums_SumsError := (of_decide_eq_true (c.ex 81 rfl)),
    s_InvalidWidth_InvalidKey := (of_decide_eq_true (c.ex 82 rfl)),
    s_InvalidWidth_InvalidKeys := (of_decide_eq_true (c.ex 83 rfl)),
    s_InvalidWidth_InvalidLedger := (of_decide_eq_true (c.ex 84 rfl)),
    s_InvalidWidth_InvalidNumber := (of_decide_eq_true (c.ex 85 rfl)),
    s_InvalidWidth_InvalidSums := (of_decide_eq_true (c.ex 86 rfl)),
    s_InvalidWidth_InvalidWidth := (of_decide_eq_true (c.ex 87 rfl)),
    s_InvalidWidth_SumsError := (of_decide_eq_true (c.ex 88 rfl)),
    z_ValueError := He.free_ok X G (c.d.fact 68 (f := .free "ValueError") rfl),
    z_abs := He.free_ok X G (c.d.fact 69 (f := .free "abs") rfl),
    z_all := He.free_ok X G (c.d.fact 70 (f := .free "all") rfl),
    z_any := He.free_ok X G (c.d.fact 71 (f := .free "any") rfl),
    z_bool := He.free_ok X G (c.d.fact 72 (f := .free "bool") rfl),
    z_dict := He.free_ok X G (c.d.fact 73 (f := .free "dict") rfl),
    z_enumerate := He.free_ok X G (c.d.fact 74 (f := .free "enumerate") rfl),
    z_int := He.free_ok X G (c.d.fact 75 (f := .free "int") rfl),
    z_isinstance := He.free_ok X G (c.d.fact 76 (f := .free "isinstance") rfl),
    z_len := He.free_ok X G (c.d.fact 77 (f := .free "len") rfl),
    z_list := He.free_ok X G (c.d.fact 78 (f := .free "list") rfl),
    z_max := He.free_ok X G (c.d.fact 79 (f := .free "max") rfl),
    z_min := He.free_ok X G (c.d.fact 80 (f := .free "min") rfl),
    z_range := He.free_ok X G (c.d.fact 81 (f := .free "range") rfl),
    z_set := He.free_ok X G (c.d.fact 82 (f := .free "set") rfl),
    z_sorted := He.free_ok X G (c.d.fact 83 (f := .free "sorted") rfl),
    z_sum := He.free_ok X G (c.d.fact 84 (f := .free "sum") rfl),
    z_tuple := He.free_ok X G (c.d.fact 85 (f := .free "tuple") rfl),
    z_zip := He.free_ok X G (c.d.fact 86 (f := .free "zip") rfl),
    y_comb := PySem.W.mg_of X G (He.eqO_ok (c.ex 89 rfl)) })⟩
end Lw
open PySem PySem.W PySem.Calls PyProof.Rows
set_option maxHeartbeats 0 in
theorem PySem.Challenge.cw_changesums_k20_errors_of_briefs_holds : PySem.Challenge.rw_changesums_k20_errors_of_briefs.Holds := by
  w_on; o_law
  refine HandSHeadRun.head_imp (r := PySem.W.OpenLaw.row PySem.Challenge.rw_changesums_k20_errors_of_briefs) (q := view (PySem.W.OpenLaw.row PySem.Challenge.rw_changesums_k20_errors_of_briefs).prog [0, 104]) (H := Lw.hkB) (ob := Lw.obB) (M := 20000) (loose := Lw.nmL) (d := HandSHeadRun.topDef (PySem.W.OpenLaw.row PySem.Challenge.rw_changesums_k20_errors_of_briefs).prog 104) (kwd := []) Lw.obB_eq
    Lw.runB (by kernel_rfl) (by kernel_rfl) (by kernel_rfl) (by rfl) (by first | assumption | decide +kernel) (by decide +kernel) ⟨rfl, rfl, rfl, rfl, rfl, by decide +kernel⟩ ?hw ?hc
  case hw => w_witness2
  case hc =>
    refine L2.walk_ofE (l := PySem.Challenge.rw_changesums_k20_errors_of_briefs) (n := 63) (k := 10) (x := "script") (CX := L2.CX0) rfl (by decide) (by kernel_rfl) ⟨rfl, by decide, by decide⟩ ?F (fun _ _ _ _ z => z)
    intro w mg fa h Y G hmg0
    obtain ⟨K, KX, c⟩ := Y
    have hmg : mg ("law" : PySem.Str) = some (.ref fa) := by
      have e : (HandSHeadRun.topDef (PySem.W.OpenLaw.row PySem.Challenge.rw_changesums_k20_errors_of_briefs).prog 104).name = ("law" : PySem.Str) := by kernel_rfl
      rw [← e]
      exact hmg0
    obtain ⟨fd, hb, hF⟩ := Lw.facts2 (l := PySem.Challenge.rw_changesums_k20_errors_of_briefs) (w := w) KX G hmg c
    exact ⟨K, fd, Cr.spLaw K, KX, hb, fun H a ns hl _ hS => ⟨a, ns, rfl, hS, hl, fun _ => rfl⟩, hF⟩