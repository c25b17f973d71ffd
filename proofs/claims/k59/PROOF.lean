import PyProof.Rows.All
import PyProof.ReprReads
import HandS.ForMost
import HandS.IsInst
import HandS.Wide
import HandS.Zip
import HandS.SortInts
import HandS.More
import HandS.TupAny
import HandS.Defaults
import HandS.Star
import HandS.Conv
import PyProof.Rows.RuleB_pow
import HandS.Steps
import PyProof.ReprLen
import PyProof.Rows.ReprR
import HandS.Ends
import KE.GoesEnum
import HandS.Iter
import HandS.Style
import KE.KMathGC
import HandS.Gcd
import HandS.SetFor
import HandS.Strs
import HandS.TupMul
import HandS.WordsDict
import KE.KDictPairs
import HandS.ListItems
import HandS.Small
import KE.DataMinMax
import KE.SortData
import PyProof.Rows.RowBridgeK
import HandS.ExcOwn
import HandS.WordsExc
import HandS.TryOnly
import HandS.TryMany
import HandS.ExcIs
import KE.KStateDown
import HandS.Head0
import HandS.Head1
import HandS.Head2
import HandS.Head3
import HandS.HeadEnd
import HandS.HeadHook1
import HandS.HeadHook2
import PySem.Challenge.RW_changesums_k59_errors_of_logs
set_option Elab.async false
set_option linter.all false
set_option maxRecDepth 100000
set_option maxHeartbeats 800000
namespace He
open PySem PySem.Spec PyProof.Rows L2
abbrev AlB : Type := AlD × Bool
def obsB (as : List Addr) (fa : List Fa) (fn : List DefD) (ex : PySem.W.Frag → List Bool) (g : Addr → Option Obj) : AlB := (obsD fa fn (frG g as), (ex (frG g as)).all id)
structure SaysB (fa : List Fa) (fn : List DefD) (ex : PySem.W.Frag → List Bool) (K : PySem.W.Frag) : Prop where
  d : SaysD fa fn K
  more : (ex K).all id = true
def hookB (as : List Addr) (fa : List Fa) (fn : List DefD) (ex : PySem.W.Frag → List Bool) : PySem.W.Hook where
  α := AlB
  obs := fun s => obsB as fa fn ex s.heap.get?
  val := fun _ => (valD fn, true)
  says := fun _ h => ∃ K : PySem.W.Frag, K.In h ∧ SaysB fa fn ex K
  of := fun _ _ e => ⟨_, frG_in, ⟨congrArg (fun z : AlB => z.1) e, congrArg (fun z : AlB => z.2) e⟩⟩
  keeps := fun _ _ _ ⟨K, hK, c⟩ k => ⟨K, PySem.W.Frag.In.keeps hK k, c⟩
theorem obsB_eq {as : List Addr} {fa : List Fa} {fn : List DefD} {ex : PySem.W.Frag → List Bool} {g : Addr → Option Obj} {s : Shared} (h : ∀ a, g a = s.heap.get? a) : obsB as fa fn ex g = (hookB as fa fn ex).obs s := by
  have e : g = s.heap.get? := funext h
  rw [e] <;> rfl
theorem SaysB.ex {fa : List Fa} {fn : List DefD} {ex : PySem.W.Frag → List Bool} {K : PySem.W.Frag} (c : SaysB fa fn ex K) (i : Nat) {b : Bool} (h : (ex K)[i]? = some b := by rfl) : b = true :=
  List.all_eq_true.mp c.more b (List.mem_of_getElem? h)
end He
namespace Lw
open PySem PySem.Spec PyProof.Rows L2
def topS (i : Nat) : Stmt := PySem.Challenge.pw_changesums_k59_errors_of_logs.main.body.getD i (.Pass ⟨0, 0, 0, 0⟩)
abbrev s__law_jar : Stmt := topS 57
abbrev s__law_sums : Stmt := topS 62
abbrev s__law_along : Stmt := topS 63
abbrev s__law_gather : Stmt := topS 59
abbrev s__law_pick : Stmt := topS 56
abbrev s__law_amount : Stmt := topS 58
abbrev s__law_book : Stmt := topS 60
abbrev s__law_log : Stmt := topS 61
abbrev s_is_an_integer : Stmt := topS 12
abbrev s_is_change : Stmt := topS 19
abbrev s_is_ledger : Stmt := topS 20
abbrev s_check_ledger : Stmt := topS 21
abbrev s_Ledger__init__ : Stmt := inClass (topS 51) 0
abbrev s__law_no_book : Stmt := topS 64
abbrev s__law_no_log : Stmt := topS 68
abbrev s_check_changes : Stmt := topS 22
abbrev s_summed : Stmt := topS 23
abbrev s_ledger_after : Stmt := topS 42
abbrev s_less : Stmt := topS 29
abbrev s_short_log : Stmt := topS 43
abbrev s_is_from : Stmt := topS 13
abbrev s_check_number : Stmt := topS 16
abbrev s_first_sums : Stmt := topS 40
abbrev s_sums_behind : Stmt := topS 44
abbrev s_sums_along : Stmt := topS 45
abbrev s_is_sums : Stmt := topS 38
abbrev s_check_rows : Stmt := topS 39
abbrev s_log_fault : Stmt := topS 46
abbrev s_common_log : Stmt := topS 47
abbrev s_shortest_undo : Stmt := topS 48
abbrev s_changed_in : Stmt := topS 24
abbrev s_first_return : Stmt := topS 49
abbrev s__law_call : Stmt := topS 66
abbrev s__law_told : Stmt := topS 67
abbrev s__law_no_whole : Stmt := topS 65
abbrev s__law_no_lines : Stmt := topS 69
abbrev s_law : Stmt := topS 70
/-! ### what the top has left -/
def fnL0 : List He.DefD := [⟨("_law_jar", none), "_law_jar", "_law_jar", defArgs s__law_jar, defBody s__law_jar, defScope s__law_jar, [], []⟩,
    ⟨("_law_sums", none), "_law_sums", "_law_sums", defArgs s__law_sums, defBody s__law_sums, defScope s__law_sums, [], []⟩,
    ⟨("_law_along", none), "_law_along", "_law_along", defArgs s__law_along, defBody s__law_along, defScope s__law_along, [], []⟩,
    ⟨("_law_gather", none), "_law_gather", "_law_gather", defArgs s__law_gather, defBody s__law_gather, defScope s__law_gather, [], []⟩,
    ⟨("_law_pick", none), "_law_pick", "_law_pick", defArgs s__law_pick, defBody s__law_pick, defScope s__law_pick, [], []⟩,
    ⟨("_law_amount", none), "_law_amount", "_law_amount", defArgs s__law_amount, defBody s__law_amount, defScope s__law_amount, [], []⟩,
    ⟨("_law_book", none), "_law_book", "_law_book", defArgs s__law_book, defBody s__law_book, defScope s__law_book, [], []⟩,
    ⟨("_law_log", none), "_law_log", "_law_log", defArgs s__law_log, defBody s__law_log, defScope s__law_log, [], []⟩,
    ⟨("is_an_integer", none), "is_an_integer", "is_an_integer", defArgs s_is_an_integer, defBody s_is_an_integer, defScope s_is_an_integer, [], []⟩,
    ⟨("is_change", none), "is_change", "is_change", defArgs s_is_change, defBody s_is_change, defScope s_is_change, [], []⟩,
    ⟨("is_ledger", none), "is_ledger", "is_ledger", defArgs s_is_ledger, defBody s_is_ledger, defScope s_is_ledger, [], []⟩,
    ⟨("check_ledger", none), "check_ledger", "check_ledger", defArgs s_check_ledger, defBody s_check_ledger, defScope s_check_ledger, [], []⟩,
    ⟨("Ledger", some "__init__"), "__init__", "Ledger.__init__", defArgs s_Ledger__init__, defBody s_Ledger__init__, defScope s_Ledger__init__, [.adr (He.dflAt ("Ledger", some "__init__") 0)], []⟩,
    ⟨("_law_no_book", none), "_law_no_book", "_law_no_book", defArgs s__law_no_book, defBody s__law_no_book, defScope s__law_no_book, [], []⟩,
    ⟨("_law_no_log", none), "_law_no_log", "_law_no_log", defArgs s__law_no_log, defBody s__law_no_log, defScope s__law_no_log, [], []⟩,
    ⟨("check_changes", none), "check_changes", "check_changes", defArgs s_check_changes, defBody s_check_changes, defScope s_check_changes, [], []⟩,
    ⟨("summed", none), "summed", "summed", defArgs s_summed, defBody s_summed, defScope s_summed, [], []⟩,
    ⟨("ledger_after", none), "ledger_after", "ledger_after", defArgs s_ledger_after, defBody s_ledger_after, defScope s_ledger_after, [], []⟩,
    ⟨("less", none), "less", "less", defArgs s_less, defBody s_less, defScope s_less, [], []⟩,
    ⟨("short_log", none), "short_log", "short_log", defArgs s_short_log, defBody s_short_log, defScope s_short_log, [], []⟩,
    ⟨("is_from", none), "is_from", "is_from", defArgs s_is_from, defBody s_is_from, defScope s_is_from, [], []⟩,
    ⟨("check_number", none), "check_number", "check_number", defArgs s_check_number, defBody s_check_number, defScope s_check_number, [], []⟩,
    ⟨("first_sums", none), "first_sums", "first_sums", defArgs s_first_sums, defBody s_first_sums, defScope s_first_sums, [], []⟩,
    ⟨("sums_behind", none), "sums_behind", "sums_behind", defArgs s_sums_behind, defBody s_sums_behind, defScope s_sums_behind, [], []⟩,
    ⟨("sums_along", none), "sums_along", "sums_along", defArgs s_sums_along, defBody s_sums_along, defScope s_sums_along, [], []⟩]
def fnL1 : List He.DefD := [⟨("is_sums", none), "is_sums", "is_sums", defArgs s_is_sums, defBody s_is_sums, defScope s_is_sums, [], []⟩,
    ⟨("check_rows", none), "check_rows", "check_rows", defArgs s_check_rows, defBody s_check_rows, defScope s_check_rows, [], []⟩,
    ⟨("log_fault", none), "log_fault", "log_fault", defArgs s_log_fault, defBody s_log_fault, defScope s_log_fault, [], []⟩,
    ⟨("common_log", none), "common_log", "common_log", defArgs s_common_log, defBody s_common_log, defScope s_common_log, [], []⟩,
    ⟨("shortest_undo", none), "shortest_undo", "shortest_undo", defArgs s_shortest_undo, defBody s_shortest_undo, defScope s_shortest_undo, [], []⟩,
    ⟨("changed_in", none), "changed_in", "changed_in", defArgs s_changed_in, defBody s_changed_in, defScope s_changed_in, [], []⟩,
    ⟨("first_return", none), "first_return", "first_return", defArgs s_first_return, defBody s_first_return, defScope s_first_return, [], []⟩,
    ⟨("_law_call", none), "_law_call", "_law_call", defArgs s__law_call, defBody s__law_call, defScope s__law_call, [], []⟩,
    ⟨("_law_told", none), "_law_told", "_law_told", defArgs s__law_told, defBody s__law_told, defScope s__law_told, [], []⟩,
    ⟨("_law_no_whole", none), "_law_no_whole", "_law_no_whole", defArgs s__law_no_whole, defBody s__law_no_whole, defScope s__law_no_whole, [], []⟩,
    ⟨("_law_no_lines", none), "_law_no_lines", "_law_no_lines", defArgs s__law_no_lines, defBody s__law_no_lines, defScope s__law_no_lines, [], []⟩,
    ⟨("law", none), "law", "law", defArgs s_law, defBody s_law, defScope s_law, [], []⟩]
def fnL : List He.DefD := fnL0 ++ (fnL1)
def faL0 : List He.Fa := [.glo "_law_jar",
    .glo "_law_sums",
    .glo "_law_along",
    .glo "_law_gather",
    .glo "_law_pick",
    .glo "_law_amount",
    .glo "_law_book",
    .glo "_law_log",
    .glo "is_an_integer",
    .glo "is_change",
    .glo "is_ledger",
    .glo "check_ledger",
    .glo "Ledger",
    .mkr "Ledger",
    .cls "Ledger",
    .noat "Ledger" "_pairs",
    .glo "_law_no_book",
    .glo "_law_no_log",
    .glo "check_changes",
    .glo "summed",
    .glo "ledger_after",
    .glo "less",
    .glo "short_log",
    .glo "is_from",
    .glo "check_number"]
def faL1 : List He.Fa := [.glo "first_sums",
    .glo "sums_behind",
    .glo "sums_along",
    .glo "is_sums",
    .glo "check_rows",
    .glo "log_fault",
    .glo "common_log",
    .glo "shortest_undo",
    .glo "changed_in",
    .glo "first_return",
    .glo "_law_call",
    .glo "_law_told",
    .glo "_law_no_whole",
    .glo "_law_no_lines",
    .glo "law",
    .glo "InvalidChanges",
    .exc "InvalidChanges",
    .glo "InvalidLedger",
    .exc "InvalidLedger",
    .glo "InvalidNumber",
    .exc "InvalidNumber",
    .glo "InvalidRows",
    .exc "InvalidRows",
    .glo "OtherLength",
    .exc "OtherLength"]
def faL2 : List He.Fa := [.glo "SumsError",
    .exc "SumsError",
    .free "ValueError",
    .free "abs",
    .free "all",
    .free "any",
    .free "bool",
    .free "enumerate",
    .free "int",
    .free "isinstance",
    .free "len",
    .free "list",
    .free "max",
    .free "min",
    .free "range",
    .free "sorted",
    .free "sum",
    .free "tuple",
    .free "zip"]
def faL : List He.Fa := faL0 ++ (faL1 ++ (faL2))
def exL0 (K : PySem.W.Frag) : List Bool := [He.eqO (PySem.W.findIn K (.ref (He.ga K "Ledger")) "__class__") (some (some (.builtin "object.__class__"))),
    decide (PySem.W.mroIn K (He.ga K "Ledger") (.type "object") = some true),
    decide (PySem.W.subIn K (.ref (He.ga K "Ledger")) (.type "tuple") = some false),
    decide (PySem.W.subIn K (.ref (He.ga K "Ledger")) (.type "int") = some false),
    He.eqO (PySem.W.specialIn K (.builtin "object.__class__") "__get__") (some (some (.builtin "getset_descriptor.__get__"))),
    decide (PySem.W.takesIn K (.builtin "object.__class__") = some true),
    PySem.W.hasDictIn K (He.ga K "InvalidChanges"),
    PySem.W.hasDictIn K (He.ga K "InvalidLedger"),
    PySem.W.hasDictIn K (He.ga K "InvalidNumber"),
    PySem.W.hasDictIn K (He.ga K "InvalidRows"),
    PySem.W.hasDictIn K (He.ga K "OtherLength"),
    PySem.W.hasDictIn K (He.ga K "SumsError"),
    He.eqO (PySem.W.findIn K (.ref (He.ga K "InvalidChanges")) "__getattribute__") (some (some (.builtin "BaseException.__getattribute__"))),
    He.eqO (PySem.W.findIn K (.ref (He.ga K "InvalidChanges")) "__getattr__") (some none),
    He.eqO (PySem.W.findIn K (.ref (He.ga K "InvalidChanges")) "__class__") (some (some (.builtin "object.__class__"))),
    decide (PySem.W.mroIn K (He.ga K "InvalidChanges") (.type "object") = some true),
    decide (PySem.W.subIn K (.ref (He.ga K "InvalidChanges")) (.type "ValueError") = some true),
    He.eqO (PySem.W.findIn K (.ref (He.ga K "InvalidLedger")) "__getattribute__") (some (some (.builtin "BaseException.__getattribute__"))),
    He.eqO (PySem.W.findIn K (.ref (He.ga K "InvalidLedger")) "__getattr__") (some none),
    He.eqO (PySem.W.findIn K (.ref (He.ga K "InvalidLedger")) "__class__") (some (some (.builtin "object.__class__"))),
    decide (PySem.W.mroIn K (He.ga K "InvalidLedger") (.type "object") = some true),
    decide (PySem.W.subIn K (.ref (He.ga K "InvalidLedger")) (.type "ValueError") = some true),
    He.eqO (PySem.W.findIn K (.ref (He.ga K "InvalidNumber")) "__getattribute__") (some (some (.builtin "BaseException.__getattribute__"))),
    He.eqO (PySem.W.findIn K (.ref (He.ga K "InvalidNumber")) "__getattr__") (some none),
    He.eqO (PySem.W.findIn K (.ref (He.ga K "InvalidNumber")) "__class__") (some (some (.builtin "object.__class__")))]
def exL1 (K : PySem.W.Frag) : List Bool := [decide (PySem.W.mroIn K (He.ga K "InvalidNumber") (.type "object") = some true),
    decide (PySem.W.subIn K (.ref (He.ga K "InvalidNumber")) (.type "ValueError") = some true),
    He.eqO (PySem.W.findIn K (.ref (He.ga K "InvalidRows")) "__getattribute__") (some (some (.builtin "BaseException.__getattribute__"))),
    He.eqO (PySem.W.findIn K (.ref (He.ga K "InvalidRows")) "__getattr__") (some none),
    He.eqO (PySem.W.findIn K (.ref (He.ga K "InvalidRows")) "__class__") (some (some (.builtin "object.__class__"))),
    decide (PySem.W.mroIn K (He.ga K "InvalidRows") (.type "object") = some true),
    decide (PySem.W.subIn K (.ref (He.ga K "InvalidRows")) (.type "ValueError") = some true),
    He.eqO (PySem.W.findIn K (.ref (He.ga K "OtherLength")) "__getattribute__") (some (some (.builtin "BaseException.__getattribute__"))),
    He.eqO (PySem.W.findIn K (.ref (He.ga K "OtherLength")) "__getattr__") (some none),
    He.eqO (PySem.W.findIn K (.ref (He.ga K "OtherLength")) "__class__") (some (some (.builtin "object.__class__"))),
    decide (PySem.W.mroIn K (He.ga K "OtherLength") (.type "object") = some true),
    decide (PySem.W.subIn K (.ref (He.ga K "OtherLength")) (.type "ValueError") = some true),
    decide (PySem.W.subIn K (.ref (He.ga K "InvalidChanges")) (.ref (He.ga K "InvalidChanges")) = some true),
    decide (PySem.W.subIn K (.ref (He.ga K "InvalidChanges")) (.ref (He.ga K "InvalidLedger")) = some false),
    decide (PySem.W.subIn K (.ref (He.ga K "InvalidChanges")) (.ref (He.ga K "InvalidNumber")) = some false),
    decide (PySem.W.subIn K (.ref (He.ga K "InvalidChanges")) (.ref (He.ga K "InvalidRows")) = some false),
    decide (PySem.W.subIn K (.ref (He.ga K "InvalidChanges")) (.ref (He.ga K "OtherLength")) = some false),
    decide (PySem.W.subIn K (.ref (He.ga K "InvalidChanges")) (.ref (He.ga K "SumsError")) = some true),
    decide (PySem.W.subIn K (.ref (He.ga K "InvalidLedger")) (.ref (He.ga K "InvalidChanges")) = some false),
    decide (PySem.W.subIn K (.ref (He.ga K "InvalidLedger")) (.ref (He.ga K "InvalidLedger")) = some true),
    decide (PySem.W.subIn K (.ref (He.ga K "InvalidLedger")) (.ref (He.ga K "InvalidNumber")) = some false),
    decide (PySem.W.subIn K (.ref (He.ga K "InvalidLedger")) (.ref (He.ga K "InvalidRows")) = some false),
    decide (PySem.W.subIn K (.ref (He.ga K "InvalidLedger")) (.ref (He.ga K "OtherLength")) = some false),
    decide (PySem.W.subIn K (.ref (He.ga K "InvalidLedger")) (.ref (He.ga K "SumsError")) = some true),
    decide (PySem.W.subIn K (.ref (He.ga K "InvalidNumber")) (.ref (He.ga K "InvalidChanges")) = some false)]
def exL2 (K : PySem.W.Frag) : List Bool := [decide (PySem.W.subIn K (.ref (He.ga K "InvalidNumber")) (.ref (He.ga K "InvalidLedger")) = some false),
    decide (PySem.W.subIn K (.ref (He.ga K "InvalidNumber")) (.ref (He.ga K "InvalidNumber")) = some true),
    decide (PySem.W.subIn K (.ref (He.ga K "InvalidNumber")) (.ref (He.ga K "InvalidRows")) = some false),
    decide (PySem.W.subIn K (.ref (He.ga K "InvalidNumber")) (.ref (He.ga K "OtherLength")) = some false),
    decide (PySem.W.subIn K (.ref (He.ga K "InvalidNumber")) (.ref (He.ga K "SumsError")) = some true),
    decide (PySem.W.subIn K (.ref (He.ga K "InvalidRows")) (.ref (He.ga K "InvalidChanges")) = some false),
    decide (PySem.W.subIn K (.ref (He.ga K "InvalidRows")) (.ref (He.ga K "InvalidLedger")) = some false),
    decide (PySem.W.subIn K (.ref (He.ga K "InvalidRows")) (.ref (He.ga K "InvalidNumber")) = some false),
    decide (PySem.W.subIn K (.ref (He.ga K "InvalidRows")) (.ref (He.ga K "InvalidRows")) = some true),
    decide (PySem.W.subIn K (.ref (He.ga K "InvalidRows")) (.ref (He.ga K "OtherLength")) = some false),
    decide (PySem.W.subIn K (.ref (He.ga K "InvalidRows")) (.ref (He.ga K "SumsError")) = some true),
    decide (PySem.W.subIn K (.ref (He.ga K "OtherLength")) (.ref (He.ga K "InvalidChanges")) = some false),
    decide (PySem.W.subIn K (.ref (He.ga K "OtherLength")) (.ref (He.ga K "InvalidLedger")) = some false),
    decide (PySem.W.subIn K (.ref (He.ga K "OtherLength")) (.ref (He.ga K "InvalidNumber")) = some false),
    decide (PySem.W.subIn K (.ref (He.ga K "OtherLength")) (.ref (He.ga K "InvalidRows")) = some false),
    decide (PySem.W.subIn K (.ref (He.ga K "OtherLength")) (.ref (He.ga K "OtherLength")) = some true),
    decide (PySem.W.subIn K (.ref (He.ga K "OtherLength")) (.ref (He.ga K "SumsError")) = some true)]
def exL (K : PySem.W.Frag) : List Bool := exL0 K ++ (exL1 K ++ (exL2 K))
def asL0 : List Addr := [3,
    6,
    4,
    24,
    37,
    49,
    61,
    73,
    85,
    97,
    109,
    121,
    133,
    142,
    149,
    156,
    163,
    170,
    177,
    184,
    189,
    196,
    201,
    206,
    213,
    220,
    225,
    230,
    235,
    240,
    245,
    250,
    257,
    264,
    269]
def asL1 : List Addr := [274,
    279,
    284,
    289,
    294,
    301,
    308,
    313,
    320,
    327,
    334,
    339,
    346,
    539,
    550,
    557,
    564,
    571,
    578,
    585,
    590,
    597,
    604,
    609,
    616,
    621,
    628,
    635,
    642,
    649,
    654,
    659,
    0,
    23,
    36]
def asL2 : List Addr := [48,
    60,
    72,
    84,
    96,
    108,
    120,
    132,
    141,
    148,
    155,
    162,
    169,
    176,
    183,
    188,
    195,
    200,
    205,
    212,
    219,
    224,
    229,
    234,
    239,
    244,
    249,
    256,
    263,
    268,
    273,
    278,
    283,
    288,
    293]
def asL3 : List Addr := [300,
    307,
    312,
    319,
    326,
    333,
    338,
    345,
    538,
    549,
    556,
    563,
    570,
    577,
    584,
    589,
    596,
    603,
    608,
    615,
    620,
    627,
    634,
    641,
    648,
    653,
    658,
    22,
    25,
    35,
    47,
    59,
    71,
    83,
    95]
def asL4 : List Addr := [107,
    119,
    131,
    136,
    137,
    138,
    139,
    140,
    143,
    144,
    145,
    146,
    147,
    150,
    151,
    152,
    153,
    154,
    157,
    158,
    159,
    160,
    161,
    164,
    165,
    166,
    167,
    168,
    171,
    172,
    173,
    174,
    175,
    178,
    179]
def asL5 : List Addr := [180,
    181,
    182,
    185,
    186,
    187,
    190,
    191,
    192,
    193,
    194,
    197,
    198,
    199,
    202,
    203,
    204,
    207,
    208,
    209,
    210,
    211,
    214,
    215,
    216,
    217,
    218,
    221,
    222,
    223,
    226,
    227,
    228,
    231,
    232]
def asL6 : List Addr := [233,
    236,
    237,
    238,
    241,
    242,
    243,
    246,
    247,
    248,
    251,
    252,
    253,
    254,
    255,
    258,
    259,
    260,
    261,
    262,
    265,
    266,
    267,
    270,
    271,
    272,
    275,
    276,
    277,
    280,
    281,
    282,
    285,
    286,
    287]
def asL7 : List Addr := [290,
    291,
    292,
    295,
    296,
    297,
    298,
    299,
    302,
    303,
    304,
    305,
    306,
    309,
    310,
    311,
    314,
    315,
    316,
    317,
    318,
    321,
    322,
    323,
    324,
    325,
    328,
    329,
    330,
    331,
    332,
    335,
    336,
    337,
    340]
def asL8 : List Addr := [341,
    342,
    343,
    344,
    362,
    370,
    377,
    384,
    391,
    398,
    403,
    410,
    417,
    424,
    431,
    438,
    445,
    452,
    459,
    466,
    473,
    480,
    487,
    494,
    501,
    508,
    515,
    522,
    529,
    536,
    537,
    540,
    541,
    544,
    545]
def asL9 : List Addr := [546,
    547,
    548,
    551,
    552,
    553,
    554,
    555,
    558,
    559,
    560,
    561,
    562,
    565,
    566,
    567,
    568,
    569,
    572,
    573,
    574,
    575,
    576,
    579,
    580,
    581,
    582,
    583,
    586,
    587,
    588,
    591,
    592,
    593,
    594]
def asL10 : List Addr := [595,
    598,
    599,
    600,
    601,
    602,
    605,
    606,
    607,
    610,
    611,
    612,
    613,
    614,
    617,
    618,
    619,
    622,
    623,
    624,
    625,
    626,
    629,
    630,
    631,
    632,
    633,
    636,
    637,
    638,
    639,
    640,
    643,
    644,
    645]
def asL11 : List Addr := [646,
    647,
    650,
    651,
    652,
    655,
    656,
    657,
    361,
    355,
    369,
    376,
    383,
    390,
    397,
    402,
    409,
    416,
    423,
    430,
    437,
    444,
    451,
    458,
    465,
    472,
    479,
    486,
    493,
    500,
    507,
    514,
    521,
    528,
    535]
def asL12 : List Addr := [356,
    357,
    358,
    359,
    360,
    354,
    368,
    371,
    372,
    373,
    374,
    375,
    378,
    379,
    380,
    381,
    382,
    385,
    386,
    387,
    388,
    389,
    392,
    393,
    394,
    395,
    396,
    399,
    400,
    401,
    404,
    405,
    406,
    407,
    408]
def asL13 : List Addr := [411,
    412,
    413,
    414,
    415,
    418,
    419,
    420,
    421,
    422,
    425,
    426,
    427,
    428,
    429,
    432,
    433,
    434,
    435,
    436,
    439,
    440,
    441,
    442,
    443,
    446,
    447,
    448,
    449,
    450,
    453,
    454,
    455,
    456,
    457]
def asL14 : List Addr := [460,
    461,
    462,
    463,
    464,
    467,
    468,
    469,
    470,
    471,
    474,
    475,
    476,
    477,
    478,
    481,
    482,
    483,
    484,
    485,
    488,
    489,
    490,
    491,
    492,
    495,
    496,
    497,
    498,
    499,
    502,
    503,
    504,
    505,
    506]
def asL15 : List Addr := [509,
    510,
    511,
    512,
    513,
    516,
    517,
    518,
    519,
    520,
    523,
    524,
    525,
    526,
    527,
    530,
    531,
    532,
    533,
    534]
def asL : List Addr := asL0 ++ (asL1 ++ (asL2 ++ (asL3 ++ (asL4 ++ (asL5 ++ (asL6 ++ (asL7 ++ (asL8 ++ (asL9 ++ (asL10 ++ (asL11 ++ (asL12 ++ (asL13 ++ (asL14 ++ (asL15)))))))))))))))
def nmL0 : List PySem.Str := ["SumsError",
    "InvalidLedger",
    "InvalidChanges",
    "InvalidKey",
    "InvalidAmount",
    "InvalidNumber",
    "InvalidStep",
    "InvalidRows",
    "OtherLength",
    "NotALedger",
    "is_an_integer",
    "is_from",
    "check_key",
    "check_amount",
    "check_number",
    "check_step",
    "is_change",
    "is_ledger",
    "check_ledger",
    "check_changes",
    "summed",
    "changed_in",
    "amount_at",
    "with_amount",
    "weight"]
def nmL1 : List PySem.Str := ["added",
    "less",
    "scaled",
    "multiplied",
    "product",
    "power",
    "moved",
    "folded",
    "cut",
    "is_sums",
    "check_rows",
    "first_sums",
    "ledger_after",
    "short_log",
    "sums_behind",
    "sums_along",
    "log_fault",
    "common_log",
    "shortest_undo",
    "first_return",
    "Ledger",
    "pairs_of",
    "times_operand",
    "moved_back",
    "_law_pick"]
def nmL2 : List PySem.Str := ["_law_jar",
    "_law_amount",
    "_law_gather",
    "_law_book",
    "_law_log",
    "_law_sums",
    "_law_along",
    "_law_no_book",
    "_law_no_whole",
    "_law_call",
    "_law_told",
    "_law_no_log",
    "_law_no_lines"]
def nmL : List PySem.Str := nmL0 ++ (nmL1 ++ (nmL2))
abbrev RWo : PySem.W.OpenRow := PySem.W.OpenLaw.row PySem.Challenge.rw_changesums_k59_errors_of_logs
abbrev hkB : PySem.W.Hook := He.hookB asL faL fnL exL
def obB (s : PySem.W.SharedT) : He.AlB := He.obsB asL faL fnL exL (HandSHeadRun.getT s)
theorem obB_eq (s : PySem.W.SharedT) : obB s = hkB.obs s.abs := He.obsB_eq (HandSHeadRun.getT_eq s)
set_option maxHeartbeats 0 in
theorem runB (w : World) : HandSHeadRun.RunEq RWo (PySem.W.view RWo.prog [70]) hkB obB 20000 nmL w := by
  intro os
  kernel_rfl
end Lw
set_option Elab.async false
set_option linter.all false
set_option maxRecDepth 100000
set_option maxHeartbeats 4000000
namespace Cr
open PySem PySem.Spec PyProof.Rows L2 L2

/-! ### data in the heap -/
def notPair : PyData → Bool
  | .tuple [.int _, .int _] => false
  | _ => true
/-- no ledger: its first item is no pair of ints -/
def lax : List PyData → Bool
  | [] => true
  | d :: _ => notPair d
/-- a tuple at a: its object is known to have no dict of its own, but where no ledger is told -/
def Tp (H : Hp) (a : Addr) (xs : List V) (ds : List PyData) : Prop := (∃ o : Obj, o.dict = none ∧ H a = some (.frz o (.tup xs))) ∨ (lax ds = true ∧ H a = some (.tup xs))
theorem Tp.rd {H : Hp} {a : Addr} {xs : List V} {ds : List PyData} (h : Tp H a xs ds) : Rd H a (.tup xs) := by
  rcases h with ⟨o, _, e⟩ | ⟨_, e⟩
  · exact .inr ⟨o, e⟩
  · exact .inl e
theorem Tp.mono {H H' : Hp} {a : Addr} {xs : List V} {ds : List PyData} (s : Same H H') (h : Tp H a xs ds) : Tp H' a xs ds := by
  rcases h with ⟨o, d, e⟩ | ⟨d, e⟩
  · exact .inl ⟨o, d, s _ _ e⟩
  · exact .inr ⟨d, s _ _ e⟩
theorem Tp.new {H : Hp} {a : Addr} {xs : List V} {ds : List PyData} {o : Obj} (h : o.dict = none) : Tp (upd H a (.frz o (.tup xs))) a xs ds := .inl ⟨o, h, upd_same⟩
/-- a tuple of written items -/
def tTup (t : TA) : TE := fun σ H Q => t σ H fun xs H1 => xs.length ≤ sizeLine ∧ ∀ (p : Addr) (o : Obj), o.dict = none → H1 p = none → Q (.ref p) (upd H1 p (.frz o (.tup xs)))
theorem pe_tup {X : Cx} {es : List Expr} {t : TA} {k : Nat} {pos : Pos} (h : PA X es t) : PE X (.Tuple es k pos) (tTup t) := by
  constructor
  intro pins s σ H Q I hq
  refine wpAny_Tuple_spliced (thn (h.run pos pins s σ H _ I hq) fun us t1 ⟨xs, G, I1, r, z, q⟩ => ⟨by rw [← r.length]; exact z, ?_⟩)
  have nf : G t1.heap.objs.size = none := I1.hok.fresh (Nat.le_refl _)
  have eq : (t1.heap.push { cls := .type "tuple", data := .seq us.toArray }).get? t1.heap.objs.size = some { cls := .type "tuple", data := .seq us.toArray } := Heap.get?_push_size _ rfl
  refine ⟨.ref t1.heap.objs.size, _, I1.laid (t' := t1.toks) (o := .frz { cls := .type "tuple", data := .seq us.toArray } (.tup xs)) (fun b u e => Heap.get?_push_of_some _ e) (Nat.le_refl _) ?_, rfl, q _ _ rfl nf⟩
  exact ⟨eq, z, us, r, _, eq, rfl, _, rfl⟩
/-- an own instance of the class at C, as data -/
abbrev insD (C : Addr) : PyData := .dict [(.int (C : Int), .none)]
mutual
inductive Dq (H : Hp) : V → PyData → Prop
  | non : Dq H .non .none
  | bl (b : Bool) : Dq H (.bl b) (.bool b)
  | int (i : Int) : Dq H (.int i) (.int i)
  | str (x : Str) : Dq H (.str x) (.str x)
  | lst {a : Addr} {xs : List V} {ds : List PyData} : H a = some (.lst xs) → DqAll H xs ds → Dq H (.ref a) (.list ds)
  | tup {a : Addr} {xs : List V} {ds : List PyData} : Tp H a xs ds → DqAll H xs ds → Dq H (.ref a) (.tuple ds)
  | dic {a : Addr} : H a = some (.dK []) → Dq H (.ref a) (.dict [])
  | ins {a C dx : Addr} {fs : List (Str × V)} : H a = some (.ins C dx fs) → Dq H (.ref a) (insD C)
inductive DqAll (H : Hp) : List V → List PyData → Prop
  | nil : DqAll H [] []
  | cons {v : V} {vs : List V} {d : PyData} {ds : List PyData} : Dq H v d → DqAll H vs ds → DqAll H (v :: vs) (d :: ds)
end
section
variable {K : PySem.W.Frag} {H H' : Hp}
mutual
theorem Dq.mono (e : Same H H') : ∀ (d : PyData) (v : V), Dq H v d → Dq H' v d
  | .none, _, h => by cases h; exact .non
  | .bool b, _, h => by cases h; exact .bl b
  | .int i, _, h => by cases h; exact .int i
  | .str x, _, h => by cases h; exact .str x
  | .list ds, _, h => by
    cases h with
    | lst hs ha => exact .lst (e _ _ hs) (DqAll.mono e ds _ ha)
  | .tuple ds, _, h => by
    cases h with
    | tup hs ha => exact .tup (hs.mono e) (DqAll.mono e ds _ ha)
  | .dict _, _, h => by
    cases h with
    | dic hs => exact .dic (e _ _ hs)
    | ins hs => exact .ins (e _ _ hs)
theorem DqAll.mono (e : Same H H') : ∀ (ds : List PyData) (vs : List V), DqAll H vs ds → DqAll H' vs ds
  | [], _, h => by cases h; exact .nil
  | d :: ds, _, h => by
    cases h with
    | cons h1 h2 => exact .cons (Dq.mono e d _ h1) (DqAll.mono e ds _ h2)
end
mutual
theorem Dq.dp (K : PySem.W.Frag) : ∀ (d : PyData) (v : V), d.hasDict = false → Dq H v d → Dp K H v d
  | .none, _, _, h => by cases h; exact .non
  | .bool b, _, _, h => by cases h; exact .bl b
  | .int i, _, _, h => by cases h; exact .int i
  | .str x, _, _, h => by cases h; exact .str x
  | .list ds, _, n, h => by
    cases h with
    | lst hs ha => exact .lst (.inl (.inl hs)) (DqAll.dp K ds _ (by simpa [PyData.hasDict] using n) ha)
  | .tuple ds, _, n, h => by
    cases h with
    | tup hs ha => exact .tup (.inl hs.rd) (DqAll.dp K ds _ (by simpa [PyData.hasDict] using n) ha)
  | .dict _, _, n, h => by simp [PyData.hasDict] at n
theorem DqAll.dp (K : PySem.W.Frag) : ∀ (ds : List PyData) (vs : List V), PyData.hasDictAll ds = false → DqAll H vs ds → DpAll K H vs ds
  | [], _, _, h => by cases h; exact .nil
  | d :: ds, _, n, h => by
    cases h with
    | cons h1 h2 =>
      simp only [PyData.hasDictAll, Bool.or_eq_false_iff] at n
      exact .cons (Dq.dp K d _ n.1 h1) (DqAll.dp K ds _ n.2 h2)
end
theorem no_dict {d : PyData} (s : SeqAt.shaped d = true) : d.hasDict = false := PyData.hasDict_of_canLay d (by unfold SeqAt.shaped at s; rw [Bool.and_eq_true] at s; exact s.1)
theorem DqAll.length : ∀ {vs : List V} {ds : List PyData}, DqAll H vs ds → vs.length = ds.length
  | [], _, h => by cases h; rfl
  | v :: vs, _, h => by
    cases h with
    | cons h1 h2 => exact congrArg (· + 1) (DqAll.length h2)
theorem DqAll.get : ∀ {vs : List V} {ds : List PyData} {i : Nat} {d : PyData}, DqAll H vs ds → ds[i]? = some d → ∃ v, vs[i]? = some v ∧ Dq H v d
  | [], _, i, d, h, e => by cases h; simp at e
  | v :: vs, _, 0, d, h, e => by
    cases h with
    | cons h1 h2 => simp at e; subst e; exact ⟨v, rfl, h1⟩
  | v :: vs, _, i + 1, d, h, e => by
    cases h with
    | cons h1 h2 => obtain ⟨w, a, b⟩ := DqAll.get (i := i) h2 (by simpa using e); exact ⟨w, by simpa using a, b⟩
theorem DqAll.get' : ∀ {vs : List V} {ds : List PyData} {i : Nat} {v : V}, DqAll H vs ds → vs[i]? = some v → ∃ d, ds[i]? = some d ∧ Dq H v d
  | [], _, i, d, h, e => by cases h; simp at e
  | v :: vs, _, 0, d, h, e => by
    cases h with
    | cons h1 h2 => simp at e; subst e; exact ⟨_, rfl, h1⟩
  | v :: vs, _, i + 1, d, h, e => by
    cases h with
    | cons h1 h2 => obtain ⟨w, a, b⟩ := DqAll.get' (i := i) h2 (by simpa using e); exact ⟨w, by simpa using a, b⟩
theorem DqAll.append : ∀ {vs : List V} {ds : List PyData} {ws : List V} {es : List PyData}, DqAll H vs ds → DqAll H ws es → DqAll H (vs ++ ws) (ds ++ es)
  | [], _, _, _, h, g => by cases h; exact g
  | v :: vs, _, _, _, h, g => by
    cases h with
    | cons h1 h2 => exact .cons h1 (DqAll.append h2 g)
theorem DqAll.drop : ∀ {vs : List V} {ds : List PyData} (n : Nat), DqAll H vs ds → DqAll H (vs.drop n) (ds.drop n)
  | _, _, 0, h => h
  | [], _, _ + 1, h => by cases h; exact .nil
  | v :: vs, _, n + 1, h => by
    cases h with
    | cons h1 h2 => exact DqAll.drop n h2
theorem DqAll.take : ∀ {vs : List V} {ds : List PyData} (n : Nat), DqAll H vs ds → DqAll H (vs.take n) (ds.take n)
  | _, _, 0, h => .nil
  | [], _, _ + 1, h => by cases h; exact .nil
  | v :: vs, _, n + 1, h => by
    cases h with
    | cons h1 h2 => exact .cons h1 (DqAll.take n h2)
theorem DqAll.ints : ∀ {vs : List V} {ns : List Int}, DqAll H vs (ns.map PyData.int) → vs = ns.map V.int
  | [], [], _ => rfl
  | [], _ :: _, h => by cases h
  | _ :: _, [], h => by cases h
  | v :: vs, n :: ns, h => by
    cases h with
    | cons h1 h2 => cases h1; rw [DqAll.ints h2]; rfl
theorem DqAll.bls : ∀ {vs : List V} {ns : List Bool}, DqAll H vs (ns.map PyData.bool) → vs = ns.map V.bl
  | [], [], _ => rfl
  | [], _ :: _, h => by cases h
  | _ :: _, [], h => by cases h
  | v :: vs, n :: ns, h => by
    cases h with
    | cons h1 h2 => cases h1; rw [DqAll.bls h2]; rfl
theorem DqAll.ofInts : ∀ ns : List Int, DqAll H (ns.map V.int) (ns.map PyData.int)
  | [] => .nil
  | n :: ns => .cons (.int n) (DqAll.ofInts ns)
theorem Dq.intOf {v : V} {i : Int} (h : Dq H v (.int i)) : v = .int i := by cases h; rfl
theorem Dq.blOf {v : V} {i : Bool} (h : Dq H v (.bool i)) : v = .bl i := by cases h; rfl
theorem Dq.tupOf {v : V} {ds : List PyData} (h : Dq H v (.tuple ds)) : ∃ a xs, v = .ref a ∧ Tp H a xs ds ∧ DqAll H xs ds := by
  cases h with
  | tup h1 h2 => exact ⟨_, _, rfl, h1, h2⟩
theorem Dq.lstOf {v : V} {ds : List PyData} (h : Dq H v (.list ds)) : ∃ a xs, v = .ref a ∧ H a = some (.lst xs) ∧ DqAll H xs ds := by
  cases h with
  | lst h1 h2 => exact ⟨_, _, rfl, h1, h2⟩
end

theorem same_upd {H : Hp} {p : Addr} {o : HO} (h : H p = none) : Same H (upd H p o) := fun b x e => by
  rw [upd_ne (ne_of_none e h)]
  exact e
theorem _root_.L2.Same.upd2 {H H' : Hp} {p : Addr} {o : HO} (e : Same H H') : Same (upd H p o) (upd H' p o) := fun b x q => by
  by_cases hb : b = p
  · subst hb; rw [upd_same] at q ⊢; exact q
  · rw [upd_ne hb] at q ⊢; exact e b x q
/-- an untracked place may change -/
theorem _root_.L2.Same.out {H H' : Hp} {p : Addr} {o : HO} (e : Same H H') (h : H p = none) : Same H (upd H' p o) := fun b x q => by
  rw [upd_ne (ne_of_none q h)]
  exact e b x q

/-! ### slots, the jar, the state -/
inductive Sl where
  | any
  | dat (d : PyData)
  | adr (p : Addr)
  | dic (m : List (Int × Int))
  | scr (K : PySem.W.Frag) (ns : List Int)
/-- a dict of ints -/
def mdict (m : List (Int × Int)) : List (Key × V) := m.map fun x => (Sum.inl x.1, V.int x.2)
def SlOk (H : Hp) : V → Sl → Prop
  | _, .any => True
  | v, .dat d => Dq H v d
  | v, .adr p => v = .ref p
  | v, .dic m => ∃ p, v = .ref p ∧ H p = some (.dK (mdict m))
  | v, .scr K ns => ∃ p, v = .ref p ∧ SqL K H p (ns.map V.int)
theorem SlOk.mono {H H' : Hp} (e : Same H H') : ∀ {v : V} {s : Sl}, SlOk H v s → SlOk H' v s
  | _, .any, _ => trivial
  | _, .dat d, h => Dq.mono e d _ h
  | _, .adr _, h => h
  | _, .dic _, h => by
    obtain ⟨p, a, b⟩ := h
    exact ⟨p, a, e _ _ b⟩
  | _, .scr K ns, h => by
    obtain ⟨p, a, b⟩ := h
    exact ⟨p, a, Same.seq e b⟩
def Sg (H : Hp) (σ : L2.St) (δ : List Sl) : Prop := σ.length = δ.length ∧ ∀ (i : Nat) (s : Sl), δ[i]? = some s → s ≠ .any → ∃ v, σ[i]? = some (some v) ∧ SlOk H v s
theorem Sg.mono {H H' : Hp} {σ : L2.St} {δ : List Sl} (e : Same H H') (h : Sg H σ δ) : Sg H' σ δ := ⟨h.1, fun i s a b => by
  obtain ⟨v, p, q⟩ := h.2 i s a b
  exact ⟨v, p, q.mono e⟩⟩
theorem Sg.set {H : Hp} {σ : L2.St} {δ : List Sl} {v : V} {s : Sl} (h : Sg H σ δ) (i : Nat) (r : SlOk H v s) : Sg H (σ.set i (some v)) (δ.set i s) := by
  refine ⟨by rw [List.length_set, List.length_set]; exact h.1, fun j t a b => ?_⟩
  by_cases hj : i = j
  · subst hj
    by_cases hl : i < δ.length
    · rw [List.getElem?_set_self hl] at a
      cases a
      exact ⟨v, by rw [List.getElem?_set_self (by rw [h.1]; exact hl)], r⟩
    · rw [List.getElem?_eq_none (by rw [List.length_set]; omega)] at a; cases a
  · rw [List.getElem?_set_ne hj] at a ⊢
    exact h.2 j t a b
theorem Sg.get {H : Hp} {σ : L2.St} {δ : List Sl} {i : Nat} {d : PyData} (h : Sg H σ δ) (e : δ[i]? = some (.dat d)) : ∃ v, σ[i]? = some (some v) ∧ Dq H v d := h.2 i _ e (fun z => by cases z)
theorem Sg.getA {H : Hp} {σ : L2.St} {δ : List Sl} {i : Nat} {p : Addr} (h : Sg H σ δ) (e : δ[i]? = some (.adr p)) : σ[i]? = some (some (.ref p)) := by
  obtain ⟨v, a, b⟩ := h.2 i _ e (fun z => by cases z)
  rw [a]; rw [show v = .ref p from b]
/-- less is known -/
theorem Sg.weak {H : Hp} {σ : L2.St} {δ δ' : List Sl} (h : Sg H σ δ) (hl : δ'.length = δ.length) (hw : ∀ (i : Nat) (s : Sl), δ'[i]? = some s → s = Sl.any ∨ δ[i]? = some s) : Sg H σ δ' := ⟨by rw [h.1, hl], fun i s a b => by
  rcases hw i s a with e | e
  · exact absurd e b
  · exact h.2 i s e b⟩

def Jar (n : Nat) (H : Hp) (p : Addr) : Prop := ∃ x y z : Int, H p = some (.lst [.int x, .int y, .int z]) ∧ 0 ≤ y ∧ y < 2 ^ 140 ∧ 0 ≤ z ∧ z + n ≤ 1000000000
theorem Jar.mono {n m : Nat} {H : Hp} {p : Addr} (h : Jar n H p) (l : m ≤ n) : Jar m H p := by
  obtain ⟨x, y, z, a, b, c, d, e⟩ := h
  exact ⟨x, y, z, a, b, c, d, by omega⟩
theorem Jar.ne {n : Nat} {H : Hp} {p : Addr} (h : Jar n H p) : H p ≠ none := by
  obtain ⟨x, y, z, a, _⟩ := h
  rw [a]; exact fun z => by cases z
theorem Jar.same {n : Nat} {H H' : Hp} {p : Addr} (h : Jar n H p) (e : ∀ o, H p = some o → H' p = some o) : Jar n H' p := by
  obtain ⟨x, y, z, a, r⟩ := h
  exact ⟨x, y, z, e _ a, r⟩

structure Gr (q : Option Addr) (H H1 Hk H2 : Hp) : Prop where
  k : Same H Hk
  a : Same Hk H2
  s : ∀ b o, q ≠ some b → H1 b = some o → H2 b = some o
  f : ∀ b, H b = none → H1 b ≠ none → Hk b = none
  t : ∀ b, H1 b ≠ none → H2 b ≠ none
theorem Gr.refl {q : Option Addr} {H H1 : Hp} (e : Same H H1) : Gr q H H1 H H1 := ⟨Same.refl H, e, fun _ _ _ h => h, fun _ h _ => h, fun _ h => h⟩
theorem Gr.trans {q : Option Addr} {H H1 Hk H2 Hk' H3 : Hp} (x : Gr q H H1 Hk H2) (y : Gr q Hk H2 Hk' H3) : Gr q H H1 Hk' H3 :=
  ⟨x.k.trans y.k, y.a, fun b o n h => y.s b o n (x.s b o n h), fun b h h1 => y.f b (x.f b h h1) (x.t b h1), fun b h => y.t b (x.t b h)⟩
theorem Gr.none_to {q : Option Addr} {H H1 Hk H2 : Hp} (x : Gr none H H1 Hk H2) : Gr q H H1 Hk H2 := ⟨x.k, x.a, fun b o _ h => x.s b o (fun z => by cases z) h, x.f, x.t⟩
/-- a new object, known at once -/
theorem Gr.new {q : Option Addr} {H H1 : Hp} {p : Addr} {o : HO} (e : Same H H1) (h : H1 p = none) : Gr q H H1 (upd H p o) (upd H1 p o) := by
  have hn : H p = none := e.free h
  refine ⟨same_upd hn, e.upd2, fun b u _ q => by rw [upd_ne (ne_of_none q h)]; exact q, fun b q z => ?_, fun b z => ?_⟩
  · rw [upd_ne (fun w => z (by rw [w]; exact h))]; exact q
  · rw [upd_ne (fun w => z (by rw [w]; exact h))]; exact z
/-- a new object, not known -/
theorem Gr.cell {q : Option Addr} {H H1 : Hp} {p : Addr} {o : HO} (e : Same H H1) (h : H1 p = none) : Gr q H H1 H (upd H1 p o) := by
  have hn : H p = none := e.free h
  refine ⟨Same.refl H, e.out hn, fun b u _ q => by rw [upd_ne (ne_of_none q h)]; exact q, fun b q z => q, fun b z => ?_⟩
  rw [upd_ne (fun w => z (by rw [w]; exact h))]; exact z
/-- a cell of ours changes -/
theorem Gr.put {q : Option Addr} {H H1 Hk H2 : Hp} {p : Addr} {o : HO} (x : Gr q H H1 Hk H2) (h : H1 p = none) (hk : Hk p = none) : Gr q H H1 Hk (upd H2 p o) := by
  refine ⟨x.k, x.a.out hk, fun b u n z => ?_, x.f, fun b z => ?_⟩
  · rw [upd_ne (ne_of_none z h)]; exact x.s b u n z
  · rw [upd_ne (fun w => z (by rw [w]; exact h))]; exact x.t b z
/-- a cell of ours becomes known -/
theorem Gr.freeze {q : Option Addr} {H H1 Hk H2 : Hp} {p : Addr} {o : HO} (x : Gr q H H1 Hk H2) (h : H1 p = none) (hk : Hk p = none) (e : H2 p = some o) : Gr q H H1 (upd Hk p o) H2 := by
  refine ⟨x.k.trans (same_upd hk), fun b u z => ?_, x.s, fun b z w => ?_, x.t⟩
  · by_cases hb : b = p
    · subst hb; rw [upd_same] at z; rw [← z]; exact e
    · rw [upd_ne hb] at z; exact x.a b u z
  · rw [upd_ne (fun v => w (by rw [v]; exact h))]; exact x.f b z w

structure Ok (q : Option Addr) (n : Nat) (H H1 : Hp) : Prop where
  a : Same H H1
  kf : ∀ p, q = some p → H p = none
  j : ∀ p, q = some p → Jar n H1 p
theorem Ok.mono {q : Option Addr} {n m : Nat} {H H1 : Hp} (h : Ok q n H H1) (l : m ≤ n) : Ok q m H H1 := ⟨h.a, h.kf, fun p e => (h.j p e).mono l⟩
/-- behind a step that leaves the jar -/
theorem Ok.go {q : Option Addr} {n : Nat} {H H1 Hk H2 : Hp} (h : Ok q n H H1) (g : Gr none H H1 Hk H2) : Ok q n Hk H2 :=
  ⟨g.a, fun p e => g.f p (h.kf p e) (h.j p e).ne, fun p e => (h.j p e).same fun o z => g.s p o (fun w => by cases w) z⟩
theorem Ok.cell {q : Option Addr} {n : Nat} {H H1 : Hp} {p : Addr} {o : HO} (h : Ok q n H H1) (hk : H p = none) (hq : q ≠ some p) : Ok q n H (upd H1 p o) :=
  ⟨h.a.out hk, h.kf, fun r e => (h.j r e).same fun u z => by rw [upd_ne (fun w => hq (by rw [← w]; exact e))]; exact z⟩

/-- the state of a def that runs: from its entry (A0, B0) -/
structure At (q : Option Addr) (n : Nat) (δ : List Sl) (A0 B0 : Hp) (σ : L2.St) (Hk H1 : Hp) : Prop where
  ok : Ok q n Hk H1
  sg : Sg Hk σ δ
  gr : Gr q A0 B0 Hk H1
theorem At.go {q : Option Addr} {n m : Nat} {δ δ' : List Sl} {A0 B0 : Hp} {σ σ' : L2.St} {Hk H1 Hk' H2 : Hp} (s : At q n δ A0 B0 σ Hk H1) (g : Gr q Hk H1 Hk' H2) (o : Ok q m Hk' H2) (sg : Sg Hk' σ' δ') : At q m δ' A0 B0 σ' Hk' H2 := ⟨o, sg, s.gr.trans g⟩
theorem At.mono {q : Option Addr} {n m : Nat} {δ : List Sl} {A0 B0 : Hp} {σ : L2.St} {Hk H1 : Hp} (s : At q n δ A0 B0 σ Hk H1) (l : m ≤ n) : At q m δ A0 B0 σ Hk H1 := ⟨s.ok.mono l, s.sg, s.gr⟩
theorem At.weak {q : Option Addr} {n : Nat} {δ δ' : List Sl} {A0 B0 : Hp} {σ : L2.St} {Hk H1 : Hp} (s : At q n δ A0 B0 σ Hk H1) (hl : δ'.length = δ.length) (hw : ∀ (i : Nat) (s : Sl), δ'[i]? = some s → s = Sl.any ∨ δ[i]? = some s) : At q n δ' A0 B0 σ Hk H1 := ⟨s.ok, s.sg.weak hl hw, s.gr⟩

/-! ### judgements -/
def J (q : Option Addr) (δ : List Sl) (te : TE) (c : Nat) (Φ : PyData → Prop) : Prop :=
  ∀ (σ : L2.St) (H H1 : Hp) (n : Nat), Sg H σ δ → Ok q (n + c) H H1 → ∀ Q : VK, (∀ d v Hk H2, Gr q H H1 Hk H2 → Ok q n Hk H2 → Φ d → Dq Hk v d → Q v H2) → te σ H1 Q
abbrev E (q : Option Addr) (δ : List Sl) (te : TE) (d : PyData) : Prop := J q δ te 0 (fun x => x = d)
def TJ (q : Option Addr) (δ : List Sl) (tt : TT) (c : Nat) (Φ : Bool → Prop) : Prop :=
  ∀ (σ : L2.St) (H H1 : Hp) (n : Nat), Sg H σ δ → Ok q (n + c) H H1 → ∀ Q : Bool → Hp → Prop, (∀ b Hk H2, Gr q H H1 Hk H2 → Ok q n Hk H2 → Φ b → Q b H2) → tt σ H1 Q
abbrev TB (q : Option Addr) (δ : List Sl) (tt : TT) (b : Bool) : Prop := TJ q δ tt 0 (fun x => x = b)
def VS (H : Hp) (vs : List V) (sls : List Sl) : Prop := vs.length = sls.length ∧ ∀ (i : Nat) (s : Sl), sls[i]? = some s → ∃ v, vs[i]? = some v ∧ SlOk H v s
theorem VS.mono {H H' : Hp} {vs : List V} {sls : List Sl} (e : Same H H') (h : VS H vs sls) : VS H' vs sls := ⟨h.1, fun i s a => by
  obtain ⟨v, p, q⟩ := h.2 i s a
  exact ⟨v, p, q.mono e⟩⟩
theorem VS.nil {H : Hp} : VS H [] [] := ⟨rfl, fun i s e => by simp at e⟩
theorem VS.cons {H : Hp} {v : V} {vs : List V} {s : Sl} {sls : List Sl} (h : SlOk H v s) (t : VS H vs sls) : VS H (v :: vs) (s :: sls) := ⟨by rw [List.length_cons, List.length_cons, t.1], fun i u e => by
  cases i with
  | zero => simp at e; subst e; exact ⟨v, rfl, h⟩
  | succ i => obtain ⟨w, a, b⟩ := t.2 i u (by simpa using e); exact ⟨w, by simpa using a, b⟩⟩
theorem VS.dats {H : Hp} : ∀ {vs : List V} {ds : List PyData}, VS H vs (ds.map Sl.dat) → DqAll H vs ds
  | [], [], _ => .nil
  | [], _ :: _, h => by have := h.1; simp at this
  | _ :: _, [], h => by have := h.1; simp at this
  | v :: vs, d :: ds, h => by
    obtain ⟨w, a, b⟩ := h.2 0 (.dat d) rfl
    have e : v = w := by simpa using a
    subst e
    exact .cons b (VS.dats (ds := ds) ⟨by have := h.1; simpa using this, fun i s e => by
      obtain ⟨x, p, q⟩ := h.2 (i + 1) s (by simpa using e)
      exact ⟨x, by simpa using p, q⟩⟩)
def AJ (q : Option Addr) (δ : List Sl) (ta : TA) (c : Nat) (Φ : List Sl → Prop) : Prop :=
  ∀ (σ : L2.St) (H H1 : Hp) (n : Nat), Sg H σ δ → Ok q (n + c) H H1 → ∀ Q : List V → Hp → Prop, (∀ sls vs Hk H2, Gr q H H1 Hk H2 → Ok q n Hk H2 → Φ sls → VS Hk vs sls → Q vs H2) → ta σ H1 Q
abbrev AE (q : Option Addr) (δ : List Sl) (ta : TA) (sls : List Sl) : Prop := AJ q δ ta 0 (fun x => x = sls)

section
variable {K : PySem.W.Frag} {q : Option Addr} {δ : List Sl} {te ta tb tc : TE} {tt tu : TT} {c c1 c2 c3 : Nat} {Φ Φ1 Φ2 Φ3 : PyData → Prop} {d d1 d2 : PyData}

theorem J.imp (h : J q δ te c Φ) (i : ∀ d, Φ d → Φ1 d) : J q δ te c Φ1 := fun σ H H1 n sg o Q k => h σ H H1 n sg o Q fun d v Hk H2 g o' p r => k d v Hk H2 g o' (i d p) r
theorem J.cost (h : J q δ te c Φ) (l : c ≤ c1) : J q δ te c1 Φ := fun σ H H1 n sg o Q k => h σ H H1 n sg (o.mono (by omega)) Q k
theorem J.to (h : J q δ te c Φ) (l : c ≤ c1) (i : ∀ d, Φ d → Φ1 d) : J q δ te c1 Φ1 := (h.cost l).imp i
theorem TJ.imp {Φ Φ1 : Bool → Prop} (h : TJ q δ tt c Φ) (i : ∀ d, Φ d → Φ1 d) : TJ q δ tt c Φ1 := fun σ H H1 n sg o Q k => h σ H H1 n sg o Q fun d Hk H2 g o' p => k d Hk H2 g o' (i d p)
theorem TJ.cost {Φ : Bool → Prop} (h : TJ q δ tt c Φ) (l : c ≤ c1) : TJ q δ tt c1 Φ := fun σ H H1 n sg o Q k => h σ H H1 n sg (o.mono (by omega)) Q k
theorem AJ.cost {ta : TA} {Φ : List Sl → Prop} (h : AJ q δ ta c Φ) (l : c ≤ c1) : AJ q δ ta c1 Φ := fun σ H H1 n sg o Q k => h σ H H1 n sg (o.mono (by omega)) Q k
theorem AJ.imp {ta : TA} {Φ Φ1 : List Sl → Prop} (h : AJ q δ ta c Φ) (i : ∀ d, Φ d → Φ1 d) : AJ q δ ta c Φ1 := fun σ H H1 n sg o Q k => h σ H H1 n sg o Q fun d v Hk H2 g o' p r => k d v Hk H2 g o' (i d p) r
theorem e_is (h : E q δ te d) (e : d = d1) : E q δ te d1 := by rw [← e]; exact h
theorem tb_is {a b : Bool} (h : TB q δ tt a) (e : a = b) : TB q δ tt b := by rw [← e]; exact h

/-! names and constants -/
theorem e_var {i : Nat} (e : δ[i]? = some (.dat d)) : E q δ (tVar i) d := fun σ H H1 n sg o Q k => by
  obtain ⟨v, a, b⟩ := sg.get e
  exact ⟨v, a, k d v H H1 (Gr.refl o.a) o rfl b⟩
theorem e_c {v : V} (h : ∀ H, Dq H v d) : E q δ (tC v) d := fun σ H H1 n sg o Q k => k d v H H1 (Gr.refl o.a) o rfl (h H)
theorem e_int {i : Int} : E q δ (tC (.int i)) (.int i) := e_c fun _ => .int i
theorem e_bl {i : Bool} : E q δ (tC (.bl i)) (.bool i) := e_c fun _ => .bl i
theorem e_non : E q δ (tC .non) .none := e_c fun _ => .non
theorem e_str {x : Str} : E q δ (tC (.str x)) (.str x) := e_c fun _ => .str x

/-! operators -/
def RJ (r : R2) (a b : PyData) (Φ : PyData → Prop) : Prop := ∀ (x y : V) (H H1 : Hp), Dq H x a → Dq H y b → Same H H1 → ∀ Q : VK, (∀ d v Hk H2, Gr none H H1 Hk H2 → Φ d → Dq Hk v d → Q v H2) → r x y H1 Q
theorem j_op {r : R2} (ha : J q δ ta c1 Φ1) (hb : J q δ tb c2 Φ2) (hr : ∀ a b, Φ1 a → Φ2 b → RJ r a b Φ) : J q δ (tOp r ta tb) (c2 + c1) Φ := fun σ H H1 n sg o Q k =>
  ha σ H H1 (n + c2) sg (by rw [Nat.add_assoc]; exact o) _ fun a x Hk H2 g o1 pa da => hb σ Hk H2 n (sg.mono g.k) o1 _ fun b y Hk' H3 g' o2 pb db =>
    hr a b pa pb x y Hk' H3 (Dq.mono g'.k _ _ da) db g'.a _ fun d v Hk2 H4 g2 p r => k d v Hk2 H4 ((g.trans g').trans g2.none_to) (o2.go g2) p r
theorem e_op {r : R2} (ha : E q δ ta d1) (hb : E q δ tb d2) (hr : RJ r d1 d2 Φ) : J q δ (tOp r ta tb) 0 Φ := j_op ha hb fun a b pa pb => by subst pa; subst pb; exact hr
/-- scalars -/
def vd : V → PyData
  | .bl b => .bool b
  | .int i => .int i
  | .str x => .str x
  | _ => .none
def sc : V → Bool
  | .bl _ => true
  | .int _ => true
  | .str _ => true
  | .non => true
  | _ => false
theorem sc_dq {H : Hp} : ∀ {v : V}, sc v = true → Dq H v (vd v)
  | .bl b, _ => .bl b
  | .int i, _ => .int i
  | .str x, _ => .str x
  | .non, _ => .non
  | .byt _, h => nomatch h
  | .flt _, h => nomatch h
  | .ref _, h => nomatch h
  | .ty _, h => nomatch h
theorem rj_I0 {g : Int → Int → V} {i j : Int} (hs : sc (g i j) = true) (hp : Φ (vd (g i j))) : RJ (rI0 g) (.int i) (.int j) Φ := fun x y H H1 hx hy e Q k => by
  rw [hx.intOf, hy.intOf]
  exact ⟨i, j, rfl, rfl, k _ _ H H1 (Gr.refl e) hp (sc_dq hs)⟩
theorem rj_I {C : Int → Int → Prop} {g : Int → Int → V} {i j : Int} (hc : C i j) (hs : sc (g i j) = true) (hp : Φ (vd (g i j))) : RJ (rI C g) (.int i) (.int j) Φ := fun x y H H1 hx hy e Q k => by
  rw [hx.intOf, hy.intOf]
  exact ⟨i, j, rfl, rfl, hc, k _ _ H H1 (Gr.refl e) hp (sc_dq hs)⟩
theorem e_I0 {g : Int → Int → V} {i j : Int} (ha : E q δ ta (.int i)) (hb : E q δ tb (.int j)) (hs : sc (g i j) = true := by rfl) : E q δ (tOp (rI0 g) ta tb) (vd (g i j)) := e_op ha hb (rj_I0 hs rfl)
theorem e_I {C : Int → Int → Prop} {g : Int → Int → V} {i j : Int} (ha : E q δ ta (.int i)) (hb : E q δ tb (.int j)) (hc : C i j) (hs : sc (g i j) = true := by rfl) : E q δ (tOp (rI C g) ta tb) (vd (g i j)) := e_op ha hb (rj_I hc hs rfl)
/-- ints that are not told -/
abbrev IntP (P : Int → Prop) : PyData → Prop := fun d => ∃ i, P i ∧ d = .int i
theorem j_I0 {P1 P2 : Int → Prop} {g : Int → Int → V} (ha : J q δ ta c1 (IntP P1)) (hb : J q δ tb c2 (IntP P2)) (hp : ∀ i j, P1 i → P2 j → Φ (vd (g i j))) (hs : ∀ i j, sc (g i j) = true := by intro _ _; rfl) : J q δ (tOp (rI0 g) ta tb) (c2 + c1) Φ :=
  j_op ha hb fun a b ⟨i, pi, ea⟩ ⟨j, pj, eb⟩ => by subst ea; subst eb; exact rj_I0 (hs i j) (hp i j pi pj)
theorem E.intP {i : Int} (h : E q δ te (.int i)) : J q δ te 0 (IntP (fun x => x = i)) := h.imp fun d e => ⟨i, rfl, e⟩
theorem e_un {g : Int → V} {i : Int} (ha : E q δ ta (.int i)) (hs : sc (g i) = true := by rfl) : E q δ (tUn (rU g) ta) (vd (g i)) := fun σ H H1 n sg o Q k =>
  ha σ H H1 n sg o _ fun a x Hk H2 g' o1 pa da => by
    subst pa
    rw [da.intOf]
    exact ⟨i, rfl, k _ _ Hk H2 g' o1 rfl (sc_dq hs)⟩
/-- == and != of data -/
theorem e_eqD (ha : E q δ ta d1) (hb : E q δ tb d2) (s1 : SeqAt.shaped d1 = true) (s2 : SeqAt.shaped d2 = true) : E q δ (tOp (rEqD K) ta tb) (.bool (PyData.eqv d1 d2)) := e_op ha hb fun x y H H1 hx hy e Q k =>
  ⟨d1, d2, Dq.dp K _ _ (no_dict s1) (Dq.mono e _ _ hx), Dq.dp K _ _ (no_dict s2) (Dq.mono e _ _ hy), s1, s2, k _ _ H H1 (Gr.refl e) rfl (.bl _)⟩
theorem e_neD (ha : E q δ ta d1) (hb : E q δ tb d2) (s1 : SeqAt.shaped d1 = true) (s2 : SeqAt.shaped d2 = true) : E q δ (tOp (rNeD K) ta tb) (.bool (!PyData.eqv d1 d2)) := e_op ha hb fun x y H H1 hx hy e Q k =>
  ⟨d1, d2, Dq.dp K _ _ (no_dict s1) (Dq.mono e _ _ hx), Dq.dp K _ _ (no_dict s2) (Dq.mono e _ _ hy), s1, s2, k _ _ H H1 (Gr.refl e) rfl (.bl _)⟩
/-- items -/
theorem dq_atI {H : Hp} {vs : List V} {ds : List PyData} {i : Int} {d : PyData} (h : DqAll H vs ds) (e : atI ds i = some d) : ∃ v, atI vs i = some v ∧ Dq H v d := by
  unfold atI at e ⊢
  rw [h.length]
  cases hx : ixN ds.length i with
  | none => rw [hx] at e; cases e
  | some j =>
    rw [hx] at e
    obtain ⟨v, a, b⟩ := h.get (i := j) (d := d) e
    exact ⟨v, a, b⟩
theorem rj_ixT {ds : List PyData} {i : Int} (e : atI ds i = some d) (hp : Φ d) : RJ (rIxT K) (.tuple ds) (.int i) Φ := fun x y H H1 hx hy e1 Q k => by
  obtain ⟨a, xs, rfl, h1, h2⟩ := hx.tupOf
  obtain ⟨v, hv, dv⟩ := dq_atI h2 e
  rw [hy.intOf]
  exact ⟨a, xs, i, v, rfl, rfl, .inl (h1.mono e1).rd, hv, k d v H H1 (Gr.refl e1) hp dv⟩
theorem rj_ixL {ds : List PyData} {i : Int} (e : atI ds i = some d) (hp : Φ d) : RJ (rIxL K) (.list ds) (.int i) Φ := fun x y H H1 hx hy e1 Q k => by
  obtain ⟨a, xs, rfl, h1, h2⟩ := hx.lstOf
  obtain ⟨v, hv, dv⟩ := dq_atI h2 e
  rw [hy.intOf]
  exact ⟨a, xs, i, v, rfl, rfl, .inl (.inl (e1 _ _ h1)), hv, k d v H H1 (Gr.refl e1) hp dv⟩
/-- a + b of lists -/
theorem rj_cat {ds es : List PyData} (hl : ds.length + es.length ≤ 1000000) (hp : Φ (.list (ds ++ es))) : RJ rCat (.list ds) (.list es) Φ := fun x y H H1 hx hy e1 Q k => by
  obtain ⟨a, xs, rfl, h1, h2⟩ := hx.lstOf
  obtain ⟨b, ys, rfl, g1, g2⟩ := hy.lstOf
  refine ⟨a, b, xs, ys, rfl, rfl, e1 _ _ h1, e1 _ _ g1, Nat.le_trans (by rw [h2.length, g2.length]; exact hl) (by rw [sizeLine_eq]; decide), fun p hn => ?_⟩
  have g := Gr.new (q := none) (o := .lst (xs ++ ys)) e1 hn
  exact k _ _ _ _ g hp (.lst upd_same (DqAll.mono g.k _ _ (h2.append g2)))
/-! tests -/
abbrev BoolP (P : Bool → Prop) : PyData → Prop := fun d => ∃ b, P b ∧ d = .bool b
theorem tj_test {Φ : Bool → Prop} (h : J q δ te c (BoolP Φ)) : TJ q δ (tTest te) c Φ := fun σ H H1 n sg o Q k => h σ H H1 n sg o _ fun d v Hk H2 g o1 ⟨b, pb, e⟩ dv => by
  subst e
  exact ⟨b, dv.blOf, k b Hk H2 g o1 pb⟩
theorem tj_B {Φ : Bool → Prop} (h : J q δ te c (BoolP Φ)) : TJ q δ (tB te) c Φ := fun σ H H1 n sg o Q k => h σ H H1 n sg o _ fun d v Hk H2 g o1 ⟨b, pb, e⟩ dv => by
  subst e
  exact ⟨b, dv.blOf, k b Hk H2 g o1 pb⟩
theorem E.boolP {b : Bool} (h : E q δ te (.bool b)) : J q δ te 0 (BoolP (fun x => x = b)) := h.imp fun d e => ⟨b, rfl, e⟩
theorem tb_test {b : Bool} (h : E q δ te (.bool b)) : TB q δ (tTest te) b := tj_test h.boolP
theorem tb_B {b : Bool} (h : E q δ te (.bool b)) : TB q δ (tB te) b := tj_B h.boolP
theorem tb_and {a b : Bool} (h1 : TB q δ tt a) (h2 : a = true → TB q δ tu b) : TB q δ (tAnd tt tu) (a && b) := fun σ H H1 n sg o Q k => h1 σ H H1 n sg o _ fun x Hk H2 g o1 e => by
  subst e
  cases x with
  | true => exact iteT (h2 rfl σ Hk H2 n (sg.mono g.k) o1 _ fun b Hk' H3 g' o2 e => k _ Hk' H3 (g.trans g') o2 (by rw [e, Bool.true_and]))
  | false => exact iteF (k _ Hk H2 g o1 (by rw [Bool.false_and]))
theorem tb_or {a b : Bool} (h1 : TB q δ tt a) (h2 : a = false → TB q δ tu b) : TB q δ (tOr tt tu) (a || b) := fun σ H H1 n sg o Q k => h1 σ H H1 n sg o _ fun x Hk H2 g o1 e => by
  subst e
  cases x with
  | true => exact iteT (k _ Hk H2 g o1 (by rw [Bool.true_or]))
  | false => exact iteF (h2 rfl σ Hk H2 n (sg.mono g.k) o1 _ fun b Hk' H3 g' o2 e => k _ Hk' H3 (g.trans g') o2 (by rw [e, Bool.false_or]))
theorem tb_not {a : Bool} (h1 : TB q δ tt a) : TB q δ (tNot tt) (!a) := fun σ H H1 n sg o Q k => h1 σ H H1 n sg o _ fun x Hk H2 g o1 e => k _ Hk H2 g o1 (by rw [e])
theorem tb_yes : TB q δ tYes true := fun σ H H1 n sg o Q k => k true H H1 (Gr.refl o.a) o rfl
theorem e_andV {a b : Bool} (h1 : E q δ ta (.bool a)) (h2 : a = true → E q δ tb (.bool b)) : E q δ (tAndV ta tb) (.bool (a && b)) := fun σ H H1 n sg o Q k => h1 σ H H1 n sg o _ fun x v Hk H2 g o1 e dv => by
  subst e
  refine ⟨a, dv.blOf, ?_⟩
  cases a with
  | true => exact iteT (h2 rfl σ Hk H2 n (sg.mono g.k) o1 _ fun b Hv Hk' H3 g' o2 e dv' => k _ Hv Hk' H3 (g.trans g') o2 (by rw [e, Bool.true_and]) dv')
  | false => exact iteF (k (.bool false) _ Hk H2 g o1 (by rw [Bool.false_and]) (.bl false))
theorem e_notV {a : Bool} (h1 : E q δ ta (.bool a)) : E q δ (tNotV ta) (.bool (!a)) := fun σ H H1 n sg o Q k => h1 σ H H1 n sg o _ fun x v Hk H2 g o1 e dv => by
  subst e
  exact ⟨a, dv.blOf, k (.bool (!a)) _ Hk H2 g o1 rfl (.bl _)⟩
theorem e_if {b : Bool} (h : TB q δ tt b) (h1 : b = true → E q δ ta d) (h2 : b = false → E q δ tb d) : E q δ (tIf tt ta tb) d := fun σ H H1 n sg o Q k => h σ H H1 n sg o _ fun x Hk H2 g o1 e => by
  subst e
  cases x with
  | true => exact iteT (h1 rfl σ Hk H2 n (sg.mono g.k) o1 _ fun b Hv Hk' H3 g' o2 e dv' => k _ Hv Hk' H3 (g.trans g') o2 e dv')
  | false => exact iteF (h2 rfl σ Hk H2 n (sg.mono g.k) o1 _ fun b Hv Hk' H3 g' o2 e dv' => k _ Hv Hk' H3 (g.trans g') o2 e dv')
theorem j_if {P : Bool → Prop} (h : TJ q δ tt c P) (h1 : P true → J q δ ta c1 Φ) (h2 : P false → J q δ tb c1 Φ) : J q δ (tIf tt ta tb) (c1 + c) Φ := fun σ H H1 n sg o Q k => h σ H H1 (n + c1) sg (by rw [Nat.add_assoc]; exact o) _ fun x Hk H2 g o1 e => by
  cases x with
  | true => exact iteT (h1 e σ Hk H2 n (sg.mono g.k) o1 _ fun b Hv Hk' H3 g' o2 e dv' => k _ Hv Hk' H3 (g.trans g') o2 e dv')
  | false => exact iteF (h2 e σ Hk H2 n (sg.mono g.k) o1 _ fun b Hv Hk' H3 g' o2 e dv' => k _ Hv Hk' H3 (g.trans g') o2 e dv')

/-! arguments, displays -/
theorem ae_nil : AE q δ tNil [] := fun σ H H1 n sg o Q k => k [] [] H H1 (Gr.refl o.a) o rfl VS.nil
theorem aj_cons {tr : TA} {Φr Φ' : List Sl → Prop} (h : J q δ te c1 Φ1) (hr : AJ q δ tr c2 Φr) (hp : ∀ d sls, Φ1 d → Φr sls → Φ' (.dat d :: sls)) : AJ q δ (tCons te tr) (c2 + c1) Φ' := fun σ H H1 n sg o Q k =>
  h σ H H1 (n + c2) sg (by rw [Nat.add_assoc]; exact o) _ fun d v Hk H2 g o1 p dv => hr σ Hk H2 n (sg.mono g.k) o1 _ fun sls vs Hk' H3 g' o2 pr hv => k _ _ Hk' H3 (g.trans g') o2 (hp d sls p pr) (VS.cons (Dq.mono g'.k _ _ dv) hv)
theorem ae_cons {tr : TA} {sls : List Sl} (h : E q δ te d) (hr : AE q δ tr sls) : AE q δ (tCons te tr) (.dat d :: sls) := aj_cons h hr fun _ _ a b => by rw [a, b]
/-- an address handed on -/
theorem aj_adr {tr : TA} {Φr Φ' : List Sl → Prop} {i : Nat} {p : Addr} (e : δ[i]? = some (.adr p)) (hr : AJ q δ tr c2 Φr) (hp : ∀ sls, Φr sls → Φ' (.adr p :: sls)) : AJ q δ (tCons (tVar i) tr) c2 Φ' := fun σ H H1 n sg o Q k =>
  ⟨.ref p, sg.getA e, hr σ H H1 n sg o _ fun sls vs Hk' H3 g' o2 pr hv => k _ _ Hk' H3 g' o2 (hp sls pr) (VS.cons rfl hv)⟩
theorem ae_adr {tr : TA} {sls : List Sl} {i : Nat} {p : Addr} (e : δ[i]? = some (.adr p)) (hr : AE q δ tr sls) : AE q δ (tCons (tVar i) tr) (.adr p :: sls) := aj_adr e hr fun _ b => by rw [b]
theorem AE.to {ta : TA} {sls : List Sl} {Φ : List Sl → Prop} (h : AE q δ ta sls) (p : Φ sls) : AJ q δ ta 0 Φ := h.imp fun _ e => by rw [e]; exact p
theorem j_tup {ta : TA} {Ψ : List PyData → Prop} (h : AJ q δ ta c (fun sls => ∃ ds : List PyData, sls = ds.map Sl.dat ∧ ds.length ≤ 1000000 ∧ Ψ ds)) : J q δ (tTup ta) c (fun d => ∃ ds, Ψ ds ∧ d = .tuple ds) := fun σ H H1 n sg o Q k =>
  h σ H H1 n sg o _ fun sls vs Hk H2 g o1 ⟨ds, e, hl, p⟩ hv => by
    subst e
    have hd := hv.dats
    refine ⟨Nat.le_trans (by rw [hd.length]; exact hl) (by rw [sizeLine_eq]; decide), fun a ob od hn => ?_⟩
    have g1 := Gr.new (q := none) (o := .frz ob (.tup vs)) g.a hn
    exact k _ _ _ _ (g.trans g1.none_to) (o1.go g1) ⟨ds, p, rfl⟩ (.tup (Tp.new od) (DqAll.mono g1.k _ _ hd))
theorem j_lst {ta : TA} {Ψ : List PyData → Prop} (h : AJ q δ ta c (fun sls => ∃ ds : List PyData, sls = ds.map Sl.dat ∧ ds.length ≤ 1000000 ∧ Ψ ds)) : J q δ (tLst ta) c (fun d => ∃ ds, Ψ ds ∧ d = .list ds) := fun σ H H1 n sg o Q k =>
  h σ H H1 n sg o _ fun sls vs Hk H2 g o1 ⟨ds, e, hl, p⟩ hv => by
    subst e
    have hd := hv.dats
    refine ⟨Nat.le_trans (by rw [hd.length]; exact hl) (by rw [sizeLine_eq]; decide), fun a hn => ?_⟩
    have g1 := Gr.new (q := none) (o := .lst vs) g.a hn
    exact k _ _ _ _ (g.trans g1.none_to) (o1.go g1) ⟨ds, p, rfl⟩ (.lst upd_same (DqAll.mono g1.k _ _ hd))
theorem e_tup {ta : TA} {ds : List PyData} (h : AE q δ ta (ds.map Sl.dat)) (hl : ds.length ≤ 1000000 := by simp) : E q δ (tTup ta) (.tuple ds) := (j_tup (Ψ := fun x => x = ds) (h.to ⟨ds, rfl, hl, rfl⟩)).imp fun d ⟨x, a, b⟩ => by rw [b, a]
theorem e_lst {ta : TA} {ds : List PyData} (h : AE q δ ta (ds.map Sl.dat)) (hl : ds.length ≤ 1000000 := by simp) : E q δ (tLst ta) (.list ds) := (j_lst (Ψ := fun x => x = ds) (h.to ⟨ds, rfl, hl, rfl⟩)).imp fun d ⟨x, a, b⟩ => by rw [b, a]

/-! calls of defs -/
abbrev RelX := Option Addr → List Sl → Nat → (PyData → Prop) → Prop
def spX (R : RelX) : Sp := fun vs H Q _ => ∃ (q : Option Addr) (Hk : Hp) (sls : List Sl) (n c : Nat) (Φ : PyData → Prop), Ok q (n + c) Hk H ∧ VS Hk vs sls ∧ R q sls c Φ ∧
  ∀ d v Hk' H2, Gr q Hk H Hk' H2 → Ok q n Hk' H2 → Φ d → Dq Hk' v d → Q v H2
theorem j_call {R : RelX} {E : XK} {ta : TA} {Φa : List Sl → Prop} (ha : AJ q δ ta c1 Φa) (hr : ∀ sls, Φa sls → R q sls c Φ) : J q δ (tCall (spX R) [] E ta) (c + c1) Φ := fun σ H H1 n sg o Q k =>
  ha σ H H1 (n + c) sg (by rw [Nat.add_assoc]; exact o) _ fun sls vs Hk H2 g o1 p hv => by
    show spX R (vs ++ []) H2 Q E
    rw [List.append_nil]
    exact ⟨q, Hk, sls, n, c, Φ, o1, hv, hr sls p, fun d v Hk' H3 g' o2 pd dv => k d v Hk' H3 (g.trans g') o2 pd dv⟩
theorem j_callD {R : RelX} {E : XK} {ta : TA} {Φa : List Sl → Prop} (ha : AJ q δ ta c1 Φa) (hr : ∀ sls, Φa sls → ∃ Φ', R q sls c Φ' ∧ ∀ d, Φ' d → Φ d) : J q δ (tCall (spX R) [] E ta) (c + c1) Φ := fun σ H H1 n sg o Q k =>
  ha σ H H1 (n + c) sg (by rw [Nat.add_assoc]; exact o) _ fun sls vs Hk H2 g o1 p hv => by
    show spX R (vs ++ []) H2 Q E
    rw [List.append_nil]
    obtain ⟨Φ', r, i⟩ := hr sls p
    exact ⟨q, Hk, sls, n, c, Φ', o1, hv, r, fun d v Hk' H3 g' o2 pd dv => k d v Hk' H3 (g.trans g') o2 (i d pd) dv⟩
end
end Cr

set_option Elab.async false
set_option linter.all false
set_option maxRecDepth 100000
set_option maxHeartbeats 4000000
/-! ### rules that the layer lacks -/
namespace L2
open PySem PySem.Spec PyProof.Rows
section
variable {X : Cx}
def CPowW (i j : Int) : Prop := 0 ≤ j ∧ (Builtin.Int.intBits i : Int) * j ≤ 2 ^ 27
theorem op_powW : OpR X (binaryOp .Pow) (rI CPowW fun i j => .int (i ^ j.toNat)) := opI fun _ _ _ _ _ _ _ hc q => pow_int hc.1 hc.2 q
theorem pow_ok {i j : Int} {a : Nat} (ha : i.natAbs < 2 ^ a) (h0 : 0 < a) (hj : 0 ≤ j) (h : (a : Int) * j ≤ 2 ^ 27) : CPowW i j := by
  refine ⟨hj, ?_⟩
  have x := PySem.Flt.log2_lt_of h0 ha
  have b : (Builtin.Int.intBits i : Int) ≤ a := by
    unfold Builtin.Int.intBits
    split <;> omega
  exact Int.le_trans (Int.mul_le_mul_of_nonneg_right b hj) h
/-- f(k = v, ..) -/
theorem pe_callK0 {CX : CXT} {k : Nat} {f : Addr} {fd : FuncData} {ps ks : List Str} {sp : Sp} {E : XK} {x : Str} {p pos : Pos} {kws : List Keyword} {tk : TA} {g : List Value → List Value → List Value} {gV : List V → List V → List V}
    (F : FnOk X.prog X.w X.K X.mg X.base CX k f fd ps sp) (hr : Room k X.A) (hg : Gl X x) (hm : X.mg x = some (.ref f)) (hk : PySem.W.keepIn X.K (.ref f) = true) (hb : KBinds X.K fd ps ks g gV) (hx : Passes CX X E)
    (hkw : PK X kws tk) (hall : (backToKw pos (keywordEach kws X.env)).all (·.1.isSome) = true := by rfl) (hks : (backToKw pos (keywordEach kws X.env)).filterMap (·.1) = ks := by rfl)
    (hdb : (x == ("__debug__" : Str)) = false := by decide)
    (hpl : ((backTo pos (starEach [] X.env)).any (·.1) || (backToKw pos (keywordEach kws X.env)).any (·.1.isNone)) = false := by rfl) :
    PE X (.Call (.Name x p) [] kws pos) (tCallK sp gV E tNil tk) := by
  refine ⟨fun pins s σ H Q I h => ?_⟩
  refine wpAny_Call_Name_kw (ld_glob I hg hm ?_ hdb)
  refine PySem.W.callWith_KW0 (h₀ := X.base) I.ok.mod.kin hk hall (thn (hkw.run pos pins s σ H _ I h) fun ws s2 ⟨zs, H2, I2, rz, q2⟩ => ⟨I2.kIn, ?_⟩) hpl
  rw [hks]
  exact run_fnk F hr hb hx I2 .nil rz q2
end
end L2
namespace Cr
open PySem PySem.Spec PyProof.Rows L2
section
variable {X : Cx}
/-! tuples that are laid: known to have no dict of their own -/
def LaidT (H : Hp) (xs : List V) (Q : VK) : Prop := ∀ (p : Addr) (o : Obj), o.dict = none → H p = none → Q (.ref p) (upd H p (.frz o (.tup xs)))
theorem laidT {pins : List (Addr × Obj)} {σ : L2.St} {H : Hp} {s : Shared} {xs : List V} {us : List Value} {Q : VK} {k : Nat} (I : Inv X pins σ H s) (r : Vals xs us) (hz : xs.length ≤ sizeLine) (q : LaidT H xs Q) :
    EP X pins σ Q (.ref s.heap.objs.size) { s with heap := s.heap.push { cls := .type "tuple", data := .seq us.toArray k } } := by
  have eq : (s.heap.push { cls := .type "tuple", data := .seq us.toArray k }).get? s.heap.objs.size = some { cls := .type "tuple", data := .seq us.toArray k } := Heap.get?_push_size _ rfl
  refine ⟨.ref s.heap.objs.size, _, I.laid (t' := s.toks) (o := .frz { cls := .type "tuple", data := .seq us.toArray k } (.tup xs)) (fun b u e => Heap.get?_push_of_some _ e) (Nat.le_refl _) ?_, rfl, q _ _ rfl (I.hok.fresh (Nat.le_refl _))⟩
  exact ⟨eq, hz, us, r, _, eq, rfl, _, rfl⟩
def rCatA (K : PySem.W.Frag) : R2 := fun x y H Q => ∃ a b xs ys, x = .ref a ∧ y = .ref b ∧ SqT K H a xs ∧ SqT K H b ys ∧ xs.length + ys.length ≤ sizeLine ∧
  (xs = [] → Q (.ref b) H) ∧ (xs ≠ [] → ys = [] → Q (.ref a) H) ∧ (xs ≠ [] → ys ≠ [] → LaidT H (xs ++ ys) Q)
theorem op_catA : OpR X (binaryOp .Add) (rCatA X.K) := by
  intro pins s σ H x y v u Q I rx ry h
  obtain ⟨a, b, xs, ys, rfl, rfl, ha, hb, hz, q0, q1, q2⟩ := h
  cases rx
  cases ry
  obtain ⟨us, r1, p1, _⟩ := I.tuple ha
  obtain ⟨ws, r2, p2, _⟩ := I.tuple hb
  by_cases hx : xs = []
  · subst hx
    cases r1
    exact cat_tup0 p1 p2 ⟨.ref b, H, I, rfl, q0 rfl⟩
  · have le : us.length + ws.length ≤ sizeLine := by rw [← r1.length, ← r2.length]; exact hz
    refine HT.cat_tup p1 p2 (fun z => hx (r1.nil_iff.mp z)) (fun z => ⟨.ref a, H, I, rfl, q1 hx (r2.nil_iff.mp z)⟩) (fun z => ?_) le
    exact laidT I (r1.append r2) (by rw [List.length_append]; exact hz) (q2 hx fun w => z (r2.nil_iff.mpr w))
def rSlA (K : PySem.W.Frag) : V → Option Int → Option Int → Hp → VK → Prop := fun x lo hi H Q => ∃ a xs, x = .ref a ∧ SqT K H a xs ∧
  (HT.sIx xs.length 0 lo = 0 ∧ HT.sIx xs.length xs.length hi = xs.length → Q (.ref a) H) ∧ (¬ (HT.sIx xs.length 0 lo = 0 ∧ HT.sIx xs.length xs.length hi = xs.length) → LaidT H (cutV xs lo hi) Q)
theorem sl_tupA : SlR X (rSlA X.K) := by
  intro pins s σ H x v vl vu lo hi sl Q I rx hs pl pu h
  obtain ⟨a, xs, rfl, hx, q1, q2⟩ := h
  cases rx
  obtain ⟨us, r, ht, hz⟩ := I.tuple hx
  have le : us.toArray.size = xs.length := by rw [List.size_toArray]; exact r.length.symm
  refine ⟨"tuple", _, PyProof.Rows.slot_tuple_getitem.lookup, ht.typeIs, ?_⟩
  by_cases hw : HT.sIx xs.length 0 lo = 0 ∧ HT.sIx xs.length xs.length hi = xs.length
  · exact getItem_tuple_whole ht hs pl pu (by rw [le]; exact hw) ⟨.ref a, H, I, rfl, q1 hw⟩
  · refine HT.getItem_tuple_cut ht hs pl pu (by rw [le]; exact hw) ?_ (by rw [le]; exact hz)
    rw [le]
    exact laidT I ((r.drop (HT.sIx xs.length 0 lo)).take (HT.sIx xs.length xs.length hi - HT.sIx xs.length 0 lo)) (Nat.le_trans (cutV_length xs lo hi) hz) (q2 hw)
/-- tuple(xs) -/
def rTupQ (K : PySem.W.Frag) : List V → Hp → VK → Prop := fun xs H Q => ∃ p ys, xs = [.ref p] ∧ ((SqL K H p ys ∧ LaidT H ys Q) ∨ (SqT K H p ys ∧ Q (.ref p) H))
theorem call_tupQ : CallR X (.type "tuple") (rTupQ X.K) := by
  intro pins s σ H xs us Q I r h
  obtain ⟨p, ys, rfl, h⟩ := h
  obtain ⟨u, rfl, rx⟩ := vals1 r
  cases rx
  rcases h with ⟨hq, q⟩ | ⟨hq, q⟩
  · obtain ⟨ws, r', pl, hz⟩ := I.list hq
    have le := r'.length
    refine call_tuple_list pl.isList (fun h' kp => ?_) (by simp only [List.size_toArray] <;> omega)
    have I1 : Inv X pins σ H { s with heap := h' } := I.kept (t' := s.toks) kp
    exact laidT I1 r' hz q
  · obtain ⟨ws, r', pl, hz⟩ := I.tuple hq
    exact call_tuple_same pl ⟨.ref p, H, I, rfl, q⟩
end
end Cr
namespace L2
open PySem PySem.Spec PyProof.Rows
section
variable {X : Cx}
/-- + of ints, lists, tuples -/
def rAddU (K : PySem.W.Frag) : R2 := fun x y H Q => rI0 (fun i j => .int (i + j)) x y H Q ∨ rCat x y H Q ∨ Cr.rCatA K x y H Q
theorem op_addU : OpR X (binaryOp .Add) (rAddU X.K) := by
  intro pins s σ H x y v u Q I rx ry h
  rcases h with h | h | h
  · exact op_add pins s σ H x y v u Q I rx ry h
  · exact op_cat pins s σ H x y v u Q I rx ry h
  · exact Cr.op_catA pins s σ H x y v u Q I rx ry h
/-- * of ints (great ones), a list times an int -/
def rMulU : R2 := fun x y H Q => rI CMulW (fun i j => .int (i * j)) x y H Q ∨ rRep x y H Q
theorem op_mulU : OpR X (binaryOp .Mult) rMulU := by
  intro pins s σ H x y v u Q I rx ry h
  rcases h with h | h
  · exact op_mulW pins s σ H x y v u Q I rx ry h
  · exact op_rep pins s σ H x y v u Q I rx ry h
/-- slices of lists and tuples -/
def rSlU (K : PySem.W.Frag) : V → Option Int → Option Int → Hp → VK → Prop := fun x lo hi H Q => rSlL K x lo hi H Q ∨ Cr.rSlA K x lo hi H Q
theorem sl_U : SlR X (rSlU X.K) := by
  intro pins s σ H x v vl vu lo hi sl Q I rx hs pl pu h
  rcases h with h | h
  · exact sl_list pins s σ H x v vl vu lo hi sl Q I rx hs pl pu h
  · exact Cr.sl_tupA pins s σ H x v vl vu lo hi sl Q I rx hs pl pu h
/-- isinstance, both kinds -/
def rIsiU (K : PySem.W.Frag) : List V → Hp → VK → Prop := fun xs H Q => rIsi K xs H Q ∨ rIsiT K xs H Q
theorem call_isiU : CallR X (.builtin "isinstance") (rIsiU X.K) := by
  intro pins s σ H xs us Q I r h
  rcases h with h | h
  · exact call_isi pins s σ H xs us Q I r h
  · exact call_isiT pins s σ H xs us Q I r h
/-- sorted(d), the keys ints, any number of them; sorted(xs) of ints -/
def rSrtDI : List V → Hp → VK → Prop := fun xs H Q => ∃ (a : Addr) (kvs : List (Key × V)) (ks : List Int), xs = [.ref a] ∧ Rd H a (.dK kvs) ∧ kvs.map (·.1) = ks.map Sum.inl ∧
    ∀ (ys : List Int) (p : Addr), ys.Perm ks → ys.Pairwise (· ≤ ·) → H p = none → Q (.ref p) (upd H p (.lst (ys.map V.int)))
/-- the keys that the dict hands out, as ints -/
theorem srt_keys {ks : List Int} {kvs : List (Key × Value)} {out : Array Value} (hk : kvs.map Prod.fst = ks.map Sum.inl) (hn : out.size = kvs.length)
    (hg : ∀ (j : Nat) (v : Value), out[j]? = some v → ∃ (k : Key) (x : Value), kvs[j]? = some (k, x) ∧ keyIs k v = true) : IntsAre out.toList ks := by
  have n1 : kvs.length = ks.length := by simpa using congrArg List.length hk
  refine ints_each (by simp [hn, n1]) ?_
  intro j v hv
  obtain ⟨k, x, h1, h2⟩ := hg j v (by simpa using hv)
  have h3 : (ks.map Sum.inl : List Key)[j]? = some k := by rw [← hk]; simp [h1]
  rw [List.getElem?_map] at h3
  obtain ⟨y, h4, rfl⟩ := Option.map_eq_some_iff.mp h3
  obtain ⟨t, rfl⟩ := Value.isInt_shape (show Value.isInt y v = true from h2)
  exact ⟨y, t, h4, rfl⟩
set_option maxHeartbeats 8000000 in
theorem call_sortedDIa (hcalm : X.calm = true) : CallR X (.builtin "sorted") rSrtDI := by
  rintro pins s σ H _ us Q I r ⟨a, kvs, ks, rfl, hd, hks, q⟩
  obtain ⟨_, rfl, ⟨⟩⟩ := vals1 r
  obtain ⟨z, lo, vs, rel, ⟨ep, hat⟩⟩ : kvs.length ≤ sizeLine ∧ (a == sysModules) = false ∧ ∃ vs, KV kvs vs ∧ ∃ ep, s.heap.DictAt (mixKind X.prog X.w) a vs ep :=
    let ⟨z, lo, vs, rel, dd⟩ := dk_rd I.hok hd; ⟨z, lo, vs, rel, dd.dictAt⟩
  have hm : vs.map Prod.fst = ks.map Sum.inl := Eq.trans (Eq.symm rel.keys) hks
  have hn : vs.length = ks.length := by simpa using congrArg List.length hm
  have hsz : vs.length ≤ sizeLine := by have e := Paired.length rel; omega
  refine Calls.call_function_entry kind_sorted plain_sorted entry_sorted (args_sorted1 _) (show wpAny _ _ (Builtin.«sorted» _) _ _ _ from ?_)
  rw [Builtin.«sorted»]
  refine wpAny_bind (wpAny_pure (wpAny_bind (PySem.W.kdu_collect (PySem.W.kdl_dict lo) (I.ok.hd hcalm) hat hsz ?_)))
  rintro h1 t1 out keep ⟨g1, g2⟩
  have hI : IntsAre out.toList ks := srt_keys hm g1 fun j v e => let ⟨k, x, p1, p2⟩ := g2 j v e; ⟨k, x, p1, p2⟩
  have ho : out.toList.length ≤ sizeLine := by simp [g1]; exact hsz
  have J1 : Inv X pins σ H { s with heap := h1, toks := t1 } := I.kept keep
  have new : (h1.push (seqObj "list" out.toList.toArray 0)).get? h1.objs.size = some (seqObj "list" out.toList.toArray 0) := Heap.get?_push_size _ rfl
  refine wpAny_bind (wpAny_newList (show wpAny _ _ _ _ _ { s with heap := h1.push (seqObj "list" out.toList.toArray 0), toks := t1 } from ?_) ho)
  refine wpAny_bind (wpAny_holding (wpAny_call_entry slot_list_sort ⟨_, new, rfl⟩ entry_list_sort ?_ (args_list_sort _)))
  refine SrtO.list_sort_ord SrtO.swo_int new ho (fun h => SrtO.ints_sortable hI h) fun o2 a1 a2 => ⟨_, rfl, ?_⟩
  obtain ⟨b1, b2, b3⟩ := SrtO.ints_out hI a1 a2
  obtain ⟨e2, he2⟩ := sortedHeap_at (out := o2.toArray) new
  have hl : ((o2.map SrtO.iv).map V.int).length ≤ sizeLine := by rw [List.length_map, b2.length_eq]; omega
  have laid : ObjOk X.prog X.w (upd H h1.objs.size (.lst ((o2.map SrtO.iv).map V.int))) (sortedHeap (h1.push (seqObj "list" out.toList.toArray 0)) h1.objs.size out.toList o2.toArray) h1.objs.size (.lst ((o2.map SrtO.iv).map V.int)) :=
    ⟨hl, o2, e2, vals_of_ints b1, he2⟩
  refine wpAny_pure ⟨_, rfl, .ref h1.objs.size, _, J1.laid (t' := t1) ?_ (Nat.le_refl _) laid, rfl, q _ _ b2 b3 (J1.hok.fresh (Nat.le_refl _))⟩
  intro b u hb
  have lt : b < h1.objs.size := Heap.lt_size hb
  exact (sortedHeap_old (Nat.ne_of_lt lt) (Nat.lt_trans lt (by rw [size_push']; exact Nat.lt_succ_self _))).trans (Heap.get?_push_of_some _ hb)
end
end L2

set_option Elab.async false
set_option linter.all false
set_option maxRecDepth 100000
set_option maxHeartbeats 4000000
namespace Cr
open PySem PySem.Spec PyProof.Rows L2

section
variable {K : PySem.W.Frag} {q : Option Addr} {δ δ' : List Sl} {te ta tb tc : TE} {tt tu : TT} {c c1 c2 c3 : Nat} {Φ Φ1 Φ2 Φ3 : PyData → Prop} {d d1 d2 : PyData}

/-! ### the wide operators -/
theorem RJ.to {r r' : R2} {a b : PyData} (h : RJ r a b Φ) (e : ∀ x y H Q, r x y H Q → r' x y H Q) : RJ r' a b Φ := fun x y H H1 hx hy s Q k => e _ _ _ _ (h x y H H1 hx hy s Q k)
theorem rj_addI {i j : Int} (hp : Φ (.int (i + j))) : RJ (rAddU K) (.int i) (.int j) Φ := (rj_I0 (g := fun i j => .int (i + j)) rfl hp).to fun _ _ _ _ h => .inl h
theorem e_addI {i j : Int} (ha : E q δ ta (.int i)) (hb : E q δ tb (.int j)) : E q δ (tOp (rAddU K) ta tb) (.int (i + j)) := e_op ha hb (rj_addI rfl)
theorem j_addI {P1 P2 : Int → Prop} (ha : J q δ ta c1 (IntP P1)) (hb : J q δ tb c2 (IntP P2)) (hp : ∀ i j, P1 i → P2 j → Φ (.int (i + j))) : J q δ (tOp (rAddU K) ta tb) (c2 + c1) Φ :=
  j_op ha hb fun a b ⟨i, pi, ea⟩ ⟨j, pj, eb⟩ => by subst ea; subst eb; exact rj_addI (hp i j pi pj)
theorem e_catL {ds es : List PyData} (ha : E q δ ta (.list ds)) (hb : E q δ tb (.list es)) (hl : ds.length + es.length ≤ 1000000) : E q δ (tOp (rAddU K) ta tb) (.list (ds ++ es)) := e_op ha hb (RJ.to (rj_cat (Φ := fun x => x = .list (ds ++ es)) hl rfl) fun _ _ _ _ h => .inr (.inl h))
theorem rj_catT {ds es : List PyData} (hl : ds.length + es.length ≤ 1000000) (hp : Φ (.tuple (ds ++ es))) : RJ (rCatA K) (.tuple ds) (.tuple es) Φ := fun x y H H1 hx hy e1 Q k => by
  obtain ⟨a, xs, rfl, h1, h2⟩ := hx.tupOf
  obtain ⟨b, ys, rfl, g1, g2⟩ := hy.tupOf
  refine ⟨a, b, xs, ys, rfl, rfl, .inl (h1.mono e1).rd, .inl (g1.mono e1).rd, Nat.le_trans (by rw [h2.length, g2.length]; exact hl) (by rw [sizeLine_eq]; decide), fun e => ?_, fun _ e => ?_, fun _ _ p ob od hn => ?_⟩
  · subst e
    have e2 : ds = [] := List.length_eq_zero_iff.mp h2.length.symm
    subst e2
    exact k _ _ H H1 (Gr.refl e1) hp hy
  · subst e
    have e2 : es = [] := List.length_eq_zero_iff.mp g2.length.symm
    subst e2
    rw [List.append_nil] at hp
    exact k _ _ H H1 (Gr.refl e1) hp hx
  · have g := Gr.new (q := none) (o := .frz ob (.tup (xs ++ ys))) e1 hn
    exact k _ _ _ _ g hp (.tup (Tp.new od) (DqAll.mono g.k _ _ (h2.append g2)))
theorem e_catT {ds es : List PyData} (ha : E q δ ta (.tuple ds)) (hb : E q δ tb (.tuple es)) (hl : ds.length + es.length ≤ 1000000) : E q δ (tOp (rAddU K) ta tb) (.tuple (ds ++ es)) := e_op ha hb (RJ.to (rj_catT (Φ := fun x => x = .tuple (ds ++ es)) hl rfl) fun _ _ _ _ h => .inr (.inr h))
theorem rj_mulI {i j : Int} (hc : CMulW i j) (hp : Φ (.int (i * j))) : RJ rMulU (.int i) (.int j) Φ := (rj_I (g := fun i j => .int (i * j)) hc rfl hp).to fun _ _ _ _ h => .inl h
theorem e_mulI {i j : Int} (ha : E q δ ta (.int i)) (hb : E q δ tb (.int j)) (hc : CMulW i j) : E q δ (tOp rMulU ta tb) (.int (i * j)) := e_op ha hb (rj_mulI hc rfl)
theorem rj_rep {ds : List PyData} {n : Int} (h0 : -(2 ^ 63) ≤ n) (h1 : n < 2 ^ 63) (hl : ds.length * n.toNat ≤ 1000000) (hp : Φ (.list (List.replicate n.toNat ds).flatten)) : RJ rRep (.list ds) (.int n) Φ := fun x y H H1 hx hy e1 Q k => by
  obtain ⟨a, xs, rfl, h2, h3⟩ := hx.lstOf
  rw [hy.intOf]
  refine ⟨a, n, xs, rfl, rfl, e1 _ _ h2, h0, h1, Nat.le_trans (by rw [h3.length]; exact hl) (by rw [sizeLine_eq]; decide), fun p hn => ?_⟩
  have hall : ∀ m : Nat, DqAll H (List.replicate m xs).flatten (List.replicate m ds).flatten := fun m => by
    induction m with
    | zero => exact .nil
    | succ m ih => rw [List.replicate_succ, List.replicate_succ, List.flatten_cons, List.flatten_cons]; exact h3.append ih
  have g := Gr.new (q := none) (o := .lst (List.replicate n.toNat xs).flatten) e1 hn
  exact k _ _ _ _ g hp (.lst upd_same (DqAll.mono g.k _ _ (hall _)))
theorem e_rep {ds : List PyData} {n : Int} (ha : E q δ ta (.list ds)) (hb : E q δ tb (.int n)) (h0 : -(2 ^ 63) ≤ n) (h1 : n < 2 ^ 63) (hl : ds.length * n.toNat ≤ 1000000) : E q δ (tOp rMulU ta tb) (.list (List.replicate n.toNat ds).flatten) :=
  e_op ha hb (RJ.to (rj_rep (Φ := fun x => x = .list (List.replicate n.toNat ds).flatten) h0 h1 hl rfl) fun _ _ _ _ h => .inr h)
theorem e_subI {i j : Int} (ha : E q δ ta (.int i)) (hb : E q δ tb (.int j)) : E q δ (tOp (rI0 fun i j => .int (i - j)) ta tb) (.int (i - j)) := e_I0 ha hb
theorem j_subI {P1 P2 : Int → Prop} (ha : J q δ ta c1 (IntP P1)) (hb : J q δ tb c2 (IntP P2)) (hp : ∀ i j, P1 i → P2 j → Φ (.int (i - j))) : J q δ (tOp (rI0 fun i j => .int (i - j)) ta tb) (c2 + c1) Φ := j_I0 ha hb hp
theorem e_ltI {i j : Int} (ha : E q δ ta (.int i)) (hb : E q δ tb (.int j)) : E q δ (tOp (rI0 fun i j => .bl (decide (i < j))) ta tb) (.bool (decide (i < j))) := e_I0 ha hb
theorem e_gtI {i j : Int} (ha : E q δ ta (.int i)) (hb : E q δ tb (.int j)) : E q δ (tOp (rI0 fun i j => .bl (decide (j < i))) ta tb) (.bool (decide (j < i))) := e_I0 ha hb
theorem e_geI {i j : Int} (ha : E q δ ta (.int i)) (hb : E q δ tb (.int j)) : E q δ (tOp (rI0 fun i j => .bl (decide (j ≤ i))) ta tb) (.bool (decide (j ≤ i))) := e_I0 ha hb
theorem e_mod {i j : Int} (ha : E q δ ta (.int i)) (hb : E q δ tb (.int j)) (hc : j ≠ 0) : E q δ (tOp (rI (fun _ j => j ≠ 0) fun i j => .int (i.fmod j)) ta tb) (.int (i.fmod j)) := e_I ha hb hc
theorem e_fdiv {i j : Int} (ha : E q δ ta (.int i)) (hb : E q δ tb (.int j)) (hc : CDivW i j) : E q δ (tOp (rI CDivW fun i j => .int (i / j)) ta tb) (.int (i / j)) := e_I ha hb hc
theorem e_pow {i j : Int} (ha : E q δ ta (.int i)) (hb : E q δ tb (.int j)) (hc : CPowW i j) : E q δ (tOp (rI CPowW fun i j => .int (i ^ j.toNat)) ta tb) (.int (i ^ j.toNat)) := e_I ha hb hc
theorem e_eqDI {i j : Int} (ha : E q δ ta (.int i)) (hb : E q δ tb (.int j)) : E q δ (tOp (rEqD K) ta tb) (.bool (i == j)) := e_eqD ha hb rfl rfl
theorem e_neDI {i j : Int} (ha : E q δ ta (.int i)) (hb : E q δ tb (.int j)) : E q δ (tOp (rNeD K) ta tb) (.bool (!(i == j))) := e_neD ha hb rfl rfl
theorem rj_eqD (s1 : SeqAt.shaped d1 = true) (s2 : SeqAt.shaped d2 = true) (hp : Φ (.bool (PyData.eqv d1 d2))) : RJ (rEqD K) d1 d2 Φ := fun x y H H1 hx hy e Q k =>
  ⟨d1, d2, Dq.dp K _ _ (no_dict s1) (Dq.mono e _ _ hx), Dq.dp K _ _ (no_dict s2) (Dq.mono e _ _ hy), s1, s2, k _ _ H H1 (Gr.refl e) hp (.bl _)⟩
theorem j_eqDI {P1 P2 : Int → Prop} (ha : J q δ ta c1 (IntP P1)) (hb : J q δ tb c2 (IntP P2)) (hp : ∀ i j, P1 i → P2 j → Φ (.bool (i == j))) : J q δ (tOp (rEqD K) ta tb) (c2 + c1) Φ :=
  j_op ha hb fun a b ⟨i, pi, ea⟩ ⟨j, pj, eb⟩ => by subst ea; subst eb; exact rj_eqD rfl rfl (hp i j pi pj)
/-- subscripts -/
theorem e_iT {ds : List PyData} {i : Int} (ha : E q δ ta (.tuple ds)) (hb : E q δ tb (.int i)) (e : atI ds i = some d) : E q δ (tOp (rIx K) ta tb) d := e_op ha hb (RJ.to (rj_ixT (Φ := fun x => x = d) e rfl) fun _ _ _ _ h => .inr (.inl h))
theorem e_iL {ds : List PyData} {i : Int} (ha : E q δ ta (.list ds)) (hb : E q δ tb (.int i)) (e : atI ds i = some d) : E q δ (tOp (rIx K) ta tb) d := e_op ha hb (RJ.to (rj_ixL (Φ := fun x => x = d) e rfl) fun _ _ _ _ h => .inl h)
theorem j_iL {P : Int → Prop} {Ψ : List PyData → Prop} (ha : J q δ ta c1 (fun d => ∃ ds, Ψ ds ∧ d = .list ds)) (hb : J q δ tb c2 (IntP P)) (e : ∀ ds i, Ψ ds → P i → ∃ d, atI ds i = some d ∧ Φ d) : J q δ (tOp (rIx K) ta tb) (c2 + c1) Φ :=
  j_op ha hb fun a b ⟨ds, pi, ea⟩ ⟨j, pj, eb⟩ => by
    subst ea; subst eb
    obtain ⟨d, h1, h2⟩ := e ds j pi pj
    exact (rj_ixL h1 h2).to fun _ _ _ _ h => .inl h
theorem j_iT {P : Int → Prop} {Ψ : List PyData → Prop} (ha : J q δ ta c1 (fun d => ∃ ds, Ψ ds ∧ d = .tuple ds)) (hb : J q δ tb c2 (IntP P)) (e : ∀ ds i, Ψ ds → P i → ∃ d, atI ds i = some d ∧ Φ d) : J q δ (tOp (rIx K) ta tb) (c2 + c1) Φ :=
  j_op ha hb fun a b ⟨ds, pi, ea⟩ ⟨j, pj, eb⟩ => by
    subst ea; subst eb
    obtain ⟨d, h1, h2⟩ := e ds j pi pj
    exact (rj_ixT h1 h2).to fun _ _ _ _ h => .inr (.inl h)
theorem E.tupP {ds : List PyData} (h : E q δ te (.tuple ds)) : J q δ te 0 (fun d => ∃ x, x = ds ∧ d = .tuple x) := h.imp fun d e => ⟨ds, rfl, e⟩

/-! ### built-in calls -/
def RCJ (r : List V → Hp → VK → Prop) (ds : List PyData) (Φ : PyData → Prop) : Prop := ∀ (vs : List V) (H H1 : Hp), DqAll H vs ds → Same H H1 → ∀ Q : VK, (∀ d v Hk H2, Gr none H H1 Hk H2 → Φ d → Dq Hk v d → Q v H2) → r vs H1 Q
theorem j_cb {r : List V → Hp → VK → Prop} {ta : TA} {Ψ : List PyData → Prop} (h : AJ q δ ta c (fun sls => ∃ ds : List PyData, sls = ds.map Sl.dat ∧ Ψ ds)) (hr : ∀ ds, Ψ ds → RCJ r ds Φ) : J q δ (tCB r ta) c Φ := fun σ H H1 n sg o Q k =>
  h σ H H1 n sg o _ fun sls vs Hk H2 g o1 ⟨ds, e, p⟩ hv => by
    subst e
    exact hr ds p vs Hk H2 hv.dats g.a Q fun d v Hk' H3 g' pd dv => k d v Hk' H3 (g.trans g'.none_to) (o1.go g') pd dv
theorem e_cb {r : List V → Hp → VK → Prop} {ta : TA} {ds : List PyData} (h : AE q δ ta (ds.map Sl.dat)) (hr : RCJ r ds (fun x => x = d)) : E q δ (tCB r ta) d := j_cb (Ψ := fun x => x = ds) (h.to ⟨ds, rfl, rfl⟩) fun _ e => by rw [e]; exact hr
theorem e_cb1 {r : List V → Hp → VK → Prop} {te : TE} (h : E q δ te d1) (hr : RCJ r [d1] (fun x => x = d)) : E q δ (tCB r (tCons te tNil)) d := e_cb (ds := [d1]) (ae_cons h ae_nil) hr
theorem DqAll.one {H : Hp} {vs : List V} {d : PyData} (h : DqAll H vs [d]) : ∃ v, vs = [v] ∧ Dq H v d := by
  cases h with
  | cons h1 h2 => cases h2; exact ⟨_, rfl, h1⟩
theorem DqAll.two {H : Hp} {vs : List V} {d e : PyData} (h : DqAll H vs [d, e]) : ∃ v w, vs = [v, w] ∧ Dq H v d ∧ Dq H w e := by
  cases h with
  | cons h1 h2 =>
    obtain ⟨w, rfl, h3⟩ := h2.one
    exact ⟨_, w, rfl, h1, h3⟩
/-- len -/
def rLenQ (K : PySem.W.Frag) : List V → Hp → VK → Prop := fun xs H Q => ∃ p ys, xs = [.ref p] ∧ (SqL K H p ys ∨ SqT K H p ys) ∧ Q (.int ys.length) H
theorem call_lenQ {X : Cx} : CallR X (.builtin "len") (rLenQ X.K) := call_len_seq
theorem rc_lenL {ds : List PyData} (hp : Φ (.int ds.length)) : RCJ (rLenQ K) [.list ds] Φ := fun vs H H1 h e Q k => by
  obtain ⟨v, rfl, h1⟩ := h.one
  obtain ⟨a, xs, rfl, h2, h3⟩ := h1.lstOf
  refine ⟨a, xs, rfl, .inl (.inl (.inl (e _ _ h2))), ?_⟩
  rw [h3.length]
  exact k _ _ H H1 (Gr.refl e) hp (.int _)
theorem rc_lenT {ds : List PyData} (hp : Φ (.int ds.length)) : RCJ (rLenQ K) [.tuple ds] Φ := fun vs H H1 h e Q k => by
  obtain ⟨v, rfl, h1⟩ := h.one
  obtain ⟨a, xs, rfl, h2, h3⟩ := h1.tupOf
  refine ⟨a, xs, rfl, .inr (.inl (h2.mono e).rd), ?_⟩
  rw [h3.length]
  exact k _ _ H H1 (Gr.refl e) hp (.int _)
theorem e_lenL {ds : List PyData} (h : E q δ te (.list ds)) : E q δ (tCB (rLenQ K) (tCons te tNil)) (.int ds.length) := e_cb1 h (rc_lenL rfl)
theorem e_lenT {ds : List PyData} (h : E q δ te (.tuple ds)) : E q δ (tCB (rLenQ K) (tCons te tNil)) (.int ds.length) := e_cb1 h (rc_lenT rfl)
/-- sum, all of lists -/
theorem rc_sum {ns : List Int} (hp : Φ (.int ns.sum)) : RCJ (rSum K) [.list (ns.map .int)] Φ := fun vs H H1 h e Q k => by
  obtain ⟨v, rfl, h1⟩ := h.one
  obtain ⟨a, xs, rfl, h2, h3⟩ := h1.lstOf
  have e2 := DqAll.ints h3
  subst e2
  exact ⟨a, ns, rfl, .inl (.inl (e _ _ h2)), k _ _ H H1 (Gr.refl e) hp (.int _)⟩
theorem e_sum {ns : List Int} (h : E q δ te (.list (ns.map .int))) : E q δ (tCB (rSum K) (tCons te tNil)) (.int ns.sum) := e_cb1 h (rc_sum rfl)
theorem rc_all {bs : List Bool} (hp : Φ (.bool (bs.all id))) : RCJ (rAll K) [.list (bs.map .bool)] Φ := fun vs H H1 h e Q k => by
  obtain ⟨v, rfl, h1⟩ := h.one
  obtain ⟨a, xs, rfl, h2, h3⟩ := h1.lstOf
  have e2 := DqAll.bls h3
  subst e2
  exact ⟨a, bs, rfl, .inl (.inl (e _ _ h2)), k _ _ H H1 (Gr.refl e) hp (.bl _)⟩
theorem e_all {bs : List Bool} (h : E q δ te (.list (bs.map .bool))) : E q δ (tCB (rAll K) (tCons te tNil)) (.bool (bs.all id)) := e_cb1 h (rc_all rfl)
/-- abs, max, min, int -/
def rAbsQ : List V → Hp → VK → Prop := fun xs H Q => ∃ i, xs = [.int i] ∧ Q (.int (if i < 0 then -i else i)) H
theorem call_absQ {X : Cx} : CallR X (.builtin "abs") rAbsQ := call_abs
def rMaxQ : List V → Hp → VK → Prop := fun xs H Q => ∃ i j, xs = [.int i, .int j] ∧ Q (.int (if j > i then j else i)) H
theorem call_maxQ {X : Cx} (hc : X.calm = true) : CallR X (.builtin "max") rMaxQ := call_max2 hc
def rMinQ : List V → Hp → VK → Prop := fun xs H Q => ∃ i j, xs = [.int i, .int j] ∧ Q (.int (if j < i then j else i)) H
theorem call_minQ {X : Cx} (hc : X.calm = true) : CallR X (.builtin "min") rMinQ := call_min2 hc
def rIntQ : List V → Hp → VK → Prop := fun xs H Q => (∃ i, xs = [.int i] ∧ Q (.int i) H) ∨ ∃ k, xs = [.bl k] ∧ Q (.int (if k then 1 else 0)) H
theorem call_intQ {X : Cx} : CallR X (.type "int") rIntQ := call_int1
theorem rc_abs {i : Int} (hp : Φ (.int (if i < 0 then -i else i))) : RCJ rAbsQ [.int i] Φ := fun vs H H1 h e Q k => by
  obtain ⟨v, rfl, h1⟩ := h.one
  rw [h1.intOf]
  exact ⟨i, rfl, k _ _ H H1 (Gr.refl e) hp (.int _)⟩
theorem e_abs {i : Int} (h : E q δ te (.int i)) : E q δ (tCB rAbsQ (tCons te tNil)) (.int (if i < 0 then -i else i)) := e_cb1 h (rc_abs rfl)
theorem rc_int {i : Int} (hp : Φ (.int i)) : RCJ rIntQ [.int i] Φ := fun vs H H1 h e Q k => by
  obtain ⟨v, rfl, h1⟩ := h.one
  rw [h1.intOf]
  exact .inl ⟨i, rfl, k _ _ H H1 (Gr.refl e) hp (.int _)⟩
theorem e_intI {i : Int} (h : E q δ te (.int i)) : E q δ (tCB rIntQ (tCons te tNil)) (.int i) := e_cb1 h (rc_int rfl)
theorem e_max {i j : Int} (h : E q δ ta (.int i)) (h2 : E q δ tb (.int j)) : E q δ (tCB rMaxQ (tCons ta (tCons tb tNil))) (.int (if j > i then j else i)) := e_cb (ds := [.int i, .int j]) (ae_cons h (ae_cons h2 ae_nil)) fun vs H H1 h e Q k => by
  obtain ⟨v, w, rfl, h1, h2⟩ := h.two
  rw [h1.intOf, h2.intOf]
  exact ⟨i, j, rfl, k _ _ H H1 (Gr.refl e) rfl (.int _)⟩
theorem e_min {i j : Int} (h : E q δ ta (.int i)) (h2 : E q δ tb (.int j)) : E q δ (tCB rMinQ (tCons ta (tCons tb tNil))) (.int (if j < i then j else i)) := e_cb (ds := [.int i, .int j]) (ae_cons h (ae_cons h2 ae_nil)) fun vs H H1 h e Q k => by
  obtain ⟨v, w, rfl, h1, h2⟩ := h.two
  rw [h1.intOf, h2.intOf]
  exact ⟨i, j, rfl, k _ _ H H1 (Gr.refl e) rfl (.int _)⟩
/-- tuple(xs), list(xs) -/
def rLstQ (K : PySem.W.Frag) : List V → Hp → VK → Prop := fun xs H Q => ∃ p ys, xs = [.ref p] ∧ (SqL K H p ys ∨ SqT K H p ys) ∧ ∀ l, H l = none → Q (.ref l) (upd H l (.lst ys))
theorem call_lstQ {X : Cx} : CallR X (.type "list") (rLstQ X.K) := call_list_of
theorem rc_tupL {ds : List PyData} (hp : Φ (.tuple ds)) : RCJ (rTupQ K) [.list ds] Φ := fun vs H H1 h e Q k => by
  obtain ⟨v, rfl, h1⟩ := h.one
  obtain ⟨a, xs, rfl, h2, h3⟩ := h1.lstOf
  refine ⟨a, xs, rfl, .inl ⟨.inl (.inl (e _ _ h2)), fun l ob od hn => ?_⟩⟩
  have g := Gr.new (q := none) (o := .frz ob (.tup xs)) e hn
  exact k _ _ _ _ g hp (.tup (Tp.new od) (DqAll.mono g.k _ _ h3))
theorem e_tupL {ds : List PyData} (h : E q δ te (.list ds)) : E q δ (tCB (rTupQ K) (tCons te tNil)) (.tuple ds) := e_cb1 h (rc_tupL rfl)
theorem rc_lstT {ds : List PyData} (hp : Φ (.list ds)) : RCJ (rLstQ K) [.tuple ds] Φ := fun vs H H1 h e Q k => by
  obtain ⟨v, rfl, h1⟩ := h.one
  obtain ⟨a, xs, rfl, h2, h3⟩ := h1.tupOf
  refine ⟨a, xs, rfl, .inr (.inl (h2.mono e).rd), fun l hn => ?_⟩
  have g := Gr.new (q := none) (o := .lst xs) e hn
  exact k _ _ _ _ g hp (.lst upd_same (DqAll.mono g.k _ _ h3))
theorem e_lstT {ds : List PyData} (h : E q δ te (.tuple ds)) : E q δ (tCB (rLstQ K) (tCons te tNil)) (.list ds) := e_cb1 h (rc_lstT rfl)
/-! ### isinstance -/
def tyN : PyData → String
  | .none => "NoneType"
  | .bool _ => "bool"
  | .int _ => "int"
  | .str _ => "str"
  | .list _ => "list"
  | .tuple _ => "tuple"
  | .dict _ => "dict"
/-- no instance -/
def top : PyData → Bool
  | .dict (_ :: _) => false
  | _ => true
theorem dq_ty {H : Hp} : ∀ {d : PyData} {v : V}, top d = true → Dq H v d → TyX K H v (.type (tyN d))
  | .none, _, ht, h => by cases h; exact .base .non
  | .bool b, _, ht, h => by cases h; exact .base (.bl b)
  | .int i, _, ht, h => by cases h; exact .base (.int i)
  | .str x, _, ht, h => by cases h; exact .base (.str x)
  | .list _, _, ht, h => by
    cases h with
    | lst h1 _ => exact .base (.lst h1)
  | .tuple _, _, ht, h => by
    cases h with
    | tup h1 _ =>
      rcases h1 with ⟨o, _, h1⟩ | ⟨_, h1⟩
      · exact .fTuple h1
      · exact .base (.tup h1)
  | .dict _, _, ht, h => by
    cases h with
    | dic h1 => exact .base (.dK h1)
    | ins h1 => cases ht
theorem e_isi {n : String} {r : Bool} (h : E q δ te d) (hk : kitB (tyN d) n = some r) (ht : top d = true := by first | rfl | assumption) : E q δ (tCB (rIsiU K) (tCons te (tCons (tC (.ty n)) tNil))) (.bool r) := fun σ H H1 m sg o Q k =>
  h σ H H1 m sg o _ fun x v Hk H2 g o1 e dv => by
    subst e
    exact .inl ⟨v, .ty n, .type (tyN x), .type n, r, rfl, .ty n, dq_ty ht (Dq.mono g.a _ _ dv), kit_ty hk, k _ _ Hk H2 g o1 rfl (.bl r)⟩
/-! ### slices -/
def TOj (δ : List Sl) (q : Option Addr) (to : TO) (o : Option Int) : Prop := ∀ (σ : L2.St) (H H1 : Hp) (n : Nat), Sg H σ δ → Ok q n H H1 → ∀ Q : Option Int → Hp → Prop, (∀ Hk H2, Gr q H H1 Hk H2 → Ok q n Hk H2 → Q o H2) → to σ H1 Q
theorem to_none : TOj δ q tNoPart none := fun σ H H1 n sg o Q k => k H H1 (Gr.refl o.a) o
theorem to_some {i : Int} (h : E q δ te (.int i)) : TOj δ q (tPart te) (some i) := fun σ H H1 n sg o Q k => h σ H H1 n sg o _ fun d v Hk H2 g o1 e dv => by
  subst e
  exact ⟨i, dv.intOf, k Hk H2 g o1⟩
def cutD (xs : List PyData) (lo hi : Option Int) : List PyData := (xs.drop (HT.sIx xs.length 0 lo)).take (HT.sIx xs.length xs.length hi - HT.sIx xs.length 0 lo)
theorem e_slL {tl th : TO} {lo hi : Option Int} {ds : List PyData} (h : E q δ te (.list ds)) (h1 : TOj δ q tl lo) (h2 : TOj δ q th hi) : E q δ (tSl (rSlU K) te tl th) (.list (cutD ds lo hi)) := fun σ H H1 n sg o Q k =>
  h σ H H1 n sg o _ fun d v Hk H2 g o1 e dv => h1 σ Hk H2 n (sg.mono g.k) o1 _ fun Hk2 H3 g2 o2 => h2 σ Hk2 H3 n (sg.mono (g.k.trans g2.k)) o2 _ fun Hk3 H4 g3 o3 => by
    subst e
    obtain ⟨a, xs, rfl, e1, e2⟩ := (Dq.mono (g2.k.trans g3.k) _ _ dv).lstOf
    refine .inl ⟨a, xs, rfl, .inl (.inl (g3.a _ _ e1)), fun p hn => ?_⟩
    have g4 := Gr.new (q := none) (o := .lst (cutV xs lo hi)) g3.a hn
    refine k _ _ _ _ (((g.trans g2).trans g3).trans g4.none_to) (o3.go g4) rfl (.lst upd_same (DqAll.mono g4.k _ _ ?_))
    unfold cutV
    rw [e2.length]
    exact (e2.drop _).take _
theorem e_slT {tl th : TO} {lo hi : Option Int} {ds : List PyData} (h : E q δ te (.tuple ds)) (h1 : TOj δ q tl lo) (h2 : TOj δ q th hi) : E q δ (tSl (rSlU K) te tl th) (.tuple (cutD ds lo hi)) := fun σ H H1 n sg o Q k =>
  h σ H H1 n sg o _ fun d v Hk H2 g o1 e dv => h1 σ Hk H2 n (sg.mono g.k) o1 _ fun Hk2 H3 g2 o2 => h2 σ Hk2 H3 n (sg.mono (g.k.trans g2.k)) o2 _ fun Hk3 H4 g3 o3 => by
    subst e
    have dv' := Dq.mono (g2.k.trans g3.k) _ _ dv
    obtain ⟨a, xs, rfl, e1, e2⟩ := dv'.tupOf
    have hl := e2.length
    refine .inr ⟨a, xs, rfl, .inl (e1.mono g3.a).rd, fun hw => ?_, fun hw p ob od hn => ?_⟩
    · have ec : cutD ds lo hi = ds := by
        unfold cutD
        rw [← hl, hw.1, hw.2, List.drop_zero, Nat.sub_zero, hl, List.take_length]
      rw [ec] at k
      exact k _ _ _ _ ((g.trans g2).trans g3) o3 rfl dv'
    · have g4 := Gr.new (q := none) (o := .frz ob (.tup (cutV xs lo hi))) g3.a hn
      refine k _ _ _ _ (((g.trans g2).trans g3).trans g4.none_to) (o3.go g4) rfl (.tup (Tp.new od) (DqAll.mono g4.k _ _ ?_))
      unfold cutV
      rw [hl]
      exact (e2.drop _).take _

/-! ### keyword calls -/
theorem j_callK {R : RelX} {E : XK} {ta tk : TA} {gV : List V → List V → List V} {gS : List Sl → List Sl → List Sl} {Φa Φk : List Sl → Prop} (ha : AJ q δ ta c1 Φa) (hk : AJ q δ tk c2 Φk)
    (hg : ∀ (H : Hp) (vs zs : List V) (ss us : List Sl), VS H vs ss → VS H zs us → Φa ss → Φk us → VS H (gV vs zs) (gS ss us)) (hr : ∀ ss us, Φa ss → Φk us → R q (gS ss us) c Φ) : J q δ (tCallK (spX R) gV E ta tk) (c + c2 + c1) Φ := fun σ H H1 n sg o Q k =>
  ha σ H H1 (n + (c + c2)) sg (by rw [Nat.add_assoc]; exact o) _ fun sls vs Hk H2 g o1 p hv => hk σ Hk H2 (n + c) (sg.mono g.k) (by rw [Nat.add_assoc]; exact o1) _ fun us zs Hk' H3 g' o2 pk hz =>
    ⟨q, Hk', gS sls us, n, c, Φ, o2, hg Hk' vs zs sls us (hv.mono g'.k) hz p pk, hr sls us p pk, fun d v Hk2 H4 g2 o3 pd dv => k d v Hk2 H4 ((g.trans g').trans g2) o3 pd dv⟩
end
end Cr

namespace L2
open PySem PySem.Spec PyProof.Rows L2
/-! ### the rules with the written part named (within a comprehension's block it is the def's) -/
section
variable {X : Cx} {K : PySem.W.Frag}
theorem k_addU (h : X.K = K) : OpR X (binaryOp .Add) (rAddU K) := h ▸ op_addU
theorem k_eqD (h : X.K = K) (hu : X.A.units + 64 < cLine) : OpR X (compareOp .Eq) (rEqD K) := h ▸ op_eqD hu
theorem k_neD (h : X.K = K) (hu : X.A.units + 64 < cLine) : OpR X (compareOp .NotEq) (rNeD K) := h ▸ op_neD hu
theorem k_ix (h : X.K = K) : IxR X (rIx K) := h ▸ ix_seq
theorem k_sl (h : X.K = K) : SlR X (rSlU K) := h ▸ sl_U
theorem k_isi (h : X.K = K) : CallR X (.builtin "isinstance") (rIsiU K) := h ▸ call_isiU
theorem k_len (h : X.K = K) : CallR X (.builtin "len") (Cr.rLenQ K) := h ▸ Cr.call_lenQ
theorem k_sum (h : X.K = K) (hc : X.calm = true) : CallR X (.builtin "sum") (rSum K) := h ▸ cr_sum hc
theorem k_all (h : X.K = K) (hc : X.calm = true) : CallR X (.builtin "all") (rAll K) := h ▸ cr_all hc
theorem k_tup (h : X.K = K) : CallR X (.type "tuple") (Cr.rTupQ K) := h ▸ Cr.call_tupQ
theorem k_lst (h : X.K = K) : CallR X (.type "list") (Cr.rLstQ K) := h ▸ Cr.call_lstQ
theorem k_pgTup {es : List Expr} {k : Nat} {pos : Pos} {t : TGs} {n : Nat} (h : X.K = K) (hc : X.calm = true) (hg : PGs X es t) (hn : (assignEach es X.env).length = n := by rfl) (hst : (assignEach es X.env).findIdx? (·.1) = none := by rfl) :
    PG X (.Tuple es k pos) (gTup K n t) := h ▸ pg_tup hc hg hn hst
theorem k_piList {tg l : Expr} {tl : TE} (h : X.K = K) (hl : PE X l tl) : PI X tg l (iList K tl) := h ▸ pi_list hl
theorem k_piTup {tg l : Expr} {tl : TE} (h : X.K = K) (hl : PE X l tl) : PI X tg l (iTup K tl) := h ▸ pi_tup hl
theorem k_piZip {a b : Expr} {ta : TA} {p pos tpos : Pos} {elts : List Expr} {kk : Nat} (h : X.K = K) (hg : Gl X "zip") (hm : X.mg "zip" = none) (ha : PA X [a, b] ta)
    (hs : starEach [a, b] X.env = (false, eval a X.env) :: starEach [b] X.env := by rfl) (hp : (backTo pos (starEach [b] X.env)).any (·.1) = false := by rfl) :
    PI X (.Tuple elts kk tpos) (.Call (.Name "zip" p) [a, b] [] pos) (RZ.iZipA K ta) := h ▸ RZ.pi_zipA hg hm ha hs hp
end
end L2

set_option Elab.async false
set_option linter.all false
set_option maxRecDepth 100000
set_option maxHeartbeats 4000000
namespace Cr
open PySem PySem.Spec PyProof.Rows L2

/-! ### what is walked -/
def WalkD (Jt : It) (items : List PyData) (HkW : Hp) : Prop := ∀ (i : Nat) (Hk H : Hp), Same HkW Hk → Same Hk H →
  (i < items.length → Jt.go i H ∧ ∀ v H', Jt.yld i H v H' → ∃ Hk', Gr none Hk H Hk' H' ∧ ∃ d, items[i]? = some d ∧ Dq Hk' v d) ∧ (items.length ≤ i → Jt.stop i H)
def IJ (q : Option Addr) (δ : List Sl) (wi : TI) (c : Nat) (Φ : List PyData → Prop) : Prop :=
  ∀ (σ : L2.St) (H H1 : Hp) (n : Nat), Sg H σ δ → Ok q (n + c) H H1 → ∀ R : It → Hp → Prop, (∀ items Jt Hk H2, Gr q H H1 Hk H2 → Ok q n Hk H2 → Φ items → WalkD Jt items Hk → R Jt H2) → wi σ H1 R
abbrev IE (q : Option Addr) (δ : List Sl) (wi : TI) (items : List PyData) : Prop := IJ q δ wi 0 (fun x => x = items)
section
variable {K : PySem.W.Frag} {q : Option Addr} {δ δ' : List Sl} {te ta tb tc : TE} {tt tu : TT} {c c1 c2 c3 : Nat} {Φ Φ1 Φ2 Φ3 : PyData → Prop} {d d1 d2 : PyData} {wi : TI}
theorem SqL.of1 {H : Hp} {a : Addr} {xs : List V} (h : H a = some (.lst xs)) : SqL K H a xs := .inl (.inl h)
theorem walk_lst {H : Hp} {a : Addr} {xs : List V} {ds : List PyData} (h : H a = some (.lst xs)) (hd : DqAll H xs ds) : WalkD (Itl K a) ds H := fun i Hk H' s1 s2 => by
  have e := s2 _ _ (s1 _ _ h)
  refine ⟨fun hi => ⟨?_, fun v H2 y => ?_⟩, fun hi => ⟨xs, SqL.of1 e, by rw [hd.length]; exact hi⟩⟩
  · exact ⟨xs, xs[i]'(by rw [hd.length]; exact hi), SqL.of1 e, List.getElem?_eq_getElem _⟩
  · obtain ⟨rfl, y2⟩ := y
    have e2 := y2 xs (SqL.of1 e)
    obtain ⟨d, g1, g2⟩ := hd.get' e2
    exact ⟨Hk, Gr.refl s2, d, g1, Dq.mono s1 _ _ g2⟩
theorem walk_tup {H : Hp} {a : Addr} {xs : List V} {ds es : List PyData} (h : Tp H a xs es) (hd : DqAll H xs ds) : WalkD (Itt K a) ds H := fun i Hk H' s1 s2 => by
  have e := ((h.mono s1).mono s2).rd
  refine ⟨fun hi => ⟨?_, fun v H2 y => ?_⟩, fun hi => ⟨xs, .inl e, by rw [hd.length]; exact hi⟩⟩
  · exact ⟨xs, xs[i]'(by rw [hd.length]; exact hi), .inl e, List.getElem?_eq_getElem _⟩
  · obtain ⟨rfl, y2⟩ := y
    have e2 := y2 xs (.inl e)
    obtain ⟨d, g1, g2⟩ := hd.get' e2
    exact ⟨Hk, Gr.refl s2, d, g1, Dq.mono s1 _ _ g2⟩
def rng (lo : Int) (n : Nat) : List PyData := (List.range n).map fun i => .int (lo + (i : Nat))
theorem rng_len (lo : Int) (n : Nat) : (rng lo n).length = n := by unfold rng; rw [List.length_map, List.length_range]
theorem rng_get {lo : Int} {n i : Nat} (h : i < n) : (rng lo n)[i]? = some (.int (lo + (i : Nat))) := by
  unfold rng
  rw [List.getElem?_map, List.getElem?_range h]; rfl
theorem rng_get' {lo : Int} {n i : Nat} {d : PyData} (h : (rng lo n)[i]? = some d) : i < n ∧ d = .int (lo + (i : Nat)) := by
  have hl : i < n := by
    have := (List.getElem?_eq_some_iff.mp h).1
    rw [rng_len] at this; exact this
  rw [rng_get hl] at h
  exact ⟨hl, (Option.some.inj h).symm⟩
theorem walk_rng {H : Hp} {lo : Int} {n : Nat} : WalkD (Itr lo n) (rng lo n) H := fun i Hk H' s1 s2 => by
  rw [rng_len]
  refine ⟨fun hi => ⟨hi, fun v H2 y => ?_⟩, fun hi => hi⟩
  obtain ⟨rfl, rfl⟩ := y
  exact ⟨Hk, Gr.refl s2, _, rng_get hi, .int _⟩
def zipD : List PyData → List PyData → List PyData
  | a :: as, b :: bs => .tuple [a, b] :: zipD as bs
  | _, _ => []
theorem zipD_get : ∀ (as bs : List PyData) (i : Nat) (a b : PyData), as[i]? = some a → bs[i]? = some b → (zipD as bs)[i]? = some (.tuple [a, b])
  | [], _, _, _, _, h, _ => by simp at h
  | _ :: _, [], _, _, _, _, h => by simp at h
  | a :: as, b :: bs, 0, x, y, h1, h2 => by simp at h1 h2; subst h1; subst h2; rfl
  | a :: as, b :: bs, i + 1, x, y, h1, h2 => zipD_get as bs i x y (by simpa using h1) (by simpa using h2)
theorem zipD_len : ∀ (as bs : List PyData), (zipD as bs).length = min as.length bs.length
  | [], bs => by simp [zipD]
  | _ :: _, [] => by simp [zipD]
  | a :: as, b :: bs => by
    show (zipD as bs).length + 1 = _
    rw [zipD_len as bs, List.length_cons, List.length_cons]; omega
theorem walk_zipT {H : Hp} {a b : Addr} {xs ys : List V} {ds es : List PyData} {fs gs : List PyData} (np : ∀ d ∈ ds, notPair d = true) (h : Tp H a xs fs) (hd : DqAll H xs ds) (h2 : Tp H b ys gs) (he : DqAll H ys es) : WalkD (RZ.ItzT K a b) (zipD ds es) H := fun i Hk H' s1 s2 => by
  have e := ((h.mono s1).mono s2).rd
  have e2 := ((h2.mono s1).mono s2).rd
  have hl1 := hd.length
  have hl2 := he.length
  rw [zipD_len]
  refine ⟨fun hi => ?_, fun hi => ⟨xs, ys, .inl e, .inl e2, by omega⟩⟩
  have g1 : xs[i]? = some (xs[i]'(by omega)) := List.getElem?_eq_getElem _
  have g2 : ys[i]? = some (ys[i]'(by omega)) := List.getElem?_eq_getElem _
  refine ⟨⟨xs, ys, _, _, .inl e, .inl e2, g1, g2⟩, fun v H2 y => ?_⟩
  obtain ⟨T, x, y, rfl, hT, rfl, f1, f2⟩ := y
  obtain ⟨d1, p1, p2⟩ := hd.get' (f1 xs (.inl e))
  obtain ⟨d2, p3, p4⟩ := he.get' (f2 ys (.inl e2))
  have g := Gr.new (q := none) (o := .tup [x, y]) s2 hT
  refine ⟨_, g, _, zipD_get ds es i d1 d2 p1 p3, .tup (.inr ⟨np d1 (List.mem_of_getElem? p1), upd_same⟩) (.cons (Dq.mono (s1.trans g.k) _ _ p2) (.cons (Dq.mono (s1.trans g.k) _ _ p4) .nil))⟩

theorem ij_lst {Ψ : List PyData → Prop} (h : J q δ te c (fun d => ∃ ds, Ψ ds ∧ d = .list ds)) : IJ q δ (iList K te) c Ψ := fun σ H H1 n sg o R k =>
  h σ H H1 n sg o _ fun d v Hk H2 g o1 ⟨ds, p, e⟩ dv => by
    subst e
    obtain ⟨a, xs, rfl, h1, h2⟩ := dv.lstOf
    exact ⟨a, rfl, ⟨xs, SqL.of1 (g.a _ _ h1)⟩, k ds _ Hk H2 g o1 p (walk_lst h1 h2)⟩
theorem ij_tup {Ψ : List PyData → Prop} (h : J q δ te c (fun d => ∃ ds, Ψ ds ∧ d = .tuple ds)) : IJ q δ (iTup K te) c Ψ := fun σ H H1 n sg o R k =>
  h σ H H1 n sg o _ fun d v Hk H2 g o1 ⟨ds, p, e⟩ dv => by
    subst e
    obtain ⟨a, xs, rfl, h1, h2⟩ := dv.tupOf
    exact ⟨a, rfl, ⟨xs, .inl (h1.mono g.a).rd⟩, k ds _ Hk H2 g o1 p (walk_tup h1 h2)⟩
theorem ie_lst {ds : List PyData} (h : E q δ te (.list ds)) : IE q δ (iList K te) ds := ij_lst (h.imp fun d e => ⟨ds, rfl, e⟩)
theorem ie_tup {ds : List PyData} (h : E q δ te (.tuple ds)) : IE q δ (iTup K te) ds := ij_tup (h.imp fun d e => ⟨ds, rfl, e⟩)
theorem ij_rng1 {P : Int → Prop} {Ψ : List PyData → Prop} (h : J q δ te c (IntP P)) (hp : ∀ j, P j → (-(2 ^ 62) ≤ j ∧ j < 2 ^ 62) ∧ Ψ (rng 0 j.toNat)) : IJ q δ (iRng1 (tCons te tNil)) c Ψ := fun σ H H1 n sg o R k =>
  h σ H H1 n sg o _ fun d v Hk H2 g o1 ⟨j, p, e⟩ dv => by
    subst e
    rw [dv.intOf]
    exact ⟨j, rfl, (hp j p).1.1, (hp j p).1.2, k _ _ Hk H2 g o1 (hp j p).2 walk_rng⟩
theorem ie_rng1 {j : Int} (h : E q δ te (.int j)) (h1 : -(2 ^ 62) ≤ j) (h2 : j < 2 ^ 62) : IE q δ (iRng1 (tCons te tNil)) (rng 0 j.toNat) := ij_rng1 h.intP fun i e => by subst e; exact ⟨⟨h1, h2⟩, rfl⟩
theorem ie_zipT {ds es : List PyData} (h : E q δ ta (.tuple ds)) (h2 : E q δ tb (.tuple es)) (np : ∀ d ∈ ds, notPair d = true := by intro d hd; obtain ⟨x, _, rfl⟩ := List.mem_map.mp hd; rfl) : IE q δ (RZ.iZipA K (tCons ta (tCons tb tNil))) (zipD ds es) := fun σ H H1 n sg o R k =>
  h σ H H1 n sg o _ fun d v Hk H2 g o1 e dv => h2 σ Hk H2 n (sg.mono g.k) o1 _ fun d' v' Hk' H3 g' o2 e' dv' => by
    subst e; subst e'
    obtain ⟨a, xs, rfl, p1, p2⟩ := (Dq.mono g'.k _ _ dv).tupOf
    obtain ⟨b, ys, rfl, p3, p4⟩ := dv'.tupOf
    exact ⟨a, b, xs, ys, rfl, .inr ⟨.inl (p1.mono g'.a).rd, .inl (p3.mono g'.a).rd, k _ _ Hk' H3 (g.trans g') o2 rfl (walk_zipT np p1 p2 p3 p4)⟩⟩

/-! ### targets -/
def GB (δ : List Sl) (g : TG) (d : PyData) (δ' : List Sl) (vs : List Nat) : Prop := ∀ (σ : L2.St) (H H1 : Hp) (v : V), Sg H σ δ → Same H H1 → Dq H v d → ∀ Q : L2.St → Hp → Prop, (∀ σ', Sg H σ' δ' → σ'.length = σ.length → (∀ k, k ∉ vs → σ'[k]? = σ[k]?) → Q σ' H1) → g v σ H1 Q
theorem gb_name {i : Nat} {vs : List Nat} (h : i ∈ vs) : GB δ (gName i) d (δ.set i (.dat d)) vs := fun σ H H1 v sg s dv Q k =>
  k _ (sg.set i (s := .dat d) dv) (List.length_set ..) fun j hj => List.getElem?_set_ne (fun e => hj (by rw [← e]; exact h))
theorem gb_tup2 {i j : Nat} {vs : List Nat} (h : i ∈ vs) (h' : j ∈ vs) : GB δ (gTup K 2 (gCons (gName i) (gCons (gName j) gNil))) (.tuple [d1, d2]) ((δ.set i (.dat d1)).set j (.dat d2)) vs := fun σ H H1 v sg s dv Q k => by
  obtain ⟨a, xs, rfl, h1, h2⟩ := dv.tupOf
  obtain ⟨x, y, rfl, dx, dy⟩ := h2.two
  refine ⟨a, [x, y], rfl, .inl (h1.mono s).rd, rfl, x, [y], rfl, y, [], rfl, rfl, k _ ((sg.set i (s := .dat d1) dx).set j (s := .dat d2) dy) (by rw [List.length_set, List.length_set]) fun l hl => ?_⟩
  rw [List.getElem?_set_ne (fun e => hl (by rw [← e]; exact h')), List.getElem?_set_ne (fun e => hl (by rw [← e]; exact h))]

/-! ### comprehensions -/
def wipeD (δ : List Sl) : List Nat → List Sl
  | [] => δ
  | v :: vs => (wipeD δ vs).set v .any
theorem Sg.wipe {H : Hp} {σ : L2.St} {δ : List Sl} (h : Sg H σ δ) : ∀ vs : List Nat, Sg H (wipe σ vs) (wipeD δ vs)
  | [] => h
  | v :: vs => by
    have ih := Sg.wipe h vs
    refine ⟨by show ((L2.wipe σ vs).set v none).length = ((wipeD δ vs).set v .any).length; rw [List.length_set, List.length_set]; exact ih.1, fun i s a b => ?_⟩
    change ((wipeD δ vs).set v .any)[i]? = some s at a
    change ∃ x, ((L2.wipe σ vs).set v none)[i]? = some (some x) ∧ SlOk H x s
    by_cases hi : v = i
    · subst hi
      by_cases hl : v < (wipeD δ vs).length
      · rw [List.getElem?_set_self hl] at a
        exact absurd (Option.some.inj a).symm b
      · rw [List.getElem?_eq_none (by rw [List.length_set]; omega)] at a; cases a
    · rw [List.getElem?_set_ne hi] at a ⊢
      exact ih.2 i s a b
theorem wipe_get (σ : L2.St) : ∀ (vs : List Nat) (i : Nat), (wipe σ vs)[i]? = if i ∈ vs then (if i < σ.length then some none else none) else σ[i]?
  | [], i => by simp [wipe]
  | v :: vs, i => by
    show ((L2.wipe σ vs).set v none)[i]? = _
    have ih := wipe_get σ vs i
    by_cases hi : v = i
    · subst hi
      rw [if_pos (by simp)]
      by_cases hl : v < σ.length
      · rw [List.getElem?_set_self (by rw [wipe_length]; exact hl), if_pos hl]
      · rw [List.getElem?_eq_none (by rw [List.length_set, wipe_length]; omega), if_neg hl]
    · rw [List.getElem?_set_ne hi, ih]
      have e : (i ∈ v :: vs) ↔ i ∈ vs := by simp [Ne.symm hi]
      by_cases hm : i ∈ vs
      · rw [if_pos hm, if_pos (e.mpr hm)]
      · rw [if_neg hm, if_neg (fun z => hm (e.mp z))]
theorem wipe_eq {σ σ' : L2.St} {vs : List Nat} (hl : σ'.length = σ.length) (h : ∀ k, k ∉ vs → σ'[k]? = (wipe σ vs)[k]?) : wipe σ' vs = wipe σ vs := by
  refine List.ext_getElem? fun i => ?_
  rw [wipe_get, wipe_get]
  by_cases hm : i ∈ vs
  · rw [if_pos hm, if_pos hm, hl]
  · rw [if_neg hm, if_neg hm, h i hm, wipe_get, if_neg hm]
/-- pure elements: b tells which are taken, f what they give; the items told by a list of one's own -/
theorem j_lc {α : Type} {emb : α → PyData} {wi : TI} {g : TG} {vs : List Nat} {Ψ : List α → Prop} (hw : IJ q δ wi c (fun items => ∃ xs, Ψ xs ∧ items = xs.map emb)) (b : α → Bool) (f : α → PyData)
    (hz : ∀ xs, Ψ xs → xs.length ≤ 1000000) (he : ∀ xs, Ψ xs → ∀ x ∈ xs, ∃ δ', GB (wipeD δ vs) g (emb x) δ' vs ∧ TB q δ' tt (b x) ∧ (b x = true → E q δ' te (f x))) :
    J q δ (tLc wi g tt te vs) c (fun r => ∃ xs, Ψ xs ∧ r = .list ((xs.filter b).map f)) := fun σ H H1 n sg o Q k =>
  hw σ H H1 n sg o _ fun items Jt HkW H2 g0 o0 pi wk D hD => by
    obtain ⟨xs, pi, ei⟩ := pi
    have hlen : items.length = xs.length := by rw [ei, List.length_map]
    have hDk : HkW D = none := g0.a.free hD
    have hDq : q ≠ some D := fun e => (o0.j D e).ne hD
    have g1 : Gr q HkW H2 HkW (upd H2 D (.lst [])) := Gr.cell g0.a hD
    refine ⟨fun i m H' => m = items.length - i ∧ i ≤ items.length ∧ ∃ Hk' vs, Gr q HkW H2 Hk' H' ∧ Ok q n Hk' H' ∧ Hk' D = none ∧ H' D = some (.lst vs) ∧ DqAll Hk' vs (((xs.take i).filter b).map f),
      ⟨items.length, by simp, Nat.zero_le _, HkW, [], g1, o0.cell hDk hDq, hDk, upd_same, .nil⟩, ?_⟩
    rintro i m H' ⟨rfl, hi, Hk', ys, gr, ok, hDn, hl, hd⟩
    by_cases hlt : i < items.length
    · obtain ⟨go, yl⟩ := (wk i Hk' H' gr.k ok.a).1 hlt
      refine .inr ⟨go, fun H'' => ∃ Hk3 ys', Gr q HkW H2 Hk3 H'' ∧ Ok q n Hk3 H'' ∧ Hk3 D = none ∧ H'' D = some (.lst ys') ∧ DqAll Hk3 ys' (((xs.take (i + 1)).filter b).map f), fun H'' p => ⟨items.length - (i + 1), by omega, rfl, hlt, p⟩, fun v H'' y => ?_⟩
      obtain ⟨Hk2, g2, d, ed, dx⟩ := yl v H'' y
      obtain ⟨x, ex, rfl⟩ : ∃ x, xs[i]? = some x ∧ emb x = d := by
        rw [ei, List.getElem?_map] at ed
        exact Option.map_eq_some_iff.mp ed
      obtain ⟨δ', hgb, htb, hte⟩ := he xs pi x (List.mem_of_getElem? ex)
      have ok2 := ok.go g2
      have sgw : Sg Hk2 (wipe σ vs) (wipeD δ vs) := ((sg.mono g0.k).mono (gr.k.trans g2.k)).wipe vs
      have hD2 : Hk2 D = none := g2.f D hDn (by rw [hl]; exact fun z => by cases z)
      have hl2 : H'' D = some (.lst ys) := g2.s D _ (fun z => by cases z) hl
      have hd2 := DqAll.mono g2.k _ _ hd
      have gr2 := gr.trans g2.none_to
      have hx : xs.take (i + 1) = xs.take i ++ [x] := by
        rw [List.take_add_one, ex]; rfl
      refine hgb (wipe σ vs) Hk2 H'' v sgw g2.a dx _ fun σ' sg' hl' hk' => ⟨wipe_eq (by rw [hl', wipe_length]) hk', ?_⟩
      · refine htb σ' Hk2 H'' n sg' ok2 _ fun b' Hk3 H3 g3 o3 eb => ?_
        have hD3 : Hk3 D = none := g3.f D hD2 (by rw [hl2]; exact fun z => by cases z)
        have hl3 : H3 D = some (.lst ys) := g3.s D _ hDq hl2
        have hd3 := DqAll.mono g3.k _ _ hd2
        have gr3 := gr2.trans g3
        cases hb : b x with
        | true =>
          rw [hb] at eb
          subst eb
          refine iteT (hte hb σ' Hk3 H3 n (sg'.mono g3.k) o3 _ fun y w Hk4 H4 g4 o4 ey dw => ?_)
          subst ey
          have hD4 : Hk4 D = none := g4.f D hD3 (by rw [hl3]; exact fun z => by cases z)
          have hl4 : H4 D = some (.lst ys) := g4.s D _ hDq hl3
          have hd4 := DqAll.mono g4.k _ _ hd3
          refine ⟨ys, hl4, ?_, Hk4, ys ++ [w], (gr3.trans g4).put hD hD4, o4.cell hD4 hDq, hD4, upd_same, ?_⟩
          · rw [hd4.length, List.length_map]
            have z1 := List.length_filter_le b (xs.take i)
            rw [List.length_take] at z1
            have z2 := hz xs pi
            rw [sizeLine_eq]; omega
          · rw [hx, List.filter_append, List.map_append, List.filter_cons, if_pos hb]
            exact hd4.append (.cons dw .nil)
        | false =>
          rw [hb] at eb
          subst eb
          refine iteF ⟨Hk3, ys, gr3, o3, hD3, hl3, ?_⟩
          rw [hx, List.filter_append, List.map_append, List.filter_cons, if_neg (by rw [hb]; exact Bool.false_ne_true)]
          show DqAll Hk3 ys (_ ++ [])
          rw [List.append_nil]
          exact hd3
    · have e : i = items.length := by omega
      subst e
      refine .inl ⟨(wk _ Hk' H' gr.k ok.a).2 (Nat.le_refl _), ?_⟩
      rw [hlen, List.take_length] at hd
      have gf := gr.freeze hD hDn hl
      refine k _ _ _ _ (g0.trans gf) ⟨gf.a, fun p e => ?_, ok.j⟩ ⟨xs, pi, rfl⟩ (.lst upd_same (DqAll.mono (same_upd hDn) _ _ hd))
      rw [upd_ne (fun z => hDq (by rw [← z]; exact e))]
      exact ok.kf p e
theorem e_lc {α : Type} {emb : α → PyData} {wi : TI} {g : TG} {vs : List Nat} {xs : List α} (hw : IE q δ wi (xs.map emb)) (b : α → Bool) (f : α → PyData) (hz : xs.length ≤ 1000000)
    (he : ∀ x ∈ xs, ∃ δ', GB (wipeD δ vs) g (emb x) δ' vs ∧ TB q δ' tt (b x) ∧ (b x = true → E q δ' te (f x))) : E q δ (tLc wi g tt te vs) (.list ((xs.filter b).map f)) :=
  (j_lc (Ψ := fun ys => ys = xs) (fun σ H H1 n sg o R k => hw σ H H1 n sg o R fun items Jt Hk H2 g o' e w => k items Jt Hk H2 g o' ⟨xs, rfl, e⟩ w) b f (fun ys e => by rw [e]; exact hz) (fun ys e => by rw [e]; exact he)).imp fun d ⟨ys, e, r⟩ => by rw [r, e]
theorem e_lc1 {α : Type} {emb : α → PyData} {wi : TI} {g : TG} {vs : List Nat} {xs : List α} (hw : IE q δ wi (xs.map emb)) (f : α → PyData) (hz : xs.length ≤ 1000000)
    (he : ∀ x ∈ xs, ∃ δ', GB (wipeD δ vs) g (emb x) δ' vs ∧ E q δ' te (f x)) : E q δ (tLc wi g tYes te vs) (.list (xs.map f)) := by
  have h := e_lc (tt := tYes) hw (fun _ => true) f hz fun x hx => by
    obtain ⟨δ', a, b⟩ := he x hx
    exact ⟨δ', a, tb_yes, fun _ => b⟩
  rw [show xs.filter (fun _ => true) = xs from List.filter_eq_self.mpr fun _ _ => rfl] at h
  exact h
end
end Cr

set_option Elab.async false
set_option linter.all false
set_option maxRecDepth 100000
set_option maxHeartbeats 4000000
namespace Cr
open PySem PySem.Spec PyProof.Rows L2
section
variable {K : PySem.W.Frag} {q : Option Addr} {n : Nat} {δ δ' : List Sl} {te ta tb tc : TE} {tt tu : TT} {c c1 c2 c3 : Nat} {Φ Φ1 Φ2 Φ3 : PyData → Prop} {d d1 d2 : PyData} {wi : TI} {A0 B0 Hk H1 : Hp} {σ : L2.St} {D : Ends} {ts tz : TS} {g : TG}

/-! ### statements -/
theorem s_seq (h : ts { D with nx := tz D } σ H1) : tSeq ts tz D σ H1 := h
theorem s_asg {i : Nat} (h : J q δ te c Φ) (s : At q (n + c) δ A0 B0 σ Hk H1) (k : ∀ d σ' Hk' H2, Φ d → Gr q Hk H1 Hk' H2 → At q n (δ.set i (.dat d)) A0 B0 σ' Hk' H2 → D.nx σ' H2) : tAsg te (gName i) D σ H1 :=
  h σ Hk H1 n s.sg s.ok _ fun d v Hk' H2 g o p dv => k d _ Hk' H2 p g ⟨o, (s.sg.mono g.k).set i (s := .dat d) dv, s.gr.trans g⟩
theorem s_asgE {i : Nat} (h : E q δ te d) (s : At q n δ A0 B0 σ Hk H1) (k : ∀ σ' Hk' H2, Gr q Hk H1 Hk' H2 → At q n (δ.set i (.dat d)) A0 B0 σ' Hk' H2 → D.nx σ' H2) : tAsg te (gName i) D σ H1 :=
  s_asg (c := 0) h s fun d' σ' Hk' H2 e g a => by subst e; exact k σ' Hk' H2 g a
theorem s_drop (h : J q δ te c Φ) (s : At q (n + c) δ A0 B0 σ Hk H1) (k : ∀ Hk' H2, Gr q Hk H1 Hk' H2 → At q n δ A0 B0 σ Hk' H2 → D.nx σ H2) : tDrop te D σ H1 :=
  h σ Hk H1 n s.sg s.ok _ fun d v Hk' H2 g o p dv => k Hk' H2 g ⟨o, s.sg.mono g.k, s.gr.trans g⟩
/-- what the promise asks of the end -/
abbrev Fin (q : Option Addr) (n : Nat) (A0 B0 : Hp) (Φ : PyData → Prop) (Q : VK) : Prop := ∀ d v Hk' H2, Gr q A0 B0 Hk' H2 → Ok q n Hk' H2 → Φ d → Dq Hk' v d → Q v H2
theorem s_ret {m : Nat} (h : J q δ te c Φ) (s : At q m δ A0 B0 σ Hk H1) (hm : n + c ≤ m) (f : Fin q n A0 B0 Φ1 D.rt) (i : ∀ d, Φ d → Φ1 d) : tRet te D σ H1 :=
  h σ Hk H1 n s.sg (s.ok.mono hm) _ fun d v Hk' H2 g o p dv => f d v Hk' H2 (s.gr.trans g) o (i d p) dv
theorem s_retE {m : Nat} (h : E q δ te d) (s : At q m δ A0 B0 σ Hk H1) (hm : n ≤ m) (f : Fin q n A0 B0 Φ1 D.rt) (i : Φ1 d) : tRet te D σ H1 := s_ret (c := 0) h s hm f fun _ e => by rw [e]; exact i
/-- the end without a return -/
theorem s_end {m : Nat} {Q : VK} (s : At q m δ A0 B0 σ Hk H1) (hm : n ≤ m) (f : Fin q n A0 B0 Φ1 Q) (i : Φ1 .none) : Q .non H1 := f _ _ Hk H1 s.gr (s.ok.mono hm) i .non
theorem s_if {P : Bool → Prop} {t1 t2 : TS} (h : TJ q δ tt c P) (s : At q (n + c) δ A0 B0 σ Hk H1) (k1 : P true → ∀ Hk' H2, Gr q Hk H1 Hk' H2 → At q n δ A0 B0 σ Hk' H2 → t1 D σ H2) (k2 : P false → ∀ Hk' H2, Gr q Hk H1 Hk' H2 → At q n δ A0 B0 σ Hk' H2 → t2 D σ H2) : tIfS tt t1 t2 D σ H1 :=
  h σ Hk H1 n s.sg s.ok _ fun b Hk' H2 g o p => by
    cases b with
    | true => exact iteT (k1 p Hk' H2 g ⟨o, s.sg.mono g.k, s.gr.trans g⟩)
    | false => exact iteF (k2 p Hk' H2 g ⟨o, s.sg.mono g.k, s.gr.trans g⟩)
theorem s_ifB {b : Bool} {t1 t2 : TS} (h : TB q δ tt b) (s : At q n δ A0 B0 σ Hk H1) (k1 : b = true → ∀ Hk' H2, Gr q Hk H1 Hk' H2 → At q n δ A0 B0 σ Hk' H2 → t1 D σ H2) (k2 : b = false → ∀ Hk' H2, Gr q Hk H1 Hk' H2 → At q n δ A0 B0 σ Hk' H2 → t2 D σ H2) : tIfS tt t1 t2 D σ H1 :=
  s_if (c := 0) h s (fun e => k1 e.symm) (fun e => k2 e.symm)
/-- if it does not hold, nothing happens (a raise that is never reached) -/
theorem s_ifNo {t1 : TS} (h : TB q δ tt false) (s : At q n δ A0 B0 σ Hk H1) (k2 : ∀ Hk' H2, Gr q Hk H1 Hk' H2 → At q n δ A0 B0 σ Hk' H2 → D.nx σ H2) : tIfS tt t1 tNext D σ H1 :=
  s_ifB h s (fun e => by cases e) (fun _ Hk' H2 g a => k2 Hk' H2 g a)
/-- a, b = x, y -/
theorem s_par {i j : Nat} {ta : TA} {Ψ : PyData → PyData → Prop} (h : AJ q δ ta c (fun sls => ∃ a b, sls = [.dat a, .dat b] ∧ Ψ a b)) (s : At q (n + c) δ A0 B0 σ Hk H1)
    (k : ∀ a b σ' Hk' H2, Ψ a b → Gr q Hk H1 Hk' H2 → At q n ((δ.set i (.dat a)).set j (.dat b)) A0 B0 σ' Hk' H2 → D.nx σ' H2) : tPar i j ta D σ H1 :=
  h σ Hk H1 n s.sg s.ok _ fun sls vs Hk' H2 g o ⟨a, b, e, p⟩ hv => by
    subst e
    obtain ⟨x, y, rfl, dx, dy⟩ := (VS.dats (ds := [a, b]) hv).two
    exact ⟨x, y, rfl, k a b _ Hk' H2 p g ⟨o, ((s.sg.mono g.k).set i (s := .dat a) dx).set j (s := .dat b) dy, s.gr.trans g⟩⟩
/-! ### loops -/
theorem s_for {tb : TS} {Ψ : List PyData → Prop} (hw : IJ q δ wi c Ψ) (s : At q (n + c) δ A0 B0 σ Hk H1)
    (k : ∀ items HkW H2, Ψ items → Gr q Hk H1 HkW H2 → At q n δ A0 B0 σ HkW H2 → ∃ P : Nat → L2.St → Hp → Hp → Prop, P 0 σ HkW H2 ∧ (∀ i σ' Hk' H', P i σ' Hk' H' → Same HkW Hk' ∧ Same Hk' H') ∧
      (∀ i d σ' Hk' H', items[i]? = some d → P i σ' Hk' H' → ∀ v Hk2 H2', Gr none Hk' H' Hk2 H2' → Dq Hk2 v d → g v σ' H2' fun σ2 H3 => tb { D with nx := fun σ3 H4 => ∃ Hk3, P (i + 1) σ3 Hk3 H4, ct := fun σ3 H4 => ∃ Hk3, P (i + 1) σ3 Hk3 H4, bk := D.nx } σ2 H3) ∧
      (∀ σ' Hk' H', P items.length σ' Hk' H' → D.nx σ' H')) : tFor wi g tb D σ H1 :=
  hw σ Hk H1 n s.sg s.ok _ fun items Jt HkW H2 g0 o0 pi wk => by
    obtain ⟨P, p0, ps, pt, pe⟩ := k items HkW H2 pi g0 ⟨o0, s.sg.mono g0.k, s.gr.trans g0⟩
    refine ⟨fun i m σ' H' => m = items.length - i ∧ i ≤ items.length ∧ ∃ Hk', P i σ' Hk' H', ⟨items.length, by simp, Nat.zero_le _, HkW, p0⟩, ?_⟩
    rintro i m σ' H' ⟨rfl, hi, Hk', p⟩
    obtain ⟨s1, s2⟩ := ps i σ' Hk' H' p
    by_cases hlt : i < items.length
    · obtain ⟨go, yl⟩ := (wk i Hk' H' s1 s2).1 hlt
      refine .inr ⟨go, fun σ3 H4 => ∃ Hk3, P (i + 1) σ3 Hk3 H4, fun σ3 H4 p => ⟨items.length - (i + 1), by omega, rfl, hlt, p⟩, fun v H'' y => ?_⟩
      obtain ⟨Hk2, g2, d, ed, dv⟩ := yl v H'' y
      exact pt i d σ' Hk' H' ed p v Hk2 H'' g2 dv
    · have e : i = items.length := by omega
      subst e
      exact .inl ⟨(wk _ Hk' H' s1 s2).2 (Nat.le_refl _), pe σ' Hk' H' p⟩
end

/-! ### the same with something behind -/
section
variable {K : PySem.W.Frag} {q : Option Addr} {n : Nat} {δ δ' : List Sl} {te ta tb tc : TE} {tt tu : TT} {c c1 c2 c3 : Nat} {Φ Φ1 Φ2 Φ3 : PyData → Prop} {d d1 d2 : PyData} {wi : TI} {A0 B0 Hk H1 : Hp} {σ : L2.St} {D : Ends} {ts tz : TS} {g : TG}
theorem q_asg {i : Nat} (h : J q δ te c Φ) (s : At q (n + c) δ A0 B0 σ Hk H1) (k : ∀ d σ' Hk' H2, Φ d → Gr q Hk H1 Hk' H2 → At q n (δ.set i (.dat d)) A0 B0 σ' Hk' H2 → tz D σ' H2) : tSeq (tAsg te (gName i)) tz D σ H1 := s_asg (D := { D with nx := tz D }) h s k
theorem q_asgE {i : Nat} (h : E q δ te d) (s : At q n δ A0 B0 σ Hk H1) (k : ∀ σ' Hk' H2, Gr q Hk H1 Hk' H2 → At q n (δ.set i (.dat d)) A0 B0 σ' Hk' H2 → tz D σ' H2) : tSeq (tAsg te (gName i)) tz D σ H1 := s_asgE (D := { D with nx := tz D }) h s k
theorem q_asgX {i : Nat} (h : E q δ te d) (s : At q n δ A0 B0 σ Hk H1) (k : ∀ v Hk' H2, Gr q Hk H1 Hk' H2 → At q n (δ.set i (.dat d)) A0 B0 (σ.set i (some v)) Hk' H2 → Dq Hk' v d → tz D (σ.set i (some v)) H2) : tSeq (tAsg te (gName i)) tz D σ H1 :=
  h σ Hk H1 n s.sg s.ok _ fun d' v Hk' H2 g o p dv => by
    subst p
    exact k v Hk' H2 g ⟨o, (s.sg.mono g.k).set i (s := .dat d') dv, s.gr.trans g⟩ dv
theorem q_drop (h : J q δ te c Φ) (s : At q (n + c) δ A0 B0 σ Hk H1) (k : ∀ Hk' H2, Gr q Hk H1 Hk' H2 → At q n δ A0 B0 σ Hk' H2 → tz D σ H2) : tSeq (tDrop te) tz D σ H1 := s_drop (D := { D with nx := tz D }) h s k
theorem q_when {P : Bool → Prop} {t1 : TS} (h : TJ q δ tt c P) (s : At q (n + c) δ A0 B0 σ Hk H1) (k1 : P true → ∀ Hk' H2, Gr q Hk H1 Hk' H2 → At q n δ A0 B0 σ Hk' H2 → t1 { D with nx := tz D } σ H2) (k2 : P false → ∀ Hk' H2, Gr q Hk H1 Hk' H2 → At q n δ A0 B0 σ Hk' H2 → tz D σ H2) : tSeq (tIfS tt t1 tNext) tz D σ H1 := s_if (D := { D with nx := tz D }) h s k1 k2
theorem q_whenB {b : Bool} {t1 : TS} (h : TB q δ tt b) (s : At q n δ A0 B0 σ Hk H1) (k1 : b = true → ∀ Hk' H2, Gr q Hk H1 Hk' H2 → At q n δ A0 B0 σ Hk' H2 → t1 { D with nx := tz D } σ H2) (k2 : b = false → ∀ Hk' H2, Gr q Hk H1 Hk' H2 → At q n δ A0 B0 σ Hk' H2 → tz D σ H2) : tSeq (tIfS tt t1 tNext) tz D σ H1 := s_ifB (D := { D with nx := tz D }) h s k1 k2
theorem q_ifNo {t1 : TS} (h : TB q δ tt false) (s : At q n δ A0 B0 σ Hk H1) (k2 : ∀ Hk' H2, Gr q Hk H1 Hk' H2 → At q n δ A0 B0 σ Hk' H2 → tz D σ H2) : tSeq (tIfS tt t1 tNext) tz D σ H1 := s_ifNo (D := { D with nx := tz D }) h s k2
theorem q_par {i j : Nat} {ta : TA} {Ψ : PyData → PyData → Prop} (h : AJ q δ ta c (fun sls => ∃ a b, sls = [.dat a, .dat b] ∧ Ψ a b)) (s : At q (n + c) δ A0 B0 σ Hk H1)
    (k : ∀ a b σ' Hk' H2, Ψ a b → Gr q Hk H1 Hk' H2 → At q n ((δ.set i (.dat a)).set j (.dat b)) A0 B0 σ' Hk' H2 → tz D σ' H2) : tSeq (tPar i j ta) tz D σ H1 := s_par (D := { D with nx := tz D }) h s k
theorem q_for {tb : TS} {Ψ : List PyData → Prop} (hw : IJ q δ wi c Ψ) (s : At q (n + c) δ A0 B0 σ Hk H1)
    (k : ∀ items HkW H2, Ψ items → Gr q Hk H1 HkW H2 → At q n δ A0 B0 σ HkW H2 → ∃ P : Nat → L2.St → Hp → Hp → Prop, P 0 σ HkW H2 ∧ (∀ i σ' Hk' H', P i σ' Hk' H' → Same HkW Hk' ∧ Same Hk' H') ∧
      (∀ i d σ' Hk' H', items[i]? = some d → P i σ' Hk' H' → ∀ v Hk2 H2', Gr none Hk' H' Hk2 H2' → Dq Hk2 v d → g v σ' H2' fun σ2 H3 => tb { D with nx := fun σ3 H4 => ∃ Hk3, P (i + 1) σ3 Hk3 H4, ct := fun σ3 H4 => ∃ Hk3, P (i + 1) σ3 Hk3 H4, bk := tz D } σ2 H3) ∧
      (∀ σ' Hk' H', P items.length σ' Hk' H' → tz D σ' H')) : tSeq (tFor wi g tb) tz D σ H1 := s_for (D := { D with nx := tz D }) hw s k
end

/-! ### a def -/
theorem start_sg {H : Hp} {N : List Str} {vs : List V} {sls : List Sl} (h : VS H vs sls) (hl : vs.length ≤ N.length) : Sg H (L2.start N vs) (sls ++ List.replicate (N.length - sls.length) .any) := by
  have hl1 := h.1
  refine ⟨by unfold L2.start; simp [hl1], fun i s e ne => ?_⟩
  by_cases hi : i < sls.length
  · rw [List.getElem?_append_left hi] at e
    obtain ⟨v, a, b⟩ := h.2 i s e
    refine ⟨v, ?_, b⟩
    unfold L2.start
    rw [List.getElem?_append_left (by rw [List.length_map]; omega), List.getElem?_map, a]; rfl
  · rw [List.getElem?_append_right (by omega)] at e
    have := List.eq_of_mem_replicate (List.mem_of_getElem? e)
    exact absurd this ne
section
variable {P : Program} {w : World} {K : PySem.W.Frag} {mg : Str → Option Value} {base : Heap}
theorem fn_ok {x qual : Str} {st : Stmt} {f : Addr} {fd : FuncData} {N ps : List Str} {k : Nat} {R : RelX} (F : Fun K x qual st f fd) (S : FnScope N ps (defScope st)) (hN : ps.length ≤ N.length) (len : ∀ q sls c Φ, R q sls c Φ → sls.length = ps.length)
    (body : ∀ (cdv : Value) (A : Around) (outer : List Env) (s : Shared) (B0 : Hp) (E : XK), Room k (A.deeper (envOfC qual (defScope st) s.heap.objs.size f cdv)) →
      ∃ t, PSs (cxOf CX0 P w K mg base N qual (defScope st) f cdv A outer s B0 E).nox (defBody st) t ∧
        ∀ (q : Option Addr) (sls : List Sl) (n c : Nat) (Φ : PyData → Prop) (A0 : Hp) (σ : L2.St) (Q : VK), R q sls c Φ → At q (n + c) (sls ++ List.replicate (N.length - sls.length) .any) A0 B0 σ A0 B0 → Fin q n A0 B0 Φ Q → t { nx := fun _ H' => Q .non H', rt := Q } σ B0) :
    FnOk P w K mg base CX0 (k + 1) f fd ps (spX R) := by
  refine F.ok S (fun vs H Q E h => ?_) (fun cdv A outer s H vs Q E hr h => ?_)
  · obtain ⟨q, Hk, sls, n, c, Φ, o, hv, r, _⟩ := h
    rw [hv.1]; exact len q sls c Φ r
  · obtain ⟨q, Hk, sls, n, c, Φ, o, hv, r, fin⟩ := h
    obtain ⟨t, ht, hq⟩ := body cdv A outer s H E hr
    refine ⟨t, ht, hq q sls n c Φ Hk (L2.start N vs) Q r ⟨o, start_sg hv (by rw [hv.1, len q sls c Φ r]; exact hN), Gr.refl o.a⟩ fin⟩
end
end Cr

set_option linter.all false
set_option maxHeartbeats 4000000
namespace Cr
open PySem PySem.Spec PyProof.Rows L2
def isIntD : PyData → Bool
  | .int _ => true
  | _ => false
def isiInt : PyData → Bool
  | .int _ => true
  | .bool _ => true
  | _ => false
def isiBool : PyData → Bool
  | .bool _ => true
  | _ => false
def isiTup : PyData → Bool
  | .tuple _ => true
  | _ => false
def isiLst : PyData → Bool
  | .list _ => true
  | _ => false
theorem kit_int (d : PyData) : kitB (tyN d) "int" = some (isiInt d) := by
  cases d with
  | none => exact (by decide +kernel : kitB "NoneType" "int" = some false)
  | bool _ => exact (by decide +kernel : kitB "bool" "int" = some true)
  | int _ => exact (by decide +kernel : kitB "int" "int" = some true)
  | str _ => exact (by decide +kernel : kitB "str" "int" = some false)
  | list _ => exact (by decide +kernel : kitB "list" "int" = some false)
  | tuple _ => exact (by decide +kernel : kitB "tuple" "int" = some false)
  | dict _ => exact (by decide +kernel : kitB "dict" "int" = some false)

theorem kit_bool (d : PyData) : kitB (tyN d) "bool" = some (isiBool d) := by
  cases d with
  | none => exact (by decide +kernel : kitB "NoneType" "bool" = some false)
  | bool _ => exact (by decide +kernel : kitB "bool" "bool" = some true)
  | int _ => exact (by decide +kernel : kitB "int" "bool" = some false)
  | str _ => exact (by decide +kernel : kitB "str" "bool" = some false)
  | list _ => exact (by decide +kernel : kitB "list" "bool" = some false)
  | tuple _ => exact (by decide +kernel : kitB "tuple" "bool" = some false)
  | dict _ => exact (by decide +kernel : kitB "dict" "bool" = some false)

theorem kit_tuple (d : PyData) : kitB (tyN d) "tuple" = some (isiTup d) := by
  cases d with
  | none => exact (by decide +kernel : kitB "NoneType" "tuple" = some false)
  | bool _ => exact (by decide +kernel : kitB "bool" "tuple" = some false)
  | int _ => exact (by decide +kernel : kitB "int" "tuple" = some false)
  | str _ => exact (by decide +kernel : kitB "str" "tuple" = some false)
  | list _ => exact (by decide +kernel : kitB "list" "tuple" = some false)
  | tuple _ => exact (by decide +kernel : kitB "tuple" "tuple" = some true)
  | dict _ => exact (by decide +kernel : kitB "dict" "tuple" = some false)

theorem kit_list (d : PyData) : kitB (tyN d) "list" = some (isiLst d) := by
  cases d with
  | none => exact (by decide +kernel : kitB "NoneType" "list" = some false)
  | bool _ => exact (by decide +kernel : kitB "bool" "list" = some false)
  | int _ => exact (by decide +kernel : kitB "int" "list" = some false)
  | str _ => exact (by decide +kernel : kitB "str" "list" = some false)
  | list _ => exact (by decide +kernel : kitB "list" "list" = some true)
  | tuple _ => exact (by decide +kernel : kitB "tuple" "list" = some false)
  | dict _ => exact (by decide +kernel : kitB "dict" "list" = some false)

theorem isInt_eq (d : PyData) : (isiInt d && !isiBool d) = isIntD d := by cases d <;> rfl

/-! ### ledgers -/
def pr (x : Int × Int) : PyData := .tuple [.int x.1, .int x.2]
def pd (l : List (Int × Int)) : List PyData := l.map pr
def led (l : List (Int × Int)) : PyData := .tuple (pd l)
def Led (l : List (Int × Int)) : Prop := l.Pairwise (fun a b => a.1 < b.1) ∧ ∀ x ∈ l, x.2 ≠ 0
theorem pd_len (l : List (Int × Int)) : (pd l).length = l.length := List.length_map ..
def tot : List (Int × Int) → Int → Int
  | [], _ => 0
  | x :: r, k => (if x.1 = k then x.2 else 0) + tot r k
theorem tot_append (a b : List (Int × Int)) (k : Int) : tot (a ++ b) k = tot a k + tot b k := by
  induction a with
  | nil => show tot b k = 0 + tot b k; omega
  | cons x r ih => show (if x.1 = k then x.2 else 0) + tot (r ++ b) k = ((if x.1 = k then x.2 else 0) + tot r k) + tot b k; rw [ih]; omega
theorem tot_no {l : List (Int × Int)} {k : Int} (h : k ∉ l.map (·.1)) : tot l k = 0 := by
  induction l with
  | nil => rfl
  | cons x r ih =>
    rw [List.map_cons, List.mem_cons, not_or] at h
    show (if x.1 = k then x.2 else 0) + tot r k = 0
    rw [if_neg (fun e => h.1 e.symm), ih h.2]; rfl
theorem tot_mem {l : List (Int × Int)} {k : Int} (h : tot l k ≠ 0) : k ∈ l.map (·.1) := by
  by_cases hk : k ∈ l.map (·.1)
  · exact hk
  · exact absurd (tot_no hk) h
/-- sorted, each once -/
def insK (k : Int) : List Int → List Int
  | [] => [k]
  | a :: r => if k < a then k :: a :: r else if k = a then a :: r else a :: insK k r
def usort (l : List Int) : List Int := l.foldr insK []
theorem insK_mem (k x : Int) : ∀ l : List Int, x ∈ insK k l ↔ x = k ∨ x ∈ l
  | [] => by simp [insK]
  | a :: r => by
    unfold insK
    split
    · simp
    · split
      · rename_i h1 h2; subst h2; simp
      · rw [List.mem_cons, insK_mem k x r, List.mem_cons]
        constructor
        · rintro (h | h | h) <;> simp [h]
        · rintro (h | h | h) <;> simp [h]
theorem insK_sorted (k : Int) : ∀ {l : List Int}, l.Pairwise (· < ·) → (insK k l).Pairwise (· < ·)
  | [], _ => by simp [insK]
  | a :: r, h => by
    unfold insK
    obtain ⟨h1, h2⟩ := List.pairwise_cons.mp h
    split
    · rename_i hk
      refine List.pairwise_cons.mpr ⟨fun b hb => ?_, h⟩
      rcases List.mem_cons.mp hb with e | hb
      · rw [e]; exact hk
      · exact Int.lt_trans hk (h1 b hb)
    · split
      · exact h
      · rename_i h3 h4
        refine List.pairwise_cons.mpr ⟨fun b hb => ?_, insK_sorted k h2⟩
        rcases (insK_mem k b r).mp hb with e | hb
        · subst e; omega
        · exact h1 b hb
theorem usort_mem (x : Int) : ∀ l : List Int, x ∈ usort l ↔ x ∈ l
  | [] => by simp [usort]
  | a :: r => by
    show x ∈ insK a (usort r) ↔ _
    rw [insK_mem, usort_mem x r, List.mem_cons]
theorem usort_sorted : ∀ l : List Int, (usort l).Pairwise (· < ·)
  | [] => by simp [usort]
  | a :: r => insK_sorted a (usort_sorted r)
/-- two rising lists with the same members are one -/
theorem rising_eq {α : Type} {f : α → Int} : ∀ {l m : List α}, l.Pairwise (fun a b => f a < f b) → m.Pairwise (fun a b => f a < f b) → (∀ x, x ∈ l ↔ x ∈ m) → l = m
  | [], [], _, _, _ => rfl
  | [], b :: m, _, _, h => by have := (h b).mpr List.mem_cons_self; cases this
  | a :: l, [], _, _, h => by have := (h a).mp List.mem_cons_self; cases this
  | a :: l, b :: m, h1, h2, h => by
    obtain ⟨p1, p2⟩ := List.pairwise_cons.mp h1
    obtain ⟨q1, q2⟩ := List.pairwise_cons.mp h2
    have e : a = b := by
      rcases List.mem_cons.mp ((h a).mp List.mem_cons_self) with e | ha
      · exact e
      · rcases List.mem_cons.mp ((h b).mpr List.mem_cons_self) with e | hb
        · exact e.symm
        · have := q1 a ha; have := p1 b hb; omega
    subst e
    refine congrArg (a :: ·) (rising_eq p2 q2 fun x => ⟨fun hx => ?_, fun hx => ?_⟩)
    · rcases List.mem_cons.mp ((h x).mp (List.mem_cons_of_mem _ hx)) with e | hx'
      · subst e; have := p1 x hx; omega
      · exact hx'
    · rcases List.mem_cons.mp ((h x).mpr (List.mem_cons_of_mem _ hx)) with e | hx'
      · subst e; have := q1 x hx; omega
      · exact hx'
def gather (cs : List (Int × Int)) : List (Int × Int) := ((usort (cs.map (·.1))).filter (fun k => tot cs k != 0)).map (fun k => (k, tot cs k))
theorem gather_mem (cs : List (Int × Int)) (x : Int × Int) : x ∈ gather cs ↔ x.2 = tot cs x.1 ∧ x.2 ≠ 0 := by
  unfold gather
  rw [List.mem_map]
  constructor
  · rintro ⟨k, hk, rfl⟩
    have := (List.mem_filter.mp hk).2
    exact ⟨rfl, by simpa using this⟩
  · rintro ⟨h1, h2⟩
    refine ⟨x.1, List.mem_filter.mpr ⟨(usort_mem _ _).mpr (tot_mem (by rw [← h1]; exact h2)), ?_⟩, by rw [← h1]⟩
    rw [← h1]; simpa using h2
theorem gather_rising (cs : List (Int × Int)) : (gather cs).Pairwise (fun a b => a.1 < b.1) := by
  unfold gather
  rw [List.pairwise_map]
  exact (usort_sorted _).filter _
theorem gather_led (cs : List (Int × Int)) : Led (gather cs) := ⟨gather_rising cs, fun x hx => ((gather_mem cs x).mp hx).2⟩
theorem tot_led {l : List (Int × Int)} (h : l.Pairwise (fun a b => a.1 < b.1)) : ∀ x ∈ l, tot l x.1 = x.2 := by
  induction l with
  | nil => intro x hx; cases hx
  | cons a r ih =>
    obtain ⟨h1, h2⟩ := List.pairwise_cons.mp h
    intro x hx
    show (if a.1 = x.1 then a.2 else 0) + tot r x.1 = x.2
    rcases List.mem_cons.mp hx with e | hx
    · subst e
      rw [if_pos rfl, tot_no]
      · omega
      · intro hm
        obtain ⟨y, hy, ey⟩ := List.mem_map.mp hm
        have := h1 y hy; omega
    · rw [if_neg (by have := h1 x hx; omega), ih h2 x hx]; omega
theorem gather_ext {cs ds : List (Int × Int)} (h : ∀ k, tot cs k = tot ds k) : gather cs = gather ds := rising_eq (f := (·.1)) (gather_rising _) (gather_rising _) fun x => by rw [gather_mem, gather_mem, h]
theorem tot_gather (cs : List (Int × Int)) (k : Int) : tot (gather cs) k = tot cs k := by
  by_cases hk : tot cs k = 0
  · rw [hk]
    refine tot_no fun hm => ?_
    obtain ⟨y, hy, ey⟩ := List.mem_map.mp hm
    have := (gather_mem cs y).mp hy
    rw [ey] at this
    exact this.2 (by rw [this.1, hk])
  · have hm : (k, tot cs k) ∈ gather cs := (gather_mem cs _).mpr ⟨rfl, hk⟩
    exact tot_led (gather_rising cs) _ hm
theorem gather_len (cs : List (Int × Int)) : (gather cs).length ≤ cs.length := by
  have h1 : ∀ l : List Int, (usort l).length ≤ l.length := fun l => by
    induction l with
    | nil => simp [usort]
    | cons a r ih =>
      have h2 : ∀ (k : Int) (m : List Int), (insK k m).length ≤ m.length + 1 := fun k m => by
        induction m with
        | nil => simp [insK]
        | cons b m ih2 =>
          unfold insK
          split
          · simp
          · split
            · simp
            · simp; exact ih2
      have := h2 a (usort r)
      show (insK a (usort r)).length ≤ r.length + 1
      omega
  unfold gather
  rw [List.length_map]
  exact Nat.le_trans (List.length_filter_le ..) (by have := h1 (cs.map (·.1)); rw [List.length_map] at this; exact this)
/-! ### the dict that is filled -/
def getI (m : List (Int × Int)) (k : Int) : Option Int := (m.find? fun x => decide (x.1 = k)).map (·.2)
def putI (m : List (Int × Int)) (k v : Int) : List (Int × Int) := if (m.any fun x => decide (x.1 = k)) = true then m.map (fun x => if x.1 = k then (x.1, v) else x) else m ++ [(k, v)]
def addI (m : List (Int × Int)) (x : Int × Int) : List (Int × Int) := putI m x.1 ((getI m x.1).getD 0 + x.2)
theorem inl_dec (a b : Int) : decide ((Sum.inl a : Key) = Sum.inl b) = decide (a = b) := by
  by_cases h : a = b
  · subst h; simp
  · rw [decide_eq_false h, decide_eq_false (fun e => h (Sum.inl.inj e))]
theorem mdict_val (m : List (Int × Int)) (k : Int) : valV (mdict m) (Sum.inl k) = (getI m k).map V.int := by
  unfold valV getI mdict
  rw [List.find?_map]
  have : (fun kv : Key × V => decide (kv.1 = Sum.inl k)) ∘ (fun x : Int × Int => ((Sum.inl x.1 : Key), V.int x.2)) = fun x => decide (x.1 = k) := by
    funext x; exact inl_dec x.1 k
  rw [this]
  cases m.find? (fun x => decide (x.1 = k)) <;> rfl
theorem mdict_put (m : List (Int × Int)) (k v : Int) : putK (mdict m) (Sum.inl k) (.int v) = mdict (putI m k v) := by
  unfold putK putI mdict
  rw [List.any_map]
  have : (fun kv : Key × V => decide (kv.1 = Sum.inl k)) ∘ (fun x : Int × Int => ((Sum.inl x.1 : Key), V.int x.2)) = fun x => decide (x.1 = k) := by
    funext x; exact inl_dec x.1 k
  rw [this]
  by_cases h : (m.any fun x => decide (x.1 = k)) = true
  · rw [if_pos h, if_pos h, List.map_map, List.map_map]
    refine List.map_congr_left fun x _ => ?_
    show (if (Sum.inl x.1 : Key) = Sum.inl k then _ else _) = _
    by_cases e : x.1 = k
    · rw [if_pos (by rw [e])]; show _ = ((Sum.inl (if x.1 = k then (x.1, v) else x).1 : Key), V.int (if x.1 = k then (x.1, v) else x).2); rw [if_pos e]
    · rw [if_neg (fun z => e (Sum.inl.inj z))]; show _ = ((Sum.inl (if x.1 = k then (x.1, v) else x).1 : Key), V.int (if x.1 = k then (x.1, v) else x).2); rw [if_neg e]
  · rw [if_neg h, if_neg h, List.map_append]; rfl
theorem getI_none {m : List (Int × Int)} {k : Int} : getI m k = none ↔ k ∉ m.map (·.1) := by
  unfold getI
  rw [Option.map_eq_none_iff, List.find?_eq_none]
  constructor
  · intro h hm
    obtain ⟨y, hy, e⟩ := List.mem_map.mp hm
    exact h y hy (decide_eq_true e)
  · intro h x hx e
    exact h (List.mem_map.mpr ⟨x, hx, of_decide_eq_true e⟩)
theorem any_mem {m : List (Int × Int)} {k : Int} : (m.any fun x => decide (x.1 = k)) = true ↔ k ∈ m.map (·.1) := by simp
theorem putI_keys (m : List (Int × Int)) (k v : Int) : (putI m k v).map (·.1) = if k ∈ m.map (·.1) then m.map (·.1) else m.map (·.1) ++ [k] := by
  unfold putI
  by_cases h : k ∈ m.map (·.1)
  · rw [if_pos (any_mem.mpr h), if_pos h, List.map_map]
    refine List.map_congr_left fun x _ => ?_
    show (if x.1 = k then (x.1, v) else x).1 = x.1
    split <;> rfl
  · rw [if_neg (fun z => h (any_mem.mp z)), if_neg h, List.map_append]; rfl
theorem putI_get (m : List (Int × Int)) (k v j : Int) : getI (putI m k v) j = if j = k then some v else getI m j := by
  have h := valV_put (mdict m) (Sum.inl k : Key) (Sum.inl j) (.int v)
  rw [mdict_put, mdict_val] at h
  have inj : ∀ a b : Option Int, a.map V.int = b.map V.int → a = b := fun a b e => by
    cases a <;> cases b <;> first | rfl | (simp at e; done) | (simp at e; exact congrArg some e)
  refine inj _ _ (h.trans ?_)
  by_cases e : j = k
  · rw [if_pos e, if_pos (by rw [e])]; rfl
  · rw [if_neg e, if_neg (fun z => e (Sum.inl.inj z)), mdict_val]
structure DictOf (p : List (Int × Int)) (m : List (Int × Int)) : Prop where
  nd : (m.map (·.1)).Nodup
  mem : ∀ k, k ∈ m.map (·.1) ↔ k ∈ p.map (·.1)
  get : ∀ k, k ∈ p.map (·.1) → getI m k = some (tot p k)
  len : m.length ≤ p.length
theorem DictOf.nil : DictOf [] [] := ⟨by simp, by simp, by simp, by simp⟩
theorem DictOf.add {p m : List (Int × Int)} (h : DictOf p m) (x : Int × Int) : DictOf (p ++ [x]) (addI m x) := by
  have key : ∀ k, k ∈ (p ++ [x]).map (·.1) ↔ k ∈ p.map (·.1) ∨ k = x.1 := fun k => by simp
  have tt : ∀ k, tot (p ++ [x]) k = tot p k + if x.1 = k then x.2 else 0 := fun k => by
    rw [tot_append]; show _ + ((if x.1 = k then x.2 else 0) + 0) = _; omega
  have gv : (getI m x.1).getD 0 = tot p x.1 := by
    by_cases hx : x.1 ∈ p.map (·.1)
    · rw [h.get _ hx]; rfl
    · rw [getI_none.mpr (fun z => hx ((h.mem _).mp z)), tot_no hx]; rfl
  unfold addI
  refine ⟨?_, fun k => ?_, fun k hk => ?_, ?_⟩
  · rw [putI_keys]
    split
    · exact h.nd
    · rename_i hn
      exact List.nodup_append.mpr ⟨h.nd, by simp, fun a ha b hb => by simp at hb; subst hb; exact fun e => hn (e ▸ ha)⟩
  · rw [putI_keys, key]
    split
    · rename_i hm
      rw [h.mem]
      exact ⟨.inl, fun z => z.elim id fun e => by rw [e]; exact (h.mem _).mp hm⟩
    · rw [List.mem_append, h.mem]; simp
  · rw [putI_get, tt, gv]
    by_cases e : k = x.1
    · rw [if_pos e, if_pos e.symm, e]
    · rw [if_neg e, if_neg (fun z => e z.symm), h.get k (((key k).mp hk).resolve_right e)]
      simp
  · have e := congrArg List.length (putI_keys m x.1 ((getI m x.1).getD 0 + x.2))
    rw [List.length_map] at e
    rw [e, List.length_append]
    have := h.len
    split
    · rw [List.length_map]; simp; omega
    · rw [List.length_append, List.length_map]; simp; omega
theorem sorted_keys {p m : List (Int × Int)} (h : DictOf p m) {ks : List Int} (hp : ks.Perm (m.map (·.1))) (hs : ks.Pairwise (· ≤ ·)) : ks = usort (p.map (·.1)) := by
  have nd : ks.Nodup := hp.nodup_iff.mpr h.nd
  have st : ks.Pairwise (· < ·) := (hs.and nd).imp fun {a b} z => by have := z.1; have := z.2; omega
  refine rising_eq (f := id) st (usort_sorted _) fun x => ?_
  rw [hp.mem_iff, usort_mem, h.mem]
end Cr

set_option Elab.async false
set_option linter.all false
set_option maxRecDepth 100000
set_option maxHeartbeats 4000000
namespace Cr
open PySem PySem.Spec PyProof.Rows L2
section
variable {K : PySem.W.Frag} {q : Option Addr} {n : Nat} {δ δ' : List Sl} {te ta tb tc tk : TE} {tt tu : TT} {c c1 c2 c3 : Nat} {Φ Φ1 Φ2 Φ3 : PyData → Prop} {d d1 d2 : PyData} {wi : TI} {A0 B0 Hk H1 : Hp} {σ : L2.St} {D : Ends} {ts tz : TS} {g : TG}
/-! ### dicts of ints -/
theorem e_dget {i : Nat} {m : List (Int × Int)} {k v : Int} (hi : δ[i]? = some (.dic m)) (hk : E q δ tk (.int k)) (hv : getI m k = some v) : E q δ (tDGet (tVar i) tk) (.int v) := fun σ H H1 n sg o Q kk => by
  obtain ⟨x, a, p, rfl, hp⟩ := sg.2 i _ hi (fun z => by cases z)
  refine ⟨.ref p, a, hk σ H H1 n sg o _ fun d w Hk H2 g o1 e dv => ?_⟩
  subst e
  rw [dv.intOf]
  refine ⟨p, .int v, rfl, ?_, kk _ _ Hk H2 g o1 rfl (.int v)⟩
  have h := DGet.k (H := H2) (a := p) (k := (Sum.inl k : Key)) (g.a _ _ (g.k _ _ hp))
  rw [mdict_val, hv] at h
  exact h
theorem e_sortedD {i : Nat} {m p : List (Int × Int)} (hi : δ[i]? = some (.dic m)) (hd : DictOf p m) : E q δ (tCB rSrtDI (tCons (tVar i) tNil)) (.list ((usort (p.map (·.1))).map .int)) := fun σ H H1 n sg o Q kk => by
  obtain ⟨x, a, b, rfl, hp⟩ := sg.2 i _ hi (fun z => by cases z)
  refine ⟨.ref b, a, b, mdict m, m.map (·.1), rfl, .inl (o.a _ _ hp), by unfold mdict; rw [List.map_map, List.map_map]; rfl, fun ys l hy hs hl => ?_⟩
  have e := sorted_keys hd hy hs
  subst e
  have g1 := Gr.new (q := q) (o := .lst ((usort (p.map (·.1))).map V.int)) o.a hl
  exact kk _ _ _ _ g1 (o.go ⟨g1.k, g1.a, fun b' o' _ h => by rw [upd_ne (ne_of_none h hl)]; exact h, g1.f, g1.t⟩) rfl (.lst upd_same (DqAll.ofInts _))
theorem s_addI {i ik ib : Nat} {p : Addr} {m : List (Int × Int)} {k v : Int} (s : At q n δ A0 B0 σ Hk H1) (hi : δ[i]? = some (.adr p)) (hk : δ[ik]? = some (.dat (.int k))) (hb : δ[ib]? = some (.dat (.int v)))
    (hm : H1 p = some (.dK (mdict m))) (nk : Hk p = none) (nq : q ≠ some p) (nb : B0 p = none) (hl : m.length < 1000000)
    (kont : At q n δ A0 B0 σ Hk (upd H1 p (.dK (mdict (addI m (k, v))))) → D.nx σ (upd H1 p (.dK (mdict (addI m (k, v)))))) :
    sDPut (tVar i) (tVar ik) (tOp (rAddU K) (tDGet2 (tVar i) (tVar ik) (tC (.int 0))) (tVar ib)) D σ H1 := by
  have a1 := s.sg.getA hi
  obtain ⟨w, a2, d2⟩ := s.sg.get hk
  obtain ⟨x, a3, d3⟩ := s.sg.get hb
  have e2 := d2.intOf
  have e3 := d3.intOf
  subst e2; subst e3
  have hg := DGet.k (H := H1) (a := p) (k := (Sum.inl k : Key)) hm
  rw [mdict_val] at hg
  have hv : ((getI m k).map V.int).getD (.int 0) = .int ((getI m k).getD 0) := by cases getI m k <;> rfl
  refine ⟨.ref p, a1, p, rfl, .inl ⟨_, .inl hm⟩, .int k, a2, _, hg, ?_⟩
  refine ⟨.int v, a3, .inl ⟨(getI m k).getD 0, v, hv, rfl, .ref p, a1, .int k, a2, p, _, rfl, DPut.k (k := (Sum.inl k : Key)) hm ?_, ?_⟩⟩
  · unfold mdict; rw [List.length_map, sizeLine_eq]; omega
  · rw [mdict_put]
    exact kont ⟨s.ok.cell nk nq, s.sg, s.gr.put nb nk⟩
/-- the defs that gather changes -/
theorem read_summed {Q : VK} {nx : L2.St → Hp → Prop} (cs : List (Int × Int)) (hl : cs.length ≤ 100000) (s : At q n [.dat (.list (pd cs)), .any, .any, .any] A0 B0 σ A0 B0) (fin : Fin q n A0 B0 (fun x => x = led (gather cs)) Q) :
    tSeq (tAsg tDNewK (gName 1)) (tSeq (tFor (iList K (tVar 0)) (gTup K 2 (gCons (gName 2) (gCons (gName 3) gNil))) (sDPut (tVar 1) (tVar 2) (tOp (rAddU K) (tDGet2 (tVar 1) (tVar 2) (tC (.int 0))) (tVar 3))))
      (tRet (tCB (rTupQ K) (tCons (tLc (iList K (tCB rSrtDI (tCons (tVar 1) tNil))) (gName 2) (tTest (tOp (rNeD K) (tDGet (tVar 1) (tVar 2)) (tC (.int 0)))) (tTup (tCons (tVar 2) (tCons (tDGet (tVar 1) (tVar 2)) tNil))) [2]) tNil)))) { nx := nx, rt := Q } σ B0 := by
  intro p hp
  have hk : A0 p = none := s.ok.a.free hp
  have nq : q ≠ some p := fun e => (s.ok.j p e).ne hp
  -- the new dict is ours
  have s1 : At q n [.dat (.list (pd cs)), .adr p, .any, .any] A0 B0 (σ.set 1 (some (.ref p))) A0 (upd B0 p (.dK (mdict []))) :=
    ⟨s.ok.cell hk nq, s.sg.set 1 (s := .adr p) rfl, Gr.cell s.ok.a hp⟩
  refine q_for (n := n) (c := 0) (ie_lst (e_var rfl)) s1 fun items HkW H2 e g0 s2 => ?_
  subst e
  have hkw : HkW p = none := g0.f p hk (by rw [upd_same]; exact fun z => by cases z)
  have hpw : H2 p = some (.dK (mdict [])) := g0.s p _ nq upd_same
  refine ⟨fun i σ' Hk' H' => Same HkW Hk' ∧ ∃ m, DictOf (cs.take i) m ∧ H' p = some (.dK (mdict m)) ∧ Hk' p = none ∧ At q n [.dat (.list (pd cs)), .adr p, .any, .any] A0 B0 σ' Hk' H', ⟨Same.refl _, [], DictOf.nil, hpw, hkw, s2⟩, ?_, ?_, ?_⟩
  · rintro i σ' Hk' H' ⟨h1, m, _, _, _, st⟩
    exact ⟨h1, st.ok.a⟩
  · rintro i d σ' Hk' H' ed ⟨h1, m, hd, hm, hn, st⟩ v Hk2 H3 g2 dv
    obtain ⟨x, ex, rfl⟩ : ∃ x, cs[i]? = some x ∧ pr x = d := by
      unfold pd at ed
      rw [List.getElem?_map] at ed
      exact Option.map_eq_some_iff.mp ed
    have hn2 : Hk2 p = none := g2.f p hn (by rw [hm]; exact fun z => by cases z)
    have hm2 : H3 p = some (.dK (mdict m)) := g2.s p _ (fun z => by cases z) hm
    refine gb_tup2 (vs := [2, 3]) (by simp) (by simp) σ' Hk2 H3 v (st.sg.mono g2.k) g2.a dv _ fun σ2 sg2 hl2 _ => ?_
    have st2 : At q n _ A0 B0 σ2 Hk2 H3 := ⟨st.ok.go g2, sg2, st.gr.trans g2.none_to⟩
    have hlm : m.length ≤ 100000 := by have h1 := hd.len; rw [List.length_take] at h1; omega
    refine s_addI (p := p) (k := x.1) (v := x.2) st2 rfl rfl rfl hm2 hn2 nq hp (by omega) fun st3 => ⟨Hk2, h1.trans g2.k, addI m x, ?_, upd_same, hn2, ?_⟩
    · rw [List.take_add_one, ex]
      exact hd.add x
    · exact st3.weak rfl fun i s e => by
        match i, e with
        | 0, e => exact .inr e
        | 1, e => exact .inr e
        | 2, e => exact .inl (Option.some.inj e).symm
        | 3, e => exact .inl (Option.some.inj e).symm
        | i + 4, e => exact absurd e (by simp)
  · rintro σ' Hk' H' ⟨h1, m, hd, hm, hn, st⟩
    have hlen : (pd cs).length = cs.length := pd_len cs
    rw [hlen, List.take_length] at hd
    -- the dict stands still from here
    have gf := st.gr.freeze hp hn hm
    have st4 : At q n [.dat (.list (pd cs)), .dic m, .any, .any] A0 B0 σ' (upd Hk' p (.dK (mdict m))) H' := by
      refine ⟨⟨gf.a, fun r e => ?_, st.ok.j⟩, ?_, gf⟩
      · rw [upd_ne (fun z => nq (by rw [← z]; exact e))]; exact st.ok.kf r e
      · have g1 := (st.sg.mono (same_upd (o := .dK (mdict m)) hn)).weak (δ' := [.dat (.list (pd cs)), .any, .any, .any]) rfl fun i s e => by
          match i, e with
          | 0, e => exact .inr e
          | 1, e => exact .inl (Option.some.inj e).symm
          | 2, e => exact .inr e
          | 3, e => exact .inr e
          | i + 4, e => exact absurd e (by simp)
        refine ⟨g1.1, fun i s e ne => ?_⟩
        by_cases hi : i = 1
        · subst hi
          have es : s = .dic m := (Option.some.inj e).symm
          subst es
          exact ⟨.ref p, st.sg.getA rfl, p, rfl, upd_same⟩
        · refine g1.2 i s ?_ ne
          match i, e, hi with
          | 0, e, _ => exact e
          | 2, e, _ => exact e
          | 3, e, _ => exact e
          | 1, _, hi => exact absurd rfl hi
          | i + 4, e, _ => exact absurd e (by simp)
    have hget : ∀ k ∈ usort (cs.map (·.1)), getI m k = some (tot cs k) := fun k hk => hd.get k ((usort_mem k _).mp hk)
    refine s_retE (n := n) (d := led (gather cs)) (Φ1 := fun x => x = led (gather cs)) ?_ st4 (Nat.le_refl _) fin rfl
    refine e_tupL (e_is (e_lc (vs := [2]) (emb := PyData.int) (xs := usort (cs.map (·.1))) (ie_lst (e_sortedD rfl hd)) (fun k => tot cs k != 0) (fun k => pr (k, tot cs k)) ?_ fun k hk => ⟨_, gb_name (by simp), tb_is (tb_test (e_neDI (e_dget (m := m) rfl (e_var rfl) (hget k hk)) e_int)) rfl, fun _ => ?_⟩) ?_)
    · have h1 : (usort (cs.map (·.1))).length ≤ cs.length := by
        have nd : (usort (cs.map (·.1))).Nodup := (usort_sorted _).imp fun {a b} h => by omega
        have e : (usort (cs.map (·.1))) = usort (cs.map (·.1)) := rfl
        have hp := hd.len
        have h2 : (usort (cs.map (·.1))).length ≤ (m.map (·.1)).length := nd.length_le_of_subset fun x hx => (hd.mem x).mpr ((usort_mem x _).mp hx)
        rw [List.length_map] at h2; omega
      omega
    · exact e_tup (ds := [.int k, .int (tot cs k)]) (ae_cons (e_var rfl) (ae_cons (e_dget (m := m) rfl (e_var rfl) (hget k hk)) ae_nil))
    · unfold pd gather
      rw [List.map_map]; rfl
end
end Cr

set_option Elab.async false
set_option linter.all false
set_option maxRecDepth 100000
set_option maxHeartbeats 4000000
namespace Cr
open PySem PySem.Spec PyProof.Rows L2
section
variable {q : Option Addr} {n : Nat} {δ : List Sl} {A0 B0 Hk H1 : Hp} {σ : L2.St}
theorem At.forget (s : At q n δ A0 B0 σ Hk H1) (i : Nat) : At q n (δ.set i .any) A0 B0 σ Hk H1 := s.weak (List.length_set ..) fun j t e => by
  by_cases h : i = j
  · subst h
    by_cases hl : i < δ.length
    · rw [List.getElem?_set_self hl] at e; exact .inl (Option.some.inj e).symm
    · rw [List.getElem?_eq_none (by rw [List.length_set]; omega)] at e; cases e
  · rw [List.getElem?_set_ne h] at e; exact .inr e
end
theorem e_andNo {q : Option Addr} {δ : List Sl} {ta tb : TE} (h : E q δ ta (.bool false)) : E q δ (tAndV ta tb) (.bool false) := e_is (e_andV (b := false) h (fun e => by cases e)) rfl
def Bd (B : Nat) (l : List (Int × Int)) : Prop := ∀ x ∈ l, x.1.natAbs < 2 ^ B ∧ x.2.natAbs < 2 ^ B
def isChangeD : PyData → Bool
  | .tuple [.int _, .int _] => true
  | _ => false
def unpr : PyData → Option (Int × Int)
  | .tuple [.int a, .int b] => some (a, b)
  | _ => none
theorem change_pr {d : PyData} (h : isChangeD d = true) : ∃ x, d = pr x := by
  match d, h with
  | .tuple [.int a, .int b], _ => exact ⟨(a, b), rfl⟩
theorem changes_pd : ∀ {ds : List PyData}, ds.all isChangeD = true → ∃ l, ds = pd l
  | [], _ => ⟨[], rfl⟩
  | d :: ds, h => by
    rw [List.all_cons, Bool.and_eq_true] at h
    obtain ⟨x, rfl⟩ := change_pr h.1
    obtain ⟨l, rfl⟩ := changes_pd h.2
    exact ⟨x :: l, rfl⟩
theorem pd_changes (l : List (Int × Int)) : (pd l).all isChangeD = true := by
  rw [List.all_eq_true]
  intro d hd
  obtain ⟨x, _, rfl⟩ := List.mem_map.mp hd
  rfl
def adj {α : Type} (l : List α) : List (α × α) := l.zip (l.drop 1)
def asc (l : List (Int × Int)) : Bool := (adj l).all fun p => decide (p.1.1 < p.2.1)
def nz (l : List (Int × Int)) : Bool := l.all fun x => !(x.2 == 0)
def isLedD : PyData → Bool
  | .tuple ds => ds.all isChangeD && (asc (ds.filterMap unpr) && nz (ds.filterMap unpr))
  | _ => false
theorem unpr_pd (l : List (Int × Int)) : (pd l).filterMap unpr = l := by
  unfold pd
  rw [List.filterMap_map]
  have : unpr ∘ pr = some := by funext x; rfl
  rw [this, List.filterMap_some]
theorem isLed_led (l : List (Int × Int)) : isLedD (led l) = (asc l && nz l) := by
  show ((pd l).all isChangeD && (asc ((pd l).filterMap unpr) && nz ((pd l).filterMap unpr))) = _
  rw [unpr_pd, pd_changes, Bool.true_and]
theorem adj_of {α : Type} {R : α → α → Prop} : ∀ {l : List α}, l.Pairwise R → ∀ p ∈ adj l, R p.1 p.2
  | [], _, p, h => by simp [adj] at h
  | [a], _, p, h => by simp [adj] at h
  | a :: b :: r, h, p, hp => by
    have e : adj (a :: b :: r) = (a, b) :: adj (b :: r) := rfl
    rw [e] at hp
    obtain ⟨h1, h2⟩ := List.pairwise_cons.mp h
    rcases List.mem_cons.mp hp with e | hp
    · subst e; exact h1 b List.mem_cons_self
    · exact adj_of h2 p hp
theorem led_isLed {l : List (Int × Int)} (h : Led l) : isLedD (led l) = true := by
  rw [isLed_led, Bool.and_eq_true]
  refine ⟨List.all_eq_true.mpr fun p hp => decide_eq_true (adj_of h.1 p hp), List.all_eq_true.mpr fun x hx => ?_⟩
  have := h.2 x hx
  simpa using this
theorem zip_adj (l : List (Int × Int)) : zipD (pd l) (cutD (pd l) (some 1) none) = (adj l).map fun p => .tuple [pr p.1, pr p.2] := by
  have h1 : cutD (pd l) (some 1) none = pd (l.drop 1) := by
    unfold cutD
    rw [show HT.sIx (pd l).length 0 (some 1) = min 1 (pd l).length from HT.sIx_nat _ 0 1, HT.sIx_none, pd_len]
    unfold pd
    rw [← List.map_drop, ← List.map_take]
    cases l with
    | nil => rfl
    | cons a r =>
      rw [show min 1 (a :: r).length = 1 by rw [List.length_cons]; omega]
      rw [List.take_of_length_le (by rw [List.length_drop]; omega)]
  rw [h1]
  have h2 : ∀ a b : List (Int × Int), zipD (pd a) (pd b) = (a.zip b).map fun p => .tuple [pr p.1, pr p.2] := fun a => by
    induction a with
    | nil => intro b; rfl
    | cons x r ih =>
      intro b
      cases b with
      | nil => rfl
      | cons y s => exact congrArg (PyData.tuple [pr x, pr y] :: ·) (ih s)
  exact h2 l (l.drop 1)
theorem bools_map {α : Type} (l : List α) (f : α → Bool) : l.map (fun x => PyData.bool (f x)) = (l.map f).map PyData.bool := by rw [List.map_map]; rfl
theorem all_id_map {α : Type} (l : List α) (f : α → Bool) : (l.map f).all id = l.all f := by rw [List.all_map]; rfl
theorem pow_bits {b : Int} {B : Nat} (h : b.natAbs < 2 ^ B) : ∀ n : Nat, (b ^ n).natAbs < 2 ^ (B * n + 1)
  | 0 => by rw [Int.pow_zero, Nat.mul_zero]; decide
  | n + 1 => by
    have ih := pow_bits h n
    rw [Int.pow_succ, Int.natAbs_mul, show B * (n + 1) + 1 = (B * n + 1) + B by rw [Nat.mul_succ]; omega, Nat.pow_add]
    exact Nat.mul_lt_mul'' ih h
end Cr

set_option Elab.async false
set_option linter.all false
set_option maxRecDepth 100000
set_option maxHeartbeats 4000000
namespace Cr
open PySem PySem.Spec PyProof.Rows L2
section
variable {K : PySem.W.Frag} {q : Option Addr} {n : Nat} {δ δ' : List Sl} {te ta tb tc tk : TE} {tt tu : TT} {c c1 c2 c3 : Nat} {Φ Φ1 Φ2 Φ3 : PyData → Prop} {d d1 d2 : PyData} {wi : TI} {A0 B0 Hk H1 : Hp} {σ : L2.St} {D : Ends} {ts tz : TS} {g : TG}
/-! ### the script -/
theorem e_lenS {i : Nat} {ns : List Int} (hi : δ[i]? = some (.scr K ns)) : E q δ (tCB (rLenQ K) (tCons (tVar i) tNil)) (.int ns.length) := fun σ H H1 n sg o Q k => by
  obtain ⟨v, a, p, rfl, h⟩ := sg.2 i _ hi (fun z => by cases z)
  refine ⟨.ref p, a, p, ns.map V.int, rfl, .inl (Same.seq o.a h), ?_⟩
  rw [List.length_map]
  exact k _ _ H H1 (Gr.refl o.a) o rfl (.int _)
theorem e_iS {i : Nat} {ns : List Int} {j v : Int} (hi : δ[i]? = some (.scr K ns)) (hb : E q δ tb (.int j)) (e : atI ns j = some v) : E q δ (tOp (rIx K) (tVar i) tb) (.int v) := fun σ H H1 n sg o Q k => by
  obtain ⟨x, a, p, rfl, h⟩ := sg.2 i _ hi (fun z => by cases z)
  refine ⟨.ref p, a, hb σ H H1 n sg o _ fun d w Hk H2 g o1 ed dw => ?_⟩
  subst ed
  rw [dw.intOf]
  refine .inl ⟨p, ns.map V.int, j, .int v, rfl, rfl, Same.seq (g.k.trans g.a) h, ?_, k _ _ Hk H2 g o1 rfl (.int v)⟩
  unfold atI at e ⊢
  rw [List.length_map]
  cases hx : ixN ns.length j with
  | none => rw [hx] at e; cases e
  | some m =>
    rw [hx] at e
    show (ns.map V.int)[m]? = some (.int v)
    rw [List.getElem?_map, show ns[m]? = some v from e]; rfl
/-! ### the jar: its three ints, drawn from in turn -/
def KJ (p : Addr) (L : List V) : Hp := fun b => if b = p then some (.lst L) else none
theorem KJ.at {p : Addr} {L : List V} : KJ p L p = some (.lst L) := if_pos rfl
theorem KJ.same {p : Addr} {L : List V} {H : Hp} (h : H p = some (.lst L)) : Same (KJ p L) H := fun b o e => by
  unfold KJ at e
  split at e
  · rename_i hb; subst hb; rw [h]; exact e
  · cases e
/-- the state seen from the jar alone -/
theorem at_jar {p : Addr} {x y z : Int} {b : PyData} {σ : L2.St} {H : Hp} (h : H p = some (.lst [.int x, .int y, .int z])) (h0 : σ[0]? = some (some (.ref p))) {δr : List Sl} (hs : ∀ H', Sg H' σ (.any :: δr)) :
    At none 0 (.dat (.list [.int x, .int y, .int z]) :: δr) (KJ p [.int x, .int y, .int z]) H σ (KJ p [.int x, .int y, .int z]) H := by
  refine ⟨⟨KJ.same h, fun r e => (by cases e), fun r e => (by cases e)⟩, ⟨(hs (KJ p [])).1, fun i s e ne => ?_⟩, Gr.refl (KJ.same h)⟩
  cases i with
  | zero =>
    have es : s = .dat (.list [.int x, .int y, .int z]) := (Option.some.inj e).symm
    subst es
    exact ⟨.ref p, h0, .lst KJ.at (.cons (.int x) (.cons (.int y) (.cons (.int z) .nil)))⟩
  | succ i => exact (hs _).2 (i + 1) s e ne
/-- xs[j] = e at a list that stands at p -/
theorem s_setAt {p : Addr} {xs : List V} {j : Nat} (h : E none δ te d) (s : At none 0 δ A0 B0 σ Hk H1) (h0 : σ[0]? = some (some (.ref p))) (hp : H1 p = some (.lst xs)) (hj : j < xs.length)
    (k : ∀ v Hk' H2, Dq Hk' v d → Same H1 H2 → (∀ b, H1 b ≠ none → H2 b ≠ none) → D.nx σ (upd H2 p (.lst (xs.set j v)))) : tAsg te (gSub (tVar 0) (tC (.int (j : Int))) rSetL) D σ H1 :=
  h σ Hk H1 0 s.sg s.ok _ fun d' v Hk' H2 g o e dv => by
    subst e
    have sm : Same H1 H2 := fun b o h => g.s b o (fun z => by cases z) h
    exact ⟨.ref p, h0, p, xs, (j : Int), j, rfl, rfl, sm _ _ hp, by unfold ixN; rw [if_pos (by omega), if_pos (by omega)]; simp, k v Hk' H2 dv sm g.t⟩
/-- what a draw leaves -/
structure Drawn1 (p : Addr) (H H2 : Hp) : Prop where
  s : ∀ b o, b ≠ p → H b = some o → H2 b = some o
  t : ∀ b, H b ≠ none → H2 b ≠ none
theorem Drawn1.refl {p : Addr} {H : Hp} : Drawn1 p H H := ⟨fun _ _ _ h => h, fun _ h => h⟩
theorem Drawn1.same {p : Addr} {H H1 H2 : Hp} (a : Drawn1 p H H1) (s : Same H1 H2) (t : ∀ b, H1 b ≠ none → H2 b ≠ none) : Drawn1 p H H2 := ⟨fun b o n h => s b o (a.s b o n h), fun b h => t b (a.t b h)⟩
theorem Drawn1.put {p : Addr} {H H1 : Hp} {o : HO} (a : Drawn1 p H H1) : Drawn1 p H (upd H1 p o) := ⟨fun b u n h => by rw [upd_ne n]; exact a.s b u n h, fun b h => by
  by_cases e : b = p
  · rw [e, upd_same]; exact fun z => by cases z
  · rw [upd_ne e]; exact a.t b h⟩
theorem Drawn1.end {p : Addr} {A0 B0 H2 : Hp} {m : Nat} {x y z : Int} (a : Drawn1 p B0 H2) (ok : Ok (some p) m A0 B0) (h2 : H2 p = some (.lst [.int x, .int y, .int z])) (hy : 0 ≤ y) (hy2 : y < 2 ^ 140) (hz : 0 ≤ z) (hn : z + n ≤ 1000000000) :
    Gr (some p) A0 B0 A0 H2 ∧ Ok (some p) n A0 H2 := by
  have nk := ok.kf p rfl
  have sm : Same A0 H2 := fun b o h => a.s b o (ne_of_none h nk) (ok.a b o h)
  refine ⟨⟨Same.refl _, sm, fun b o nb h => a.s b o (fun e => nb (by rw [e])) h, fun b h _ => h, a.t⟩, sm, ok.kf, fun r e => ?_⟩
  cases e
  exact ⟨x, y, z, h2, hy, hy2, hz, hn⟩
def R_pick : RelX := fun q sls c Φ => c = 1 ∧ ∃ p b, q = some p ∧ 0 < b ∧ b.natAbs < 2 ^ 400 ∧ sls = [.adr p, .dat (.int b)] ∧ Φ = fun d => ∃ i, (0 ≤ i ∧ i < b) ∧ d = .int i
theorem fmod_in {a b : Int} (h : 0 < b) : 0 ≤ a.fmod b ∧ a.fmod b < b := ⟨Int.fmod_nonneg_of_pos a h, Int.fmod_lt_of_pos a h⟩
/-- the text of a draw -/
abbrev tJ (K : PySem.W.Frag) (i : Int) : TE := tOp (rIx K) (tVar 0) (tC (.int i))
abbrev tBlend (K : PySem.W.Frag) (first : TE) (f e m a : Int) : TE := tOp (rI (fun _ j => j ≠ 0) fun i j => .int (i.fmod j)) (tOp (rI CPowW fun i j => .int (i ^ j.toNat)) (tCB rIntQ (tCons (tOp (rAddU K) first (tOp rMulU (tC (.int f)) (tJ K 2))) tNil)) (tC (.int e))) (tOp (rAddU K) (tOp (rI CPowW fun i j => .int (i ^ j.toNat)) (tC (.int 10)) (tC (.int m))) (tC (.int a)))
theorem read_pick {Q : VK} {nx : L2.St → Hp → Prop} {p : Addr} {b : Int} (hb : 0 < b) (hb2 : b.natAbs < 2 ^ 400) (s : At (some p) (n + 1) [.adr p, .dat (.int b), .any, .any] A0 B0 σ A0 B0) (fin : Fin (some p) n A0 B0 (fun d => ∃ i, (0 ≤ i ∧ i < b) ∧ d = .int i) Q) :
    tSeq (tIfS (tTest (tOp (rI0 fun i j => .bl (decide (j < i))) (tJ K 0) (tC (.int 0)))) (tSeq (tAsg (tOp (rI (fun _ j => j ≠ 0) fun i j => .int (i.fmod j)) (tCB rIntQ (tCons (tJ K 0) tNil)) (tVar 1)) (gName 2)) (tSeq (tAsg (tOp (rI CDivW fun i j => .int (i / j)) (tJ K 0) (tVar 1)) (gSub (tVar 0) (tC (.int 0)) rSetL)) (tRet (tVar 2)))) tNext)
      (tSeq (tAsg (tOp (rAddU K) (tJ K 2) (tC (.int 1))) (gSub (tVar 0) (tC (.int 2)) rSetL)) (tSeq (tAsg (tBlend K (tJ K 1) 90019 2 38 183) (gName 3)) (tSeq (tAsg (tBlend K (tVar 3) 1299827 3 39 187) (gName 3))
        (tRet (tOp (rI (fun _ j => j ≠ 0) fun i j => .int (i.fmod j)) (tOp (rI CDivW fun i j => .int (i / j)) (tVar 3) (tC (.int 65536))) (tVar 1)))))) { nx := nx, rt := Q } σ B0 := by
  obtain ⟨x, y, z, hj, hy, hy2, hz, hn⟩ := s.ok.j p rfl
  have h0 : σ[0]? = some (some (.ref p)) := s.sg.getA rfl
  obtain ⟨vb, h1, db⟩ := s.sg.get (i := 1) rfl
  have eb := db.intOf
  subst eb
  have hlen : σ.length = 4 := s.sg.1
  have hs : ∀ H', Sg H' σ [.any, .dat (.int b), .any, .any] := fun H' => ⟨hlen, fun i s e ne => by
    match i, e with
    | 0, e => exact absurd (Option.some.inj e).symm ne
    | 1, e => cases (Option.some.inj e); exact ⟨_, h1, .int b⟩
    | 2, e => exact absurd (Option.some.inj e).symm ne
    | 3, e => exact absurd (Option.some.inj e).symm ne
    | i + 4, e => exact absurd e (by simp)⟩
  have nb : b ≠ 0 := by omega
  have sJ := at_jar (b := .none) hj h0 hs
  refine q_whenB (b := decide (0 < x)) (tb_test (e_gtI (e_iL (e_var rfl) e_int rfl) e_int)) sJ (fun hx Hk1 H1 g1 a1 => ?_) (fun hx Hk1 H1 g1 a1 => ?_)
  · -- digit by digit
    refine q_asgX (e_mod (e_intI (e_iL (e_var rfl) e_int rfl)) (e_var rfl) nb) a1 fun v2 Hk2 H2 g2 a2 dv2 => ?_
    have ev2 := dv2.intOf
    subst ev2
    have j2 : H2 p = some (.lst [.int x, .int y, .int z]) := g2.s _ _ (fun z => by cases z) (g1.s _ _ (fun z => by cases z) hj)
    have d1 : Drawn1 p B0 H2 := (Drawn1.refl.same (fun b o h => g1.s b o (fun z => by cases z) h) g1.t).same (fun b o h => g2.s b o (fun z => by cases z) h) g2.t
    refine s_setAt (D := { nx := _, rt := Q }) (j := 0) (e_fdiv (e_iL (e_var rfl) e_int rfl) (e_var rfl) (wide_div hb hb2 (by omega) (by omega))) a2 (by rw [List.getElem?_set_ne (by omega)]; exact h0) j2 (by simp) fun v Hk3 H3 dv sm tm => ?_
    have ev := dv.intOf
    subst ev
    obtain ⟨ge, oe⟩ := ((d1.same sm tm).put (o := .lst [.int (x / b), .int y, .int z])).end (n := n) s.ok upd_same hy hy2 hz (by omega)
    exact ⟨_, List.getElem?_set_self (by omega), fin _ _ A0 _ ge oe ⟨_, fmod_in hb, rfl⟩ (.int _)⟩
  · -- by the blend
    have j1 : H1 p = some (.lst [.int x, .int y, .int z]) := g1.s _ _ (fun z => by cases z) hj
    have d1 : Drawn1 p B0 H1 := Drawn1.refl.same (fun b o h => g1.s b o (fun z => by cases z) h) g1.t
    refine s_setAt (D := { nx := _, rt := Q }) (j := 2) (e_addI (e_iL (e_var rfl) e_int rfl) e_int) a1 h0 j1 (by simp) fun v Hk2 H2 dv sm tm => ?_
    have ev := dv.intOf
    subst ev
    have d2 : Drawn1 p B0 (upd H2 p (.lst [.int x, .int y, .int (z + 1)])) := (d1.same sm tm).put
    obtain ⟨z1, ez⟩ : ∃ z1, z1 = z + 1 := ⟨_, rfl⟩
    rw [← ez] at d2
    show tSeq _ _ { nx := nx, rt := Q } σ (upd H2 p (.lst [.int x, .int y, .int (z + 1)]))
    rw [← ez]
    have sK := at_jar (p := p) (b := .none) (x := x) (y := y) (z := z1) (H := upd H2 p (.lst [.int x, .int y, .int z1])) upd_same h0 hs
    obtain ⟨m1, em1⟩ : ∃ m : Int, m = (10 : Int) ^ (38 : Int).toNat + 183 := ⟨_, rfl⟩
    obtain ⟨m2, em2⟩ : ∃ m : Int, m = (10 : Int) ^ (39 : Int).toNat + 187 := ⟨_, rfl⟩
    have hm1 : 0 < m1 ∧ m1 < 2 ^ 140 := by rw [em1]; exact ⟨by decide, by decide⟩
    have hm2 : 0 < m2 := by rw [em2]; decide
    refine q_asgX (e_mod (j := m1) (e_pow (i := y + 90019 * z1) (j := 2) (e_intI (e_addI (e_iL (e_var rfl) e_int rfl) (e_mulI e_int (e_iL (e_var rfl) e_int rfl) (wide_mul (a := 17) (b := 40) (by decide) (by omega) (by omega) (by omega) (by omega))))) e_int (pow_ok (a := 150) (by omega) (by omega) (by omega) (by omega))) (e_is (e_addI (e_pow e_int e_int (pow_ok (a := 4) (by decide) (by omega) (by omega) (by omega))) e_int) (by rw [em1])) (by omega)) sK fun v3 Hk3 H3 g3 a3 dv3 => ?_
    have b1 := fmod_in (a := (y + 90019 * z1) ^ (2 : Int).toNat) hm1.1
    obtain ⟨f1, ef1⟩ : ∃ f, f = ((y + 90019 * z1) ^ (2 : Int).toNat).fmod m1 := ⟨_, rfl⟩
    rw [← ef1] at a3 b1
    refine q_asgX (e_mod (j := m2) (e_pow (i := f1 + 1299827 * z1) (j := 3) (e_intI (e_addI (e_var rfl) (e_mulI e_int (e_iL (e_var rfl) e_int rfl) (wide_mul (a := 21) (b := 40) (by decide) (by omega) (by omega) (by omega) (by omega))))) e_int (pow_ok (a := 150) (by omega) (by omega) (by omega) (by omega))) (e_is (e_addI (e_pow e_int e_int (pow_ok (a := 4) (by decide) (by omega) (by omega) (by omega))) e_int) (by rw [em2])) (by omega)) a3 fun v4 Hk4 H4 g4 a4 dv4 => ?_
    obtain ⟨f2, ef2⟩ : ∃ f, f = ((f1 + 1299827 * z1) ^ (3 : Int).toNat).fmod m2 := ⟨_, rfl⟩
    rw [← ef2] at a4
    have d4 : Drawn1 p B0 H4 := (d2.same (fun b o h => g3.s b o (fun z => by cases z) h) g3.t).same (fun b o h => g4.s b o (fun z => by cases z) h) g4.t
    have j4 : H4 p = some (.lst [.int x, .int y, .int z1]) := g4.s _ _ (fun z => by cases z) (g3.s _ _ (fun z => by cases z) upd_same)
    refine e_mod (i := f2 / 65536) (j := b) (e_fdiv (e_var rfl) e_int (wide_div (b := 20) (by omega) (by decide) (by omega) (by omega))) (e_var rfl) nb _ Hk4 H4 0 a4.sg a4.ok _ fun d v Hk5 H5 g5 o5 ed dv5 => ?_
    subst ed
    have ev5 := dv5.intOf
    subst ev5
    have j5 : H5 p = some (.lst [.int x, .int y, .int z1]) := g5.s _ _ (fun z => by cases z) j4
    obtain ⟨ge, oe⟩ := (d4.same (fun b o h => g5.s b o (fun z => by cases z) h) g5.t).end (n := n) s.ok j5 hy hy2 (by omega) (by omega)
    exact fin _ _ A0 _ ge oe ⟨_, fmod_in hb, rfl⟩ (.int _)
end
end Cr

set_option Elab.async false
set_option linter.all false
set_option maxRecDepth 100000
set_option maxHeartbeats 4000000
namespace Cr
open PySem PySem.Spec PyProof.Rows L2
section
variable {K : PySem.W.Frag} {q : Option Addr} {n : Nat} {δ δ' : List Sl} {te ta tb tc tk : TE} {tt tu : TT} {c c1 c2 c3 : Nat} {Φ Φ1 Φ2 Φ3 : PyData → Prop} {d d1 d2 : PyData} {wi : TI} {A0 B0 Hk H1 H2 Hk' : Hp} {σ : L2.St} {D : Ends} {ts tz : TS} {g : TG} {p : Addr} {ds : List PyData}
/-! ### a list of our own that grows -/
structure Cell (q : Option Addr) (B0 Hk H1 : Hp) (p : Addr) (ds : List PyData) : Prop where
  nk : Hk p = none
  nq : q ≠ some p
  nb : B0 p = none
  ex : ∃ xs, H1 p = some (.lst xs) ∧ DqAll Hk xs ds
theorem Cell.go (x : Cell q B0 Hk H1 p ds) (g : Gr q Hk H1 Hk' H2) : Cell q B0 Hk' H2 p ds := by
  obtain ⟨xs, e, h⟩ := x.ex
  exact ⟨g.f p x.nk (by rw [e]; exact fun z => by cases z), x.nq, x.nb, xs, g.s p _ x.nq e, DqAll.mono g.k _ _ h⟩
theorem s_append {i : Nat} (h : J q δ te c Φ) (s : At q (n + c) δ A0 B0 σ Hk H1) (cl : Cell q B0 Hk H1 p ds) (hi : δ[i]? = some (.adr p)) (hl : ds.length < 1000000)
    (k : ∀ d Hk' H2, Φ d → Same Hk Hk' → At q n δ A0 B0 σ Hk' H2 → Cell q B0 Hk' H2 p (ds ++ [d]) → D.nx σ H2) : tDrop (tBM K "list" rAppend (tVar i) (tCons te tNil)) D σ H1 := by
  obtain ⟨xs, e, hd⟩ := cl.ex
  refine ⟨.ref p, s.sg.getA hi, .inl ⟨rfl, xs, .inl (.inl e)⟩, h σ Hk H1 n s.sg s.ok _ fun d v Hk' H2 g o pd dv => ?_⟩
  have cl2 := cl.go g
  have e2 := g.s p _ cl.nq e
  refine ⟨p, xs, v, rfl, rfl, e2, by rw [hd.length, sizeLine_eq]; omega, k d Hk' _ pd g.k ⟨o.cell cl2.nk cl.nq, s.sg.mono g.k, (s.gr.trans g).put cl.nb cl2.nk⟩ ⟨cl2.nk, cl.nq, cl.nb, xs ++ [v], upd_same, (DqAll.mono g.k _ _ hd).append (.cons dv .nil)⟩⟩
theorem q_append {i : Nat} (h : J q δ te c Φ) (s : At q (n + c) δ A0 B0 σ Hk H1) (cl : Cell q B0 Hk H1 p ds) (hi : δ[i]? = some (.adr p)) (hl : ds.length < 1000000)
    (k : ∀ d Hk' H2, Φ d → Same Hk Hk' → At q n δ A0 B0 σ Hk' H2 → Cell q B0 Hk' H2 p (ds ++ [d]) → tz D σ H2) : tSeq (tDrop (tBM K "list" rAppend (tVar i) (tCons te tNil))) tz D σ H1 := s_append (D := { D with nx := tz D }) h s cl hi hl k
/-- x = [] -/
theorem s_newL {i : Nat} (s : At q n δ A0 B0 σ Hk H1) (k : ∀ p H2, At q n (δ.set i (.adr p)) A0 B0 (σ.set i (some (.ref p))) Hk H2 → Cell q B0 Hk H2 p [] → D.nx (σ.set i (some (.ref p))) H2) : tAsg (tLst tNil) (gName i) D σ H1 := by
  refine ⟨Nat.zero_le _, fun p hp => ?_⟩
  have hk : Hk p = none := s.ok.a.free hp
  have hb : B0 p = none := by
    cases e : B0 p with
    | none => rfl
    | some o => exact absurd hp (s.gr.t p (by rw [e]; exact fun z => by cases z))
  have nq : q ≠ some p := fun e => (s.ok.j p e).ne hp
  exact k p _ ⟨s.ok.cell hk nq, s.sg.set i (s := .adr p) rfl, s.gr.put hb hk⟩ ⟨hk, nq, hb, [], upd_same, .nil⟩
theorem q_newL {i : Nat} (s : At q n δ A0 B0 σ Hk H1) (k : ∀ p H2, At q n (δ.set i (.adr p)) A0 B0 (σ.set i (some (.ref p))) Hk H2 → Cell q B0 Hk H2 p [] → tz D (σ.set i (some (.ref p))) H2) : tSeq (tAsg (tLst tNil) (gName i)) tz D σ H1 := s_newL (D := { D with nx := tz D }) s k
/-- x, y = [], e -/
theorem q_parNew {i j : Nat} (h : J q δ te c Φ) (s : At q (n + c) δ A0 B0 σ Hk H1)
    (k : ∀ p d σ' Hk' H2, Φ d → At q n ((δ.set i (.adr p)).set j (.dat d)) A0 B0 σ' Hk' H2 → Cell q B0 Hk' H2 p [] → tz D σ' H2) : tSeq (tPar i j (tCons (tLst tNil) (tCons te tNil))) tz D σ H1 := by
  refine ⟨Nat.zero_le _, fun p hp => ?_⟩
  have hk : Hk p = none := s.ok.a.free hp
  have hb : B0 p = none := by
    cases e : B0 p with
    | none => rfl
    | some o => exact absurd hp (s.gr.t p (by rw [e]; exact fun z => by cases z))
  have nq : q ≠ some p := fun e => (s.ok.j p e).ne hp
  have s1 : At q (n + c) δ A0 B0 σ Hk (upd H1 p (.lst [])) := ⟨s.ok.cell hk nq, s.sg, s.gr.put hb hk⟩
  have c1 : Cell q B0 Hk (upd H1 p (.lst [])) p [] := ⟨hk, nq, hb, [], upd_same, .nil⟩
  refine h σ Hk _ n s1.sg s1.ok _ fun d v Hk' H2 g o pd dv => ?_
  exact ⟨.ref p, v, rfl, k p d _ Hk' H2 pd ⟨o, ((s1.sg.mono g.k).set i (s := .adr p) rfl).set j (s := .dat d) dv, s1.gr.trans g⟩ (c1.go g)⟩
/-- it stands still from here -/
theorem At.freeze {i : Nat} (s : At q n δ A0 B0 σ Hk H1) (cl : Cell q B0 Hk H1 p ds) (hi : δ[i]? = some (.adr p)) : ∃ Hk', Same Hk Hk' ∧ At q n (δ.set i (.dat (.list ds))) A0 B0 σ Hk' H1 := by
  obtain ⟨xs, e, hd⟩ := cl.ex
  have gf := s.gr.freeze cl.nb cl.nk e
  refine ⟨upd Hk p (.lst xs), same_upd cl.nk, ⟨gf.a, fun r er => ?_, s.ok.j⟩, ?_, gf⟩
  · rw [upd_ne (fun z => cl.nq (by rw [← z]; exact er))]; exact s.ok.kf r er
  · have sg := s.sg.mono (same_upd (o := .lst xs) cl.nk)
    refine ⟨by rw [List.length_set]; exact sg.1, fun j t ej ne => ?_⟩
    by_cases hj : i = j
    · subst hj
      have hl : i < δ.length := (List.getElem?_eq_some_iff.mp hi).1
      rw [List.getElem?_set_self hl] at ej
      cases ej
      exact ⟨.ref p, sg.getA hi, .lst upd_same (DqAll.mono (same_upd cl.nk) _ _ hd)⟩
    · rw [List.getElem?_set_ne hj] at ej
      exact sg.2 j t ej ne
/-- return [..] as a list of its own -/
theorem s_retLst {ta : TA} (h : AE q δ ta (ds.map Sl.dat)) (hl : ds.length ≤ 1000000) (s : At q n δ A0 B0 σ Hk H1) (k : ∀ p vs Hk2 H2, Gr q Hk H1 Hk2 H2 → H2 p = none → DqAll Hk2 vs ds → D.rt (.ref p) (upd H2 p (.lst vs))) : tRet (tLst ta) D σ H1 :=
  h σ Hk H1 n s.sg s.ok _ fun sls vs Hk2 H2 g o e hv => by
    subst e
    exact ⟨Nat.le_trans (by rw [hv.dats.length]; exact hl) (by rw [sizeLine_eq]; decide), fun p hp => k p vs Hk2 H2 g hp hv.dats⟩
/-! ### draws -/
theorem j_pick {i : Nat} {b : Int} {E0 : XK} (hi : δ[i]? = some (.adr p)) (h : E (some p) δ te (.int b)) (hb : 0 < b) (hb2 : b.natAbs < 2 ^ 400) : J (some p) δ (tCall (spX R_pick) [] E0 (tCons (tVar i) (tCons te tNil))) 1 (IntP fun x => 0 ≤ x ∧ x < b) :=
  (j_call (R := R_pick) (c := 1) (ae_adr hi (ae_cons h ae_nil)) fun sls e => ⟨rfl, p, b, rfl, hb, hb2, e, rfl⟩).cost (by omega)
theorem j_pickJ {i : Nat} {P : Int → Prop} {E0 : XK} (hi : δ[i]? = some (.adr p)) (h : J (some p) δ te c (IntP P)) (hb : ∀ b, P b → 0 < b ∧ b.natAbs < 2 ^ 400) : J (some p) δ (tCall (spX R_pick) [] E0 (tCons (tVar i) (tCons te tNil))) (1 + c) (IntP fun x => ∃ b, P b ∧ 0 ≤ x ∧ x < b) := by
  have ha : AJ (some p) δ (tCons te tNil) (0 + c) (fun sls => ∃ b, P b ∧ sls = [.dat (.int b)]) := aj_cons h ae_nil fun d sls ⟨b, pb, e⟩ e2 => ⟨b, pb, by rw [e, e2]⟩
  have hb2 : AJ (some p) δ (tCons (tVar i) (tCons te tNil)) (0 + c) (fun sls => ∃ b, P b ∧ sls = [.adr p, .dat (.int b)]) := aj_adr hi ha fun sls ⟨b, pb, e⟩ => ⟨b, pb, by rw [e]⟩
  exact (j_callD (R := R_pick) (c := 1) hb2 fun sls ⟨b, pb, e⟩ => ⟨_, ⟨rfl, p, b, rfl, (hb b pb).1, (hb b pb).2, e, rfl⟩, fun d ⟨i, hi, e⟩ => ⟨i, ⟨b, pb, hi⟩, e⟩⟩).cost (by omega)
end
/-! ### bounds -/
def Amt (M : Int) (l : List (Int × Int)) : Prop := ∀ x ∈ l, -M ≤ x.2 ∧ x.2 ≤ M
theorem tot_bound {M : Int} (hM : 0 ≤ M) : ∀ {l : List (Int × Int)}, Amt M l → ∀ k, -(M * l.length) ≤ tot l k ∧ tot l k ≤ M * l.length
  | [], _, k => by show -(M * 0) ≤ 0 ∧ 0 ≤ M * 0; rw [Int.mul_zero]; omega
  | x :: r, h, k => by
    have ih := tot_bound hM (l := r) (fun y hy => h y (List.mem_cons_of_mem _ hy)) k
    have hx := h x List.mem_cons_self
    have e : M * ((x :: r).length : Int) = M * r.length + M := by rw [List.length_cons, Int.natCast_add, Int.mul_add]; omega
    rw [e]
    show -(M * r.length + M) ≤ (if x.1 = k then x.2 else 0) + tot r k ∧ (if x.1 = k then x.2 else 0) + tot r k ≤ M * r.length + M
    split <;> omega
theorem gather_keys {cs : List (Int × Int)} {P : Int → Prop} (h : ∀ x ∈ cs, P x.1) : ∀ x ∈ gather cs, P x.1 := fun x hx => by
  have h1 := (gather_mem cs x).mp hx
  have h2 := tot_mem (l := cs) (k := x.1) (by rw [← h1.1]; exact h1.2)
  obtain ⟨y, hy, e⟩ := List.mem_map.mp h2
  rw [← e]; exact h y hy
/-! ### what the law holds for one and the same -/
/-- a new jar -/
def spMk (K : PySem.W.Frag) : Sp := fun vs H Q _ => ∃ (a : Addr) (ns : List Int) (t : Int), vs = [.ref a, .int t] ∧ SqL K H a (ns.map V.int) ∧ 0 ≤ t ∧ t ≤ 1000 ∧
  ∀ p H2, Same H H2 → H p = none → Jar 999999999 H2 p → Q (.ref p) H2
end Cr

set_option Elab.async false
set_option linter.all false
set_option maxRecDepth 100000
set_option maxHeartbeats 800000
namespace Cr
open PySem PySem.Spec PyProof.Rows L2
/-! ### shaped data -/
theorem canAll_of : ∀ {ds : List PyData}, (∀ d ∈ ds, d.canLay0 = true) → PyData.canLayAll0 ds = true
  | [], _ => by simp [PyData.canLayAll0]
  | d :: ds, h => by
    rw [PyData.canLayAll0, Bool.and_eq_true]
    exact ⟨h d List.mem_cons_self, canAll_of fun x hx => h x (List.mem_cons_of_mem _ hx)⟩
theorem depthAll_le {k : Nat} : ∀ {ds : List PyData}, (∀ d ∈ ds, d.depth ≤ k) → PyData.depthAll ds ≤ k
  | [], _ => by simp [PyData.depthAll]
  | d :: ds, h => by
    rw [PyData.depthAll]
    exact Nat.max_le.mpr ⟨h d List.mem_cons_self, depthAll_le fun x hx => h x (List.mem_cons_of_mem _ hx)⟩
theorem pr_shape (x : Int × Int) : (pr x).canLay0 = true ∧ (pr x).depth ≤ 2 := by
  unfold pr
  constructor
  · simp [PyData.canLay0, PyData.canLayAll0]
  · simp [PyData.depth, PyData.depthAll]
theorem led_shape (l : List (Int × Int)) : (led l).canLay0 = true ∧ (led l).depth ≤ 3 := by
  unfold led
  constructor
  · rw [PyData.canLay0]
    exact canAll_of fun d hd => by obtain ⟨x, _, rfl⟩ := List.mem_map.mp hd; exact (pr_shape x).1
  · rw [PyData.depth]
    have : PyData.depthAll (pd l) ≤ 2 := depthAll_le fun d hd => by obtain ⟨x, _, rfl⟩ := List.mem_map.mp hd; exact (pr_shape x).2
    omega
theorem shaped_led (l : List (Int × Int)) : SeqAt.shaped (led l) = true := by
  unfold SeqAt.shaped
  rw [Bool.and_eq_true]
  exact ⟨(led_shape l).1, decide_eq_true (by have := (led_shape l).2; omega)⟩
theorem eqv_led_nil (l : List (Int × Int)) : PyData.eqv (led l) (.tuple []) = l.isEmpty := by
  cases l <;> simp [led, pd, PyData.eqv, PyData.eqvAll]
section
variable {K : PySem.W.Frag} {q : Option Addr} {n : Nat} {δ δ' : List Sl} {te ta tb tc tk ti : TE} {tt tu : TT} {c c1 c2 c3 ci : Nat} {Φ Φ1 Φ2 Φ3 : PyData → Prop} {d d1 d2 : PyData} {wi : TI} {A0 B0 Hk H1 H2 Hk' : Hp} {σ : L2.St} {D : Ends} {ts tz : TS} {g : TG} {p : Addr} {ds : List PyData} {P P1 P2 : Int → Prop} {N : Nat}
/-! ### menus: [a, b, ..][draw] -/
def AJI (q : Option Addr) (δ : List Sl) (ta : TA) (c N : Nat) (P : Int → Prop) : Prop := AJ q δ ta c (fun sls => ∃ ns : List Int, sls = (ns.map PyData.int).map Sl.dat ∧ ns.length = N ∧ ∀ x ∈ ns, P x)
theorem aji_nil : AJI q δ tNil 0 0 P := AJ.imp ae_nil fun _ e => ⟨[], e, rfl, by simp⟩
theorem aji_cons {tr : TA} (h : J q δ te c1 (IntP P)) (t : AJI q δ tr c2 N P) : AJI q δ (tCons te tr) (c2 + c1) (N + 1) P := aj_cons h t fun d sls ⟨i, pi, e⟩ ⟨ns, e2, hl, hp⟩ => ⟨i :: ns, by rw [e, e2]; rfl, by rw [List.length_cons, hl], fun x hx => by
  rcases List.mem_cons.mp hx with h | h
  · rw [h]; exact pi
  · exact hp x h⟩
theorem j_menu {tl : TA} (h : AJI q δ tl c N P) (hN : N ≤ 1000000) (hi : J q δ ti ci (IntP fun i => 0 ≤ i ∧ i < N)) : J q δ (tOp (rIx K) (tLst tl) ti) (ci + c) (IntP P) := by
  refine j_iL (Ψ := fun ds => ∃ ns : List Int, ds = ns.map PyData.int ∧ ns.length = N ∧ ∀ x ∈ ns, P x) (j_lst (AJ.imp h fun sls ⟨ns, e, hl, hp⟩ => ⟨ns.map PyData.int, e, by rw [List.length_map]; omega, ns, rfl, hl, hp⟩)) hi fun ds i ⟨ns, e, hl, hp⟩ hi => ?_
  subst e
  have hlt : i.toNat < ns.length := by omega
  refine ⟨.int ns[i.toNat], ?_, ns[i.toNat], hp _ (List.getElem_mem hlt), rfl⟩
  have h3 := atI_nat (xs := ns.map PyData.int) (j := i.toNat) (v := .int ns[i.toNat]) (by rw [List.getElem?_map, List.getElem?_eq_getElem hlt]; rfl)
  rw [Int.toNat_of_nonneg hi.1] at h3
  exact h3
theorem E.is {i : Int} (h : E q δ te (.int i)) (hp : P i) : J q δ te 0 (IntP P) := h.imp fun d e => ⟨i, hp, e⟩
theorem J.intImp (h : J q δ te c (IntP P)) (hc : c ≤ c1) (i : ∀ x, P x → P1 x) : J q δ te c1 (IntP P1) := h.to hc fun d ⟨x, px, e⟩ => ⟨x, i x px, e⟩
theorem aj_int {tr : TA} {Φr Φ' : List Sl → Prop} (h : J q δ te c1 (IntP P)) (hr : AJ q δ tr c2 Φr) (hp : ∀ i sls, P i → Φr sls → Φ' (.dat (.int i) :: sls)) : AJ q δ (tCons te tr) (c2 + c1) Φ' := aj_cons h hr fun d sls ⟨i, pi, e⟩ s => by subst e; exact hp i sls pi s
/-! ### comprehensions over a ledger's pairs -/
theorem e_lcPd {l : List (Int × Int)} {i j : Nat} (hw : IE q δ wi (pd l)) (f : Int × Int → Int × Int) (hz : l.length ≤ 1000000)
    (he : ∀ x ∈ l, E q (((wipeD δ [i, j]).set i (.dat (.int x.1))).set j (.dat (.int x.2))) te (pr (f x))) : E q δ (tLc wi (gTup K 2 (gCons (gName i) (gCons (gName j) gNil))) tYes te [i, j]) (.list (pd (l.map f))) :=
  e_is (e_lc1 (vs := [i, j]) (emb := pr) (xs := l) hw (fun x => pr (f x)) hz fun x hx => ⟨_, gb_tup2 (by simp) (by simp), he x hx⟩) (by unfold pd; rw [List.map_map]; rfl)
theorem e_pr {a b : TE} {x y : Int} (h1 : E q δ a (.int x)) (h2 : E q δ b (.int y)) : E q δ (tTup (tCons a (tCons b tNil))) (pr (x, y)) := e_tup (ds := [.int x, .int y]) (ae_cons h1 (ae_cons h2 ae_nil))
/-! ### the same twice -/
/-! ### keyword calls, told -/
theorem VS.inv0 {H : Hp} {vs : List V} (h : VS H vs []) : vs = [] := List.length_eq_zero_iff.mp h.1
theorem VS.inv1 {H : Hp} {vs : List V} {s : Sl} {r : List Sl} (h : VS H vs (s :: r)) : ∃ v t, vs = v :: t ∧ SlOk H v s ∧ VS H t r := by
  cases vs with
  | nil => have := h.1; simp at this
  | cons v t =>
    obtain ⟨w, a, b⟩ := h.2 0 s rfl
    have e : v = w := by simpa using a
    subst e
    exact ⟨v, t, rfl, b, by have := h.1; simpa using this, fun i u e => by
      obtain ⟨x, p, q⟩ := h.2 (i + 1) u (by simpa using e)
      exact ⟨x, by simpa using p, q⟩⟩
/-- if c: x = e, joined -/
theorem q_ifAsg {i : Nat} {P0 : Bool → Prop} {d0 : PyData} (h : TJ q δ tt c P0) (s : At q (n + c1 + c) δ A0 B0 σ Hk H1) (he : P0 true → J q δ te c1 Φ) (hd : δ[i]? = some (.dat d0)) (h0 : P0 false → Φ d0)
    (k : ∀ d σ' Hk' H2, Φ d → At q n (δ.set i (.dat d)) A0 B0 σ' Hk' H2 → tz D σ' H2) : tSeq (tIfS tt (tAsg te (gName i)) tNext) tz D σ H1 :=
  q_when h s (fun e Hk' H2 g a => s_asg (D := { D with nx := tz D }) (he e) a fun d σ' Hk2 H3 pd g2 a2 => k d σ' Hk2 H3 pd a2) fun e Hk' H2 g a => k d0 σ Hk' H2 (h0 e) ((a.mono (by omega)).weak (List.length_set ..) fun j t et => .inr (by
    by_cases hj : i = j
    · subst hj
      have hl : i < δ.length := (List.getElem?_eq_some_iff.mp hd).1
      rw [List.getElem?_set_self hl] at et
      rw [hd]; exact et
    · rw [List.getElem?_set_ne hj] at et; exact et))
theorem j_iTP {l : List (Int × Int)} (h : E q δ ta (led l)) (hi : J q δ tb c (IntP fun i => 0 ≤ i ∧ i < l.length)) : J q δ (tOp (rIx K) ta tb) c (fun d => ∃ x ∈ l, d = pr x) :=
  (j_iT (Ψ := fun ds => ds = pd l) (E.tupP h) hi fun ds i e hi => by
    subst e
    have hlt : i.toNat < l.length := by omega
    refine ⟨pr l[i.toNat], ?_, _, List.getElem_mem hlt, rfl⟩
    have h3 := atI_nat (xs := pd l) (j := i.toNat) (v := pr l[i.toNat]) (by unfold pd; rw [List.getElem?_map, List.getElem?_eq_getElem hlt]; rfl)
    rw [Int.toNat_of_nonneg hi.1] at h3
    exact h3).cost (by omega)
/-! ### the law's own level -/
theorem At.reset (s : At q n δ A0 B0 σ Hk H1) : At none 0 δ Hk H1 σ Hk H1 := ⟨⟨s.ok.a, fun p e => (by cases e), fun p e => (by cases e)⟩, s.sg, Gr.refl s.ok.a⟩
def spLaw (K : PySem.W.Frag) : Sp := fun vs H Q _ => ∃ (a : Addr) (ns : List Int), vs = [.ref a] ∧ SqL K H a (ns.map V.int) ∧ ns.length ≤ 63 ∧ ∀ H', Q (.bl true) H'
/-- for at in range(max(1, min(m, len(script)))) -/
theorem e_ats {m : Int} {i : Nat} {ns : List Int} (hi : δ[i]? = some (.scr K ns)) (hm : 1 ≤ m) (hm2 : m ≤ 100) : IJ q δ (iRng1 (tCons (tCB rMaxQ (tCons (tC (.int 1)) (tCons (tCB rMinQ (tCons (tC (.int m)) (tCons (tCB (rLenQ K) (tCons (tVar i) tNil)) tNil))) tNil))) tNil)) 0 (fun items => ∃ k : Nat, k ≤ 100 ∧ items = rng 0 k) :=
  ij_rng1 (E.intP (e_max e_int (e_min e_int (e_lenS hi)))) fun j e => by
    have h1 : 0 ≤ j ∧ j ≤ 100 := by
      rw [e]
      have : (0 : Int) ≤ (ns.length : Int) := Int.natCast_nonneg _
      split <;> split <;> omega
    exact ⟨by omega, j.toNat, by omega, rfl⟩
end
end Cr

set_option Elab.async false
set_option linter.all false
set_option maxRecDepth 100000
set_option maxHeartbeats 4000000
namespace Cr
open PySem PySem.Spec PyProof.Rows L2
/-! ### def f( *v ): all arguments become one tuple -/
section
variable {P : Program} {w : World} {K : PySem.W.Frag} {mg : Str → Option Value} {base : Heap}
end
section
variable {X : Cx} {CX : CXT} {k : Nat} {f : Addr} {sp : Sp} {E : XK} {x : Str} {e : Expr} {es : List Expr} {t : TA} {p pos : Pos}
end
section
variable {K : PySem.W.Frag} {q : Option Addr} {n : Nat} {δ δ' : List Sl} {te ta tb tc tk ti : TE} {tt tu : TT} {c c1 c2 c3 ci : Nat} {Φ Φ1 Φ2 Φ3 : PyData → Prop} {d d1 d2 : PyData} {A0 B0 Hk H1 H2 Hk' : Hp} {σ : L2.St} {D : Ends} {ts tz : TS} {g : TG} {p : Addr} {ds : List PyData} {P P1 P2 : Int → Prop} {N : Nat}
/-! ### [e for a in x for b in y] -/
/-! ### a list that still changes, read within an expression -/
mutual
def plain : PyData → Bool
  | .list _ => false
  | .dict _ => false
  | .tuple ds => plainAll ds
  | _ => true
def plainAll : List PyData → Bool
  | [] => true
  | d :: ds => plain d && plainAll ds
end
section
variable {Ha Hb : Hp}
/-- a tuple, known or not -/
def isT : HO → Prop
  | .tup _ => True
  | .frz _ (.tup _) => True
  | _ => False
mutual
theorem Dq.keep (e : ∀ b u, isT u → Ha b = some u → Hb b = some u) : ∀ (d : PyData) (v : V), plain d = true → Dq Ha v d → Dq Hb v d
  | .none, _, _, h => by cases h; exact .non
  | .bool b, _, _, h => by cases h; exact .bl b
  | .int i, _, _, h => by cases h; exact .int i
  | .str x, _, _, h => by cases h; exact .str x
  | .list ds, _, z, h => Bool.noConfusion (show false = true from z)
  | .tuple ds, _, z, h => by
    cases h with
    | tup hs ha =>
      refine .tup ?_ (DqAll.keep e ds _ z ha)
      rcases hs with ⟨o, d, q⟩ | ⟨d, q⟩
      · exact .inl ⟨o, d, e _ _ trivial q⟩
      · exact .inr ⟨d, e _ _ trivial q⟩
  | .dict _, _, z, h => by simp [plain] at z
theorem DqAll.keep (e : ∀ b u, isT u → Ha b = some u → Hb b = some u) : ∀ (ds : List PyData) (vs : List V), plainAll ds = true → DqAll Ha vs ds → DqAll Hb vs ds
  | [], _, _, h => by cases h; exact .nil
  | d :: ds, _, z, h => by
    have z' : (plain d && plainAll ds) = true := z
    rw [Bool.and_eq_true] at z'
    cases h with
    | cons h1 h2 => exact .cons (Dq.keep e d _ z'.1 h1) (DqAll.keep e ds _ z'.2 h2)
end
end
theorem plainAll_of : ∀ {ds : List PyData}, (∀ d ∈ ds, plain d = true) → plainAll ds = true
  | [], _ => rfl
  | d :: ds, h => by
    show (plain d && plainAll ds) = true
    rw [h d (by simp), plainAll_of fun x hx => h x (by simp [hx])]; rfl
theorem evalC {i : Nat} {Q : VK} (h : J q (δ.set i (.dat (.list ds))) te c Φ) (s : At q (n + c) δ A0 B0 σ Hk H1) (cl : Cell q B0 Hk H1 p ds) (hi : δ[i]? = some (.adr p)) (pl : ∀ d, Φ d → plain d = true)
    (k : ∀ d v Hk' H2, Φ d → Dq Hk' v d → Gr q Hk H1 Hk' H2 → At q n δ A0 B0 σ Hk' H2 → Cell q B0 Hk' H2 p ds → Q v H2) : te σ H1 Q := by
  obtain ⟨xs, ex, hd⟩ := cl.ex
  have gf := (Gr.refl (q := q) s.ok.a).freeze (o := .lst xs) (p := p)
  have hn := cl.nk
  have sm : Same Hk (upd Hk p (.lst xs)) := same_upd hn
  have smA : Same (upd Hk p (.lst xs)) H1 := fun b u z => by
    by_cases hb : b = p
    · subst hb; rw [upd_same] at z; rw [← z]; exact ex
    · rw [upd_ne hb] at z; exact s.ok.a b u z
  have ok1 : Ok q (n + c) (upd Hk p (.lst xs)) H1 := ⟨smA, fun r er => by rw [upd_ne (fun z => cl.nq (by rw [← z]; exact er))]; exact s.ok.kf r er, s.ok.j⟩
  have sg1 : Sg (upd Hk p (.lst xs)) σ (δ.set i (.dat (.list ds))) := by
    have sg := s.sg.mono sm
    refine ⟨by rw [List.length_set]; exact sg.1, fun j t ej ne => ?_⟩
    by_cases hj : i = j
    · subst hj
      have hl : i < δ.length := (List.getElem?_eq_some_iff.mp hi).1
      rw [List.getElem?_set_self hl] at ej
      cases ej
      exact ⟨.ref p, sg.getA hi, .lst upd_same (DqAll.mono sm _ _ hd)⟩
    · rw [List.getElem?_set_ne hj] at ej
      exact sg.2 j t ej ne
  refine h σ _ H1 n sg1 ok1 _ fun d v Hk2 H2 g o pd dv => ?_
  have e2 : Hk2 p = some (.lst xs) := g.k _ _ upd_same
  have eH2 : H2 p = some (.lst xs) := g.a _ _ e2
  obtain ⟨Hr, eHr⟩ : ∃ Hr : Hp, Hr = fun b => if b = p then none else Hk2 b := ⟨_, rfl⟩
  have rp : Hr p = none := by rw [eHr]; exact if_pos rfl
  have rn : ∀ b, b ≠ p → Hr b = Hk2 b := fun b hb => by rw [eHr]; exact if_neg hb
  have s1 : Same Hk Hr := fun b u z => by
    have hb : b ≠ p := ne_of_none z hn
    rw [rn b hb]; exact g.k b u (by rw [upd_ne hb]; exact z)
  have s2 : Same Hr H2 := fun b u z => by
    by_cases hb : b = p
    · rw [hb, rp] at z; cases z
    · rw [rn b hb] at z; exact g.a b u z
  have gg : Gr q Hk H1 Hr H2 := ⟨s1, s2, g.s, fun b hb h1 => by
    by_cases hbp : b = p
    · rw [hbp]; exact rp
    · rw [rn b hbp]; exact g.f b (by rw [upd_ne hbp]; exact hb) h1, g.t⟩
  refine k d v Hr H2 pd (Dq.keep (fun b ys iz z => ?_) d v (pl d pd) dv) gg ⟨⟨s2, fun r er => ?_, o.j⟩, s.sg.mono s1, s.gr.trans gg⟩ ⟨rp, cl.nq, cl.nb, xs, eH2, DqAll.mono s1 _ _ hd⟩
  · rw [rn b (fun hb => by rw [hb, e2] at z; cases z; exact iz.elim)]; exact z
  · rw [rn r (fun hb => cl.nq (by rw [← hb]; exact er))]; exact o.kf r er
theorem DqAll.set {H : Hp} : ∀ {vs : List V} {ds : List PyData} {v : V} {d : PyData}, DqAll H vs ds → ∀ j : Nat, Dq H v d → DqAll H (vs.set j v) (ds.set j d)
  | [], _, _, _, h, j, dv => by cases h; exact .nil
  | x :: xs, _, _, _, h, 0, dv => by
    cases h with
    | cons h1 h2 => exact .cons dv h2
  | x :: xs, _, _, _, h, j + 1, dv => by
    cases h with
    | cons h1 h2 => exact .cons h1 (DqAll.set h2 j dv)
/-- x = [e, ..], a list that changes -/
theorem q_newLs {i : Nat} {ta : TA} (h : AJ q δ ta c (fun sls => sls = ds.map Sl.dat)) (hl : ds.length ≤ 1000000) (s : At q (n + c) δ A0 B0 σ Hk H1)
    (k : ∀ p Hk' H2, Gr q Hk H1 Hk' H2 → At q n (δ.set i (.adr p)) A0 B0 (σ.set i (some (.ref p))) Hk' H2 → Cell q B0 Hk' H2 p ds → tz D (σ.set i (some (.ref p))) H2) : tSeq (tAsg (tLst ta) (gName i)) tz D σ H1 :=
  h σ Hk H1 n s.sg s.ok _ fun sls vs Hk2 H2 g o e hv => by
    subst e
    refine ⟨Nat.le_trans (by rw [hv.dats.length]; exact hl) (by rw [sizeLine_eq]; decide), fun p hp => ?_⟩
    have hk : Hk2 p = none := o.a.free hp
    have hb : B0 p = none := by
      cases e : B0 p with
      | none => rfl
      | some u => exact absurd hp ((s.gr.trans g).t p (by rw [e]; exact fun z => by cases z))
    have nq : q ≠ some p := fun e => (o.j p e).ne hp
    have gc : Gr q Hk H1 Hk2 (upd H2 p (.lst vs)) := g.trans (Gr.cell o.a hp)
    exact k p Hk2 _ gc ⟨o.cell hk nq, (s.sg.mono g.k).set i (s := .adr p) rfl, s.gr.trans gc⟩ ⟨hk, nq, hb, vs, upd_same, hv.dats⟩
theorem q_ifB {b : Bool} {t1 t2 : TS} (h : TB q δ tt b) (s : At q n δ A0 B0 σ Hk H1) (k1 : b = true → ∀ Hk' H2, Gr q Hk H1 Hk' H2 → At q n δ A0 B0 σ Hk' H2 → t1 { D with nx := tz D } σ H2) (k2 : b = false → ∀ Hk' H2, Gr q Hk H1 Hk' H2 → At q n δ A0 B0 σ Hk' H2 → t2 { D with nx := tz D } σ H2) : tSeq (tIfS tt t1 t2) tz D σ H1 :=
  s_ifB (D := { D with nx := tz D }) h s k1 k2
theorem AE.is {ta : TA} {a b : List Sl} (h : AE q δ ta a) (e : a = b) : AE q δ ta b := by rw [← e]; exact h
end
end Cr

set_option Elab.async false
set_option linter.all false
set_option maxRecDepth 100000
set_option maxHeartbeats 800000
namespace Cr
open PySem PySem.Spec PyProof.Rows L2
theorem cutD_to (xs : List PyData) (n : Nat) : cutD xs none (some (n : Int)) = xs.take n := by
  unfold cutD
  have h0 : HT.sIx xs.length 0 none = 0 := rfl
  rw [h0, List.drop_zero, Nat.sub_zero]
  have h1 : HT.sIx xs.length xs.length (some (n : Int)) = min n xs.length := by
    simp [HT.sIx]
    try omega
  rw [h1]
  by_cases h : n ≤ xs.length
  · rw [Nat.min_eq_left h]
  · rw [Nat.min_eq_right (by omega), List.take_length, List.take_of_length_le (by omega)]
section
variable {K : PySem.W.Frag} {q : Option Addr} {n : Nat} {δ δ' : List Sl} {te ta tb tc tk ti : TE} {tt tu tt1 tt2 tt3 : TT} {c c1 c2 c3 ci : Nat} {Φ Φ1 Φ2 Φ3 : PyData → Prop} {d d1 d2 : PyData} {A0 B0 Hk H1 H2 Hk' : Hp} {σ : L2.St} {D : Ends} {ts tz : TS} {g : TG} {p : Addr} {ds : List PyData}
end
end Cr

set_option Elab.async false
set_option linter.all false
set_option maxRecDepth 100000
set_option maxHeartbeats 800000
namespace Cr
open PySem PySem.Spec PyProof.Rows L2
/-! ### products of ledgers -/
def prodL (a b : List (Int × Int)) : List (Int × Int) := a.flatMap fun x => b.map fun y => (x.1 + y.1, x.2 * y.2)
/-! ### sums with a weight -/
def wsum (φ : Int → Int) : List (Int × Int) → Int
  | [] => 0
  | x :: r => x.2 * φ x.1 + wsum φ r
def ksum (φ : Int → Int) (f : Int → Int) : List Int → Int
  | [] => 0
  | k :: r => f k * φ k + ksum φ f r
theorem ksum_add (φ f g : Int → Int) : ∀ S : List Int, ksum φ (fun k => f k + g k) S = ksum φ f S + ksum φ g S
  | [] => rfl
  | k :: S => by
    show (f k + g k) * φ k + ksum φ (fun k => f k + g k) S = (f k * φ k + ksum φ f S) + (g k * φ k + ksum φ g S)
    rw [ksum_add φ f g S, Int.add_mul]; omega
theorem ksum_no (φ : Int → Int) (x c : Int) : ∀ S : List Int, x ∉ S → ksum φ (fun k => if x = k then c else 0) S = 0
  | [], _ => rfl
  | k :: S, h => by
    show (if x = k then c else 0) * φ k + _ = 0
    rw [if_neg (fun e => h (by rw [e]; simp)), Int.zero_mul, ksum_no φ x c S fun z => h (by simp [z])]
    rfl
theorem ksum_at (φ : Int → Int) (x c : Int) : ∀ S : List Int, S.Pairwise (· < ·) → x ∈ S → ksum φ (fun k => if x = k then c else 0) S = c * φ x
  | [], _, h => by cases h
  | k :: S, hp, h => by
    have hp' := List.pairwise_cons.mp hp
    show (if x = k then c else 0) * φ k + ksum φ (fun k => if x = k then c else 0) S = c * φ x
    by_cases e : x = k
    · subst e
      rw [if_pos rfl, ksum_no φ x c S fun z => absurd (hp'.1 x z) (by omega), Int.add_zero]
    · rw [if_neg e, Int.zero_mul, Int.zero_add]
      exact ksum_at φ x c S hp'.2 (by
        rcases List.mem_cons.mp h with z | z
        · exact absurd z e
        · exact z)
theorem ksum_zero (φ : Int → Int) : ∀ S : List Int, ksum φ (fun _ => 0) S = 0
  | [] => rfl
  | k :: S => by
    show 0 * φ k + ksum φ (fun _ => 0) S = 0
    rw [ksum_zero φ S, Int.zero_mul]; rfl
theorem wsum_keys (φ : Int → Int) {S : List Int} (hp : S.Pairwise (· < ·)) : ∀ l : List (Int × Int), (∀ x ∈ l, x.1 ∈ S) → wsum φ l = ksum φ (tot l) S
  | [], _ => (ksum_zero φ S).symm
  | x :: l, h => by
    show x.2 * φ x.1 + wsum φ l = ksum φ (fun k => (if x.1 = k then x.2 else 0) + tot l k) S
    rw [ksum_add, ksum_at φ x.1 x.2 S hp (h x (by simp)), wsum_keys φ hp l fun y hy => h y (by simp [hy])]
theorem wsum_append (φ : Int → Int) (a b : List (Int × Int)) : wsum φ (a ++ b) = wsum φ a + wsum φ b := by
  induction a with
  | nil => show wsum φ b = 0 + wsum φ b; omega
  | cons x a ih =>
    show x.2 * φ x.1 + wsum φ (a ++ b) = (x.2 * φ x.1 + wsum φ a) + wsum φ b
    rw [ih]; omega
/-! ### how great amounts are -/
def Amb (B : Nat) (l : List (Int × Int)) : Prop := ∀ x ∈ l, x.2.natAbs < 2 ^ B
theorem Amb.mono {B C : Nat} {l : List (Int × Int)} (h : Amb B l) (hc : B ≤ C) : Amb C l := fun x hx => Nat.lt_of_lt_of_le (h x hx) (Nat.pow_le_pow_right (by decide) hc)
end Cr

set_option Elab.async false
set_option linter.all false
set_option maxRecDepth 100000
set_option maxHeartbeats 800000
namespace Cr
open PySem PySem.Spec PyProof.Rows L2
/-! ### one key's amount -/
end Cr

set_option Elab.async false
set_option linter.all false
set_option maxRecDepth 100000
set_option maxHeartbeats 800000
namespace Cr
open PySem PySem.Spec PyProof.Rows L2
/-! ### repr of a list or a tuple -/
section
variable {K : PySem.W.Frag} {q : Option Addr} {δ : List Sl} {te ta tb : TE} {d : PyData}
end
/-! ### a law that is entered at the caller itself: its guards are known -/
section
variable {P : Program} {w : World} {K : PySem.W.Frag} {mg mb : Str → Option Value} {base : Heap} {k : Nat}
end
section
variable {K : PySem.W.Frag} {q : Option Addr} {n : Nat} {δ : List Sl} {te : TE} {tt : TT} {c c1 : Nat} {Φ : PyData → Prop} {A0 B0 Hk H1 : Hp} {σ : L2.St} {D : Ends} {tz : TS}
end
end Cr

set_option Elab.async false
set_option linter.all false
set_option maxRecDepth 100000
set_option maxHeartbeats 800000
namespace Cr
open PySem PySem.Spec PyProof.Rows L2
section
variable {K : PySem.W.Frag} {q : Option Addr} {n : Nat} {δ δ' : List Sl} {te ta tb tn ti : TE} {tt : TT} {c c1 c2 : Nat} {Φ : PyData → Prop} {d : PyData} {A0 B0 Hk H1 : Hp} {σ : L2.St} {D : Ends} {tz tbody : TS} {g : TG} {p : Addr} {ds : List PyData}
/-- elements that are drawn: each costs c1 at most -/
theorem j_lcD {α : Type} {emb : α → PyData} {wi : TI} {vs : List Nat} {Ψ : List α → Prop} {N : Nat} (hw : IJ q δ wi c (fun items => ∃ xs, Ψ xs ∧ items = xs.map emb)) (hz : ∀ xs, Ψ xs → xs.length ≤ N) (hN : N ≤ 1000000)
    (he : ∀ xs, Ψ xs → ∀ x ∈ xs, ∃ δ', GB (wipeD δ vs) g (emb x) δ' vs ∧ J q δ' te c1 Φ) :
    J q δ (tLc wi g tYes te vs) (c1 * N + c) (fun r => ∃ (xs : List α) (ds : List PyData), Ψ xs ∧ ds.length = xs.length ∧ (∀ d ∈ ds, Φ d) ∧ r = .list ds) := fun σ H H1 n sg o Q k =>
  hw σ H H1 (n + c1 * N) sg (by rw [Nat.add_assoc]; exact o) _ fun items Jt HkW H2 g0 o0 pi wk D hD => by
    obtain ⟨xs, pi, ei⟩ := pi
    have hlen : items.length = xs.length := by rw [ei, List.length_map]
    have hxN := hz xs pi
    have hDk : HkW D = none := g0.a.free hD
    have hDq : q ≠ some D := fun e => (o0.j D e).ne hD
    have g1 : Gr q HkW H2 HkW (upd H2 D (.lst [])) := Gr.cell g0.a hD
    refine ⟨fun i m H' => m = items.length - i ∧ i ≤ items.length ∧ ∃ Hk' vs ds, Gr q HkW H2 Hk' H' ∧ Ok q (n + c1 * (N - i)) Hk' H' ∧ Hk' D = none ∧ H' D = some (.lst vs) ∧ DqAll Hk' vs ds ∧ ds.length = i ∧ ∀ d ∈ ds, Φ d,
      ⟨items.length, by simp, Nat.zero_le _, HkW, [], [], g1, o0.cell hDk hDq, hDk, upd_same, .nil, rfl, by simp⟩, ?_⟩
    rintro i m H' ⟨rfl, hi, Hk', ys, es, gr, ok, hDn, hl, hd, hel, hep⟩
    by_cases hlt : i < items.length
    · obtain ⟨go, yl⟩ := (wk i Hk' H' gr.k ok.a).1 hlt
      refine .inr ⟨go, fun H'' => ∃ Hk3 ys' es', Gr q HkW H2 Hk3 H'' ∧ Ok q (n + c1 * (N - (i + 1))) Hk3 H'' ∧ Hk3 D = none ∧ H'' D = some (.lst ys') ∧ DqAll Hk3 ys' es' ∧ es'.length = i + 1 ∧ ∀ d ∈ es', Φ d, fun H'' p => ⟨items.length - (i + 1), by omega, rfl, hlt, p⟩, fun v H'' y => ?_⟩
      obtain ⟨Hk2, g2, d, ed, dx⟩ := yl v H'' y
      obtain ⟨x, ex, rfl⟩ : ∃ x, xs[i]? = some x ∧ emb x = d := by
        rw [ei, List.getElem?_map] at ed
        exact Option.map_eq_some_iff.mp ed
      obtain ⟨δ', hgb, hte⟩ := he xs pi x (List.mem_of_getElem? ex)
      have hf : n + c1 * (N - i) = (n + c1 * (N - (i + 1))) + c1 := by
        rw [show N - i = (N - (i + 1)) + 1 by omega, Nat.mul_add, Nat.mul_one, Nat.add_assoc]
      rw [hf] at ok
      have ok2 := ok.go g2
      have sgw : Sg Hk2 (wipe σ vs) (wipeD δ vs) := ((sg.mono g0.k).mono (gr.k.trans g2.k)).wipe vs
      have hD2 : Hk2 D = none := g2.f D hDn (by rw [hl]; exact fun z => by cases z)
      have hl2 : H'' D = some (.lst ys) := g2.s D _ (fun z => by cases z) hl
      have hd2 := DqAll.mono g2.k _ _ hd
      have gr2 := gr.trans g2.none_to
      refine hgb (wipe σ vs) Hk2 H'' v sgw g2.a dx _ fun σ' sg' hl' hk' => ⟨wipe_eq (by rw [hl', wipe_length]) hk', ?_⟩
      unfold tYes
      refine iteT (hte σ' Hk2 H'' _ sg' ok2 _ fun y w Hk4 H4 g4 o4 ey dw => ?_)
      have hD4 : Hk4 D = none := g4.f D hD2 (by rw [hl2]; exact fun z => by cases z)
      have hl4 : H4 D = some (.lst ys) := g4.s D _ hDq hl2
      have hd4 := DqAll.mono g4.k _ _ hd2
      refine ⟨ys, hl4, ?_, Hk4, ys ++ [w], es ++ [y], (gr2.trans g4).put hD hD4, o4.cell hD4 hDq, hD4, upd_same, hd4.append (.cons dw .nil), by rw [List.length_append, hel]; rfl, fun z hz => ?_⟩
      · rw [hd4.length, hel, sizeLine_eq]; omega
      · rcases List.mem_append.mp hz with h | h
        · exact hep z h
        · rw [List.mem_singleton.mp h]; exact ey
    · have e : i = items.length := by omega
      subst e
      refine .inl ⟨(wk _ Hk' H' gr.k ok.a).2 (Nat.le_refl _), ?_⟩
      have gf := gr.freeze hD hDn hl
      refine k _ _ _ _ (g0.trans gf) ⟨gf.a, fun p e => ?_, fun p e => (ok.j p e).mono (Nat.le_add_right _ _)⟩ ⟨xs, es, pi, by rw [hel, hlen], hep, rfl⟩ (.lst upd_same (DqAll.mono (same_upd hDn) _ _ hd))
      rw [upd_ne (fun z => hDq (by rw [← z]; exact e))]
      exact ok.kf p e
/-- while: P by a measure -/
theorem q_while (P : Nat → L2.St → Hp → Hp → Prop) (m0 : Nat) (h0 : P m0 σ Hk H1)
    (turn : ∀ m σ' Hk' H', P m σ' Hk' H' → ∃ (δ' : List Sl) (b : Bool) (n' : Nat), TB q δ' tt b ∧ At q n' δ' A0 B0 σ' Hk' H' ∧
      (b = true → ∀ Hk2 H2, Gr q Hk' H' Hk2 H2 → At q n' δ' A0 B0 σ' Hk2 H2 → tbody { D with nx := fun σ3 H4 => ∃ m' Hk3, m' < m ∧ P m' σ3 Hk3 H4, ct := fun σ3 H4 => ∃ m' Hk3, m' < m ∧ P m' σ3 Hk3 H4, bk := tz D } σ' H2) ∧
      (b = false → ∀ Hk2 H2, Gr q Hk' H' Hk2 H2 → At q n' δ' A0 B0 σ' Hk2 H2 → tz D σ' H2)) : tSeq (tWhile tt tbody) tz D σ H1 := by
  refine ⟨fun m σ' H' => ∃ Hk', P m σ' Hk' H', ⟨m0, Hk, h0⟩, ?_⟩
  rintro m σ' H' ⟨Hk', hp⟩
  obtain ⟨δ', b, n', ht, a, k1, k2⟩ := turn m σ' Hk' H' hp
  refine ht σ' Hk' H' n' a.sg a.ok _ fun b' Hk2 H2 g o e => ?_
  subst e
  have a2 : At q n' δ' A0 B0 σ' Hk2 H2 := ⟨o, a.sg.mono g.k, a.gr.trans g⟩
  cases b' with
  | true => exact iteT ⟨_, fun σ3 H4 ⟨m', Hk3, h1, h2⟩ => ⟨m', h1, Hk3, h2⟩, k1 rfl Hk2 H2 g a2⟩
  | false => exact iteF (k2 rfl Hk2 H2 g a2)
end
end Cr

set_option Elab.async false
set_option linter.all false
set_option maxRecDepth 100000
set_option maxHeartbeats 1000000
namespace Cr
open PySem PySem.Spec PyProof.Rows L2
/-! ### enumerate(v) of a tuple -/
section
variable {K : PySem.W.Frag} {q : Option Addr} {δ : List Sl} {te : TE}
/-- the items: pairs of index and item -/
def enumD (ds : List PyData) : List PyData := (List.range ds.length).zipWith (fun i d => .tuple [.int (i : Nat), d]) ds
theorem enumD_get {ds : List PyData} {i : Nat} {d : PyData} (h : ds[i]? = some d) : (enumD ds)[i]? = some (.tuple [.int (i : Nat), d]) := by
  unfold enumD
  have hi : i < ds.length := (List.getElem?_eq_some_iff.mp h).1
  rw [List.getElem?_zipWith, List.getElem?_range hi, h]
theorem enumD_len (ds : List PyData) : (enumD ds).length = ds.length := by
  unfold enumD
  rw [List.length_zipWith, List.length_range, Nat.min_self]
end
end Cr

set_option Elab.async false
set_option linter.all false
set_option maxRecDepth 100000
set_option maxHeartbeats 1000000
namespace Cr
open PySem PySem.Spec PyProof.Rows L2
/-! ### t[::-1] of a tuple -/
theorem revPlaces (n : Nat) : Builtin.Slice.slicePlaces ((n : Int) - 1) (-1) (-1) = n := by
  unfold Builtin.Slice.slicePlaces
  rw [if_neg (by omega)]
  by_cases h : n = 0
  · subst h; rfl
  · rw [if_pos (by omega)]
    have e : ((n : Int) - 1 - -1 - 1) / (- -1) = (n : Int) - 1 := by
      rw [show (- -1 : Int) = 1 from rfl, Int.ediv_one]; omega
    rw [e]; omega
theorem fm_congr {α β : Type} {f g : α → Option β} : ∀ {l : List α}, (∀ x ∈ l, f x = g x) → l.filterMap f = l.filterMap g
  | [], _ => rfl
  | x :: l, h => by
    rw [List.filterMap_cons, List.filterMap_cons, h x (by simp), fm_congr fun y hy => h y (by simp [hy])]
theorem fm_some {α β : Type} (g : α → β) : ∀ l : List α, l.filterMap (fun x => some (g x)) = l.map g
  | [] => rfl
  | x :: l => by rw [List.filterMap_cons, fm_some g l]; rfl
theorem revPick (xs : Array Value) : ((List.range xs.size).filterMap fun (m : Nat) => xs[((xs.size : Int) - 1 + (m : Int) * -1).toNat]?).toArray = xs.toList.reverse.toArray := by
  congr 1
  have h : ∀ m ∈ List.range xs.size, (fun (m : Nat) => xs[((xs.size : Int) - 1 + (m : Int) * -1).toNat]?) m = (fun m => some (xs.toList.reverse.getD m .none)) m := fun m hm => by
    have hm' := List.mem_range.mp hm
    have e : ((xs.size : Int) - 1 + (m : Int) * -1).toNat = xs.size - 1 - m := by omega
    show xs[((xs.size : Int) - 1 + (m : Int) * -1).toNat]? = some (xs.toList.reverse.getD m .none)
    rw [e, List.getD_eq_getElem?_getD, List.getElem?_reverse (by simpa using hm')]
    have hx : xs.size - 1 - m < xs.size := by omega
    simp [hx]
  rw [fm_congr h, fm_some]
  refine List.ext_getElem? fun i => ?_
  rw [List.getElem?_map]
  by_cases hi : i < xs.size
  · rw [List.getElem?_range hi]
    have z : i < xs.toList.reverse.length := by simpa using hi
    simp [List.getD_eq_getElem?_getD, z]
    rw [List.getElem?_eq_getElem z]; rfl
  · rw [List.getElem?_eq_none (by simpa using hi), List.getElem?_eq_none (by simpa using hi)]
    rfl
section
variable {prog : Program} {w : World} {A : Around} {E : Value → Shared → Prop} {s : Shared}
theorem revApplied {sl : Addr} {vl vu vs : Value} {n : Nat} {Q : Int × Int × Nat → Shared → Prop} (hs : s.heap.IsSliceOf sl vl vu vs) (pl : IsPart vl none) (pu : IsPart vu none) (ps : IsPart vs (some (-1)))
    (h : Q ((n : Int) - 1, -1, n) s) : wpAny (model prog w) A (Builtin.Slice.sliceApplied (.ref sl) (pure (n : Int))) Q E s := by
  obtain ⟨ob, ho, hc, hd⟩ := id hs
  unfold Builtin.Slice.sliceApplied Builtin.Slice.sliceFields
  refine wpAny_bind (wpAny_bind (wpAny_field ho hd (x := vl) rfl (wpAny_bind (wpAny_field ho hd (x := vu) rfl (wpAny_bind (wpAny_field ho hd (x := vs) rfl (wpAny_pure ?_)))))))
  refine wpAny_bind (HT.slicePart_ ps ?_)
  show wpAny _ _ (if ((-1 : Int) == 0) = true then _ else _) _ _ s
  rw [if_neg (by decide)]
  refine wpAny_bind (HT.slicePart_ pl (wpAny_bind (HT.slicePart_ pu (wpAny_bind (wpAny_pure ?_)))))
  show wpAny _ _ (pure ((n : Int) - 1, (-1 : Int), Builtin.Slice.slicePlaces ((n : Int) - 1) (-1) (-1))) _ _ s
  rw [revPlaces]
  exact wpAny_pure h
theorem getTupRev {t sl : Addr} {items : Array Value} {vl vu vs : Value} {Q : Value → Shared → Prop} (ht : IsTup s.heap t items) (hs : s.heap.IsSliceOf sl vl vu vs) (pl : IsPart vl none) (pu : IsPart vu none) (ps : IsPart vs (some (-1)))
    (h : Q (.ref s.heap.objs.size) { s with heap := s.heap.push { cls := .type "tuple", data := .seq items.toList.reverse.toArray } }) (hz : items.size ≤ sizeLine) : wpAny (model prog w) A (getItem (.ref t) (.ref sl)) Q E s := by
  have room : sizeOk (.seq items.toList.reverse.toArray) := by
    show items.toList.reverse.toArray.size ≤ sizeLine
    simpa using hz
  obtain ⟨ob, ho, hc, hd⟩ := id hs
  have isSl : s.TypeIs (.ref sl) "slice" := ⟨ob, ho, hc⟩
  unfold getItem
  try with_reducible refine wpAny_holding ?_
  first | refine wpAny_bind (wpAny_pure ?_) | skip
  refine wpAny_bind (wpAny_sequenceKey ht.typeIs (by decide) ?_)
  refine wpAny_bind (wpAny_callSpecial?_slot (name := Str.ofString "__getitem__") ht.typeIs PyProof.Rows.slot_tuple_getitem (wpAny_call_entry PyProof.Rows.slot_tuple_getitem ht.typeIs entry_tuple_getitem ?_ (args_tuple_getitem _ _)))
  show wpAny _ _ (Builtin.Tuple.tupleItemsOf (.ref t) >>= _) _ _ s
  refine wpAny_bind (PyProof.Rows.tupleItemsOf_ ht (wpAny_bind (wpAny_typeOf isSl ?_)))
  rw [if_pos (by decide)]
  refine wpAny_bind (revApplied hs pl pu ps ?_)
  have no : ¬ ((((items.size : Int) - 1) == 0 && (-1 : Int) == 1 && items.size == items.size) = true) := by
    intro z
    rw [Bool.and_eq_true, Bool.and_eq_true] at z
    exact absurd z.1.2 (by decide)
  show wpAny _ _ (if (((items.size : Int) - 1) == 0 && (-1 : Int) == 1 && items.size == items.size) = true then _ else _) _ _ s
  rw [if_neg no, revPick]
  first
    | exact wpAny_bind (m := Builtin.Tuple.tupleExact _) (wpAny_newObj_type (wpAny_pure ⟨_, rfl, wpAny_pure h⟩) room)
    | exact wpAny_bind (m := Builtin.Tuple.tupleExact _) (wpAny_newObj_type (wpAny_bind (wpAny_pure (wpAny_pure ⟨_, rfl, wpAny_pure h⟩))) room)
    | exact wpAny_bind (wpAny_bind (m := Builtin.Tuple.tupleExact _) (wpAny_newObj_type (wpAny_pure (wpAny_pure ⟨_, rfl, wpAny_pure h⟩)) room))
    | exact wpAny_bind (wpAny_bind (m := Builtin.Tuple.tupleExact _) (wpAny_newObj_type (wpAny_pure ⟨_, rfl, wpAny_pure h⟩) room))
end
def tRevT (K : PySem.W.Frag) (te : TE) : TE := fun σ H Q => te σ H fun x H1 => ∃ a xs, x = .ref a ∧ SqT K H1 a xs ∧ LaidT H1 xs.reverse Q
theorem pe_revT {X : Cx} {K : PySem.W.Frag} {e : Expr} {te : TE} {k : Nat} {p1 p2 p3 pos : Pos} (hK : X.K = K) (he : PE X e te) : PE X (.Subscript e (.Slice none none (some (.UnaryOp .USub (.Constant (.int 1) k p1) p2)) p3) pos) (tRevT K te) := by
  subst hK
  refine ⟨fun pins s σ H Q I h => Subscript_ (thn (he.run pins s σ H _ I h) fun v s1 ⟨x, H1, I1, r1, a, xs, ex, hx, q⟩ => ?_)⟩
  subst ex
  obtain rfl : v = Value.ref a := r1
  have step : PO X (some (.UnaryOp .USub (.Constant (.int 1) k p1) p2)) (tPart (tUn (rU fun i => .int (-i)) (tC (.int 1)))) := po_some (pe_un un_neg pe_int)
  refine wpAny_Slice (thn (po_none.run pins s1 σ H1 (fun o H2 => o = none ∧ H2 = H1) I1 ⟨rfl, rfl⟩) fun vl s2 ⟨l, H2, I2, pl, el, e2⟩ => ?_)
  subst el; subst e2
  refine thn (po_none.run pins s2 σ H2 (fun o H3 => o = none ∧ H3 = H2) I2 ⟨rfl, rfl⟩) fun vu s3 ⟨u, H3, I3, pu, eu, e3⟩ => ?_
  subst eu; subst e3
  refine thn (step.run pins s3 σ H3 (fun o H4 => o = some (-1) ∧ H4 = H3) I3 ⟨1, rfl, -1, rfl, rfl, rfl⟩) fun vs s4 ⟨o, H4, I4, ps, eo, e4⟩ => ?_
  subst eo; subst e4
  have I5 : Inv X pins σ H4 { s4 with heap := s4.heap.push { cls := .type "slice", data := .fields #[vl, vu, vs] } } := I4.kept (t' := s4.toks) fun b ob z => Heap.get?_push_of_some _ z
  obtain ⟨its, r, ht, hz⟩ := I5.tuple hx
  have hlen := r.length
  show wpAny (model X.prog X.w) X.A (subscriptTail e (.Slice none none (some (.UnaryOp .USub (.Constant (.int 1) k p1) p2)) p3) (.ref a) (.ref s4.heap.objs.size)) (EP X pins σ Q) X.xe { s4 with heap := s4.heap.push { cls := .type "slice", data := .fields #[vl, vu, vs] } }
  refine tail_any (ops := [.ref a, .ref s4.heap.objs.size]) ht.typeIs PyProof.Rows.slot_tuple_getitem.lookup (getTupRev ht (Heap.IsSliceOf.new _ vl vu vs) pl pu ps ?_ (by rw [List.size_toArray]; omega)) (by with_unfolding_all rfl)
  exact laidT I5 r.reverse (by rw [List.length_reverse]; exact hz) q
section
variable {K : PySem.W.Frag} {q : Option Addr} {δ : List Sl} {te : TE}
theorem DqAll.reverse {H : Hp} : ∀ {vs : List V} {ds : List PyData}, DqAll H vs ds → DqAll H vs.reverse ds.reverse
  | [], _, h => by cases h; exact .nil
  | v :: vs, _, h => by
    cases h with
    | cons h1 h2 => rw [List.reverse_cons, List.reverse_cons]; exact (DqAll.reverse h2).append (.cons h1 .nil)
theorem e_revT {ds : List PyData} (h : E q δ te (.tuple ds)) : E q δ (tRevT K te) (.tuple ds.reverse) := fun σ H H1 n sg o Q k =>
  h σ H H1 n sg o _ fun d v Hk H2 g o1 ed dv => by
    subst ed
    obtain ⟨a, xs, rfl, h1, h2⟩ := dv.tupOf
    refine ⟨a, xs, rfl, .inl (h1.mono g.a).rd, fun p ob od hp => ?_⟩
    have g1 := Gr.new (q := none) (o := .frz ob (.tup xs.reverse)) g.a hp
    exact k _ _ _ _ (g.trans g1.none_to) (o1.go g1) rfl (.tup (Tp.new od) (DqAll.mono g1.k _ _ h2.reverse))
end
end Cr

set_option Elab.async false
set_option linter.all false
set_option maxRecDepth 100000
set_option maxHeartbeats 800000
namespace Cr
open PySem PySem.Spec PyProof.Rows L2
/-! ### polynomials: coefficients by their indexes -/
def enF : Nat → List Int → List (Int × Int)
  | _, [] => []
  | k, a :: f => ((k : Int), a) :: enF (k + 1) f
abbrev en (f : List Int) : List (Int × Int) := enF 0 f
def evalP (f : List Int) (x : Int) : Int := f.foldr (fun a r => r * x + a) 0
def pw (x : Int) (k : Int) : Int := x ^ k.toNat
theorem enF_mem : ∀ {f : List Int} {k : Nat} {y : Int × Int}, y ∈ enF k f → (k : Int) ≤ y.1 ∧ y.1 < (k : Int) + f.length
  | [], _, _, h => by cases h
  | a :: f, k, y, h => by
    rcases List.mem_cons.mp h with e | e
    · subst e; simp; omega
    · have z := enF_mem e
      rw [List.length_cons]
      omega
theorem wsum_enF (x : Int) : ∀ (f : List Int) (k : Nat), wsum (pw x) (enF k f) = x ^ k * evalP f x
  | [], k => by show (0 : Int) = x ^ k * 0; rw [Int.mul_zero]
  | a :: f, k => by
    show a * pw x (k : Int) + wsum (pw x) (enF (k + 1) f) = x ^ k * (evalP f x * x + a)
    rw [wsum_enF x f (k + 1)]
    unfold pw
    rw [Int.toNat_natCast, Int.pow_succ, Int.mul_add, Int.mul_comm a, Int.mul_assoc, Int.mul_comm x (evalP f x)]
    omega
theorem tot_enF : ∀ (f : List Int) (k n : Nat), tot (enF k f) ((k + n : Nat) : Int) = f.getD n 0
  | [], k, n => by simp [enF, tot]
  | a :: f, k, 0 => by
    show (if (k : Int) = ((k + 0 : Nat) : Int) then a else 0) + tot (enF (k + 1) f) ((k + 0 : Nat) : Int) = a
    rw [if_pos (by omega), tot_no fun h => by
      obtain ⟨y, hy, e⟩ := List.mem_map.mp h
      have z := (enF_mem hy).1
      omega]
    omega
  | a :: f, k, n + 1 => by
    show (if (k : Int) = ((k + (n + 1) : Nat) : Int) then a else 0) + tot (enF (k + 1) f) ((k + (n + 1) : Nat) : Int) = f.getD n 0
    rw [if_neg (by omega), show k + (n + 1) = (k + 1) + n by omega, tot_enF f (k + 1) n]
    omega
theorem pw_add {x i j : Int} (hi : 0 ≤ i) (hj : 0 ≤ j) : pw x (i + j) = pw x i * pw x j := by
  unfold pw
  rw [show (i + j).toNat = i.toNat + j.toNat by omega, Int.pow_add]
/-- products, keys from 0 on -/
theorem wsum_prodN (x : Int) {a b : List (Int × Int)} (ha : ∀ y ∈ a, 0 ≤ y.1) (hb : ∀ y ∈ b, 0 ≤ y.1) : wsum (pw x) (prodL a b) = wsum (pw x) a * wsum (pw x) b := by
  have sh : ∀ (y : Int × Int), 0 ≤ y.1 → ∀ b : List (Int × Int), (∀ z ∈ b, 0 ≤ z.1) → wsum (pw x) (b.map fun z => (y.1 + z.1, y.2 * z.2)) = y.2 * pw x y.1 * wsum (pw x) b := fun y hy b => by
    induction b with
    | nil => intro _; show (0 : Int) = _ * 0; rw [Int.mul_zero]
    | cons z b ih =>
      intro hb
      show y.2 * z.2 * pw x (y.1 + z.1) + wsum (pw x) (b.map fun z => (y.1 + z.1, y.2 * z.2)) = y.2 * pw x y.1 * (z.2 * pw x z.1 + wsum (pw x) b)
      rw [ih fun w hw => hb w (by simp [hw]), pw_add hy (hb z (by simp)), Int.mul_add]
      congr 1
      rw [Int.mul_assoc, Int.mul_assoc, Int.mul_left_comm z.2]
  induction a with
  | nil => show (0 : Int) = 0 * _; rw [Int.zero_mul]
  | cons y a ih =>
    show wsum (pw x) ((b.map fun z => (y.1 + z.1, y.2 * z.2)) ++ prodL a b) = (y.2 * pw x y.1 + wsum (pw x) a) * wsum (pw x) b
    rw [wsum_append, ih fun w hw => ha w (by simp [hw]), Int.add_mul, sh y (ha y (by simp)) b hb]
/-- one step of both loops -/
def addAt (r : List Int) (k : Nat) (c : Int) : List Int := r.set k (r.getD k 0 + c)
def addOps : List Int → List (Nat × Int) → List Int
  | r, [] => r
  | r, o :: os => addOps (addAt r o.1 o.2) os
theorem addAt_len (r : List Int) (k : Nat) (c : Int) : (addAt r k c).length = r.length := List.length_set ..
theorem addOps_len : ∀ (os : List (Nat × Int)) (r : List Int), (addOps r os).length = r.length
  | [], _ => rfl
  | o :: os, r => by
    show (addOps (addAt r o.1 o.2) os).length = _
    rw [addOps_len os, addAt_len]
theorem addAt_get {r : List Int} {k : Nat} {c : Int} (hk : k < r.length) (n : Nat) : (addAt r k c).getD n 0 = r.getD n 0 + if (k : Int) = (n : Int) then c else 0 := by
  unfold addAt
  rw [List.getD_eq_getElem?_getD, List.getD_eq_getElem?_getD]
  by_cases h : k = n
  · subst h
    rw [List.getElem?_set_self hk, if_pos rfl]
    simp [List.getD_eq_getElem?_getD]
  · rw [List.getElem?_set_ne h, if_neg (by omega), Int.add_zero]
    simp [List.getD_eq_getElem?_getD]
theorem addOps_get : ∀ (os : List (Nat × Int)) {r : List Int}, (∀ o ∈ os, o.1 < r.length) → ∀ n : Nat, (addOps r os).getD n 0 = r.getD n 0 + tot (os.map fun o => ((o.1 : Int), o.2)) n
  | [], r, _, n => by show r.getD n 0 = r.getD n 0 + 0; omega
  | o :: os, r, h, n => by
    show (addOps (addAt r o.1 o.2) os).getD n 0 = r.getD n 0 + ((if (o.1 : Int) = (n : Int) then o.2 else 0) + tot (os.map fun o => ((o.1 : Int), o.2)) n)
    rw [addOps_get os (fun p hp => by rw [addAt_len]; exact h p (by simp [hp])) n, addAt_get (h o (by simp))]
    omega
theorem evalP_wsum (f : List Int) (x : Int) : evalP f x = wsum (pw x) (en f) := by
  rw [wsum_enF, Int.pow_zero, Int.one_mul]
def opsOf (f g : List Int) : List (Nat × Int) := (List.range f.length).flatMap fun i => (List.range g.length).map fun j => (i + j, f.getD i 0 * g.getD j 0)
/-- what both loops make -/
def conv (f g : List Int) : List Int := addOps (List.replicate (f.length + g.length - 1) 0) (opsOf f g)
theorem enF_range : ∀ (f : List Int) (k : Nat), enF k f = (List.range f.length).map fun i => (((k + i : Nat) : Int), f.getD i 0)
  | [], k => rfl
  | a :: f, k => by
    rw [List.length_cons, List.range_succ_eq_map, List.map_cons, List.map_map]
    show ((k : Int), a) :: enF (k + 1) f = (((k + 0 : Nat) : Int), a) :: _
    rw [enF_range f (k + 1)]
    congr 1
    exact List.map_congr_left fun i _ => by
      show (((k + 1 + i : Nat) : Int), f.getD i 0) = (((k + (i + 1) : Nat) : Int), f.getD i 0)
      rw [show k + 1 + i = k + (i + 1) by omega]
theorem ops_prod (f g : List Int) : (opsOf f g).map (fun o => ((o.1 : Int), o.2)) = prodL (en f) (en g) := by
  unfold opsOf prodL en
  rw [enF_range f 0, enF_range g 0, List.map_flatMap, List.flatMap_map]
  congr 1
  funext i
  rw [List.map_map, List.map_map]
  exact List.map_congr_left fun j _ => by
    show (((i + j : Nat) : Int), f.getD i 0 * g.getD j 0) = (((0 + i : Nat) : Int) + ((0 + j : Nat) : Int), f.getD i 0 * g.getD j 0)
    rw [show ((i + j : Nat) : Int) = ((0 + i : Nat) : Int) + ((0 + j : Nat) : Int) by omega]
theorem ops_lt (f g : List Int) : ∀ o ∈ opsOf f g, o.1 < f.length + g.length - 1 := fun o ho => by
  unfold opsOf at ho
  obtain ⟨i, hi, h⟩ := List.mem_flatMap.mp ho
  obtain ⟨j, hj, rfl⟩ := List.mem_map.mp h
  have h1 := List.mem_range.mp hi
  have h2 := List.mem_range.mp hj
  show i + j < _
  omega
theorem conv_len (f g : List Int) : (conv f g).length = f.length + g.length - 1 := by
  unfold conv
  rw [addOps_len, List.length_replicate]
theorem conv_get (f g : List Int) (n : Nat) : (conv f g).getD n 0 = tot (prodL (en f) (en g)) n := by
  unfold conv
  rw [addOps_get _ (fun o ho => by rw [List.length_replicate]; exact ops_lt f g o ho), ops_prod]
  have z : (List.replicate (f.length + g.length - 1) (0 : Int)).getD n 0 = 0 := by
    rw [List.getD_eq_getElem?_getD, List.getElem?_replicate]
    split <;> rfl
  rw [z]; omega
theorem ksum_congr (φ f g : Int → Int) : ∀ {S : List Int}, (∀ k ∈ S, f k = g k) → ksum φ f S = ksum φ g S
  | [], _ => rfl
  | k :: S, h => by
    show f k * φ k + ksum φ f S = g k * φ k + ksum φ g S
    rw [h k (by simp), ksum_congr φ f g fun j hj => h j (by simp [hj])]
theorem upto_sorted (N : Nat) : ((List.range N).map fun i => ((i : Nat) : Int)).Pairwise (· < ·) := by
  rw [List.pairwise_map]
  exact List.pairwise_lt_range.imp fun h => by omega
theorem upto_mem {N : Nat} {k : Int} (h0 : 0 ≤ k) (h1 : k < (N : Int)) : k ∈ (List.range N).map fun i => ((i : Nat) : Int) :=
  List.mem_map.mpr ⟨k.toNat, List.mem_range.mpr (by omega), by omega⟩
theorem conv_val (f g : List Int) (x : Int) : evalP (conv f g) x = evalP f x * evalP g x := by
  rw [evalP_wsum, evalP_wsum f, evalP_wsum g, ← wsum_prodN x (fun y hy => by have := (enF_mem hy).1; omega) (fun y hy => by have := (enF_mem hy).1; omega)]
  have hS := upto_sorted (f.length + g.length - 1)
  rw [wsum_keys (pw x) hS (en (conv f g)) fun y hy => ?_, wsum_keys (pw x) hS (prodL (en f) (en g)) fun y hy => ?_]
  · refine ksum_congr _ _ _ fun k hk => ?_
    obtain ⟨n, hn, rfl⟩ := List.mem_map.mp hk
    rw [← conv_get]
    have z := tot_enF (conv f g) 0 n
    rw [Nat.zero_add] at z
    exact z
  · rw [← ops_prod] at hy
    obtain ⟨o, ho, rfl⟩ := List.mem_map.mp hy
    have z := ops_lt f g o ho
    exact upto_mem (by show (0 : Int) ≤ (o.1 : Int); omega) (by show (o.1 : Int) < _; omega)
  · have z := enF_mem hy
    rw [conv_len] at z
    exact upto_mem (by omega) (by omega)
end Cr

set_option Elab.async false
set_option linter.all false
set_option maxRecDepth 100000
set_option maxHeartbeats 800000
namespace Cr
open PySem PySem.Spec PyProof.Rows L2
/-- a polynomial as data -/
def pol (f : List Int) : PyData := .tuple (f.map .int)
def Pl (f : List Int) : Prop := f.getLast? ≠ some 0
def CB (B : Nat) (f : List Int) : Prop := ∀ a ∈ f, a.natAbs < 2 ^ B
theorem pol_len (f : List Int) : (f.map PyData.int).length = f.length := List.length_map ..
theorem pol_shape (f : List Int) : SeqAt.shaped (pol f) = true := by
  unfold SeqAt.shaped
  rw [Bool.and_eq_true]
  refine ⟨?_, decide_eq_true ?_⟩
  · show PyData.canLayAll0 (f.map .int) = true
    exact canAll_of fun d hd => by
      obtain ⟨x, _, rfl⟩ := List.mem_map.mp hd
      rfl
  · have h : PyData.depthAll (f.map PyData.int) ≤ 1 := depthAll_le fun d hd => by
      obtain ⟨x, _, rfl⟩ := List.mem_map.mp hd
      simp [PyData.depth]
    show (PyData.tuple (f.map .int)).depth ≤ 64
    simp only [PyData.depth]
    omega
theorem CB.mono {B C : Nat} {f : List Int} (h : CB B f) (hc : B ≤ C) : CB C f := fun a ha => Nat.lt_of_lt_of_le (h a ha) (Nat.pow_le_pow_right (by decide) hc)
end Cr

set_option Elab.async false
set_option linter.all false
set_option maxRecDepth 100000
set_option maxHeartbeats 800000
namespace Cr
open PySem PySem.Spec PyProof.Rows L2
def rowOps (f g : List Int) (i j : Nat) : List (Nat × Int) := (List.range j).map fun k => (i + k, f.getD i 0 * g.getD k 0)
def rowsOps (f g : List Int) (i : Nat) : List (Nat × Int) := (List.range i).flatMap fun k => rowOps f g k g.length
/-- behind i rows and j steps of the next one -/
def part (f g : List Int) (i j : Nat) : List Int := addOps (List.replicate (f.length + g.length - 1) 0) (rowsOps f g i ++ rowOps f g i j)
theorem getD_mem {f : List Int} {i : Nat} (hi : i < f.length) : f.getD i 0 ∈ f := by
  rw [List.getD_eq_getElem?_getD, List.getElem?_eq_getElem hi]
  exact List.getElem_mem hi
theorem evalP_snoc (x : Int) : ∀ (f : List Int) (a : Int), evalP (f ++ [a]) x = evalP f x + a * x ^ f.length
  | [], a => by show (0 : Int) * x + a = 0 + a * x ^ 0; rw [Int.pow_zero, Int.mul_one, Int.zero_mul]
  | b :: f, a => by
    show evalP (f ++ [a]) x * x + b = (evalP f x * x + b) + a * x ^ (f.length + 1)
    rw [evalP_snoc x f a, Int.add_mul, Int.pow_succ, Int.mul_assoc a]
    omega
section
variable {K : PySem.W.Frag} {q : Option Addr} {n : Nat} {δ δ' : List Sl} {te : TE} {d : PyData} {A0 B0 Hk H1 : Hp} {σ : L2.St} {D : Ends} {tz : TS} {g : TG} {vs : List Nat}
end
end Cr

set_option Elab.async false
set_option linter.all false
set_option maxRecDepth 100000
set_option maxHeartbeats 800000
namespace Cr
open PySem PySem.Spec PyProof.Rows L2
theorem lst_shape (f : List Int) : SeqAt.shaped (.list (f.map .int)) = true := by
  unfold SeqAt.shaped
  rw [Bool.and_eq_true]
  refine ⟨?_, decide_eq_true ?_⟩
  · show PyData.canLayAll0 (f.map .int) = true
    exact canAll_of fun d hd => by
      obtain ⟨x, _, rfl⟩ := List.mem_map.mp hd
      rfl
  · have h : PyData.depthAll (f.map PyData.int) ≤ 1 := depthAll_le fun d hd => by
      obtain ⟨x, _, rfl⟩ := List.mem_map.mp hd
      simp [PyData.depth]
    show (PyData.list (f.map .int)).depth ≤ 64
    simp only [PyData.depth]
    omega
section
variable {K : PySem.W.Frag} {q : Option Addr} {n : Nat} {δ δ' : List Sl} {te te2 ta tb tc : TE} {tt tu : TT} {c c1 c2 c3 : Nat} {Φ Φ1 Φ2 Φ3 : PyData → Prop} {d d1 d2 : PyData} {A0 B0 Hk H1 : Hp} {σ : L2.St} {D : Ends} {tz t1 : TS} {p : Addr} {ds : List PyData}
/-- x, y = ([], e) -/
theorem q_tupNew {i j : Nat} (h2 : E q δ te2 d2) (s : At q n δ A0 B0 σ Hk H1)
    (k : ∀ p σ' Hk' H2, Gr q Hk H1 Hk' H2 → At q n ((δ.set i (.adr p)).set j (.dat d2)) A0 B0 σ' Hk' H2 → Cell q B0 Hk' H2 p [] → tz D σ' H2) :
    tSeq (tAsg (tTup (tCons (tLst tNil) (tCons te2 tNil))) (gTup K 2 (gCons (gName i) (gCons (gName j) gNil)))) tz D σ H1 := by
  refine ⟨Nat.zero_le _, fun p hp => ?_⟩
  have hk : Hk p = none := s.ok.a.free hp
  have nb : ∀ {Hk3 H3 : Hp} (gg : Gr q Hk H1 Hk3 H3) {t : Addr}, H3 t = none → B0 t = none := fun {Hk3 H3} gg {t} ht => by
    cases e : B0 t with
    | none => rfl
    | some u => exact absurd ht ((s.gr.trans gg).t t (by rw [e]; exact fun z => by cases z))
  have nq : q ≠ some p := fun e => (s.ok.j p e).ne hp
  have gc : Gr q Hk H1 Hk (upd H1 p (.lst [])) := Gr.cell s.ok.a hp
  have o1 : Ok q n Hk (upd H1 p (.lst [])) := s.ok.cell hk nq
  have c1 : Cell q B0 Hk (upd H1 p (.lst [])) p [] := ⟨hk, nq, nb (Gr.refl s.ok.a) hp, [], upd_same, .nil⟩
  refine h2 σ Hk _ n s.sg o1 _ fun d' w Hk2 H3 g2 o2 e' dw => ?_
  subst e'
  have cl2 := c1.go g2
  refine ⟨by show 2 ≤ sizeLine; rw [sizeLine_eq]; decide, fun t ob od ht => ?_⟩
  have gt : Gr q Hk2 H3 Hk2 (upd H3 t (.frz ob (.tup [.ref p, w]))) := Gr.cell o2.a ht
  have ht' : Hk2 t = none := o2.a.free ht
  have nqt : q ≠ some t := fun e => (o2.j t e).ne ht
  have gg : Gr q Hk H1 Hk2 (upd H3 t (.frz ob (.tup [.ref p, w]))) := (gc.trans g2).trans gt
  refine ⟨t, [.ref p, w], rfl, .inl (.inr ⟨_, upd_same⟩), rfl, .ref p, [w], rfl, w, [], rfl, rfl, ?_⟩
  exact k p _ Hk2 _ gg ⟨o2.cell ht' nqt, ((s.sg.mono g2.k).set i (s := .adr p) rfl).set j (s := .dat d') dw, s.gr.trans gg⟩ (cl2.go gt)
/-- a test that reads a list that still changes -/
theorem testC {i : Nat} {P : Bool → Prop} {Q : Bool → Hp → Prop} (h : TJ q (δ.set i (.dat (.list ds))) tt c P) (s : At q (n + c) δ A0 B0 σ Hk H1) (cl : Cell q B0 Hk H1 p ds) (hi : δ[i]? = some (.adr p))
    (k : ∀ b Hk' H2, P b → Gr q Hk H1 Hk' H2 → At q n δ A0 B0 σ Hk' H2 → Cell q B0 Hk' H2 p ds → Q b H2) : tt σ H1 Q := by
  obtain ⟨xs, ex, hd⟩ := cl.ex
  have hn := cl.nk
  have sm : Same Hk (upd Hk p (.lst xs)) := same_upd hn
  have smA : Same (upd Hk p (.lst xs)) H1 := fun b u z => by
    by_cases hb : b = p
    · subst hb; rw [upd_same] at z; rw [← z]; exact ex
    · rw [upd_ne hb] at z; exact s.ok.a b u z
  have ok1 : Ok q (n + c) (upd Hk p (.lst xs)) H1 := ⟨smA, fun r er => by rw [upd_ne (fun z => cl.nq (by rw [← z]; exact er))]; exact s.ok.kf r er, s.ok.j⟩
  have sg1 : Sg (upd Hk p (.lst xs)) σ (δ.set i (.dat (.list ds))) := by
    have sg := s.sg.mono sm
    refine ⟨by rw [List.length_set]; exact sg.1, fun j t ej ne => ?_⟩
    by_cases hj : i = j
    · subst hj
      have hl : i < δ.length := (List.getElem?_eq_some_iff.mp hi).1
      rw [List.getElem?_set_self hl] at ej
      cases ej
      exact ⟨.ref p, sg.getA hi, .lst upd_same (DqAll.mono sm _ _ hd)⟩
    · rw [List.getElem?_set_ne hj] at ej
      exact sg.2 j t ej ne
  refine h σ _ H1 n sg1 ok1 _ fun b Hk2 H2 g o pb => ?_
  have e2 : Hk2 p = some (.lst xs) := g.k _ _ upd_same
  have eH2 : H2 p = some (.lst xs) := g.a _ _ e2
  obtain ⟨Hr, eHr⟩ : ∃ Hr : Hp, Hr = fun b => if b = p then none else Hk2 b := ⟨_, rfl⟩
  have rp : Hr p = none := by rw [eHr]; exact if_pos rfl
  have rn : ∀ b, b ≠ p → Hr b = Hk2 b := fun b hb => by rw [eHr]; exact if_neg hb
  have s1 : Same Hk Hr := fun b u z => by
    have hb : b ≠ p := ne_of_none z hn
    rw [rn b hb]; exact g.k b u (by rw [upd_ne hb]; exact z)
  have s2 : Same Hr H2 := fun b u z => by
    by_cases hb : b = p
    · rw [hb, rp] at z; cases z
    · rw [rn b hb] at z; exact g.a b u z
  have gg : Gr q Hk H1 Hr H2 := ⟨s1, s2, g.s, fun b hb h1 => by
    by_cases hbp : b = p
    · rw [hbp]; exact rp
    · rw [rn b hbp]; exact g.f b (by rw [upd_ne hbp]; exact hb) h1, g.t⟩
  refine k b Hr H2 pb gg ⟨⟨s2, fun r er => ?_, o.j⟩, s.sg.mono s1, s.gr.trans gg⟩ ⟨rp, cl.nq, cl.nb, xs, eH2, DqAll.mono s1 _ _ hd⟩
  rw [rn r (fun hb => cl.nq (by rw [← hb]; exact er))]; exact o.kf r er
end
end Cr
namespace Cr
open PySem PySem.Spec PyProof.Rows L2
section
variable {q : Option Addr} {δ : List Sl} {tt : TT} {c : Nat}
end
end Cr

set_option Elab.async false
set_option linter.all false
set_option maxRecDepth 100000
set_option maxHeartbeats 800000
namespace Cr
open PySem PySem.Spec PyProof.Rows L2
/-! ### sums of powers -/
def tms (l : List (Int × Int)) (j : Nat) : List Int := l.map fun x => x.2 * x.1 ^ j
def psum (l : List (Int × Int)) (j : Nat) : Int := (tms l j).sum
def psums (l : List (Int × Int)) (n : Nat) : List Int := (List.range n).map (psum l)
def Kb (A B : Nat) (l : List (Int × Int)) : Prop := ∀ x ∈ l, x.1.natAbs < 2 ^ A ∧ x.2.natAbs < 2 ^ B
theorem Kb.mono {A B A' B' : Nat} {l : List (Int × Int)} (h : Kb A B l) (ha : A ≤ A') (hb : B ≤ B') : Kb A' B' l := fun x hx => ⟨Nat.lt_of_lt_of_le (h x hx).1 (Nat.pow_le_pow_right (by decide) ha), Nat.lt_of_lt_of_le (h x hx).2 (Nat.pow_le_pow_right (by decide) hb)⟩
theorem Bd.kb {B : Nat} {l : List (Int × Int)} (h : Bd B l) : Kb B B l := h
theorem psums_len (l : List (Int × Int)) (n : Nat) : (psums l n).length = n := by simp [psums]
theorem psums_get {l : List (Int × Int)} {n i : Nat} (h : i < n) : (psums l n)[i]? = some (psum l i) := by
  unfold psums; rw [List.getElem?_map, List.getElem?_range h]; rfl
theorem psums_succ (l : List (Int × Int)) (n : Nat) : psums l (n + 1) = psums l n ++ [psum l n] := by
  unfold psums; rw [List.range_succ, List.map_append]; rfl
theorem tms_zero (l : List (Int × Int)) : tms l 0 = l.map (·.2) := by
  unfold tms
  exact List.map_congr_left fun x _ => by rw [Int.pow_zero, Int.mul_one]
theorem psum_nil (j : Nat) : psum [] j = 0 := rfl
theorem psum_cons (x : Int × Int) (l : List (Int × Int)) (j : Nat) : psum (x :: l) j = x.2 * x.1 ^ j + psum l j := by
  unfold psum tms; rw [List.map_cons, List.sum_cons]
theorem psum_one (k a : Int) (j : Nat) : psum [(k, a)] j = a * k ^ j := by rw [psum_cons, psum_nil, Int.add_zero]
theorem tm_bits {x : Int × Int} {A B : Nat} (ha : x.1.natAbs < 2 ^ A) (hb : x.2.natAbs < 2 ^ B) (j : Nat) : (x.2 * x.1 ^ j).natAbs < 2 ^ (B + A * j) := by
  induction j with
  | zero => simpa using hb
  | succ j ih =>
    rw [Int.pow_succ, ← Int.mul_assoc, Int.natAbs_mul, show B + A * (j + 1) = (B + A * j) + A by rw [Nat.mul_add, Nat.mul_one, Nat.add_assoc], Nat.pow_add]
    exact Nat.mul_lt_mul'' ih ha
theorem zipD_map {α : Type} (f g : α → PyData) : ∀ l : List α, zipD (l.map f) (l.map g) = l.map fun x => .tuple [f x, g x]
  | [] => rfl
  | x :: l => by
    show .tuple [f x, g x] :: zipD (l.map f) (l.map g) = _
    rw [zipD_map f g l]; rfl
theorem zipD_ints : ∀ f g : List Int, zipD (f.map .int) (g.map .int) = (f.zip g).map pr
  | [], _ => by simp [zipD]
  | _ :: _, [] => by simp [zipD]
  | a :: f, b :: g => by
    show PyData.tuple [.int a, .int b] :: zipD (f.map .int) (g.map .int) = _
    rw [zipD_ints f g]; rfl
/-! ### math.comb -/
end Cr

set_option Elab.async false
set_option linter.all false
set_option maxRecDepth 100000
set_option maxHeartbeats 800000
namespace L2
open PySem PySem.Spec PyProof.Rows
section
variable {X : Cx}
end
end L2
namespace Cr
open PySem PySem.Spec PyProof.Rows L2
section
variable {K : PySem.W.Frag} {q : Option Addr} {n : Nat} {δ δ' : List Sl} {te ta tb tc tj : TE} {tt : TT} {c c1 c2 c3 : Nat} {Φ Φ1 Φ2 : PyData → Prop} {d : PyData} {wi : TI} {A0 B0 Hk H1 : Hp} {σ : L2.St} {D : Ends} {tz t1 : TS} {g : TG} {p : Addr} {P P1 P2 : Int → Prop}
theorem walk_zipL {H : Hp} {a b : Addr} {xs ys : List V} {ds es : List PyData} (np : ∀ d ∈ ds, notPair d = true) (h : H a = some (.lst xs)) (hd : DqAll H xs ds) (h2 : H b = some (.lst ys)) (he : DqAll H ys es) : WalkD (Itz K a b) (zipD ds es) H := fun i Hk H' s1 s2 => by
  have e := s2 _ _ (s1 _ _ h)
  have e2 := s2 _ _ (s1 _ _ h2)
  have hl1 := hd.length
  have hl2 := he.length
  rw [zipD_len]
  refine ⟨fun hi => ?_, fun hi => ⟨xs, ys, SqL.of1 e, SqL.of1 e2, by omega⟩⟩
  have g1 : xs[i]? = some (xs[i]'(by omega)) := List.getElem?_eq_getElem _
  have g2 : ys[i]? = some (ys[i]'(by omega)) := List.getElem?_eq_getElem _
  refine ⟨⟨xs, ys, _, _, SqL.of1 e, SqL.of1 e2, g1, g2⟩, fun v H2 y => ?_⟩
  obtain ⟨T, x, y, rfl, hT, rfl, f1, f2⟩ := y
  obtain ⟨d1, p1, p2⟩ := hd.get' (f1 xs (SqL.of1 e))
  obtain ⟨d2, p3, p4⟩ := he.get' (f2 ys (SqL.of1 e2))
  have g := Gr.new (q := none) (o := .tup [x, y]) s2 hT
  refine ⟨_, g, _, zipD_get ds es i d1 d2 p1 p3, .tup (.inr ⟨np d1 (List.mem_of_getElem? p1), upd_same⟩) (.cons (Dq.mono (s1.trans g.k) _ _ p2) (.cons (Dq.mono (s1.trans g.k) _ _ p4) .nil))⟩
theorem ie_zipL {ds es : List PyData} (h : E q δ ta (.list ds)) (h2 : E q δ tb (.list es)) (np : ∀ d ∈ ds, notPair d = true := by intro d hd; obtain ⟨x, _, rfl⟩ := List.mem_map.mp hd; rfl) : IE q δ (RZ.iZipA K (tCons ta (tCons tb tNil))) (zipD ds es) := fun σ H H1 n sg o R k =>
  h σ H H1 n sg o _ fun d v Hk H2 g o1 e dv => h2 σ Hk H2 n (sg.mono g.k) o1 _ fun d' v' Hk' H3 g' o2 e' dv' => by
    subst e; subst e'
    obtain ⟨a, xs, rfl, p1, p2⟩ := (Dq.mono g'.k _ _ dv).lstOf
    obtain ⟨b, ys, rfl, p3, p4⟩ := dv'.lstOf
    exact ⟨a, b, xs, ys, rfl, .inl ⟨SqL.of1 (g'.a _ _ p1), SqL.of1 (g'.a _ _ p3), k _ _ Hk' H3 (g.trans g') o2 rfl (walk_zipL np p1 p2 p3 p4)⟩⟩
theorem IE.is {wi : TI} {xs ys : List PyData} (h : IE q δ wi xs) (e : xs = ys) : IE q δ wi ys := by rw [← e]; exact h
theorem aj_two {ta : TE} {tb : TE} (h : J q δ ta c1 (IntP P1)) (h2 : J q δ tb c2 (IntP P2)) : AJ q δ (tCons ta (tCons tb tNil)) (c2 + c1) (fun sls => ∃ ds : List PyData, sls = ds.map Sl.dat ∧ ∃ i j, P1 i ∧ P2 j ∧ ds = [.int i, .int j]) :=
  (aj_int (c1 := c1) (c2 := c2) (Φr := fun sls => ∃ j, P2 j ∧ sls = [.dat (.int j)]) h ((aj_int (c1 := c2) (c2 := 0) (Φr := fun sls => sls = []) h2 ae_nil fun i sls hi e => ⟨i, hi, by rw [e]⟩).cost (by omega)) fun i sls hi ⟨j, hj, e⟩ => ⟨[.int i, .int j], by rw [e]; rfl, i, j, hi, hj, rfl⟩)
theorem j_max (h : J q δ ta c1 (IntP P1)) (h2 : J q δ tb c2 (IntP P2)) (hp : ∀ i j, P1 i → P2 j → P (if j > i then j else i)) : J q δ (tCB rMaxQ (tCons ta (tCons tb tNil))) (c2 + c1) (IntP P) :=
  j_cb (Ψ := fun ds => ∃ i j, P1 i ∧ P2 j ∧ ds = [.int i, .int j]) (aj_two h h2) fun ds ⟨i, j, hi, hj, e⟩ vs H H1 h e2 Q k => by
    subst e
    obtain ⟨v, w, rfl, h1, h2⟩ := h.two
    rw [h1.intOf, h2.intOf]
    exact ⟨i, j, rfl, k _ _ H H1 (Gr.refl e2) ⟨_, hp i j hi hj, rfl⟩ (.int _)⟩
/-- jar = _law_jar(script, e) -/
theorem q_mkJarE {i k : Nat} {E0 : XK} {ns : List Int} {t : Int} (s : At none 0 δ A0 B0 σ Hk H1) (hi : δ[i]? = some (.scr K ns)) (hj : E none δ tj (.int t)) (h0 : 0 ≤ t) (h1 : t ≤ 1000)
    (kont : ∀ p σ' Hk' H2, Same Hk Hk' → At (some p) 999999999 (δ.set k (.adr p)) Hk' H2 σ' Hk' H2 → tz D σ' H2) : tSeq (tAsg (tCall (spMk K) [] E0 (tCons (tVar i) (tCons tj tNil))) (gName k)) tz D σ H1 := by
  obtain ⟨v, a, b, rfl, hS⟩ := s.sg.2 i _ hi (fun z => by cases z)
  refine ⟨.ref b, a, hj σ Hk H1 0 s.sg s.ok _ fun d w Hk' H2 g o ed dw => ?_⟩
  subst ed
  have ew := dw.intOf
  subst ew
  refine ⟨b, ns, t, rfl, Same.seq (g.k.trans g.a) hS, h0, h1, fun p H3 sm hp hJ => ?_⟩
  have hk : Hk' p = none := o.a.free hp
  exact kont p _ Hk' H3 g.k ⟨⟨o.a.trans sm, fun r er => by cases er; exact hk, fun r er => by cases er; exact hJ⟩, (s.sg.mono g.k).set k (s := .adr p) rfl, Gr.refl (o.a.trans sm)⟩
end
/-! ### math of the changes -/
def wch (f : List Int) (k b : Int) : List Int := (f.zip (psums [(k, b)] f.length)).map fun x => x.1 + x.2
theorem wch_len (f : List Int) (k b : Int) : (wch f k b).length = f.length := by
  simp [wch, psums_len]
theorem wch_get {f : List Int} {k b : Int} {i : Nat} (h : i < f.length) : (wch f k b)[i]? = some (f[i] + b * k ^ i) := by
  unfold wch
  rw [List.getElem?_map, List.zip_eq_zipWith, List.getElem?_zipWith, List.getElem?_eq_getElem h, psums_get h]
  show some (f[i] + psum [(k, b)] i) = _
  rw [psum_one]
theorem zip_terms (l : List (Int × Int)) (j : Nat) : zipD ((tms l j).map .int) ((l.map (·.1)).map .int) = l.map fun x => pr (x.2 * x.1 ^ j, x.1) := by
  unfold tms
  rw [List.map_map, List.map_map]
  exact zipD_map _ _ l
theorem tms_succ (l : List (Int × Int)) (j : Nat) : tms l (j + 1) = l.map fun x => x.2 * x.1 ^ j * x.1 := by
  unfold tms
  exact List.map_congr_left fun x _ => by rw [Int.pow_succ, Int.mul_assoc]
theorem terms_range (l : List (Int × Int)) (j : Nat) : (List.range l.length).map (fun i => (tms l j).getD i 0 * (l.getD i (0, 0)).1) = tms l (j + 1) := by
  refine List.ext_getElem? fun i => ?_
  rw [List.getElem?_map, tms_succ, List.getElem?_map]
  by_cases h : i < l.length
  · rw [List.getElem?_range h, List.getElem?_eq_getElem h]
    simp [tms, List.getD_eq_getElem?_getD, h]
  · rw [List.getElem?_eq_none (l := List.range l.length) (by rw [List.length_range]; omega), List.getElem?_eq_none (l := l) (by omega)]; rfl
theorem Kb.one {A B : Nat} {k b : Int} (h : k.natAbs < 2 ^ A) (h2 : b.natAbs < 2 ^ B) : Kb A B [(k, b)] := fun x hx => by
  rw [List.mem_singleton.mp hx]; exact ⟨h, h2⟩
end Cr

set_option Elab.async false
set_option linter.all false
set_option maxRecDepth 100000
set_option maxHeartbeats 800000
namespace Cr
open PySem PySem.Spec PyProof.Rows L2
section
variable {K : PySem.W.Frag} {q : Option Addr} {δ : List Sl} {te ta tb : TE} {c : Nat} {P : Int → Prop}
theorem e_ten {k v : Int} (h0 : 0 ≤ k) (h1 : 4 * k ≤ 2 ^ 27) (e : (10 : Int) ^ k.toNat = v) : E q δ (tOp (rI CPowW fun i j => .int (i ^ j.toNat)) (tC (.int 10)) (tC (.int k))) (.int v) := e_is (e_pow e_int e_int (pow_ok (a := 4) (by decide) (by omega) h0 h1)) (by rw [e])
end
theorem lt_pow {x a b : Nat} (h : x < 2 ^ a) (hab : a ≤ b) : x < 2 ^ b := Nat.lt_of_lt_of_le h (Nat.pow_le_pow_right (by decide) hab)
end Cr

set_option Elab.async false
set_option linter.all false
set_option maxRecDepth 100000
set_option maxHeartbeats 800000
namespace Cr
open PySem PySem.Spec PyProof.Rows L2
section
variable {K : PySem.W.Frag} {q : Option Addr} {n : Nat} {δ δ' : List Sl} {te ta tb : TE} {tt : TT} {c c1 c2 : Nat} {Φ : PyData → Prop} {d : PyData} {A0 B0 Hk H1 : Hp} {σ : L2.St} {D : Ends} {tz : TS} {P P1 P2 : Int → Prop}
/-- x, y = (e, e2), drawn -/
theorem q_asgT2 {i j : Nat} {ta : TA} {Ψ : PyData → PyData → Prop} (h : AJ q δ ta c (fun sls => ∃ a b, sls = [.dat a, .dat b] ∧ Ψ a b)) (s : At q (n + c) δ A0 B0 σ Hk H1)
    (k : ∀ a b σ' Hk' H2, Ψ a b → Gr q Hk H1 Hk' H2 → At q n ((δ.set i (.dat a)).set j (.dat b)) A0 B0 σ' Hk' H2 → tz D σ' H2) : tSeq (tAsg (tTup ta) (gTup K 2 (gCons (gName i) (gCons (gName j) gNil)))) tz D σ H1 := by
  unfold tSeq tAsg
  exact j_tup (Ψ := fun ds => ∃ a b, ds = [a, b] ∧ Ψ a b) (h.imp fun sls ⟨a, b, e, p⟩ => ⟨[a, b], e, by simp, a, b, rfl, p⟩) σ Hk H1 n s.sg s.ok _ fun d v Hk' H2 g o ⟨ds, ⟨a, b, e, p⟩, ed⟩ dv => by
    subst e; subst ed
    exact gb_tup2 (K := K) (δ := δ) (d1 := a) (d2 := b) (vs := [i, j]) (by simp) (by simp) σ Hk' H2 v (s.sg.mono g.k) o.a dv _ fun σ' sg' _ _ => k a b σ' Hk' H2 p g ⟨o, sg', s.gr.trans g⟩
theorem aj_pair {Ψ1 Ψ2 : PyData → Prop} (h : J q δ ta c1 Ψ1) (h2 : J q δ tb c2 Ψ2) : AJ q δ (tCons ta (tCons tb tNil)) (c2 + c1) (fun sls => ∃ a b, sls = [.dat a, .dat b] ∧ Ψ1 a ∧ Ψ2 b) :=
  (aj_cons (c1 := c1) (c2 := c2) (Φr := fun sls => ∃ b, sls = [.dat b] ∧ Ψ2 b) h ((aj_cons (c1 := c2) (c2 := 0) (Φr := fun sls => sls = []) h2 ae_nil fun d sls p e => ⟨d, by rw [e], p⟩).cost (by omega)) fun d sls p ⟨b, e, p2⟩ => ⟨d, b, by rw [e], p, p2⟩)
end
/-! ### rows of integers -/
def zmul (f g : List Int) : List Int := (f.zip g).map fun x => x.1 * x.2
theorem Kb.take {A B : Nat} {l : List (Int × Int)} (h : Kb A B l) (n : Nat) : Kb A B (l.take n) := fun x hx => h x (List.mem_of_mem_take hx)
end Cr

set_option Elab.async false
set_option linter.all false
set_option maxRecDepth 100000
set_option maxHeartbeats 800000
namespace Cr
open PySem PySem.Spec PyProof.Rows L2
/-! ### numbers of ways -/
def chs : Nat → Nat → Nat
  | _, 0 => 1
  | 0, _ + 1 => 0
  | n + 1, k + 1 => chs n k + chs n (k + 1)
/-! ### sums over 0 .. n - 1 -/
def sm : Nat → (Nat → Int) → Int
  | 0, _ => 0
  | n + 1, F => sm n F + F n
theorem sm_congr {F G : Nat → Int} : ∀ {n : Nat}, (∀ i, i < n → F i = G i) → sm n F = sm n G
  | 0, _ => rfl
  | n + 1, h => by
    show sm n F + F n = sm n G + G n
    rw [sm_congr fun i hi => h i (by omega), h n (by omega)]
theorem sm_add (F G : Nat → Int) : ∀ n : Nat, sm n (fun i => F i + G i) = sm n F + sm n G
  | 0 => rfl
  | n + 1 => by
    show sm n _ + (F n + G n) = (sm n F + F n) + (sm n G + G n)
    rw [sm_add F G n]; omega
theorem sm_mul (c : Int) (F : Nat → Int) : ∀ n : Nat, sm n (fun i => c * F i) = c * sm n F
  | 0 => (Int.mul_zero c).symm
  | n + 1 => by
    show sm n _ + c * F n = c * (sm n F + F n)
    rw [sm_mul c F n, Int.mul_add]
theorem sm_zero : ∀ n : Nat, sm n (fun _ => 0) = 0
  | 0 => rfl
  | n + 1 => by show sm n _ + 0 = 0; rw [sm_zero n]; rfl
/-! ### the binomial theorem -/
/-! ### products of rows of sums -/
/-! ### rows of numbers of ways -/
end Cr

set_option Elab.async false
set_option linter.all false
set_option maxRecDepth 100000
set_option maxHeartbeats 800000
namespace Cr
open PySem PySem.Spec PyProof.Rows L2
theorem mul_bits {a b : Int} {p r : Nat} (h : a.natAbs < 2 ^ p) (h2 : b.natAbs < 2 ^ r) : (a * b).natAbs < 2 ^ (p + r) := by
  rw [Int.natAbs_mul, Nat.pow_add]; exact Nat.mul_lt_mul'' h h2
theorem CB.getD {B : Nat} {f : List Int} (h : CB B f) (i : Nat) : (f.getD i 0).natAbs < 2 ^ B := by
  by_cases hi : i < f.length
  · exact h _ (Cr.getD_mem hi)
  · rw [List.getD_eq_getElem?_getD, List.getElem?_eq_none (by omega)]
    exact Nat.pos_of_ne_zero (by simp)
section
variable {K : PySem.W.Frag} {q : Option Addr} {n : Nat} {δ δ' : List Sl} {te te2 ta tb : TE} {tt : TT} {c c1 c2 : Nat} {d d2 : PyData} {A0 B0 Hk H1 : Hp} {σ : L2.St} {D : Ends} {tz : TS} {p : Addr} {ds : List PyData} {Ψ : List Int → Prop}
end
end Cr
namespace Cr
open PySem PySem.Spec PyProof.Rows L2
section
variable {K : PySem.W.Frag} {q : Option Addr} {n : Nat} {δ : List Sl} {tt : TT} {c : Nat} {A0 B0 Hk H1 : Hp} {σ : L2.St} {D : Ends} {tz : TS} {p : Addr} {ds : List PyData}
end
end Cr

set_option Elab.async false
set_option linter.all false
set_option maxRecDepth 100000
set_option maxHeartbeats 800000
namespace L2
open PySem PySem.Spec PyProof.Rows
section
variable {X : Cx}
end
end L2
namespace Cr
open PySem PySem.Spec PyProof.Rows L2
section
variable {K : PySem.W.Frag} {q : Option Addr} {n : Nat} {δ δ' : List Sl} {te te2 ta tb : TE} {tt : TT} {c c1 c2 : Nat} {Φ : PyData → Prop} {d d2 : PyData} {A0 B0 Hk H1 : Hp} {σ : L2.St} {D : Ends} {tz : TS} {p : Addr} {ds es : List PyData} {g : TG} {wi : TI}
/-- y = e, e reads a list that still changes -/
theorem q_asgC {i j : Nat} (h : J q (δ.set i (.dat (.list ds))) te c Φ) (s : At q (n + c) δ A0 B0 σ Hk H1) (cl : Cell q B0 Hk H1 p ds) (hi : δ[i]? = some (.adr p)) (pl : ∀ d, Φ d → plain d = true)
    (k : ∀ d σ' Hk' H2, Φ d → Same Hk Hk' → At q n (δ.set j (.dat d)) A0 B0 σ' Hk' H2 → Cell q B0 Hk' H2 p ds → tz D σ' H2) : tSeq (tAsg te (gName j)) tz D σ H1 :=
  evalC h s cl hi pl fun d v Hk' H2 pd dv g a cl2 => k d _ Hk' H2 pd g.k ⟨a.ok, a.sg.set j (s := .dat d) dv, a.gr⟩ cl2
/-- a new list, not yet known -/
def JN (q : Option Addr) (δ : List Sl) (te : TE) (es : List PyData) : Prop := ∀ (σ : L2.St) (H H1 : Hp) (n : Nat), Sg H σ δ → Ok q n H H1 → ∀ Q : VK, (∀ D xs Hk H2, Gr q H H1 Hk H2 → Ok q n Hk H2 → H1 D = none → Hk D = none → H2 D = some (.lst xs) → DqAll Hk xs es → Q (.ref D) H2) → te σ H1 Q
theorem e_lcN {α : Type} {emb : α → PyData} {vs : List Nat} {xs : List α} (hw : IE q δ wi (xs.map emb)) (f : α → PyData) (hz : xs.length ≤ 1000000)
    (he : ∀ x ∈ xs, ∃ δ', GB (wipeD δ vs) g (emb x) δ' vs ∧ E q δ' te (f x)) : JN q δ (tLc wi g tYes te vs) (xs.map f) := fun σ H H1 n sg o Q k =>
  hw σ H H1 n sg o _ fun items Jt HkW H2 g0 o0 ei wk D hD => by
    have hlen : items.length = xs.length := by rw [ei, List.length_map]
    have hDk : HkW D = none := g0.a.free hD
    have hDq : q ≠ some D := fun e => (o0.j D e).ne hD
    have hD1 : H1 D = none := by
      cases e : H1 D with
      | none => rfl
      | some u => exact absurd hD (g0.t D (by rw [e]; exact fun z => by cases z))
    have g1 : Gr q HkW H2 HkW (upd H2 D (.lst [])) := Gr.cell g0.a hD
    refine ⟨fun i m H' => m = items.length - i ∧ i ≤ items.length ∧ ∃ Hk' vs, Gr q HkW H2 Hk' H' ∧ Ok q n Hk' H' ∧ Hk' D = none ∧ H' D = some (.lst vs) ∧ DqAll Hk' vs ((xs.take i).map f),
      ⟨items.length, by simp, Nat.zero_le _, HkW, [], g1, o0.cell hDk hDq, hDk, upd_same, .nil⟩, ?_⟩
    rintro i m H' ⟨rfl, hi, Hk', ys, gr, ok, hDn, hl, hd⟩
    by_cases hlt : i < items.length
    · obtain ⟨go, yl⟩ := (wk i Hk' H' gr.k ok.a).1 hlt
      refine .inr ⟨go, fun H'' => ∃ Hk3 ys', Gr q HkW H2 Hk3 H'' ∧ Ok q n Hk3 H'' ∧ Hk3 D = none ∧ H'' D = some (.lst ys') ∧ DqAll Hk3 ys' ((xs.take (i + 1)).map f), fun H'' p => ⟨items.length - (i + 1), by omega, rfl, hlt, p⟩, fun v H'' y => ?_⟩
      obtain ⟨Hk2, g2, d, ed, dx⟩ := yl v H'' y
      obtain ⟨x, ex, rfl⟩ : ∃ x, xs[i]? = some x ∧ emb x = d := by
        rw [ei, List.getElem?_map] at ed
        exact Option.map_eq_some_iff.mp ed
      obtain ⟨δ', hgb, hte⟩ := he x (List.mem_of_getElem? ex)
      have ok2 := ok.go g2
      have sgw : Sg Hk2 (wipe σ vs) (wipeD δ vs) := ((sg.mono g0.k).mono (gr.k.trans g2.k)).wipe vs
      have hD2 : Hk2 D = none := g2.f D hDn (by rw [hl]; exact fun z => by cases z)
      have hl2 : H'' D = some (.lst ys) := g2.s D _ (fun z => by cases z) hl
      have hd2 := DqAll.mono g2.k _ _ hd
      have gr2 := gr.trans g2.none_to
      have hx : xs.take (i + 1) = xs.take i ++ [x] := by
        rw [List.take_add_one, ex]; rfl
      refine hgb (wipe σ vs) Hk2 H'' v sgw g2.a dx _ fun σ' sg' hl' hk' => ⟨wipe_eq (by rw [hl', wipe_length]) hk', ?_⟩
      unfold tYes
      refine iteT (hte σ' Hk2 H'' n sg' ok2 _ fun y w Hk4 H4 g4 o4 ey dw => ?_)
      subst ey
      have hD4 : Hk4 D = none := g4.f D hD2 (by rw [hl2]; exact fun z => by cases z)
      have hl4 : H4 D = some (.lst ys) := g4.s D _ hDq hl2
      have hd4 := DqAll.mono g4.k _ _ hd2
      refine ⟨ys, hl4, ?_, Hk4, ys ++ [w], (gr2.trans g4).put hD hD4, o4.cell hD4 hDq, hD4, upd_same, ?_⟩
      · rw [hd4.length, List.length_map, List.length_take, sizeLine_eq]; omega
      · rw [hx, List.map_append]
        exact hd4.append (.cons dw .nil)
    · have e : i = items.length := by omega
      subst e
      refine .inl ⟨(wk _ Hk' H' gr.k ok.a).2 (Nat.le_refl _), ?_⟩
      rw [hlen, List.take_length] at hd
      exact k D ys Hk' H' (g0.trans gr) ok hD1 hDn hl hd
end
end Cr

set_option Elab.async false
set_option linter.all false
set_option maxRecDepth 100000
set_option maxHeartbeats 800000
namespace Cr
open PySem PySem.Spec PyProof.Rows L2
theorem getD_lt {f : List Int} {i : Nat} (h : i < f.length) : f[i]? = some (f.getD i 0) := by
  rw [List.getElem?_eq_getElem h]; simp [List.getD_eq_getElem?_getD, h]
end Cr

set_option Elab.async false
set_option linter.all false
set_option maxRecDepth 100000
set_option maxHeartbeats 800000
namespace Cr
open PySem PySem.Spec PyProof.Rows L2
section
variable {K : PySem.W.Frag} {q : Option Addr} {n : Nat} {δ δ' : List Sl} {te te2 ta tb : TE} {tl th : TO} {tt : TT} {c c1 c2 : Nat} {Φ : PyData → Prop} {d d2 : PyData} {lo hi : Option Int} {P1 P2 P : List Int → Prop}
theorem sIx_nat {l d : Nat} (n : Nat) : HT.sIx l d (some (n : Int)) = min n l := by
  unfold HT.sIx
  simp
  omega
theorem cutD_from (xs : List PyData) (n : Nat) : cutD xs (some (n : Int)) none = xs.drop n := by
  unfold cutD
  rw [sIx_nat]
  show (xs.drop (min n xs.length)).take (xs.length - min n xs.length) = _
  by_cases h : n ≤ xs.length
  · rw [Nat.min_eq_left h, List.take_of_length_le (by rw [List.length_drop]; omega)]
  · rw [Nat.min_eq_right (by omega), Nat.sub_self, List.take_zero, List.drop_eq_nil_of_le (by omega)]
end
end Cr
namespace Cr
open PySem PySem.Spec PyProof.Rows L2
section
variable {q : Option Addr} {δ : List Sl} {te : TE} {c : Nat} {P : Bool → Prop}
end
end Cr

set_option Elab.async false
set_option linter.all false
set_option maxRecDepth 100000
set_option maxHeartbeats 800000
namespace Cr
open PySem PySem.Spec PyProof.Rows L2
theorem evalP_take (f : List Int) (x : Int) : ∀ n : Nat, n ≤ f.length → evalP (f.take n) x = sm n (fun j => f.getD j 0 * x ^ j)
  | 0, _ => rfl
  | n + 1, h => by
    rw [List.take_add_one, getD_lt (by omega)]
    show evalP (f.take n ++ [f.getD n 0]) x = sm n _ + _
    rw [evalP_snoc, evalP_take f x n (by omega), List.length_take, Nat.min_eq_left (by omega)]
theorem evalP_sm (f : List Int) (x : Int) : evalP f x = sm f.length (fun j => f.getD j 0 * x ^ j) := by
  have z := evalP_take f x f.length (Nat.le_refl _)
  rwa [List.take_length] at z
/-- the sums of a polynomial's values -/
theorem wsum_dot (f : List Int) (l : List (Int × Int)) : wsum (evalP f) l = sm f.length (fun j => f.getD j 0 * psum l j) := by
  induction l with
  | nil =>
    show (0 : Int) = _
    rw [sm_congr (G := fun _ => 0) fun i _ => by rw [psum_nil, Int.mul_zero], sm_zero]
  | cons x l ih =>
    show x.2 * evalP f x.1 + wsum (evalP f) l = _
    rw [ih, evalP_sm, ← sm_mul, ← sm_add]
    exact sm_congr fun j _ => by rw [psum_cons, Int.mul_add, Int.mul_left_comm]
def chg : List (Int × Int) → Nat
  | x :: y :: r => (if x.2 * y.2 < 0 then 1 else 0) + chg (y :: r)
  | _ => 0
theorem chg_lt : ∀ {l : List (Int × Int)}, l ≠ [] → chg l < l.length
  | [], h => absurd rfl h
  | [x], _ => Nat.zero_lt_succ _
  | x :: y :: r, _ => by
    have ih := chg_lt (l := y :: r) (by simp)
    show (if _ then 1 else 0) + chg (y :: r) < (y :: r).length + 1
    split <;> omega
theorem pos_mul {a b : Int} (h : 0 < a) (h2 : 0 < b) : 0 < a * b := Int.mul_pos h h2
theorem chg_sign : ∀ {l : List (Int × Int)}, l.Pairwise (fun a b => a.1 < b.1) → (∀ x ∈ l, x.2 ≠ 0) → l ≠ [] →
    ∃ (f : List Int) (s : Int), f.length = chg l + 1 ∧ (∀ z ∈ l, 0 < s * (z.2 * evalP f z.1)) ∧ ∀ x, l.head? = some x → ∀ k : Int, k ≤ x.1 → 0 < s * (x.2 * evalP f k)
  | [], _, _, h => absurd rfl h
  | [x], _, hz, _ => by
    have h0 := hz x (by simp)
    have h1 : evalP [1] = fun k => (0 : Int) * k + 1 := rfl
    have hs : 0 < x.2 * (x.2 * 1) := by
      rw [Int.mul_one]
      by_cases h : 0 < x.2
      · exact pos_mul h h
      · have := pos_mul (a := -x.2) (b := -x.2) (by omega) (by omega)
        rwa [Int.neg_mul_neg] at this
    refine ⟨[1], x.2, rfl, fun z hz' => ?_, fun y hy k _ => ?_⟩
    · rw [List.mem_singleton.mp hz', h1]
      show 0 < x.2 * (x.2 * (0 * _ + 1))
      rw [Int.zero_mul, Int.zero_add]; exact hs
    · have e : x = y := by simpa using hy
      subst e
      rw [h1]
      show 0 < x.2 * (x.2 * (0 * _ + 1))
      rw [Int.zero_mul, Int.zero_add]; exact hs
  | x :: y :: r, hp, hz, _ => by
    have hp2 := List.pairwise_cons.mp hp
    obtain ⟨f, s, hl, ha, hb⟩ := chg_sign (l := y :: r) hp2.2 (fun z h => hz z (by simp [h])) (by simp)
    have hxy : x.1 < y.1 := hp2.1 y (by simp)
    have hy0 := hz y (by simp)
    have hx0 := hz x (by simp)
    have hyk : ∀ k : Int, k ≤ x.1 → 0 < s * (y.2 * evalP f k) := fun k hk => hb y rfl k (by omega)
    by_cases hc : x.2 * y.2 < 0
    · have ev : ∀ k : Int, evalP (conv f [-(2 * x.1 + 1), 2]) k = evalP f k * (2 * k - (2 * x.1 + 1)) := fun k => by
        rw [conv_val]
        congr 1
        show (0 * k + 2) * k + -(2 * x.1 + 1) = _
        rw [Int.zero_mul, Int.zero_add]; omega
      have fl : (conv f [-(2 * x.1 + 1), 2]).length = chg (x :: y :: r) + 1 := by
        rw [conv_len, hl]
        show chg (y :: r) + 1 + 2 - 1 = (if x.2 * y.2 < 0 then 1 else 0) + chg (y :: r) + 1
        rw [if_pos hc]; omega
      have hx : ∀ k : Int, k ≤ x.1 → 0 < s * (x.2 * evalP (conv f [-(2 * x.1 + 1), 2]) k) := fun k hk => by
        rw [ev]
        have h1 := hyk k hk
        have h2 : 0 < (2 * x.1 + 1) - 2 * k := by omega
        have h3 := pos_mul (pos_mul (a := -(x.2 * y.2)) (by omega) h1) h2
        have h4 : 0 < y.2 * y.2 := by
          by_cases h : 0 < y.2
          · exact pos_mul h h
          · have := pos_mul (a := -y.2) (b := -y.2) (by omega) (by omega)
            rwa [Int.neg_mul_neg] at this
        generalize evalP f k = w at h3 ⊢
        have e : -(x.2 * y.2) * (s * (y.2 * w)) * ((2 * x.1 + 1) - 2 * k) = (s * (x.2 * (w * (2 * k - (2 * x.1 + 1))))) * (y.2 * y.2) := by
          rw [show ((2 * x.1 + 1) - 2 * k : Int) = -(2 * k - (2 * x.1 + 1)) by omega]
          generalize (2 * k - (2 * x.1 + 1) : Int) = u
          rw [Int.neg_mul, Int.neg_mul_neg]
          simp only [Int.mul_comm, Int.mul_left_comm, Int.mul_assoc]
        rw [e] at h3
        by_cases hq : 0 < s * (x.2 * (w * (2 * k - (2 * x.1 + 1))))
        · exact hq
        · exfalso
          have := Int.mul_nonneg (a := -(s * (x.2 * (w * (2 * k - (2 * x.1 + 1)))))) (b := y.2 * y.2) (by omega) (Int.le_of_lt h4)
          rw [Int.neg_mul] at this
          omega
      refine ⟨conv f [-(2 * x.1 + 1), 2], s, fl, fun z hz' => ?_, fun w hw k hk => ?_⟩
      · rcases List.mem_cons.mp hz' with e | hm
        · rw [e]; exact hx x.1 (Int.le_refl _)
        · rw [ev]
          have h1 := ha z hm
          have h2 : 0 < 2 * z.1 - (2 * x.1 + 1) := by
            have := hp2.1 z hm
            omega
          have h3 := pos_mul h1 h2
          have e : s * (z.2 * evalP f z.1) * (2 * z.1 - (2 * x.1 + 1)) = s * (z.2 * (evalP f z.1 * (2 * z.1 - (2 * x.1 + 1)))) := by
            rw [Int.mul_assoc, Int.mul_assoc]
          rwa [e] at h3
      · have e : x = w := by simpa using hw
        subst e
        exact hx k hk
    · have hpos : 0 < x.2 * y.2 := by
        have : x.2 * y.2 ≠ 0 := Int.mul_ne_zero hx0 hy0
        omega
      have hx : ∀ k : Int, k ≤ x.1 → 0 < s * (x.2 * evalP f k) := fun k hk => by
        have h1 := hyk k hk
        have h3 := pos_mul hpos h1
        have h4 : 0 < y.2 * y.2 := by
          by_cases h : 0 < y.2
          · exact pos_mul h h
          · have := pos_mul (a := -y.2) (b := -y.2) (by omega) (by omega)
            rwa [Int.neg_mul_neg] at this
        generalize evalP f k = w at h3 ⊢
        have e : x.2 * y.2 * (s * (y.2 * w)) = (s * (x.2 * w)) * (y.2 * y.2) := by
          simp only [Int.mul_comm, Int.mul_left_comm, Int.mul_assoc]
        rw [e] at h3
        by_cases hq : 0 < s * (x.2 * w)
        · exact hq
        · exfalso
          have := Int.mul_nonneg (a := -(s * (x.2 * w))) (b := y.2 * y.2) (by omega) (Int.le_of_lt h4)
          rw [Int.neg_mul] at this
          omega
      refine ⟨f, s, ?_, fun z hz' => ?_, fun w hw k hk => ?_⟩
      · rw [hl]
        show _ = (if x.2 * y.2 < 0 then 1 else 0) + chg (y :: r) + 1
        rw [if_neg hc]; omega
      · rcases List.mem_cons.mp hz' with e | hm
        · rw [e]; exact hx x.1 (Int.le_refl _)
        · exact ha z hm
      · have e : x = w := by simpa using hw
        subst e
        exact hx k hk
theorem wsum_pos (φ : Int → Int) (s : Int) : ∀ {l : List (Int × Int)}, (∀ z ∈ l, 0 < s * (z.2 * φ z.1)) → l ≠ [] → 0 < s * wsum φ l
  | [], _, h => absurd rfl h
  | [x], h, _ => by
    show 0 < s * (x.2 * φ x.1 + 0)
    rw [Int.add_zero]; exact h x (by simp)
  | x :: y :: r, h, _ => by
    have ih := wsum_pos φ s (l := y :: r) (fun z hz => h z (by simp [hz])) (by simp)
    show 0 < s * (x.2 * φ x.1 + wsum φ (y :: r))
    rw [Int.mul_add]
    have := h x (by simp)
    omega
/-- a ledger has a sum other than 0 not behind its changes of sign -/
theorem apart {l : List (Int × Int)} (h : Led l) (hne : l ≠ []) : ∃ j, j ≤ chg l ∧ psum l j ≠ 0 := by
  obtain ⟨f, s, hl, ha, _⟩ := chg_sign h.1 h.2 hne
  have hp := wsum_pos (evalP f) s ha hne
  refine Classical.byContradiction fun hno => ?_
  have hz : ∀ j, j < f.length → psum l j = 0 := fun j hj => Classical.byContradiction fun hj0 => hno ⟨j, by omega, hj0⟩
  rw [wsum_dot, sm_congr (G := fun _ => 0) fun j hj => by rw [hz j hj, Int.mul_zero], sm_zero, Int.mul_zero] at hp
  exact absurd hp (by decide)
def IsBl (l : List (Int × Int)) (j : Nat) : Prop := psum l j ≠ 0 ∧ ∀ i, i < j → psum l i = 0
theorem isBl_of {l : List (Int × Int)} : ∀ {n : Nat}, psum l n ≠ 0 → ∃ j, j ≤ n ∧ IsBl l j := by
  intro n
  induction n using Nat.strongRecOn with
  | ind n ih =>
    intro h
    by_cases hs : ∃ i, i < n ∧ psum l i ≠ 0
    · obtain ⟨i, hi, h0⟩ := hs
      obtain ⟨j, hj, hb⟩ := ih i hi h0
      exact ⟨j, by omega, hb⟩
    · exact ⟨n, Nat.le_refl _, h, fun i hi => Classical.byContradiction fun h0 => hs ⟨i, hi, h0⟩⟩
theorem led_bl {l : List (Int × Int)} (h : Led l) (hne : l ≠ []) : ∃ j, j ≤ chg l ∧ IsBl l j := by
  obtain ⟨n, hn, h0⟩ := apart h hne
  obtain ⟨j, hj, hb⟩ := isBl_of h0
  exact ⟨j, by omega, hb⟩
theorem IsBl.uniq {l : List (Int × Int)} {i j : Nat} (h : IsBl l i) (h2 : IsBl l j) : i = j := by
  by_cases h3 : i < j
  · exact absurd (h2.2 i h3) h.1
  · by_cases h4 : j < i
    · exact absurd (h.2 j h4) h2.1
    · omega
open Classical in
noncomputable def blD (l : List (Int × Int)) : PyData := if h : ∃ j, IsBl l j then .int ((Classical.choose h : Nat) : Int) else .none
theorem blD_is {l : List (Int × Int)} {j : Nat} (h : IsBl l j) : blD l = .int (j : Int) := by
  unfold blD
  rw [dif_pos ⟨j, h⟩, (Classical.choose_spec (⟨j, h⟩ : ∃ j, IsBl l j)).uniq h]
theorem blD_nil : blD [] = .none := by
  unfold blD
  rw [dif_neg fun ⟨j, h⟩ => h.1 (psum_nil j)]
/-! ### changes of sign, told in two ways -/
/-! ### the least blind ledger -/
def sgz (z : Int) : Int := 1 - 2 * z.fmod 2
def turn (s : Nat) (f : Int) : List (Int × Int) := (List.range (s + 1)).map fun (k : Nat) => (f + (0 + (k : Int)), (chs s k : Int) * sgz ((s : Int) - (0 + (k : Int))))
theorem Led.sub {a b : List (Int × Int)} (h : Led b) (hs : a.Sublist b) : Led a := ⟨h.1.sublist hs, fun x hx => h.2 x (hs.subset hx)⟩
end Cr
namespace Cr
open PySem PySem.Spec PyProof.Rows L2
section
variable {q : Option Addr} {δ : List Sl} {te : TE}
theorem e_intB {b : Bool} (h : E q δ te (.bool b)) : E q δ (tCB rIntQ (tCons te tNil)) (.int (if b then 1 else 0)) := e_cb1 h fun vs H H1 h e Q k => by
  obtain ⟨v, rfl, h1⟩ := h.one
  rw [h1.blOf]
  exact .inr ⟨b, rfl, k _ _ H H1 (Gr.refl e) rfl (.int _)⟩
end
end Cr

set_option Elab.async false
set_option linter.all false
set_option maxRecDepth 100000
set_option maxHeartbeats 1000001
/-! zip of a tuple and a list -/
namespace Zm
open PySem PySem.Spec PyProof.Rows L2 RZ
section
variable {w : World} {prog : Program}
/-- what a step of an iterator needs and leaves -/
structure Nx (prog : Program) (w : World) (it l : Addr) (x : Value) (G G' : Heap → Prop) : Prop where
  run : ∀ (A : Around) (E : Value → Shared → Prop) (t : Shared) (Q : Value → Shared → Prop), G t.heap → (∀ g, G' g → Heap.SameBut it t.heap g → Q x { t with heap := g }) → wpAny (model prog w) A (Builtin.SmallTypes.nextOf (.ref it)) Q E t
  up : ∀ g g' : Heap, G g → (∀ o, g.get? it = some o → g'.get? it = some o) → (∀ o, g.get? l = some o → g'.get? l = some o) → G g'
  up' : ∀ g g' : Heap, G' g → (∀ o, g.get? it = some o → g'.get? it = some o) → G' g'
theorem nx_tup {it l : Addr} {k : Nat} {xs : Array Value} {x : Value} (hx : xs[k]? = some x) : Nx prog w it l x (fun g => g.IsTupleIter it l k ∧ g.IsTuple l xs) (fun g => g.IsTupleIter it l (k + 1)) where
  run := fun _ _ _ _ c q => nextOf_tuple_item c.1 c.2 hx q
  up := fun _ _ c u v => ⟨c.1.at fun o e => u o e, c.2.at fun o e => v o e⟩
  up' := fun _ _ c u => c.at fun o e => u o e
/-- .. and of one that is at its end -/
structure Nd (prog : Program) (w : World) (it l : Addr) (G : Heap → Prop) : Prop where
  run : ∀ (A : Around) (hh : A.handled = none) (E : Value → Shared → Prop) (t : Shared) (Q : Value → Shared → Prop), G t.heap → (∀ g e, Heap.ExtBut it t.heap g → (∃ o, g.get? e = some o ∧ o.cls = .type "StopIteration") → E (.ref e) { t with heap := g }) → wpAny (model prog w) A (Builtin.SmallTypes.nextOf (.ref it)) Q E t
  up : ∀ g g' : Heap, G g → (∀ o, g.get? it = some o → g'.get? it = some o) → (∀ o, g.get? l = some o → g'.get? l = some o) → G g'
theorem nd_tup {it l : Addr} {k : Nat} {xs : Array Value} (hx : xs[k]? = none) : Nd prog w it l (fun g => g.IsTupleIter it l k ∧ g.IsTuple l xs) where
  run := fun _ hh _ _ _ c q => nextOf_tuple_end hh c.1 c.2 hx q
  up := fun _ _ c u v => ⟨c.1.at fun o e => u o e, c.2.at fun o e => v o e⟩
end
section
variable {prog : Program} {w : World} {A : Around} {E : Value → Shared → Prop} {s : Shared} {z TI TO i1 i2 l1 l2 : Addr} {x y a b : Value} {G1 G1' G2 G2' : Heap → Prop}
theorem zip_step {Q : Value → Shared → Prop} (D : ZipApart z TI TO i1 i2 l1 l2) (kz : IsZip s.heap z TI TO .none) (kI : IsPair s.heap TI (.ref i1) (.ref i2)) (kO : IsPair s.heap TO a b)
    (n1 : Nx prog w i1 l1 x G1 G1') (n2 : Nx prog w i2 l2 y G2 G2') (c1 : G1 s.heap) (c2 : G2 s.heap)
    (kont : ∀ g, IsZip g z TI TO (rawInt s.heap.objs.size) → IsPair g TO x y → G1' g → G2' g → IsPair g s.heap.objs.size x y → (∀ c o, c ≠ z → c ≠ TO → c ≠ i1 → c ≠ i2 → s.heap.get? c = some o → g.get? c = some o) → Q (.ref s.heap.objs.size) { s with heap := g }) : wpAny (model prog w) A (Builtin.«zip.__next__» ⟨[.ref z], []⟩) (fun fin s' => ∃ v, fin = .done (.ret v) ∧ Q v s') E s := by
  show wpAny _ _ (field (.ref z) 2 >>= _) _ _ _; refine wpAny_bind (wpAny_field kz rfl (x := .bool false) rfl ?_); show wpAny _ _ (field (.ref z) 3 >>= _) _ _ _
  refine wpAny_bind (wpAny_field kz rfl (x := .ref TI) rfl ?_); refine wpAny_bind (wpAny_seqItems kI rfl ?_)
  show wpAny _ _ (Builtin.SmallTypes.ownedTupleIsFree (.ref z) >>= _) _ _ _; refine wpAny_bind ?_; unfold Builtin.SmallTypes.ownedTupleIsFree
  refine wpAny_bind (wpAny_field kz rfl (x := .none) rfl (wpAny_pure ?_)); simp only [if_true]; refine wpAny_bind (wpAny_rule ?_)
  refine wpAny_bind (wpAny_field kz rfl (x := .ref TO) rfl ?_); refine wpAny_bind (wpAny_setField_rec kz (by simp) fun g1 z1 r1 => ?_)
  have z1' : IsZip g1 z TI TO .ellipsis := z1
  refine wpAny_bind ?_; simp only [List.zipIdx_cons, List.zipIdx_nil, List.forIn_cons, List.forIn_nil]; refine wpAny_bind (wpAny_bind (wpAny_onRaise ?_))
  show wpAny _ _ (Builtin.SmallTypes.nextOf (.ref i1) >>= _) _ _ _; refine wpAny_bind (n1.run A _ _ _ (n1.up _ _ c1 (fun o e => r1.extBut _ _ D.i1z e) fun o e => r1.extBut _ _ D.l1z e) fun g2 d1 r2 => wpAny_pure ?_)
  have O2 : IsPair g2 TO a b := r2.extBut _ _ D.TOi1 (r1.extBut _ _ D.TOz kO)
  refine wpAny_bind (wpAny_seqItems O2 rfl ?_); refine wpAny_bind (wpAny_updateSeq_pair O2 fun g3 O3 r3 => ?_)
  have O3' : IsPair g3 TO x b := O3
  refine wpAny_bind (wpAny_letGo (wpAny_pure ?_)); refine wpAny_bind (wpAny_bind (wpAny_onRaise ?_)); show wpAny _ _ (Builtin.SmallTypes.nextOf (.ref i2) >>= _) _ _ _
  refine wpAny_bind (n2.run A _ _ _ (n2.up _ _ c2 (fun o e => r3.extBut _ _ D.TOi2.symm (r2.extBut _ _ D.i12.symm (r1.extBut _ _ D.i2z e))) fun o e => r3.extBut _ _ D.l2TO (r2.extBut _ _ D.l2i1 (r1.extBut _ _ D.l2z e))) fun g4 d2 r4 => wpAny_pure ?_)
  have O4 : IsPair g4 TO x b := r4.extBut _ _ D.TOi2 O3'
  refine wpAny_bind (wpAny_seqItems O4 rfl ?_); refine wpAny_bind (wpAny_updateSeq_pair O4 fun g5 O5 r5 => ?_)
  have O5' : IsPair g5 TO x y := O5
  refine wpAny_bind (wpAny_letGo (wpAny_pure (wpAny_pure ?_))); refine wpAny_bind (wpAny_seqItems O5' rfl ?_); refine wpAny_bind (wpAny_newTuple ?_)
  have sz : g5.objs.size = s.heap.objs.size := by rw [r5.1, r4.1, r3.1, r2.1, r1.1]
  have z5 : IsZip g5 z TI TO .ellipsis := r5.extBut _ _ D.TOz.symm (r4.extBut _ _ D.i2z.symm (r3.extBut _ _ D.TOz.symm (r2.extBut _ _ D.i1z.symm z1')))
  have k5 : ∀ c o, c ≠ z → c ≠ TO → c ≠ i1 → c ≠ i2 → s.heap.get? c = some o → g5.get? c = some o := fun c o p1 p2 p3 p4 e => r5.extBut _ _ p2 (r4.extBut _ _ p4 (r3.extBut _ _ p2 (r2.extBut _ _ p3 (r1.extBut _ _ p1 e))))
  have e1 : G1' g5 := n1.up' _ _ d1 fun o e => r5.extBut _ _ D.TOi1.symm (r4.extBut _ _ D.i12 (r3.extBut _ _ D.TOi1.symm e))
  have e2 : G2' g5 := n2.up' _ _ d2 fun o e => r5.extBut _ _ D.TOi2.symm e
  have lz : z < g5.objs.size := Heap.lt_size z5
  show wpAny _ _ (Builtin.SmallTypes.ownedTupleHandOut (.ref z) (.ref g5.objs.size) >>= _) _ _ _; refine wpAny_bind ?_; unfold Builtin.SmallTypes.ownedTupleHandOut
  have z6 : IsZip (g5.push { cls := .type "tuple", data := .seq #[x, y] }) z TI TO .ellipsis := Heap.get?_push_of_some _ z5
  refine wpAny_bind (wpAny_setField_rec z6 (by simp) fun g7 z7 r7 => ?_)
  have z7' : IsZip g7 z TI TO (rawInt g5.objs.size) := z7
  refine wpAny_setField_rec z7' (by simp) fun g8 z8 r8 => ?_
  have z8' : IsZip g8 z TI TO (rawInt g5.objs.size) := z8
  have to8 : ∀ c o, c ≠ z → g5.get? c = some o → g8.get? c = some o := fun c o p e => r8.extBut _ _ p (r7.extBut _ _ p (Heap.get?_push_of_some _ e))
  have T8 : IsPair g8 g5.objs.size x y := r8.extBut _ _ (Nat.ne_of_gt lz) (r7.extBut _ _ (Nat.ne_of_gt lz) (Heap.get?_push_size _ rfl))
  rw [sz] at z8' T8
  refine wpAny_pure ⟨_, rfl, ?_⟩; show Q (.ref g5.objs.size) _
  rw [sz]
  exact kont g8 z8' (to8 _ _ D.TOz O5') (n1.up' _ _ e1 fun o e => to8 _ o D.i1z e) (n2.up' _ _ e2 fun o e => to8 _ o D.i2z e) T8 fun c o p1 p2 p3 p4 e => to8 c o p1 (k5 c o p1 p2 p3 p4 e)
theorem zip_stop1 {Q : Fin → Shared → Prop} (hh : A.handled = none) (D : ZipApart z TI TO i1 i2 l1 l2) (kz : IsZip s.heap z TI TO .none) (kI : IsPair s.heap TI (.ref i1) (.ref i2)) (kO : IsPair s.heap TO a b) (n1 : Nd prog w i1 l1 G1) (c1 : G1 s.heap)
    (kont : ∀ g e, (∀ c o, c ≠ z → c ≠ TO → c ≠ i1 → c ≠ i2 → s.heap.get? c = some o → g.get? c = some o) → (∃ o, g.get? e = some o ∧ o.cls = .type "StopIteration") → E (.ref e) { s with heap := g }) : wpAny (model prog w) A (Builtin.«zip.__next__» ⟨[.ref z], []⟩) Q E s := by
  show wpAny _ _ (field (.ref z) 2 >>= _) _ _ _; refine wpAny_bind (wpAny_field kz rfl (x := .bool false) rfl ?_); show wpAny _ _ (field (.ref z) 3 >>= _) _ _ _
  refine wpAny_bind (wpAny_field kz rfl (x := .ref TI) rfl ?_); refine wpAny_bind (wpAny_seqItems kI rfl ?_)
  show wpAny _ _ (Builtin.SmallTypes.ownedTupleIsFree (.ref z) >>= _) _ _ _; refine wpAny_bind ?_; unfold Builtin.SmallTypes.ownedTupleIsFree
  refine wpAny_bind (wpAny_field kz rfl (x := .none) rfl (wpAny_pure ?_)); simp only [if_true]; refine wpAny_bind (wpAny_rule ?_)
  refine wpAny_bind (wpAny_field kz rfl (x := .ref TO) rfl ?_); refine wpAny_bind (wpAny_setField_rec kz (by simp) fun g1 z1 r1 => ?_)
  have z1' : IsZip g1 z TI TO .ellipsis := z1
  refine wpAny_bind ?_; simp only [List.zipIdx_cons, List.zipIdx_nil, List.forIn_cons, List.forIn_nil]; refine wpAny_bind (wpAny_bind (wpAny_onRaise ?_))
  show wpAny _ _ (Builtin.SmallTypes.nextOf (.ref i1) >>= _) _ _ _; refine wpAny_bind (n1.run A hh _ _ _ (n1.up _ _ c1 (fun o e => r1.extBut _ _ D.i1z e) fun o e => r1.extBut _ _ D.l1z e) fun g2 e r2 ⟨oe, he, ce⟩ => ?_)
  have z2 : IsZip g2 z TI TO .ellipsis := r2 _ _ D.i1z.symm z1'
  have ez : e ≠ z := fun q => by rw [q, z2] at he; cases he; simp at ce
  exact wpAny_setField_rec z2 (by simp) fun g3 _ r3 => kont g3 e (fun c o p1 _ p3 _ q => r3.extBut _ _ p1 (r2 _ _ p3 (r1.extBut _ _ p1 q))) ⟨oe, r3.extBut _ _ ez he, ce⟩
theorem zip_stop2 {Q : Fin → Shared → Prop} (hh : A.handled = none) (D : ZipApart z TI TO i1 i2 l1 l2) (kz : IsZip s.heap z TI TO .none) (kI : IsPair s.heap TI (.ref i1) (.ref i2)) (kO : IsPair s.heap TO a b) (n1 : Nx prog w i1 l1 x G1 G1') (n2 : Nd prog w i2 l2 G2) (c1 : G1 s.heap) (c2 : G2 s.heap)
    (kont : ∀ g e, (∀ c o, c ≠ z → c ≠ TO → c ≠ i1 → c ≠ i2 → s.heap.get? c = some o → g.get? c = some o) → (∃ o, g.get? e = some o ∧ o.cls = .type "StopIteration") → E (.ref e) { s with heap := g }) : wpAny (model prog w) A (Builtin.«zip.__next__» ⟨[.ref z], []⟩) Q E s := by
  show wpAny _ _ (field (.ref z) 2 >>= _) _ _ _; refine wpAny_bind (wpAny_field kz rfl (x := .bool false) rfl ?_); show wpAny _ _ (field (.ref z) 3 >>= _) _ _ _
  refine wpAny_bind (wpAny_field kz rfl (x := .ref TI) rfl ?_); refine wpAny_bind (wpAny_seqItems kI rfl ?_)
  show wpAny _ _ (Builtin.SmallTypes.ownedTupleIsFree (.ref z) >>= _) _ _ _; refine wpAny_bind ?_; unfold Builtin.SmallTypes.ownedTupleIsFree
  refine wpAny_bind (wpAny_field kz rfl (x := .none) rfl (wpAny_pure ?_)); simp only [if_true]; refine wpAny_bind (wpAny_rule ?_)
  refine wpAny_bind (wpAny_field kz rfl (x := .ref TO) rfl ?_); refine wpAny_bind (wpAny_setField_rec kz (by simp) fun g1 z1 r1 => ?_)
  have z1' : IsZip g1 z TI TO .ellipsis := z1
  refine wpAny_bind ?_; simp only [List.zipIdx_cons, List.zipIdx_nil, List.forIn_cons, List.forIn_nil]; refine wpAny_bind (wpAny_bind (wpAny_onRaise ?_))
  show wpAny _ _ (Builtin.SmallTypes.nextOf (.ref i1) >>= _) _ _ _; refine wpAny_bind (n1.run A _ _ _ (n1.up _ _ c1 (fun o e => r1.extBut _ _ D.i1z e) fun o e => r1.extBut _ _ D.l1z e) fun g2 d1 r2 => wpAny_pure ?_)
  have O2 : IsPair g2 TO a b := r2.extBut _ _ D.TOi1 (r1.extBut _ _ D.TOz kO)
  refine wpAny_bind (wpAny_seqItems O2 rfl ?_); refine wpAny_bind (wpAny_updateSeq_pair O2 fun g3 O3 r3 => ?_)
  refine wpAny_bind (wpAny_letGo (wpAny_pure ?_)); refine wpAny_bind (wpAny_bind (wpAny_onRaise ?_)); show wpAny _ _ (Builtin.SmallTypes.nextOf (.ref i2) >>= _) _ _ _
  refine wpAny_bind (n2.run A hh _ _ _ (n2.up _ _ c2 (fun o e => r3.extBut _ _ D.TOi2.symm (r2.extBut _ _ D.i12.symm (r1.extBut _ _ D.i2z e))) fun o e => r3.extBut _ _ D.l2TO (r2.extBut _ _ D.l2i1 (r1.extBut _ _ D.l2z e))) fun g4 e r4 ⟨oe, he, ce⟩ => ?_)
  have z4 : IsZip g4 z TI TO .ellipsis := r4 _ _ D.i2z.symm (r3.extBut _ _ D.TOz.symm (r2.extBut _ _ D.i1z.symm z1'))
  have ez : e ≠ z := fun q => by rw [q, z4] at he; cases he; simp at ce
  exact wpAny_setField_rec z4 (by simp) fun g5 _ r5 => kont g5 e (fun c o p1 p2 p3 p4 q => r5.extBut _ _ p1 (r4 _ _ p4 (r3.extBut _ _ p2 (r2.extBut _ _ p3 (r1.extBut _ _ p1 q))))) ⟨oe, r5.extBut _ _ ez he, ce⟩
theorem next_step {Q : Option Value → Shared → Prop} (D : ZipApart z TI TO i1 i2 l1 l2) (kz : IsZip s.heap z TI TO .none) (kI : IsPair s.heap TI (.ref i1) (.ref i2)) (kO : IsPair s.heap TO a b)
    (n1 : Nx prog w i1 l1 x G1 G1') (n2 : Nx prog w i2 l2 y G2 G2') (c1 : G1 s.heap) (c2 : G2 s.heap)
    (kont : ∀ g, IsZip g z TI TO (rawInt s.heap.objs.size) → IsPair g TO x y → G1' g → G2' g → IsPair g s.heap.objs.size x y → (∀ c o, c ≠ z → c ≠ TO → c ≠ i1 → c ≠ i2 → s.heap.get? c = some o → g.get? c = some o) → Q (some (.ref s.heap.objs.size)) { s with heap := g }) : wpAny (model prog w) A (pyNext (.ref z)) Q E s := by
  have ty : s.TypeIs (.ref z) "zip" := ⟨_, kz, rfl⟩
  unfold pyNext
  exact wpAny_bind (wpAny_attempt (wpAny_callSpecial?_slot (name := Str.ofString "__next__") ty F.slot_zip_next (wpAny_call_entry F.slot_zip_next ty F.entry_zip_next (zip_step D kz kI kO n1 n2 c1 c2 fun g p1 p2 p3 p4 p5 p6 => wpAny_pure (kont g p1 p2 p3 p4 p5 p6)) (F.args_zip_next_1 _))))
theorem next_stop {Q : Option Value → Shared → Prop} (kz : IsZip s.heap z TI TO .none)
    (run : ∀ (A' : Around) (E' : Value → Shared → Prop) (R : Fin → Shared → Prop), A'.handled = A.handled → (∀ g e, (∀ c o, c ≠ z → c ≠ TO → c ≠ i1 → c ≠ i2 → s.heap.get? c = some o → g.get? c = some o) → (∃ o, g.get? e = some o ∧ o.cls = .type "StopIteration") → E' (.ref e) { s with heap := g }) → wpAny (model prog w) A' (Builtin.«zip.__next__» ⟨[.ref z], []⟩) R E' s)
    (kont : ∀ g, (∀ c o, c ≠ z → c ≠ TO → c ≠ i1 → c ≠ i2 → s.heap.get? c = some o → g.get? c = some o) → Q none { s with heap := g }) : wpAny (model prog w) A (pyNext (.ref z)) Q E s := by
  have ty : s.TypeIs (.ref z) "zip" := ⟨_, kz, rfl⟩
  unfold pyNext
  refine wpAny_bind (wpAny_attempt (wpAny_callSpecial?_slot (name := Str.ofString "__next__") ty F.slot_zip_next (wpAny_call_entry F.slot_zip_next ty F.entry_zip_next (run _ _ _ rfl fun g e hk he => ?_) (F.args_zip_next_1 _))))
  obtain ⟨o, ho, hc⟩ := he
  exact wpAny_bind (wpAny_isInstance (T := "StopIteration") (b := true) ⟨o, ho, hc⟩ isSubtype_stop (wpAny_pure (kont _ hk)))
end
/-! ### zip(tuple, list) as it is walked -/
/-! ### the call -/
abbrev hp1 (h : Heap) (l1 : Addr) : Heap := h.push { cls := .type "tuple_iterator", data := .fields #[.ref l1, .int 0 0] }
abbrev hp2 (h : Heap) (l1 l2 : Addr) : Heap := (hp1 h l1).push { cls := .type "list_iterator", data := .fields #[.ref l2, .int 0 0] }
end Zm
namespace Cr
open PySem PySem.Spec PyProof.Rows L2 Zm
section
variable {K : PySem.W.Frag} {q : Option Addr} {δ : List Sl} {ta tb : TE}
end
end Cr

set_option Elab.async false
set_option linter.all false
set_option maxRecDepth 100000
set_option maxHeartbeats 1000001
namespace Zm
open PySem PySem.Spec PyProof.Rows L2 RZ
/-! ### zip(tuple, tuple), the items known to have no dict of their own -/
def ItzS (K : PySem.W.Frag) (a b : Addr) : It where
  go i H := ∃ (xs ys : List V) (x y : V), SqT K H a xs ∧ SqT K H b ys ∧ xs[i]? = some x ∧ ys[i]? = some y
  yld i H v H' := ∃ T x y, v = .ref T ∧ H T = none ∧ (∃ ob : Obj, ob.dict = none ∧ H' = upd H T (.frz ob (.tup [x, y]))) ∧ (∀ xs, SqT K H a xs → xs[i]? = some x) ∧ ∀ ys, SqT K H b ys → ys[i]? = some y
  stop i H := ∃ xs ys : List V, SqT K H a xs ∧ SqT K H b ys ∧ (xs.length ≤ i ∨ ys.length ≤ i)
theorem turn_zipS {P : Program} {w : World} {K : PySem.W.Frag} {elts : List Expr} {kk : Nat} {tpos : Pos} {a b z TI TO i1 i2 : Addr} (D : ZipApart z TI TO i1 i2 a b) :
    Turn P w K (.Tuple elts kk tpos) (ItzS K a b) [z, TI, TO, i1, i2] z (fun i h => IsZip h z TI TO .none ∧ IsPair h TI (.ref i1) (.ref i2) ∧ (∃ x y, IsPair h TO x y) ∧ h.IsTupleIter i1 a i ∧ h.IsTupleIter i2 b i) where
  mem := List.mem_cons_self ..
  obj := fun i h ⟨kz, kI, ⟨x, y, kO⟩, ⟨o1, e1, _, d1⟩, ⟨o2, e2, _, d2⟩⟩ c hc => by
    simp only [List.mem_cons, List.mem_nil_iff, or_false] at hc
    rcases hc with rfl | rfl | rfl | rfl | rfl
    · exact ⟨_, kz, fun v q => nomatch q⟩
    · exact ⟨_, kI, fun v q => nomatch q⟩
    · exact ⟨_, kO, fun v q => nomatch q⟩
    · exact ⟨o1, e1, fun v q => by rw [d1] at q; cases q⟩
    · exact ⟨o2, e2, fun v q => by rw [d2] at q; cases q⟩
  keep := fun i h h' ⟨kz, kI, ⟨x, y, kO⟩, k1, k2⟩ u => ⟨u z (by simp) _ kz, u TI (by simp) _ kI, ⟨x, y, u TO (by simp) _ kO⟩, k1.at fun o e => u i1 (by simp) o e, k2.at fun o e => u i2 (by simp) o e⟩
  item := by
    rintro X rfl rfl rfl hc i pins s σ H E I hf ⟨kz, kI, ⟨x0, y0, kO⟩, k1, k2⟩ ⟨xs, ys, x, y, qx, qy, hx, hy⟩
    obtain ⟨its, rv, p, _⟩ := I.tuple qx
    obtain ⟨its2, rv2, p2, _⟩ := I.tuple qy
    obtain ⟨u, hu, ru⟩ := rv.get hx; obtain ⟨u2, hu2, ru2⟩ := rv2.get hy
    have lz : z < s.heap.objs.size := Heap.lt_size kz
    refine next_step D kz kI kO (nx_tup (k := i) (xs := its.toArray) (x := u) (by simpa using hu)) (nx_tup (k := i) (xs := its2.toArray) (x := u2) (by simpa using hu2)) ⟨k1, p⟩ ⟨k2, p2⟩ fun g z' TO' k1' k2' hT hk => ?_
    refine ⟨_, rfl, wpAny_letOwnedTupleGo_zip (s := { s with heap := g }) z' fun g2 z2 sb => ?_⟩
    have T2 : g2.get? s.heap.objs.size = some { cls := .type "tuple", data := .seq #[u, u2] } := (sb.2 _ (Nat.ne_of_gt lz)).trans hT
    have nw : ObjOk X.prog X.w (upd H s.heap.objs.size (.frz { cls := .type "tuple", data := .seq #[u, u2] } (.tup [x, y]))) g2 s.heap.objs.size (.frz { cls := .type "tuple", data := .seq #[u, u2] } (.tup [x, y])) := ⟨T2, by show 2 ≤ sizeLine; decide, [u, u2], .cons ru (.cons ru2 .nil), ⟨_, T2, rfl, _, rfl⟩⟩
    have I1 : Inv X pins σ (upd H s.heap.objs.size (.frz { cls := .type "tuple", data := .seq #[u, u2] } (.tup [x, y]))) { s with heap := g2 } := I.turnedNew (t' := s.toks) (ch := [z, TI, TO, i1, i2]) (fun c o hb e => (sb.2 c fun e' => hb (by simp [e'])).trans (hk c o (fun e' => hb (by simp [e'])) (fun e' => hb (by simp [e'])) (fun e' => hb (by simp [e'])) (fun e' => hb (by simp [e'])) e)) hf (Nat.le_refl _) nw
    refine ⟨.ref s.heap.objs.size, _, I1, rfl, ⟨_, x, y, rfl, I.hok.fresh (Nat.le_refl _), ⟨_, rfl, rfl⟩, fun l hl => by rw [I.tuple_inj hl qx]; exact hx, fun l hl => by rw [I.tuple_inj hl qy]; exact hy⟩, ⟨z2, (sb.2 _ D.TIz).trans (hk _ _ D.TIz D.TITO D.TIi1 D.TIi2 kI), ⟨u, u2, (sb.2 _ D.TOz).trans TO'⟩, k1'.at fun o e => (sb.2 _ D.i1z).trans e, k2'.at fun o e => (sb.2 _ D.i2z).trans e⟩, fun c hcm => ?_⟩
    have hlt : c < s.heap.objs.size := by
      have hcm' := hcm
      simp only [List.mem_cons, List.mem_nil_iff, or_false] at hcm'
      rcases hcm' with rfl | rfl | rfl | rfl | rfl
      · exact lz
      · exact Heap.lt_size kI
      · exact Heap.lt_size kO
      · exact k1.elim fun _ e => Heap.lt_size e.1
      · exact k2.elim fun _ e => Heap.lt_size e.1
    rw [upd_ne (Nat.ne_of_lt hlt)]; exact (hf c hcm).1
  done := by
    rintro X rfl rfl rfl hc i pins s σ H E I hf ⟨kz, kI, ⟨x0, y0, kO⟩, k1, k2⟩ ⟨xs, ys, qx, qy, hend⟩
    obtain ⟨its, rv, p, _⟩ := I.tuple qx
    obtain ⟨its2, rv2, p2, _⟩ := I.tuple qy
    have m1 := rv.length
    have m2 := rv2.length
    have hh := I.ok.hd hc
    refine next_stop kz (i1 := i1) (i2 := i2) (fun A' E' R hA' kont => ?_) fun g hk => ⟨rfl, I.turnedL (t' := s.toks) (ch := [z, TI, TO, i1, i2]) (fun c o hb e => hk c o (fun e' => hb (by simp [e'])) (fun e' => hb (by simp [e'])) (fun e' => hb (by simp [e'])) (fun e' => hb (by simp [e'])) e) hf⟩
    by_cases h1 : xs.length ≤ i
    · exact zip_stop1 (hA'.trans hh) D kz kI kO (nd_tup (k := i) (xs := its.toArray) (by simp; omega)) ⟨k1, p⟩ kont
    · have h2 : ys.length ≤ i := by rcases hend with h | h; exact absurd h h1; exact h
      exact zip_stop2 (hA'.trans hh) D kz kI kO (nx_tup (k := i) (xs := its.toArray) (x := its[i]'(by omega)) (by first | (simp; done) | (simp; omega))) (nd_tup (k := i) (xs := its2.toArray) (by simp; omega)) ⟨k1, p⟩ ⟨k2, p2⟩ kont
  self := fun A i s Q E st q => wpAny_pyIter_zip st.1 q
/-! ### the call -/
abbrev hp2S (h : Heap) (l1 l2 : Addr) : Heap := (hp1 h l1).push { cls := .type "tuple_iterator", data := .fields #[.ref l2, .int 0 0] }
abbrev hp3S (h : Heap) (l1 l2 : Addr) : Heap := (hp2S h l1 l2).push { cls := .type "tuple", data := .seq #[.ref h.objs.size, .ref (hp1 h l1).objs.size] }
abbrev hp4S (h : Heap) (l1 l2 : Addr) : Heap := (hp3S h l1 l2).push { cls := .type "tuple", data := .seq #[.none, .none] }
abbrev hp5S (h : Heap) (l1 l2 : Addr) : Heap := (hp4S h l1 l2).push { cls := .type "zip", data := .fields #[.none, .bool false, .bool false, .ref (hp2S h l1 l2).objs.size, .ref (hp3S h l1 l2).objs.size] }
theorem meets_newS (l1 l2 : Addr) (xs ys : Array Value) : Meets (Builtin.«zip.__new__» ⟨[.type "zip", .ref l1, .ref l2], []⟩) (fun _ R s => s.heap.IsTuple l1 xs ∧ s.heap.IsTuple l2 ys ∧ R (.ok (.ret (.ref (hp4S s.heap l1 l2).objs.size))) { s with heap := hp5S s.heap l1 l2 }) :=
  .of_wp fun prog w A R s ⟨k1, k2, k⟩ => by
    obtain ⟨hp, g, d, tk, os⟩ := s; have hsub := sub_zip
    have a1 : Heap.IsTuple (Shared.heap ⟨hp, g, d, tk, os⟩) l1 xs := k1
    have a2 : Heap.IsTuple (Shared.heap ⟨hp.push { cls := .type "tuple_iterator", data := .fields #[.ref l1, .int 0 0] }, g, d, tk, os⟩) l2 ys := Heap.IsTuple.push k2 _
    wp_walk using wpAny_pyIter_tuple a1, wpAny_pyIter_tuple a2
    exact ⟨_, rfl, k⟩
theorem call_zipS {prog : Program} {w : World} {A : Around} {E : Value → Shared → Prop} {s : Shared} {l1 l2 : Addr} {xs ys : Array Value} {Q : Value → Shared → Prop} (k1 : s.heap.IsTuple l1 xs) (k2 : s.heap.IsTuple l2 ys)
    (kont : ∀ g n, n = s.heap.objs.size → IsZip g (n + 4) (n + 2) (n + 3) .none → IsPair g (n + 2) (.ref n) (.ref (n + 1)) → IsPair g (n + 3) .none .none → g.IsTupleIter n l1 0 → g.IsTupleIter (n + 1) l2 0 → (∀ c o, s.heap.get? c = some o → g.get? c = some o) → Q (.ref (n + 4)) { s with heap := g }) : wpAny (model prog w) A (call (.type "zip") [.ref l1, .ref l2]) Q E s := by
  refine callType_new F.called_zip (by decide) (F.typeCall_zip_2 _ _) (F.newCall_zip_2 _ _) (fun obj => F.args_object_init_3 obj _ _) F.entry_zip_new (meets_newS l1 l2 xs ys) ⟨k1, k2, ?_⟩
  have s1 : (hp1 s.heap l1).objs.size = s.heap.objs.size + 1 := Heap.size_push ..
  have s2 : (hp2S s.heap l1 l2).objs.size = s.heap.objs.size + 2 := (Heap.size_push ..).trans (by rw [s1])
  have s3 : (hp3S s.heap l1 l2).objs.size = s.heap.objs.size + 3 := (Heap.size_push ..).trans (by rw [s2])
  have s4 : (hp4S s.heap l1 l2).objs.size = s.heap.objs.size + 4 := (Heap.size_push ..).trans (by rw [s3])
  have q4 : (hp5S s.heap l1 l2).get? (hp4S s.heap l1 l2).objs.size = some _ := Heap.get?_push_size _ rfl
  have q3 : (hp5S s.heap l1 l2).get? (hp3S s.heap l1 l2).objs.size = some _ := Heap.get?_push_of_some _ (Heap.get?_push_size _ rfl)
  have q2 : (hp5S s.heap l1 l2).get? (hp2S s.heap l1 l2).objs.size = some _ := Heap.get?_push_of_some _ (Heap.get?_push_of_some _ (Heap.get?_push_size _ rfl))
  have q1 : (hp5S s.heap l1 l2).get? (hp1 s.heap l1).objs.size = some _ := Heap.get?_push_of_some _ (Heap.get?_push_of_some _ (Heap.get?_push_of_some _ (Heap.get?_push_size _ rfl)))
  have q0 : (hp5S s.heap l1 l2).get? s.heap.objs.size = some _ := Heap.get?_push_of_some _ (Heap.get?_push_of_some _ (Heap.get?_push_of_some _ (Heap.get?_push_of_some _ (Heap.get?_push_size _ rfl))))
  show _ ∧ _
  rw [s2, s3, s4] at q4; rw [s1, s2] at q2; rw [s3] at q3; rw [s1] at q1; rw [s4]
  exact ⟨⟨_, q4, rfl⟩, kont _ _ rfl q4 q2 q3 ⟨_, q0, rfl, rfl⟩ ⟨_, q1, rfl, rfl⟩ fun c o e => Heap.get?_push_of_some _ (Heap.get?_push_of_some _ (Heap.get?_push_of_some _ (Heap.get?_push_of_some _ (Heap.get?_push_of_some _ e))))⟩
def iZipS (K : PySem.W.Frag) (ta : TA) : TI := fun σ H R => ta σ H fun vs H1 => ∃ a b xs ys, vs = [.ref a, .ref b] ∧ SqT K H1 a xs ∧ SqT K H1 b ys ∧ R (ItzS K a b) H1
theorem pi_zipS {X : Cx} {K : PySem.W.Frag} {e e2 : Expr} {ta : TA} {p pos tpos : Pos} {elts : List Expr} {kk : Nat} (hK : X.K = K) (hg : Gl X "zip") (hm : X.mg "zip" = none) (ha : PA X [e, e2] ta) (hs : starEach [e, e2] X.env = (false, eval e X.env) :: starEach [e2] X.env := by rfl) (hpl : (backTo pos (starEach [e2] X.env)).any (·.1) = false := by rfl) :
    PI X (.Tuple elts kk tpos) (.Call (.Name "zip" p) [e, e2] [] pos) (iZipS K ta) := by
  subst hK
  refine ⟨fun pins s σ H R I h => Call_ (ld_blt I hg hm PyProof.Rows.boot_zip (PyProof.Rows.callWith_type1 (thn (ha.run pos pins s σ H _ I h) fun us s1 ⟨vs, H1, I1, r1, q1⟩ => ?_) hs hpl))⟩
  obtain ⟨a, b, xs, ys, rfl, qx, qy, q⟩ := q1
  obtain ⟨u1, u2, rfl, ra, rb⟩ : ∃ u1 u2, us = [u1, u2] ∧ RelV (.ref a) u1 ∧ RelV (.ref b) u2 := by
    cases r1 with
    | cons r rr => cases rr with
      | cons r' rr => cases rr; exact ⟨_, _, rfl, r, r'⟩
  cases ra; cases rb
  obtain ⟨its, rv, p1, _⟩ := I1.tuple qx
  obtain ⟨its2, rv2, p2, _⟩ := I1.tuple qy
  obtain ⟨o1, ho1, _⟩ := id p1
  refine call_zipS (show s1.heap.IsTuple a its.toArray from p1) p2 fun g n en kz kI kO k1 k2 hk => wpAny_pyIter_zip kz ?_
  have I2 : Inv X pins σ H1 { s1 with heap := g } := I1.kept (t' := s1.toks) hk
  subst en
  refine ⟨s1.heap.objs.size + 4, [s1.heap.objs.size + 4, s1.heap.objs.size + 2, s1.heap.objs.size + 3, s1.heap.objs.size, s1.heap.objs.size + 1], _, _, H1, rfl, I2, turn_zipS (PySem.W.ktu_apart s1.heap.objs.size a b (Heap.lt_size ho1) (by obtain ⟨o2, ho2, _⟩ := id p2; exact Heap.lt_size ho2)), ⟨kz, kI, ⟨_, _, kO⟩, k1, k2⟩, fun c hcm => ?_, q⟩
  have hd : c = s1.heap.objs.size + 4 ∨ c = s1.heap.objs.size + 2 ∨ c = s1.heap.objs.size + 3 ∨ c = s1.heap.objs.size + 0 ∨ c = s1.heap.objs.size + 1 := by simpa using hcm
  have hle : s1.heap.objs.size ≤ c := (by rcases hd with z | z | z | z | z <;> rw [z] <;> exact Nat.le_add_right _ _); exact I1.fpOk hle (I1.hok.fresh hle)
end Zm
namespace Cr
open PySem PySem.Spec PyProof.Rows L2 Zm
section
variable {K : PySem.W.Frag} {q : Option Addr} {δ : List Sl} {ta tb : TE}
theorem walk_zipS {H : Hp} {a b : Addr} {xs ys : List V} {ds es : List PyData} (h : Tp H a xs ds) (hd : DqAll H xs ds) (h2 : Tp H b ys es) (he : DqAll H ys es) : WalkD (Zm.ItzS K a b) (zipD ds es) H := fun i Hk H' s1 s2 => by
  have e := ((h.mono s1).mono s2).rd
  have e2 := ((h2.mono s1).mono s2).rd
  have hl1 := hd.length
  have hl2 := he.length
  rw [zipD_len]
  refine ⟨fun hi => ?_, fun hi => ⟨xs, ys, .inl e, .inl e2, by omega⟩⟩
  have g1 : xs[i]? = some (xs[i]'(by omega)) := List.getElem?_eq_getElem _
  have g2 : ys[i]? = some (ys[i]'(by omega)) := List.getElem?_eq_getElem _
  refine ⟨⟨xs, ys, _, _, .inl e, .inl e2, g1, g2⟩, fun v H2 y => ?_⟩
  obtain ⟨T, x, y, rfl, hT, ⟨ob, od, rfl⟩, f1, f2⟩ := y
  obtain ⟨d1, p1, p2⟩ := hd.get' (f1 xs (.inl e))
  obtain ⟨d2, p3, p4⟩ := he.get' (f2 ys (.inl e2))
  have g := Gr.new (q := none) (o := .frz ob (.tup [x, y])) s2 hT
  refine ⟨_, g, _, zipD_get ds es i d1 d2 p1 p3, .tup (Tp.new od) (.cons (Dq.mono (s1.trans g.k) _ _ p2) (.cons (Dq.mono (s1.trans g.k) _ _ p4) .nil))⟩
theorem ie_zipS {ds es : List PyData} (h : E q δ ta (.tuple ds)) (h2 : E q δ tb (.tuple es)) : IE q δ (Zm.iZipS K (tCons ta (tCons tb tNil))) (zipD ds es) := fun σ H H1 n sg o R k =>
  h σ H H1 n sg o _ fun d v Hk H2 g o1 e dv => h2 σ Hk H2 n (sg.mono g.k) o1 _ fun d' v' Hk' H3 g' o2 e' dv' => by
    subst e; subst e'
    obtain ⟨a, xs, rfl, p1, p2⟩ := (Dq.mono g'.k _ _ dv).tupOf
    obtain ⟨b, ys, rfl, p3, p4⟩ := dv'.tupOf
    exact ⟨a, b, xs, ys, rfl, .inl (p1.mono g'.a).rd, .inl (p3.mono g'.a).rd, k _ _ Hk' H3 (g.trans g') o2 rfl (walk_zipS p1 p2 p3 p4)⟩
end
end Cr

set_option Elab.async false
set_option linter.all false
set_option maxRecDepth 100000
set_option maxHeartbeats 800000
namespace Cr
open PySem PySem.Spec PyProof.Rows L2
/-! ### xs[-2::-1] of a list -/
section
variable {K : PySem.W.Frag} {q : Option Addr} {δ : List Sl} {te ta tb : TE}
theorem DqAll.dropLast {H : Hp} : ∀ {vs : List V} {ds : List PyData}, DqAll H vs ds → DqAll H vs.dropLast ds.dropLast
  | _, _, .nil => .nil
  | _, _, .cons h .nil => .nil
  | _, _, .cons h (.cons h2 t) => by
    rw [List.dropLast_cons₂, List.dropLast_cons₂]
    exact .cons h (DqAll.dropLast (.cons h2 t))
/-! ### list(range(..)), tuple(range(..)) -/
end
end Cr

set_option Elab.async false
set_option linter.all false
set_option maxRecDepth 100000
set_option maxHeartbeats 800000
namespace Cr
open PySem PySem.Spec PyProof.Rows L2
/-! x - r times a polynomial, and back -/
def ml (c r : Int) : List Int → List Int
  | [] => [c]
  | a :: f => (c - r * a) :: ml a r f
def mlin (f : List Int) (r : Int) : List Int := ml 0 r f
/-! products over lists of keys -/
def lagr (l : List Int) : List Int := l.foldl mlin [1]
def others (l : List Int) (k : Int) : List Int := l.filter fun x => decide (x ≠ k)
def lag (l : List Int) (k : Int) : List Int := lagr (others l k)
/-! what is shared out, and the only ledger on keys -/
def dotI (f g : List Int) : Int := (zmul f g).sum
def share (keys nums : List Int) (k : Int) : Int × Int := (dotI (lag keys k) nums, evalP (lag keys k) k)
/-! bounds -/
/-! the loop of divided -/
end Cr
namespace L2
open PySem PySem.Spec PyProof.Rows
theorem k_any {X : Cx} {K : PySem.W.Frag} (h : X.K = K) (hc : X.calm = true) : CallR X (.builtin "any") (rAny K) := h ▸ cr_any hc
end L2
namespace Cr
open PySem PySem.Spec PyProof.Rows L2
section
variable {K : PySem.W.Frag} {q : Option Addr} {n : Nat} {δ : List Sl} {te : TE} {Φ : PyData → Prop} {d1 d2 d3 : PyData}
theorem rc_any {bs : List Bool} (hp : Φ (.bool (bs.any id))) : RCJ (rAny K) [.list (bs.map .bool)] Φ := fun vs H H1 h e Q k => by
  obtain ⟨v, rfl, h1⟩ := h.one
  obtain ⟨a, xs, rfl, h2, h3⟩ := h1.lstOf
  have e2 := DqAll.bls h3
  subst e2
  exact ⟨a, bs, rfl, .inl (.inl (e _ _ h2)), k _ _ H H1 (Gr.refl e) hp (.bl _)⟩
theorem e_any {bs : List Bool} (h : E q δ te (.list (bs.map .bool))) : E q δ (tCB (rAny K) (tCons te tNil)) (.bool (bs.any id)) := e_cb1 h (rc_any rfl)
/-- key, (top, bottom) -/
theorem gb_tupN {i j k : Nat} {vs : List Nat} (h : i ∈ vs) (h' : j ∈ vs) (h2 : k ∈ vs) : GB δ (gTup K 2 (gCons (gName i) (gCons (gTup K 2 (gCons (gName j) (gCons (gName k) gNil))) gNil))) (.tuple [d1, .tuple [d2, d3]]) (((δ.set i (.dat d1)).set j (.dat d2)).set k (.dat d3)) vs := fun σ H H1 v sg s dv Q kk => by
  obtain ⟨a, xs, rfl, p1, p2⟩ := dv.tupOf
  obtain ⟨x, y, rfl, dx, dy⟩ := p2.two
  obtain ⟨b, ys, rfl, p3, p4⟩ := dy.tupOf
  obtain ⟨u, w, rfl, du, dw⟩ := p4.two
  refine ⟨a, [x, _], rfl, .inl (p1.mono s).rd, rfl, x, [_], rfl, _, [], rfl, b, [u, w], rfl, .inl (p3.mono s).rd, rfl, u, [w], rfl, w, [], rfl, rfl, ?_⟩
  refine ⟨rfl, kk _ (((sg.set i (s := .dat d1) dx).set j (s := .dat d2) du).set k (s := .dat d3) dw) (by rw [List.length_set, List.length_set, List.length_set]) fun l hl => ?_⟩
  rw [List.getElem?_set_ne (fun e => hl (by rw [← e]; exact h2)), List.getElem?_set_ne (fun e => hl (by rw [← e]; exact h')), List.getElem?_set_ne (fun e => hl (by rw [← e]; exact h))]
end
end Cr
namespace Cr
open PySem PySem.Spec PyProof.Rows L2
theorem eqvAll_pols : ∀ f g : List Int, PyData.eqvAll (f.map .int) (g.map .int) = decide (f = g)
  | [], [] => by simp [PyData.eqvAll]
  | [], _ :: _ => by simp [PyData.eqvAll]
  | _ :: _, [] => by simp [PyData.eqvAll]
  | a :: f, b :: g => by
    show PyData.eqvAll (.int a :: f.map .int) (.int b :: g.map .int) = _
    have e : (a == b) = decide (a = b) := by by_cases h : a = b <;> simp [h]
    simp [PyData.eqvAll, PyData.eqv, eqvAll_pols f g, e]
theorem eqv_pols (f g : List Int) : PyData.eqv (pol f) (pol g) = decide (f = g) := by
  simp [pol, PyData.eqv, eqvAll_pols]
end Cr
namespace Cr
open PySem PySem.Spec PyProof.Rows L2
theorem CB.take {l : List Int} {B : Nat} (h : CB B l) (n : Nat) : CB B (l.take n) := fun a ha => h a (List.mem_of_mem_take ha)
theorem CB.drop {l : List Int} {B : Nat} (h : CB B l) (n : Nat) : CB B (l.drop n) := fun a ha => h a (List.mem_of_mem_drop ha)
section
variable {K : PySem.W.Frag} {q : Option Addr} {n : Nat} {δ : List Sl} {te : TE} {A0 B0 Hk H1 : Hp} {σ : L2.St} {D : Ends} {tz t : TS}
/-- what follows is shown once, from what a statement leaves -/
theorem q_cut {I : L2.St → Hp → Prop} (h1 : ∀ D' : Ends, (∀ σ' H', I σ' H' → D'.nx σ' H') → t D' σ H1) (h2 : ∀ σ' H', I σ' H' → tz D σ' H') : tSeq t tz D σ H1 := h1 _ h2
end
end Cr

set_option Elab.async false
set_option linter.all false
set_option maxRecDepth 100000
set_option maxHeartbeats 3200000
/-! sorted(set(list of integers)) -/
namespace Cr
open PySem PySem.Spec PyProof.Rows L2
section
variable {P : Program} {w : World} {A : Around} {E : Value → Shared → Prop} {s : Shared}
end
section
variable {K : PySem.W.Frag} {q : Option Addr} {δ : List Sl} {te : TE} {c : Nat} {P : List Int → Prop}
end
end Cr

set_option Elab.async false
set_option linter.all false
set_option maxRecDepth 100000
set_option maxHeartbeats 800000
namespace Cr
open PySem PySem.Spec PyProof.Rows L2
section
variable {K : PySem.W.Frag} {q : Option Addr} {n : Nat} {δ δ' : List Sl} {te ta tb tn ti : TE} {tt : TT} {c c1 c2 : Nat} {g : TG} {P : Bool → Prop}
end
end Cr

set_option Elab.async false
set_option linter.all false
set_option maxRecDepth 100000
set_option maxHeartbeats 800000
namespace Cr
open PySem PySem.Spec PyProof.Rows L2
/-! a ledger is found back on keys that hold its own -/
end Cr

set_option Elab.async false
set_option linter.all false
set_option maxRecDepth 100000
set_option maxHeartbeats 800000
namespace Cr
open PySem PySem.Spec PyProof.Rows L2
/-! enumerate over a list -/
theorem k_enumL {X : Cx} {K : PySem.W.Frag} {e : Expr} {ta : TA} {p pos tpos : Pos} {elts : List Expr} {kk : Nat} (hK : X.K = K) (hg : Gl X "enumerate") (hm : X.mg "enumerate" = none) (ha : PA X [e] ta) (hs : starEach [e] X.env = [(false, eval e X.env)] := by rfl) :
    PI X (.Tuple elts kk tpos) (.Call (.Name "enumerate" p) [e] [] pos) (iEnum K ta) := hK ▸ pi_enum hg hm ha hs
section
variable {K : PySem.W.Frag} {q : Option Addr} {δ : List Sl} {te : TE}
theorem walk_enumL {H : Hp} {a : Addr} {xs : List V} {ds : List PyData} (h : H a = some (.lst xs)) (hd : DqAll H xs ds) : WalkD (Ite K a) (enumD ds) H := fun i Hk H' s1 s2 => by
  have e := SqL.of1 (K := K) (s2 _ _ (s1 _ _ h))
  rw [enumD_len]
  refine ⟨fun hi => ⟨⟨xs, xs[i]'(by rw [hd.length]; exact hi), e, List.getElem?_eq_getElem _⟩, fun v H2 y => ?_⟩, fun hi => ⟨xs, e, by rw [hd.length]; exact hi⟩⟩
  obtain ⟨T, x, rfl, hT, rfl, y2⟩ := y
  obtain ⟨d, g1, g2⟩ := hd.get' (y2 xs e)
  have g := Gr.new (q := none) (o := .tup [.int (i : Nat), x]) s2 hT
  exact ⟨_, g, _, enumD_get g1, .tup (.inr ⟨rfl, upd_same⟩) (.cons (.int _) (.cons (Dq.mono (s1.trans g.k) _ _ g2) .nil))⟩
theorem ie_enumL {ds : List PyData} (h : E q δ te (.list ds)) : IE q δ (iEnum K (tCons te tNil)) (enumD ds) := fun σ H H1 n sg o R k =>
  h σ H H1 n sg o _ fun d v Hk H2 g o1 ed dv => by
    subst ed
    obtain ⟨a, xs, rfl, h1, h2⟩ := dv.lstOf
    exact ⟨a, xs, rfl, SqL.of1 (g.a _ _ h1), k _ _ Hk H2 g o1 rfl (walk_enumL h1 h2)⟩
end
end Cr
namespace Cr
open PySem PySem.Spec PyProof.Rows L2
end Cr

set_option Elab.async false
set_option linter.all false
set_option maxRecDepth 100000
set_option maxHeartbeats 800000
namespace Cr
open PySem PySem.Spec PyProof.Rows L2
section
variable {K : PySem.W.Frag} {q : Option Addr} {n : Nat} {δ δ' : List Sl} {te ta tb tn ti : TE} {tt : TT} {c c1 c2 : Nat} {g : TG} {P : Bool → Prop} {Φ : PyData → Prop}
end
end Cr

set_option Elab.async false
set_option linter.all false
set_option maxRecDepth 100000
set_option maxHeartbeats 800000
namespace Cr
open PySem PySem.Spec PyProof.Rows L2
section
variable {K : PySem.W.Frag} {q : Option Addr} {n : Nat} {δ δ' : List Sl} {te te2 ta tb tn ti : TE} {tt tu : TT} {c c1 c2 : Nat} {g : TG} {P : Bool → Prop} {Φ : PyData → Prop}
theorem eqv_lst_nil (f : List PyData) : PyData.eqv (.list f) (.list []) = f.isEmpty := by
  cases f <;> simp [PyData.eqv, PyData.eqvAll]
theorem cutD_m1 (xs : List PyData) : cutD xs none (some (-1)) = xs.dropLast := by
  unfold cutD
  have h0 : HT.sIx xs.length 0 none = 0 := rfl
  have h1 : HT.sIx xs.length xs.length (some (-1)) = xs.length - 1 := by
    unfold HT.sIx
    simp
    omega
  rw [h0, h1, List.drop_zero, Nat.sub_zero, List.dropLast_eq_take]
theorem Led.asc {l : List (Int × Int)} (h : Led l) : (l.map (·.1)).Pairwise (· < ·) := List.pairwise_map.mpr h.1
end
end Cr

set_option Elab.async false
set_option linter.all false
set_option maxRecDepth 100000
set_option maxHeartbeats 800000
namespace Cr
open PySem PySem.Spec PyProof.Rows L2
/-! ledgers whose first sums are 0; each ledger has a brief -/
/-! ### a window of keys is moved -/
end Cr

set_option Elab.async false
set_option linter.all false
set_option maxRecDepth 100000
set_option maxHeartbeats 800000
namespace Cr
open PySem PySem.Spec PyProof.Rows L2
section
variable {K : PySem.W.Frag} {q : Option Addr} {n : Nat} {δ δ' : List Sl} {te te2 ta tb tn ti : TE} {tt tu : TT} {c c1 c2 : Nat} {g : TG} {P : Bool → Prop} {Φ : PyData → Prop}
theorem Kb.app2 {A B : Nat} {a b : List (Int × Int)} (h1 : Kb A B a) (h2 : Kb A B b) : Kb A B (a ++ b) := fun x hx => by
  rcases List.mem_append.mp hx with z | z
  · exact h1 x z
  · exact h2 x z
end
end Cr

set_option Elab.async false
set_option linter.all false
set_option maxRecDepth 100000
set_option maxHeartbeats 800000
namespace Cr
open PySem PySem.Spec PyProof.Rows L2
/-! residues -/
def Cg (p a b : Int) : Prop := p ∣ a - b
theorem Cg.refl (p a : Int) : Cg p a a := by unfold Cg; rw [Int.sub_self]; exact Int.dvd_zero p
theorem Cg.symm {p a b : Int} (h : Cg p a b) : Cg p b a := by
  obtain ⟨c, e⟩ := h
  exact ⟨-c, by rw [Int.mul_neg, ← e]; omega⟩
theorem Cg.trans {p a b c : Int} (h : Cg p a b) (h2 : Cg p b c) : Cg p a c := by
  obtain ⟨x, e⟩ := h
  obtain ⟨y, e2⟩ := h2
  exact ⟨x + y, by rw [Int.mul_add, ← e, ← e2]; omega⟩
theorem Cg.add {p a b c d : Int} (h : Cg p a b) (h2 : Cg p c d) : Cg p (a + c) (b + d) := by
  obtain ⟨x, e⟩ := h
  obtain ⟨y, e2⟩ := h2
  exact ⟨x + y, by rw [Int.mul_add, ← e, ← e2]; omega⟩
theorem Cg.mod {p a b : Int} (hp : 0 < p) (h : Cg p a b) : a.fmod p = b.fmod p := by
  rw [Int.fmod_eq_emod_of_nonneg _ (by omega), Int.fmod_eq_emod_of_nonneg _ (by omega)]
  exact Int.emod_eq_emod_iff_emod_sub_eq_zero.mpr (Int.emod_eq_zero_of_dvd h)
/-! primes -/
/-! rules -/
section
variable {K : PySem.W.Frag} {q : Option Addr} {n : Nat} {δ δ' : List Sl} {te te2 ta tb : TE} {tt : TT} {c c1 c2 : Nat} {Φ : PyData → Prop} {d d2 : PyData} {A0 B0 Hk H1 : Hp} {σ : L2.St} {D : Ends} {tz t1 : TS} {p : Addr} {ds es : List PyData}
/-- if, the test reads a list that still changes -/
theorem s_ifC {i : Nat} {b : Bool} (h : TB q (δ.set i (.dat (.list ds))) tt b) (s : At q n δ A0 B0 σ Hk H1) (cl : Cell q B0 Hk H1 p ds) (hi : δ[i]? = some (.adr p))
    (k1 : b = true → ∀ Hk' H2, Gr q Hk H1 Hk' H2 → At q n δ A0 B0 σ Hk' H2 → Cell q B0 Hk' H2 p ds → t1 D σ H2)
    (k2 : b = false → ∀ Hk' H2, Gr q Hk H1 Hk' H2 → At q n δ A0 B0 σ Hk' H2 → Cell q B0 Hk' H2 p ds → D.nx σ H2) : tIfS tt t1 tNext D σ H1 :=
  testC (c := 0) h s cl hi fun b' Hk' H2 e g a cl2 => by
    subst e
    cases b' with
    | true => exact iteT (k1 rfl Hk' H2 g a cl2)
    | false => exact iteF (k2 rfl Hk' H2 g a cl2)
end
end Cr
namespace Cr
open PySem PySem.Spec PyProof.Rows L2
section
variable {K : PySem.W.Frag} {q : Option Addr} {n : Nat} {δ δ' : List Sl} {te te2 ta tb : TE} {ds es : List PyData}
/-- list(t), a new list -/
theorem lstTN (h : E q δ te (.tuple ds)) : JN q δ (tCB (rLstQ K) (tCons te tNil)) ds := fun σ H H1 n sg o Q k =>
  h σ H H1 n sg o _ fun d v Hk H2 g o1 e dv => by
    subst e
    obtain ⟨p, xs, rfl, h1, h2⟩ := dv.tupOf
    refine ⟨p, xs, rfl, .inr (.inl (h1.mono o1.a).rd), fun l hl => ?_⟩
    have hlk : Hk l = none := o1.a.free hl
    have hlq : q ≠ some l := fun e => (o1.j l e).ne hl
    have hl1 : H1 l = none := by
      cases e : H1 l with
      | none => rfl
      | some u => exact absurd hl (g.t l (by rw [e]; exact fun z => by cases z))
    exact k l xs Hk (upd H2 l (.lst xs)) (g.trans (Gr.cell g.a hl)) (o1.cell hlk hlq) hl1 hlk upd_same h2
end
end Cr

set_option Elab.async false
set_option linter.all false
set_option maxRecDepth 100000
set_option maxHeartbeats 4000000
namespace L2
open PySem PySem.Spec PyProof.Rows
/-! tuple * int, for 0 and 1, too -/
end L2
namespace L2
open PySem PySem.Spec PyProof.Rows
section
variable {X : Cx}
end
end L2

set_option Elab.async false
set_option linter.all false
set_option maxRecDepth 100000
set_option maxHeartbeats 800000
namespace Cr
open PySem PySem.Spec PyProof.Rows L2
section
variable {K : PySem.W.Frag} {q : Option Addr} {n : Nat} {δ δ' : List Sl} {te te2 ta tb tk tv : TE} {tt : TT} {c c1 c2 : Nat} {P1 P2 : Int → Prop} {d d2 : PyData} {A0 B0 Hk H1 : Hp} {σ : L2.St} {D : Ends} {r : Addr} {ds es : List PyData}
/-- d[key] = value, both drawn -/
theorem s_dput {i : Nat} {m : List (Int × Int)} (hv : J q δ tv c1 (IntP P1)) (hk : J q δ tk c2 (IntP P2)) (s : At q (n + c2 + c1) δ A0 B0 σ Hk H1) (hi : δ[i]? = some (.adr r))
    (hm : H1 r = some (.dK (mdict m))) (nk : Hk r = none) (nq : q ≠ some r) (nb : B0 r = none) (hl : m.length < 1000000)
    (kont : ∀ v k Hk' H2, P1 v → P2 k → Same Hk Hk' → At q n δ A0 B0 σ Hk' H2 → H2 r = some (.dK (mdict (putI m k v))) → Hk' r = none → D.nx σ H2) : sDPut (tVar i) tk tv D σ H1 := by
  refine hv σ Hk H1 (n + c2) s.sg s.ok _ fun d1 v1 Hk2 H2 g2 o2 ⟨v, pv, e1⟩ dv1 => ?_
  subst e1
  rw [dv1.intOf]
  refine ⟨.ref r, s.sg.getA hi, ?_⟩
  refine hk σ Hk2 H2 n (s.sg.mono g2.k) o2 _ fun d3 v3 Hk3 H3 g3 o3 ⟨k, pk, e3⟩ dv3 => ?_
  subst e3
  rw [dv3.intOf]
  have hm2 : H2 r = some (.dK (mdict m)) := g2.s r _ nq hm
  have hm3 : H3 r = some (.dK (mdict m)) := g3.s r _ nq hm2
  have nk2 : Hk2 r = none := g2.f r nk (by rw [hm]; exact fun z => by cases z)
  have nk3 : Hk3 r = none := g3.f r nk2 (by rw [hm2]; exact fun z => by cases z)
  refine ⟨r, _, rfl, DPut.k (k := (Sum.inl k : Key)) hm3 (by unfold mdict; rw [List.length_map, sizeLine_eq]; omega), ?_⟩
  rw [mdict_put]
  exact kont v k Hk3 _ pv pk (g2.k.trans g3.k) ⟨o3.cell nk3 nq, (s.sg.mono g2.k).mono g3.k, ((s.gr.trans g2).trans g3).put nb nk3⟩ upd_same nk3
end
/-- a dict that is set at a key -/
theorem DictOf.put {p m : List (Int × Int)} (h : DictOf p m) (k v : Int) : DictOf (p ++ [(k, v - tot p k)]) (putI m k v) := by
  have z := h.add (k, v - tot p k)
  have gv : (getI m k).getD 0 = tot p k := by
    by_cases hx : k ∈ p.map (·.1)
    · rw [h.get _ hx]; rfl
    · rw [getI_none.mpr (fun z => hx ((h.mem _).mp z)), tot_no hx]; rfl
  unfold addI at z
  rw [show (getI m (k, v - tot p k).1).getD 0 + (k, v - tot p k).2 = v by show (getI m k).getD 0 + (v - tot p k) = v; rw [gv]; omega] at z
  exact z
/-! ### all sums modulo a prime -/
end Cr
namespace Cr
open PySem PySem.Spec PyProof.Rows L2
section
variable {q : Option Addr} {n : Nat} {δ : List Sl} {A0 B0 Hk H : Hp} {σ : L2.St} {r : Addr}
end
end Cr

set_option Elab.async false
set_option linter.all false
set_option maxRecDepth 100000
set_option maxHeartbeats 800000
namespace Cr
open PySem PySem.Spec PyProof.Rows L2
/-! ### defs that tell a new list -/
abbrev RelN := List Sl → List PyData → Prop
def spN (R : RelN) : Sp := fun vs H Q _ => ∃ (q : Option Addr) (Hk : Hp) (sls : List Sl) (n : Nat) (es : List PyData), Ok q n Hk H ∧ VS Hk vs sls ∧ R sls es ∧
  ∀ D xs Hk' H2, Gr q Hk H Hk' H2 → Ok q n Hk' H2 → H D = none → Hk' D = none → H2 D = some (.lst xs) → DqAll Hk' xs es → Q (.ref D) H2
def FinN (q : Option Addr) (n : Nat) (A0 B0 : Hp) (es : List PyData) (Q : VK) : Prop := ∀ D xs Hk' H2, Gr q A0 B0 Hk' H2 → Ok q n Hk' H2 → B0 D = none → Hk' D = none → H2 D = some (.lst xs) → DqAll Hk' xs es → Q (.ref D) H2
section
variable {P : Program} {w : World} {K : PySem.W.Frag} {mg : Str → Option Value} {base : Heap}
theorem fn_okN {x qual : Str} {st : Stmt} {f : Addr} {fd : FuncData} {N ps : List Str} {k : Nat} {R : RelN} (F : Fun K x qual st f fd) (S : FnScope N ps (defScope st)) (hN : ps.length ≤ N.length) (len : ∀ sls es, R sls es → sls.length = ps.length)
    (body : ∀ (cdv : Value) (A : Around) (outer : List Env) (s : Shared) (B0 : Hp) (E : XK), Room k (A.deeper (envOfC qual (defScope st) s.heap.objs.size f cdv)) →
      ∃ t, PSs (cxOf CX0 P w K mg base N qual (defScope st) f cdv A outer s B0 E).nox (defBody st) t ∧
        ∀ (q : Option Addr) (sls : List Sl) (n : Nat) (es : List PyData) (A0 : Hp) (σ : L2.St) (Q : VK), R sls es → At q n (sls ++ List.replicate (N.length - sls.length) .any) A0 B0 σ A0 B0 → FinN q n A0 B0 es Q → t { nx := fun _ H' => Q .non H', rt := Q } σ B0) :
    FnOk P w K mg base CX0 (k + 1) f fd ps (spN R) := by
  refine F.ok S (fun vs H Q E h => ?_) (fun cdv A outer s H vs Q E hr h => ?_)
  · obtain ⟨q, Hk, sls, n, es, o, hv, r, _⟩ := h
    rw [hv.1]; exact len sls es r
  · obtain ⟨q, Hk, sls, n, es, o, hv, r, fin⟩ := h
    obtain ⟨t, ht, hq⟩ := body cdv A outer s H E hr
    refine ⟨t, ht, hq q sls n es Hk (L2.start N vs) Q r ⟨o, start_sg hv (by rw [hv.1, len sls es r]; exact hN), Gr.refl o.a⟩ fin⟩
end
section
variable {K : PySem.W.Frag} {q : Option Addr} {n : Nat} {δ δ' : List Sl} {te te2 ta tb : TE} {tt : TT} {c c1 c2 : Nat} {Φ : PyData → Prop} {d d2 : PyData} {A0 B0 Hk H1 : Hp} {σ : L2.St} {D : Ends} {tz : TS} {p : Addr} {ds es : List PyData} {g : TG} {wi : TI}
theorem jn_call {R : RelN} {E0 : XK} {ta : TA} {sls : List Sl} (ha : AE q δ ta sls) (hr : R sls es) : JN q δ (tCall (spN R) [] E0 ta) es := fun σ H H1 n sg o Q k =>
  ha σ H H1 n sg o _ fun sls' vs Hk H2 g o1 p hv => by
    subst p
    show spN R (vs ++ []) H2 Q E0
    rw [List.append_nil]
    refine ⟨q, Hk, sls', n, es, o1, hv, hr, fun D xs Hk' H3 g' o2 h1 h2 h3 hd => k D xs Hk' H3 (g.trans g') o2 ?_ h2 h3 hd⟩
    cases e : H1 D with
    | none => rfl
    | some u => exact absurd h1 (g.t D (by rw [e]; exact fun z => by cases z))
theorem JN.e (h : JN q δ te es) : E q δ te (.list es) := fun σ H H1 n sg o Q k =>
  h σ H H1 n sg o _ fun D xs Hk H2 g o1 h1 h2 h3 hd => by
    have nq : q ≠ some D := fun e => by
      have z := o.j D e
      exact z.ne h1
    have gf := g.freeze h1 h2 h3
    refine k _ _ _ _ gf ⟨gf.a, fun p e => ?_, fun p e => o1.j p e⟩ rfl (.lst upd_same (DqAll.mono (same_upd h2) _ _ hd))
    rw [upd_ne (fun z => nq (by rw [← z]; exact e))]
    exact o1.kf p e
theorem JN.is {es2 : List PyData} (h : JN q δ te es) (e : es = es2) : JN q δ te es2 := by rw [← e]; exact h
theorem s_retN {m : Nat} (h : JN q δ te es) (s : At q m δ A0 B0 σ Hk H1) (hm : n ≤ m) (f : FinN q n A0 B0 es D.rt) : tRet te D σ H1 :=
  h σ Hk H1 n s.sg (s.ok.mono hm) _ fun D xs Hk2 H2 g o h1 h2 h3 hd => f D xs Hk2 H2 (s.gr.trans g) o (by
    cases e : B0 D with
    | none => rfl
    | some u => exact absurd h1 (s.gr.t D (by rw [e]; exact fun z => by cases z))) h2 h3 hd
theorem s_retC {m i : Nat} (s : At q m δ A0 B0 σ Hk H1) (cl : Cell q B0 Hk H1 p es) (hi : δ[i]? = some (.adr p)) (hm : n ≤ m) (f : FinN q n A0 B0 es D.rt) : tRet (tVar i) D σ H1 := by
  obtain ⟨xs, e, hd⟩ := cl.ex
  exact ⟨.ref p, s.sg.getA hi, f p xs Hk H1 s.gr (s.ok.mono hm) cl.nb cl.nk e hd⟩
/-- xs.append(e), e reads xs -/
theorem s_appendP {i : Nat} (h : J q (δ.set i (.dat (.list ds))) te c Φ) (s : At q (n + c) δ A0 B0 σ Hk H1) (cl : Cell q B0 Hk H1 p ds) (hi : δ[i]? = some (.adr p)) (hl : ds.length < 1000000) (pl : ∀ d, Φ d → plain d = true)
    (k : ∀ d Hk' H2, Φ d → Same Hk Hk' → At q n δ A0 B0 σ Hk' H2 → Cell q B0 Hk' H2 p (ds ++ [d]) → D.nx σ H2) : tDrop (tBM K "list" rAppend (tVar i) (tCons te tNil)) D σ H1 := by
  obtain ⟨xs, e, hd⟩ := cl.ex
  refine ⟨.ref p, s.sg.getA hi, .inl ⟨rfl, xs, .inl (.inl e)⟩, evalC h s cl hi pl fun d v Hk' H2 pn dv g a cl2 => ?_⟩
  obtain ⟨ys, e2, hd2⟩ := cl2.ex
  refine ⟨p, ys, v, rfl, rfl, e2, by rw [hd2.length, sizeLine_eq]; omega, k d Hk' _ pn g.k ⟨a.ok.cell cl2.nk cl2.nq, a.sg, a.gr.put cl2.nb cl2.nk⟩ ⟨cl2.nk, cl2.nq, cl2.nb, ys ++ [v], upd_same, hd2.append (.cons dv .nil)⟩⟩
/-- for x in t, t read from a list that still changes -/
theorem s_forC {i : Nat} {tb : TS} (h : E q (δ.set i (.dat (.list ds))) te (.tuple es)) (pl : plain (.tuple es) = true) (s : At q n δ A0 B0 σ Hk H1) (cl : Cell q B0 Hk H1 p ds) (hi : δ[i]? = some (.adr p))
    (k : ∀ HkW H2, Gr q Hk H1 HkW H2 → At q n δ A0 B0 σ HkW H2 → Cell q B0 HkW H2 p ds → ∃ P : Nat → L2.St → Hp → Hp → Prop, P 0 σ HkW H2 ∧ (∀ i σ' Hk' H', P i σ' Hk' H' → Same HkW Hk' ∧ Same Hk' H') ∧
      (∀ i d σ' Hk' H', es[i]? = some d → P i σ' Hk' H' → ∀ v Hk2 H2', Gr none Hk' H' Hk2 H2' → Dq Hk2 v d → g v σ' H2' fun σ2 H3 => tb { D with nx := fun σ3 H4 => ∃ Hk3, P (i + 1) σ3 Hk3 H4, ct := fun σ3 H4 => ∃ Hk3, P (i + 1) σ3 Hk3 H4, bk := D.nx } σ2 H3) ∧
      (∀ σ' Hk' H', P es.length σ' Hk' H' → D.nx σ' H')) : tFor (iTup K te) g tb D σ H1 := by
  refine evalC (c := 0) h s cl hi (fun d e => by rw [e]; exact pl) fun d v HkW H2 e dv g0 a0 cl0 => ?_
  subst e
  obtain ⟨t, xs, rfl, h1, h2⟩ := dv.tupOf
  refine ⟨t, rfl, ⟨xs, .inl (h1.mono a0.ok.a).rd⟩, ?_⟩
  have wk := walk_tup (K := K) h1 h2
  obtain ⟨P, p0, ps, pt, pe⟩ := k HkW H2 g0 a0 cl0
  refine ⟨fun i m σ' H' => m = es.length - i ∧ i ≤ es.length ∧ ∃ Hk', P i σ' Hk' H', ⟨es.length, by simp, Nat.zero_le _, HkW, p0⟩, ?_⟩
  rintro i m σ' H' ⟨rfl, hi, Hk', p⟩
  obtain ⟨s1, s2⟩ := ps i σ' Hk' H' p
  by_cases hlt : i < es.length
  · obtain ⟨go, yl⟩ := (wk i Hk' H' s1 s2).1 hlt
    refine .inr ⟨go, fun σ3 H4 => ∃ Hk3, P (i + 1) σ3 Hk3 H4, fun σ3 H4 p => ⟨es.length - (i + 1), by omega, rfl, hlt, p⟩, fun v H'' y => ?_⟩
    obtain ⟨Hk2, g2, d, ed, dv⟩ := yl v H'' y
    exact pt i d σ' Hk' H' ed p v Hk2 H'' g2 dv
  · have e : i = es.length := by omega
    subst e
    exact .inl ⟨(wk _ Hk' H' s1 s2).2 (Nat.le_refl _), pe σ' Hk' H' p⟩
theorem plain_pol (f : List Int) : plain (pol f) = true := by
  show plainAll (f.map .int) = true
  refine plainAll_of fun d hd => ?_
  obtain ⟨x, _, rfl⟩ := List.mem_map.mp hd
  rfl
end
end Cr
namespace Cr
open PySem PySem.Spec PyProof.Rows L2
section
variable {q : Option Addr} {δ : List Sl} {es : List PyData}
theorem jn_callK {R : RelN} {E0 : XK} {ta tk : TA} {gV : List V → List V → List V} {ss us rs : List Sl} (ha : AE q δ ta ss) (hk : AE q δ tk us) (hg : ∀ (H : Hp) (vs zs : List V), VS H vs ss → VS H zs us → VS H (gV vs zs) rs) (hr : R rs es) : JN q δ (tCallK (spN R) gV E0 ta tk) es := fun σ H H1 n sg o Q k =>
  ha σ H H1 n sg o _ fun sls' vs Hk H2 g o1 p hv => by
    subst p
    refine hk σ Hk H2 n (sg.mono g.k) o1 _ fun sls2 zs Hk3 H3 g3 o3 p2 hz => ?_
    subst p2
    refine ⟨q, Hk3, rs, n, es, o3, hg Hk3 vs zs (hv.mono g3.k) hz, hr, fun D xs Hk' H4 g' o2 h1 h2 h3 hd => k D xs Hk' H4 ((g.trans g3).trans g') o2 ?_ h2 h3 hd⟩
    cases e : H1 D with
    | none => rfl
    | some u => exact absurd h1 ((g.trans g3).t D (by rw [e]; exact fun z => by cases z))
end
end Cr
namespace Cr
open PySem PySem.Spec PyProof.Rows L2
section
variable {K : PySem.W.Frag} {q : Option Addr} {n : Nat} {δ δ' : List Sl} {te te2 te3 ta tb : TE} {tt : TT} {t1 : TS} {c c1 c2 : Nat} {Φ Φ1 Φ2 : PyData → Prop} {d d2 d3 : PyData} {A0 B0 Hk H1 : Hp} {σ : L2.St} {D : Ends} {tz : TS} {p : Addr} {ds es es2 : List PyData}
end
end Cr

set_option Elab.async false
set_option linter.all false
set_option maxRecDepth 100000
set_option maxHeartbeats 800000
namespace Cr
open PySem PySem.Spec PyProof.Rows L2
/-! ### sums along a log -/
def rowA (f : List Int) (cs : List (Int × Int)) (j : Nat) : List Int := (cs.take j).foldl (fun g x => wch g x.1 x.2) f
theorem wfold_len : ∀ (cs : List (Int × Int)) (f : List Int), (cs.foldl (fun g x => wch g x.1 x.2) f).length = f.length
  | [], _ => rfl
  | x :: cs, f => by rw [List.foldl_cons, wfold_len cs, wch_len]
theorem rowA_len (f : List Int) (cs : List (Int × Int)) (j : Nat) : (rowA f cs j).length = f.length := wfold_len _ _
theorem rowA_succ {f : List Int} {cs : List (Int × Int)} {j : Nat} {x : Int × Int} (h : cs[j]? = some x) : rowA f cs (j + 1) = wch (rowA f cs j) x.1 x.2 := by
  unfold rowA
  rw [List.take_add_one, h, List.foldl_append]
  rfl
def rowsA (f : List Int) (cs : List (Int × Int)) (j : Nat) : List PyData := (List.range (j + 1)).map fun i => pol (rowA f cs i)
theorem rowsA_len (f : List Int) (cs : List (Int × Int)) (j : Nat) : (rowsA f cs j).length = j + 1 := by unfold rowsA; rw [List.length_map, List.length_range]
theorem rowsA_succ (f : List Int) (cs : List (Int × Int)) (j : Nat) : rowsA f cs (j + 1) = rowsA f cs j ++ [pol (rowA f cs (j + 1))] := by
  unfold rowsA
  rw [List.range_succ, List.map_append]
  rfl
theorem rowsA_last (f : List Int) (cs : List (Int × Int)) (j : Nat) : atI (rowsA f cs j) (-1) = some (pol (rowA f cs j)) := by
  cases j with
  | zero => rfl
  | succ j => rw [rowsA_succ]; exact atI_last _ _
theorem shaped_pdL (cs : List (Int × Int)) : SeqAt.shaped (.list (pd cs)) = true := by
  unfold SeqAt.shaped
  rw [Bool.and_eq_true]
  refine ⟨?_, decide_eq_true ?_⟩
  · show PyData.canLayAll0 (pd cs) = true
    exact canAll_of fun d hd => by obtain ⟨x, _, rfl⟩ := List.mem_map.mp hd; exact (pr_shape x).1
  · rw [PyData.depth]
    have : PyData.depthAll (pd cs) ≤ 2 := depthAll_le fun d hd => by obtain ⟨x, _, rfl⟩ := List.mem_map.mp hd; exact (pr_shape x).2
    omega
theorem isEmpty_pd (cs : List (Int × Int)) : (pd cs).isEmpty = cs.isEmpty := by cases cs <;> rfl
section
variable {K : PySem.W.Frag} {q : Option Addr} {n : Nat} {δ δ' : List Sl} {te te2 te3 ta tb : TE} {tt : TT} {t1 : TS} {c c1 c2 : Nat} {Φ Φ1 Φ2 : PyData → Prop} {d d2 d3 : PyData} {A0 B0 Hk H1 : Hp} {σ : L2.St} {D : Ends} {tz : TS} {p : Addr} {ds es es2 : List PyData}
theorem e_nePdNil {cs : List (Int × Int)} (ha : E q δ ta (.list (pd cs))) : E q δ (tOp (rNeD K) ta (tLst tNil)) (.bool (!cs.isEmpty)) :=
  e_is (e_neD ha (e_lst (ds := []) ae_nil) (shaped_pdL cs) (lst_shape [])) (by rw [eqv_lst_nil, isEmpty_pd])
/-- a + b of lists -/
theorem j_catLL {P1 P2 P : List PyData → Prop} (ha : J q δ ta c1 (fun d => ∃ ds, P1 ds ∧ d = .list ds)) (hb : J q δ tb c2 (fun d => ∃ ds, P2 ds ∧ d = .list ds)) (hp : ∀ f g, P1 f → P2 g → f.length + g.length ≤ 1000000 ∧ P (f ++ g)) : J q δ (tOp (rAddU K) ta tb) (c2 + c1) (fun d => ∃ ds, P ds ∧ d = .list ds) :=
  j_op ha hb fun a b ⟨f, p1, ea⟩ ⟨g, p2, eb⟩ => by
    subst ea; subst eb
    have z := hp f g p1 p2
    exact (rj_cat (ds := f) (es := g) (Φ := fun d => ∃ ds, P ds ∧ d = .list ds) z.1 ⟨f ++ g, z.2, rfl⟩).to fun _ _ _ _ h => .inr (.inl h)
/-- x, y = e -/
theorem q_asgU {i j : Nat} {Pp : Int × Int → Prop} (h : J q δ te c (fun d => ∃ x : Int × Int, Pp x ∧ d = pr x)) (s : At q (n + c) δ A0 B0 σ Hk H1)
    (k : ∀ x σ' Hk' H2, Pp x → Gr q Hk H1 Hk' H2 → At q n ((δ.set i (.dat (.int x.1))).set j (.dat (.int x.2))) A0 B0 σ' Hk' H2 → tz D σ' H2) : tSeq (tAsg te (gTup K 2 (gCons (gName i) (gCons (gName j) gNil)))) tz D σ H1 :=
  h σ Hk H1 n s.sg s.ok _ fun d v Hk2 H2 g o ⟨x, px, e⟩ dv => by
    subst e
    exact gb_tup2 (d1 := .int x.1) (d2 := .int x.2) (vs := [i, j]) (by simp) (by simp) σ Hk2 H2 v (s.sg.mono g.k) g.a dv _ fun σ2 sg2 _ _ => k x σ2 Hk2 H2 px g ⟨o, sg2, s.gr.trans g⟩
/-- x, y = e, f, which read a list that still changes; the last of a block -/
theorem s_parC {i j ic : Nat} (h1 : J q (δ.set ic (.dat (.list ds))) te c1 Φ1) (h2 : J q (δ.set ic (.dat (.list ds))) te2 c2 Φ2) (s : At q (n + c2 + c1) δ A0 B0 σ Hk H1) (cl : Cell q B0 Hk H1 p ds) (hi : δ[ic]? = some (.adr p))
    (pl1 : ∀ d, Φ1 d → plain d = true) (pl2 : ∀ d, Φ2 d → plain d = true)
    (k : ∀ a b σ' Hk' H2, Φ1 a → Φ2 b → Same Hk Hk' → At q n ((δ.set i (.dat a)).set j (.dat b)) A0 B0 σ' Hk' H2 → Cell q B0 Hk' H2 p ds → D.nx σ' H2) : tPar i j (tCons te (tCons te2 tNil)) D σ H1 :=
  evalC h1 s cl hi pl1 fun a v Hk2 H2 pa dv g2 a2 cl2 => evalC h2 a2 cl2 hi pl2 fun b w Hk3 H3 pb dw g3 a3 cl3 =>
    ⟨v, w, rfl, k a b _ Hk3 H3 pa pb (g2.k.trans g3.k) ⟨a3.ok, (a3.sg.set i (s := .dat a) (Dq.mono g3.k _ _ dv)).set j (s := .dat b) dw, a3.gr⟩ cl3⟩
/-- x, y = e, [] -/
theorem q_par2New {i j : Nat} (h : E q δ te d) (s : At q n δ A0 B0 σ Hk H1)
    (k : ∀ p σ' Hk' H2, Same Hk Hk' → At q n ((δ.set i (.dat d)).set j (.adr p)) A0 B0 σ' Hk' H2 → Cell q B0 Hk' H2 p [] → (∀ r es, Cell q B0 Hk H1 r es → Cell q B0 Hk' H2 r es ∧ p ≠ r) → tz D σ' H2) : tSeq (tPar i j (tCons te (tCons (tLst tNil) tNil))) tz D σ H1 :=
  h σ Hk H1 n s.sg s.ok _ fun d' v Hk' H2 g o ed dv => by
    subst ed
    refine ⟨Nat.zero_le _, fun p hp => ?_⟩
    have hk : Hk' p = none := o.a.free hp
    have gr := s.gr.trans g
    have hb : B0 p = none := by
      cases e : B0 p with
      | none => rfl
      | some u => exact absurd hp (gr.t p (by rw [e]; exact fun z => by cases z))
    have nq : q ≠ some p := fun e => (o.j p e).ne hp
    refine ⟨v, .ref p, rfl, k p _ Hk' _ g.k ⟨o.cell hk nq, ((s.sg.mono g.k).set i (s := .dat d') dv).set j (s := .adr p) rfl, gr.put hb hk⟩ ⟨hk, nq, hb, [], upd_same, .nil⟩ fun r es cl => ?_⟩
    have c2 := cl.go g
    obtain ⟨xs, e, hd⟩ := c2.ex
    have hr : r ≠ p := ne_of_none e hp
    exact ⟨⟨c2.nk, c2.nq, c2.nb, xs, by rw [upd_ne hr]; exact e, hd⟩, Ne.symm hr⟩
/-- xs.append(e), and another list stays -/
theorem s_append2 {i : Nat} {r : Addr} (h : J q δ te c Φ) (s : At q (n + c) δ A0 B0 σ Hk H1) (cl : Cell q B0 Hk H1 p ds) (cr : Cell q B0 Hk H1 r es) (nr : p ≠ r) (hi : δ[i]? = some (.adr p)) (hl : ds.length < 1000000)
    (k : ∀ d Hk' H2, Φ d → Same Hk Hk' → At q n δ A0 B0 σ Hk' H2 → Cell q B0 Hk' H2 p (ds ++ [d]) → Cell q B0 Hk' H2 r es → tz D σ H2) : tSeq (tDrop (tBM K "list" rAppend (tVar i) (tCons te tNil))) tz D σ H1 := by
  obtain ⟨xs, e, hd⟩ := cl.ex
  refine ⟨.ref p, s.sg.getA hi, .inl ⟨rfl, xs, .inl (.inl e)⟩, h σ Hk H1 n s.sg s.ok _ fun d v Hk' H2 g o pd dv => ?_⟩
  have cl2 := cl.go g
  have e2 := g.s p _ cl.nq e
  have cr2 := cr.go g
  obtain ⟨ys, ey, hy⟩ := cr2.ex
  refine ⟨p, xs, v, rfl, rfl, e2, by rw [hd.length, sizeLine_eq]; omega, k d Hk' _ pd g.k ⟨o.cell cl2.nk cl.nq, s.sg.mono g.k, (s.gr.trans g).put cl.nb cl2.nk⟩ ⟨cl2.nk, cl.nq, cl.nb, xs ++ [v], upd_same, (DqAll.mono g.k _ _ hd).append (.cons dv .nil)⟩ ⟨cr2.nk, cr2.nq, cr2.nb, ys, by rw [upd_ne (Ne.symm nr)]; exact ey, hy⟩⟩
/-- it stands still from here, and another list still changes -/
theorem At.freeze2 {i : Nat} {r : Addr} (s : At q n δ A0 B0 σ Hk H1) (cl : Cell q B0 Hk H1 p ds) (cr : Cell q B0 Hk H1 r es) (nr : p ≠ r) (hi : δ[i]? = some (.adr p)) : ∃ Hk', Same Hk Hk' ∧ At q n (δ.set i (.dat (.list ds))) A0 B0 σ Hk' H1 ∧ Cell q B0 Hk' H1 r es := by
  obtain ⟨xs, e, hd⟩ := cl.ex
  obtain ⟨ys, ey, hy⟩ := cr.ex
  have gf := s.gr.freeze cl.nb cl.nk e
  refine ⟨upd Hk p (.lst xs), same_upd cl.nk, ⟨⟨gf.a, fun r er => ?_, s.ok.j⟩, ?_, gf⟩, ⟨by rw [upd_ne (Ne.symm nr)]; exact cr.nk, cr.nq, cr.nb, ys, ey, DqAll.mono (same_upd cl.nk) _ _ hy⟩⟩
  · rw [upd_ne (fun z => cl.nq (by rw [← z]; exact er))]; exact s.ok.kf r er
  · have sg := s.sg.mono (same_upd (o := .lst xs) cl.nk)
    refine ⟨by rw [List.length_set]; exact sg.1, fun j t ej ne => ?_⟩
    by_cases hj : i = j
    · subst hj
      have hl : i < δ.length := (List.getElem?_eq_some_iff.mp hi).1
      rw [List.getElem?_set_self hl] at ej
      cases ej
      exact ⟨.ref p, sg.getA hi, .lst upd_same (DqAll.mono (same_upd cl.nk) _ _ hd)⟩
    · rw [List.getElem?_set_ne hj] at ej
      exact sg.2 j t ej ne
end
end Cr

set_option Elab.async false
set_option linter.all false
set_option maxRecDepth 100000
set_option maxHeartbeats 800000
namespace Cr
open PySem PySem.Spec PyProof.Rows L2
/-! ### pairs of unlike ledgers with the same first sums -/
theorem VS.append {H : Hp} : ∀ {ss : List Sl} {vs ws : List V} {es : List Sl}, VS H vs ss → VS H ws es → VS H (vs ++ ws) (ss ++ es)
  | [], vs, ws, es, h1, h2 => by rw [VS.inv0 h1]; exact h2
  | s :: r, vs, ws, es, h1, h2 => by
    obtain ⟨v, t, rfl, q, hr⟩ := VS.inv1 h1
    exact VS.cons q (VS.append hr h2)
section
variable {K : PySem.W.Frag} {q : Option Addr} {δ δ' : List Sl} {te te2 ta tb : TE} {c c1 c2 N : Nat} {Φ : PyData → Prop} {d : PyData} {P : Int → Prop}
end
end Cr

set_option Elab.async false
set_option linter.all false
set_option maxRecDepth 100000
set_option maxHeartbeats 800000
namespace Cr
open PySem PySem.Spec PyProof.Rows L2
/-! ### a dict of the amounts that are not 0 -/
def dropI (m : List (Int × Int)) (k : Int) : List (Int × Int) := m.filter fun x => decide (x.1 ≠ k)
theorem mdict_drop (m : List (Int × Int)) (k : Int) : dropK (mdict m) (Sum.inl k) = mdict (dropI m k) := by
  unfold dropK dropI mdict
  rw [List.filter_map]
  congr 1
  refine List.filter_congr fun x _ => ?_
  show decide ((Sum.inl x.1 : Key) ≠ Sum.inl k) = decide (x.1 ≠ k)
  have z := inl_dec x.1 k
  rw [decide_not, decide_not, z]
theorem dropI_get (m : List (Int × Int)) (k j : Int) : getI (dropI m k) j = if j = k then none else getI m j := by
  by_cases e : j = k
  · rw [if_pos e, getI_none]
    intro z
    obtain ⟨x, hx, ex⟩ := List.mem_map.mp z
    have := of_decide_eq_true (List.mem_filter.mp hx).2
    exact this (by rw [← e]; exact ex)
  · rw [if_neg e]
    unfold getI dropI
    rw [List.find?_filter]
    congr 1
    congr 1
    funext x
    by_cases h : x.1 = j
    · rw [decide_eq_true h]
      have h2 : x.1 ≠ k := by rw [h]; exact e
      simp [h2]
    · rw [decide_eq_false h]
      simp
theorem dropI_none {m : List (Int × Int)} {k : Int} (h : getI m k = none) : dropI m k = m := by
  unfold dropI
  rw [List.filter_eq_self]
  intro x hx
  refine decide_eq_true fun e => getI_none.mp h ?_
  exact List.mem_map.mpr ⟨x, hx, e⟩
structure NzOf (p m : List (Int × Int)) : Prop where
  nd : (m.map (·.1)).Nodup
  get : ∀ k, getI m k = if tot p k = 0 then none else some (tot p k)
  len : m.length ≤ p.length
theorem NzOf.nil : NzOf [] [] := ⟨by simp, fun k => rfl, by simp⟩
theorem NzOf.getD {p m : List (Int × Int)} (h : NzOf p m) (k : Int) : (getI m k).getD 0 = tot p k := by
  rw [h.get]
  split
  · rename_i e; rw [e]; rfl
  · rfl
theorem tot_snoc (p : List (Int × Int)) (k v j : Int) : tot (p ++ [(k, v)]) j = tot p j + if k = j then v else 0 := by
  rw [tot_append]
  show tot p j + ((if k = j then v else 0) + 0) = _
  rw [Int.add_zero]
theorem NzOf.drop {p m : List (Int × Int)} (h : NzOf p m) {k v : Int} (e : tot p k + v = 0) : NzOf (p ++ [(k, v)]) (dropI m k) := by
  refine ⟨?_, fun j => ?_, ?_⟩
  · unfold dropI
    exact h.nd.sublist (List.Sublist.map _ List.filter_sublist)
  · rw [dropI_get, tot_snoc, h.get]
    by_cases hj : j = k
    · subst hj
      rw [if_pos rfl, if_pos rfl, if_pos e]
    · have e0 : (if k = j then v else 0) = 0 := if_neg fun z => hj z.symm
      rw [if_neg hj, e0, Int.add_zero]
  · unfold dropI
    have := List.length_filter_le (fun x : Int × Int => decide (x.1 ≠ k)) m
    have := h.len
    rw [List.length_append]
    omega
theorem NzOf.set {p m : List (Int × Int)} (h : NzOf p m) {k v : Int} (e : tot p k + v ≠ 0) : NzOf (p ++ [(k, v)]) (putI m k (tot p k + v)) := by
  refine ⟨?_, fun j => ?_, ?_⟩
  · rw [putI_keys]
    by_cases hk : k ∈ m.map (·.1)
    · rw [if_pos hk]; exact h.nd
    · rw [if_neg hk]
      refine List.nodup_append.mpr ⟨h.nd, by simp, fun a ha b hb e2 => ?_⟩
      rw [List.mem_singleton.mp hb] at e2
      exact hk (by rw [← e2]; exact ha)
  · rw [putI_get, tot_snoc, h.get]
    by_cases hj : j = k
    · subst hj
      rw [if_pos rfl, if_pos rfl, if_neg e]
    · have e0 : (if k = j then v else 0) = 0 := if_neg fun z => hj z.symm
      rw [if_neg hj, e0, Int.add_zero]
  · have z := congrArg List.length (putI_keys m k (tot p k + v))
    rw [List.length_map] at z
    have := h.len
    rw [z, List.length_append]
    split <;> simp <;> omega
theorem NzOf.empty {p m : List (Int × Int)} (h : NzOf p m) : m = [] ↔ gather p = [] := by
  constructor
  · intro e
    subst e
    rw [gather_ext (ds := []) fun k => ?_]
    · rfl
    · have z := h.get k
      by_cases hk : tot p k = 0
      · exact hk
      · rw [if_neg hk] at z; cases z
  · intro e
    have hz : ∀ k, tot p k = 0 := fun k => by rw [← tot_gather, e]; rfl
    cases m with
    | nil => rfl
    | cons x m =>
      have z := h.get x.1
      rw [if_pos (hz _)] at z
      exact absurd (List.mem_map.mpr ⟨x, List.mem_cons_self, rfl⟩) (getI_none.mp z)
/-- the heap without what stands at r -/
def hole (r : Addr) (H : Hp) : Hp := fun b => if b = r then none else H b
theorem hole_at {r : Addr} {H : Hp} : hole r H r = none := if_pos rfl
theorem hole_ne {r b : Addr} {H : Hp} (h : b ≠ r) : hole r H b = H b := if_neg h
theorem Gr.hole {q : Option Addr} {Hk H1 : Hp} {r : Addr} (a : Same Hk H1) : Gr q Hk (hole r H1) Hk H1 := ⟨Same.refl _, a, fun b o _ e => by
  by_cases h : b = r
  · rw [h, hole_at] at e; cases e
  · rw [hole_ne h] at e; exact e, fun b h _ => h, fun b e => by
  by_cases h : b = r
  · rw [h, hole_at] at e; exact absurd rfl e
  · rw [hole_ne h] at e; exact e⟩
theorem Gr.fill {q : Option Addr} {A0 B0 Hk H1 Hk' H2 : Hp} {r : Addr} (g : Gr q A0 B0 Hk H1) (g2 : Gr q Hk (Cr.hole r H1) Hk' H2) (nb : B0 r = none) : Gr q A0 B0 Hk' H2 := by
  have ne : ∀ {b : Addr}, B0 b ≠ none → b ≠ r := fun {b} h e => h (by rw [e]; exact nb)
  refine ⟨g.k.trans g2.k, g2.a, fun b o hq e => ?_, fun b ha e => ?_, fun b e => ?_⟩
  · have hb : b ≠ r := ne (by rw [e]; exact fun z => by cases z)
    exact g2.s b o hq (by rw [hole_ne hb]; exact g.s b o hq e)
  · exact g2.f b (g.f b ha e) (by rw [hole_ne (ne e)]; exact g.t b e)
  · exact g2.t b (by rw [hole_ne (ne e)]; exact g.t b e)
/-- a def that adds a change to such a dict -/
def spChg : Sp := fun vs H Q _ => ∃ (q : Option Addr) (Hk : Hp) (r : Addr) (mm p : List (Int × Int)) (i j : Int) (n : Nat), Ok q n Hk H ∧ vs = [.ref r, .int i, .int j] ∧ Hk r = none ∧ q ≠ some r ∧ H r = some (.dK (mdict mm)) ∧ NzOf p mm ∧ p.length ≤ 100000 ∧
  ∀ mm' Hk' H2, Gr q Hk (hole r H) Hk' H2 → Ok q n Hk' H2 → H2 r = some (.dK (mdict mm')) → Hk' r = none → NzOf (p ++ [(i, j)]) mm' → Q (.int (tot p i + j)) H2
section
variable {K : PySem.W.Frag} {q : Option Addr} {n : Nat} {δ δ' : List Sl} {te te2 ta tb : TE} {c c1 c2 : Nat} {d : PyData} {A0 B0 Hk H1 : Hp} {σ : L2.St} {D : Ends} {tz : TS} {r : Addr}
/-- x = d.get(k, 0) + v -/
theorem q_dgetA {i ik ib l : Nat} {m : List (Int × Int)} {k v : Int} (s : At q n δ A0 B0 σ Hk H1) (hi : δ[i]? = some (.adr r)) (hk : δ[ik]? = some (.dat (.int k))) (hb : δ[ib]? = some (.dat (.int v))) (hm : H1 r = some (.dK (mdict m)))
    (kont : ∀ σ', At q n (δ.set l (.dat (.int ((getI m k).getD 0 + v)))) A0 B0 σ' Hk H1 → tz D σ' H1) : tSeq (tAsg (tOp (rAddU K) (tDGet2 (tVar i) (tVar ik) (tC (.int 0))) (tVar ib)) (gName l)) tz D σ H1 := by
  have a1 := s.sg.getA hi
  obtain ⟨w, a2, d2⟩ := s.sg.get hk
  obtain ⟨x, a3, d3⟩ := s.sg.get hb
  have e2 := d2.intOf
  have e3 := d3.intOf
  subst e2; subst e3
  have hg := DGet.k (H := H1) (a := r) (k := (Sum.inl k : Key)) hm
  rw [mdict_val] at hg
  have hv : ((getI m k).map V.int).getD (.int 0) = .int ((getI m k).getD 0) := by cases getI m k <;> rfl
  refine ⟨.ref r, a1, r, rfl, .inl ⟨_, .inl hm⟩, .int k, a2, _, hg, ?_⟩
  exact ⟨.int v, a3, .inl ⟨(getI m k).getD 0, v, hv, rfl, kont _ ⟨s.ok, s.sg.set l (s := .dat (.int ((getI m k).getD 0 + v))) (.int _), s.gr⟩⟩⟩
/-- d.pop(k, None) -/
theorem s_dpop {i ik : Nat} {m : List (Int × Int)} {k : Int} (s : At q n δ A0 B0 σ Hk H1) (hi : δ[i]? = some (.adr r)) (hk : δ[ik]? = some (.dat (.int k))) (hm : H1 r = some (.dK (mdict m))) (nk : Hk r = none) (nq : q ≠ some r) (nb : B0 r = none)
    (kont : ∀ H2, At q n δ A0 B0 σ Hk H2 → H2 r = some (.dK (mdict (dropI m k))) → D.nx σ H2) : tDrop (tDPop2 (tVar i) (tVar ik) (tC .non)) D σ H1 := by
  have a1 := s.sg.getA hi
  obtain ⟨w, a2, d2⟩ := s.sg.get hk
  have e2 := d2.intOf
  subst e2
  refine ⟨.ref r, a1, r, rfl, .inl ⟨_, .inl hm⟩, .int k, a2, mdict m, Sum.inl k, hm, rfl, fun v hv => ?_, fun hv => ?_⟩
  · rw [mdict_drop]
    exact kont _ ⟨s.ok.cell nk nq, s.sg, s.gr.put nb nk⟩ upd_same
  · rw [mdict_val] at hv
    have h0 : getI m k = none := by
      cases e : getI m k with
      | none => rfl
      | some u => rw [e] at hv; cases hv
    exact kont _ s (by rw [dropI_none h0]; exact hm)
def rLenDk : List V → Hp → VK → Prop := fun xs H Q => ∃ a kvs, xs = [V.ref a] ∧ H a = some (.dK kvs) ∧ Q (.int kvs.length) H
theorem call_lenDk {X : Cx} : CallR X (.builtin "len") rLenDk := call_lenD
/-- if len(d) == 0 -/
theorem s_ifLenD {i : Nat} {t1 : TS} {m : List (Int × Int)} (s : At q n δ A0 B0 σ Hk H1) (hi : δ[i]? = some (.adr r)) (hm : H1 r = some (.dK (mdict m))) (k1 : m = [] → t1 D σ H1) (k2 : m ≠ [] → D.nx σ H1) :
    tIfS (tTest (tOp (rEqD K) (tCB rLenDk (tCons (tVar i) tNil)) (tC (.int 0)))) t1 tNext D σ H1 := by
  have e : PyData.eqv (.int ((mdict m).length : Nat)) (.int 0) = decide (m = []) := by
    have z : (mdict m).length = m.length := by unfold mdict; rw [List.length_map]
    rw [z]
    cases m with
    | nil => simp [PyData.eqv]
    | cons x m => simp [PyData.eqv]; omega
  refine ⟨.ref r, s.sg.getA hi, r, mdict m, rfl, hm, .int ((mdict m).length : Nat), .int 0, Dq.dp K _ _ rfl (.int _), Dq.dp K _ _ rfl (.int _), rfl, rfl, PyData.eqv (.int ((mdict m).length : Nat)) (.int 0), rfl, ?_⟩
  rw [e]
  by_cases h : m = []
  · rw [decide_eq_true h]; exact iteT (k1 h)
  · rw [decide_eq_false h]; exact iteF (k2 h)
/-- the call of such a def -/
theorem q_chg {i : Nat} {E0 : XK} {m p : List (Int × Int)} {k v : Int} (s : At q n δ A0 B0 σ Hk H1) (hi : δ[i]? = some (.adr r)) (hk : E q δ te (.int k)) (hv : E q δ te2 (.int v)) (hm : H1 r = some (.dK (mdict m))) (nk : Hk r = none) (nq : q ≠ some r) (nb : B0 r = none) (hz : NzOf p m) (hl : p.length ≤ 100000)
    (kont : ∀ m' Hk' H2, Same Hk Hk' → At q n δ A0 B0 σ Hk' H2 → H2 r = some (.dK (mdict m')) → Hk' r = none → NzOf (p ++ [(k, v)]) m' → tz D σ H2) : tSeq (tDrop (tCall spChg [] E0 (tCons (tVar i) (tCons te (tCons te2 tNil))))) tz D σ H1 := by
  refine ⟨.ref r, s.sg.getA hi, ?_⟩
  refine hk σ Hk H1 n s.sg s.ok _ fun d1 v1 Hk2 H2 g2 o2 e1 dv1 => ?_
  subst e1
  have f1 := dv1.intOf
  subst f1
  refine hv σ Hk2 H2 n (s.sg.mono g2.k) o2 _ fun d3 v3 Hk3 H3 g3 o3 e3 dv3 => ?_
  subst e3
  have f3 := dv3.intOf
  subst f3
  have hm2 : H2 r = some (.dK (mdict m)) := g2.s r _ nq hm
  have hm3 : H3 r = some (.dK (mdict m)) := g3.s r _ nq hm2
  have nk2 : Hk2 r = none := g2.f r nk (by rw [hm]; exact fun z => by cases z)
  have nk3 : Hk3 r = none := g3.f r nk2 (by rw [hm2]; exact fun z => by cases z)
  refine ⟨q, Hk3, r, m, p, k, v, n, o3, rfl, nk3, nq, hm3, hz, hl, fun m' Hk' H4 g4 o4 h4 n4 z4 => ?_⟩
  exact kont m' Hk' H4 ((g2.k.trans g3.k).trans g4.k) ⟨o4, ((s.sg.mono g2.k).mono g3.k).mono g4.k, Gr.fill ((s.gr.trans g2).trans g3) g4 nb⟩ h4 n4 z4
end
/-! ### the first place of all -/
def fstD (n : Nat) (p : Nat → Bool) (g : Nat → Int) : PyData := match (List.range n).find? p with
  | some k => .int (g k)
  | none => .none
theorem find_range {p : Nat → Bool} : ∀ {n i : Nat}, i < n → (∀ k < i, p k = false) → p i = true → (List.range n).find? p = some i
  | 0, i, h, _, _ => absurd h (Nat.not_lt_zero _)
  | n + 1, i, h, h1, h2 => by
    rw [List.range_succ, List.find?_append]
    by_cases hi : i < n
    · rw [find_range hi h1 h2]; rfl
    · have e : i = n := by omega
      subst e
      have z : (List.range i).find? p = none := List.find?_eq_none.mpr fun k hk => by rw [h1 k (List.mem_range.mp hk)]; decide
      rw [z, List.find?_cons_of_pos h2]
      rfl
theorem fst_hit {n i : Nat} {p : Nat → Bool} {g : Nat → Int} (h : i < n) (h1 : ∀ k < i, p k = false) (h2 : p i = true) : fstD n p g = .int (g i) := by
  unfold fstD
  rw [find_range h h1 h2]
theorem fst_none {n : Nat} {p : Nat → Bool} {g : Nat → Int} (h1 : ∀ k < n, p k = false) : fstD n p g = .none := by
  unfold fstD
  rw [List.find?_eq_none.mpr fun k hk => by rw [h1 k (List.mem_range.mp hk)]; decide]
/-- what first_return tells -/
def retD (cs : List (Int × Int)) : PyData := fstD cs.length (fun k => (gather (cs.take (k + 1))).isEmpty) fun k => (k : Int) + 1
/-- what log_fault tells -/
def faultD (f : List Int) (cs : List (Int × Int)) (rows : List (List Int)) : PyData := fstD (cs.length + 1) (fun k => !decide (rows.getD k [] = rowA f cs k)) fun k => (k : Int)
/-! ### what two logs begin with -/
def comN : List (Int × Int) → List (Int × Int) → Nat
  | x :: a, y :: b => if x = y then comN a b + 1 else 0
  | _, _ => 0
theorem comN_le : ∀ a b : List (Int × Int), comN a b ≤ a.length ∧ comN a b ≤ b.length
  | [], _ => ⟨Nat.le_refl _, Nat.zero_le _⟩
  | _ :: _, [] => ⟨Nat.zero_le _, Nat.le_refl _⟩
  | x :: a, y :: b => by
    have ih := comN_le a b
    unfold comN
    split
    · exact ⟨Nat.succ_le_succ ih.1, Nat.succ_le_succ ih.2⟩
    · exact ⟨Nat.zero_le _, Nat.zero_le _⟩
theorem comN_end : ∀ (a b : List (Int × Int)) (k : Nat), k ≤ comN a b → k < a.length → k < b.length → (a[k]? = b[k]? ↔ k < comN a b)
  | [], _, k, _, h, _ => absurd h (Nat.not_lt_zero _)
  | _ :: _, [], k, _, _, h => absurd h (Nat.not_lt_zero _)
  | x :: a, y :: b, k, h0, h1, h2 => by
    unfold comN at h0 ⊢
    by_cases e : x = y
    · rw [if_pos e] at h0 ⊢
      cases k with
      | zero => exact ⟨fun _ => Nat.succ_pos _, fun _ => by rw [e]; rfl⟩
      | succ k =>
        have z := comN_end a b k (by omega) (by simpa using h1) (by simpa using h2)
        exact ⟨fun h => Nat.succ_lt_succ (z.mp h), fun h => z.mpr (by omega)⟩
    · rw [if_neg e] at h0 ⊢
      have hk : k = 0 := by omega
      subst hk
      exact ⟨fun h => absurd (Option.some.inj h) e, fun h => absurd h (Nat.not_lt_zero _)⟩
theorem eqv_pr (x y : Int × Int) : PyData.eqv (pr x) (pr y) = decide (x = y) := by
  obtain ⟨a, b⟩ := x
  obtain ⟨c, d⟩ := y
  simp [pr, PyData.eqv, PyData.eqvAll]
  rw [Bool.eq_iff_iff]
  simp
theorem shaped_pr (x : Int × Int) : SeqAt.shaped (pr x) = true := by
  unfold SeqAt.shaped
  rw [Bool.and_eq_true]
  exact ⟨(pr_shape x).1, decide_eq_true (by have := (pr_shape x).2; omega)⟩
theorem at_pdK {cs : List (Int × Int)} {k : Nat} {x : Int × Int} (h : cs[k]? = some x) : atI (pd cs) ((k : Nat) : Int) = some (pr x) := by
  refine atI_nat ?_
  unfold pd
  rw [List.getElem?_map, h]
  rfl
section
variable {K : PySem.W.Frag} {q : Option Addr} {δ : List Sl} {te : TE} {ds : List PyData}
/-- xs[i:j], a new list -/
theorem slLN {tl th : TO} {lo hi : Option Int} (h : E q δ te (.list ds)) (h1 : TOj δ q tl lo) (h2 : TOj δ q th hi) : JN q δ (tSl (rSlU K) te tl th) (cutD ds lo hi) := fun σ H H1 n sg o Q k =>
  h σ H H1 n sg o _ fun d v Hk H2 g o1 e dv => h1 σ Hk H2 n (sg.mono g.k) o1 _ fun Hk2 H3 g2 o2 => h2 σ Hk2 H3 n (sg.mono (g.k.trans g2.k)) o2 _ fun Hk3 H4 g3 o3 => by
    subst e
    obtain ⟨a, xs, rfl, e1, e2⟩ := (Dq.mono (g2.k.trans g3.k) _ _ dv).lstOf
    refine .inl ⟨a, xs, rfl, .inl (.inl (g3.a _ _ e1)), fun p hn => ?_⟩
    have gA := (g.trans g2).trans g3
    have hpk : Hk3 p = none := o3.a.free hn
    have hpq : q ≠ some p := fun e => (o3.j p e).ne hn
    have hp1 : H1 p = none := by
      cases e : H1 p with
      | none => rfl
      | some u => exact absurd hn (gA.t p (by rw [e]; exact fun z => by cases z))
    refine k p (cutV xs lo hi) Hk3 _ (gA.trans (Gr.cell o3.a hn)) (o3.cell hpk hpq) hp1 hpk upd_same ?_
    unfold cutV cutD
    rw [e2.length]
    exact (e2.drop _).take _
end
end Cr

set_option Elab.async false
set_option linter.all false
set_option maxRecDepth 100000
set_option maxHeartbeats 800000
namespace Cr
open PySem PySem.Spec PyProof.Rows L2
section
variable {K : PySem.W.Frag} {q : Option Addr} {n : Nat} {δ : List Sl} {A0 B0 Hk H1 : Hp} {σ : L2.St} {D : Ends} {tz t1 : TS} {r : Addr}
end
section
variable {K : PySem.W.Frag} {q : Option Addr} {δ : List Sl} {te : TE} {c : Nat} {tt tu : TT}
end
section
variable {K : PySem.W.Frag} {q : Option Addr} {δ : List Sl} {te : TE} {c c1 c2 : Nat} {tt tu : TT}
end
end Cr

set_option Elab.async false
set_option linter.all false
set_option maxRecDepth 100000
set_option maxHeartbeats 800000
/-! dict(t) of a tuple of pairs -/
namespace L2
open PySem PySem.Spec PyProof.Rows
section
variable {X : Cx}
end
end L2
namespace Cr
open PySem PySem.Spec PyProof.Rows L2
section
variable {K : PySem.W.Frag} {q : Option Addr} {n : Nat} {δ δ' : List Sl} {te te2 ta tb tk tv : TE} {D : Ends} {A0 B0 Hk H1 : Hp} {σ : L2.St}
end
end Cr

set_option Elab.async false
set_option linter.all false
set_option maxRecDepth 100000
set_option maxHeartbeats 800000
namespace Cr
open PySem PySem.Spec PyProof.Rows L2
/-! ledgers cleared: the quotient by ((0, -1), (1, 1)), over and over -/
/-! bounds -/
end Cr

set_option Elab.async false
set_option linter.all false
set_option maxRecDepth 100000
set_option maxHeartbeats 800000
namespace Cr
open PySem PySem.Spec PyProof.Rows L2
/-! products of blind ledgers; what is cleared of a product -/
/-! turning ledgers -/
/-! where three ledgers part -/
open Classical in
noncomputable def blV (l : List (Int × Int)) : Int := if h : ∃ j, IsBl l j then (Classical.choose h : Nat) else 99
theorem blV_is {l : List (Int × Int)} {j : Nat} (h : IsBl l j) : blV l = (j : Int) := by
  have e : ∃ j, IsBl l j := ⟨j, h⟩
  unfold blV
  rw [dif_pos e, (Classical.choose_spec e).uniq h]
theorem blV_congr {a b : List (Int × Int)} (h : ∀ j, psum a j = 0 ↔ psum b j = 0) : blV a = blV b := by
  by_cases e : ∃ j, IsBl a j
  · obtain ⟨j, hj⟩ := e
    rw [blV_is hj, blV_is (l := b) (j := j) ⟨fun z => hj.1 ((h j).mpr z), fun i hi => (h i).mp (hj.2 i hi)⟩]
  · have e2 : ¬ ∃ j, IsBl b j := fun ⟨j, hj⟩ => e ⟨j, fun z => hj.1 ((h j).mp z), fun i hi => (h i).mpr (hj.2 i hi)⟩
    unfold blV
    rw [dif_neg e, dif_neg e2]
theorem blV_cases {l : List (Int × Int)} (h : Led l) : (l = [] ∧ blD l = .none ∧ blV l = 99) ∨ ∃ j, j < l.length ∧ IsBl l j ∧ blD l = .int (j : Int) ∧ blV l = (j : Int) := by
  by_cases hne : l = []
  · refine .inl ⟨hne, by rw [hne, blD_nil], ?_⟩
    unfold blV
    rw [dif_neg]
    rintro ⟨j, hj⟩
    rw [hne] at hj
    exact hj.1 rfl
  · obtain ⟨j, hj, hb⟩ := led_bl h hne
    have := chg_lt hne
    exact .inr ⟨j, by omega, hb, blD_is hb, blV_is hb⟩
/-- of three partings the two smallest are the same -/
theorem three {a b d : List (Int × Int)} (ha : Led a) (hb : Led b) (hd : Led d) (hla : a.length ≤ 99) (hlb : b.length ≤ 99) (hld : d.length ≤ 99) (e : ∀ j, psum d j = psum a j - psum b j) :
    (blV a = blV b ∧ blV a ≤ blV d) ∨ (blV a = blV d ∧ blV a ≤ blV b) ∨ (blV b = blV d ∧ blV b ≤ blV a) := by
  rcases blV_cases ha with ⟨na, _, va⟩ | ⟨i, hi, ba, _, va⟩
  · have z : blV d = blV b := blV_congr fun j => by
      rw [e, na, show psum [] j = 0 from rfl]
      omega
    rw [va, z]
    rcases blV_cases hb with ⟨_, _, vb⟩ | ⟨j, hj, _, _, vb⟩
    · left; rw [vb]; omega
    · right; right; rw [vb]; omega
  · rcases blV_cases hb with ⟨nb, _, vb⟩ | ⟨j, hj, bb, _, vb⟩
    · have z : blV d = blV a := blV_congr fun j => by
        rw [e, nb, show psum [] j = 0 from rfl]
        omega
      right; left
      rw [z, vb, va]; omega
    · rw [va, vb]
      by_cases h1 : i < j
      · have hd2 : IsBl d i := ⟨by rw [e, bb.2 i h1]; have := ba.1; omega, fun k hk => by rw [e, ba.2 k hk, bb.2 k (by omega)]; rfl⟩
        right; left
        rw [blV_is hd2]; omega
      · by_cases h2 : j < i
        · have hd2 : IsBl d j := ⟨by rw [e, ba.2 j h2]; have := bb.1; omega, fun k hk => by rw [e, ba.2 k (by omega), bb.2 k hk]; rfl⟩
          right; right
          rw [blV_is hd2]; omega
        · have hij : i = j := by omega
          subst hij
          left
          refine ⟨rfl, ?_⟩
          rcases blV_cases hd with ⟨_, _, vd⟩ | ⟨t, ht, bd, _, vd⟩
          · rw [vd]; omega
          · rw [vd]
            by_cases h3 : t < i
            · exact absurd (by rw [e, ba.2 t h3, bb.2 t h3]; rfl) bd.1
            · omega
section
variable {K : PySem.W.Frag} {q : Option Addr} {δ : List Sl} {te : TE}
theorem DqAll.three {H : Hp} {vs : List V} {d e f : PyData} (h : DqAll H vs [d, e, f]) : ∃ v w u, vs = [v, w, u] ∧ Dq H v d ∧ Dq H w e ∧ Dq H u f := by
  cases h with
  | cons h1 h2 => cases h2 with
    | cons h2 h3 => cases h3 with
      | cons h3 h4 => cases h4; exact ⟨_, _, _, rfl, h1, h2, h3⟩
end
end Cr

set_option Elab.async false
set_option linter.all false
set_option maxRecDepth 100000
set_option maxHeartbeats 800000
/-! dicts with tuples as keys: sums that grow by a rule -/
namespace Cr
open PySem PySem.Spec PyProof.Rows L2
/-! ### every tuple that stands is known -/
section
variable {K : PySem.W.Frag} {q : Option Addr} {n : Nat} {δ δ' : List Sl} {te te2 ta tb tp tx ty tz2 : TE} {c c1 c2 c3 : Nat} {d : PyData} {A0 B0 Hk H1 Hk' H2 : Hp} {σ : L2.St} {D : Ends} {tz tbd : TS} {r : Addr}
/-! ### the dict -/
def PolyK (f : List Int) : Prop := f.length ≤ 3 ∧ Pl f ∧ CB 4 f ∧ f ≠ []
def cntV (x : List Key × V) : Nat := match x.2 with
  | .int j => j.toNat
  | _ => 0
def GoodT (c : Nat) (kvs : List (List Key × V)) : Prop := kvs.length ≤ c ∧ (∀ x ∈ kvs, ∃ (f : List Int) (j : Nat), x = (f.map Sum.inl, V.int j) ∧ PolyK f ∧ j ≤ c) ∧ (kvs.map (·.1)).Nodup ∧ (kvs.map cntV).sum ≤ c
theorem GoodT.nil : GoodT 0 [] := ⟨Nat.le_refl _, by simp, by simp, by simp⟩
theorem GoodT.mono {c c' : Nat} {kvs : List (List Key × V)} (h : GoodT c kvs) (l : c ≤ c') : GoodT c' kvs := ⟨by have := h.1; omega, fun x hx => by
  obtain ⟨f, j, e, p, z⟩ := h.2.1 x hx
  exact ⟨f, j, e, p, by omega⟩, h.2.2.1, by have := h.2.2.2; omega⟩
structure TCell (q : Option Addr) (B0 Hk H1 : Hp) (p : Addr) (kvs : List (List Key × V)) : Prop where
  nk : Hk p = none
  nq : q ≠ some p
  nb : B0 p = none
  ex : H1 p = some (.dT kvs)
theorem TCell.go {kvs : List (List Key × V)} (x : TCell q B0 Hk H1 r kvs) (g : Gr q Hk H1 Hk' H2) : TCell q B0 Hk' H2 r kvs :=
  ⟨g.f r x.nk (by rw [x.ex]; exact fun z => by cases z), x.nq, x.nb, g.s r _ x.nq x.ex⟩
theorem At.fresh {p : Addr} (s : At q n δ A0 B0 σ Hk H1) (h : H1 p = none) : Hk p = none ∧ q ≠ some p ∧ B0 p = none :=
  ⟨s.ok.a.free h, fun e => (s.ok.j p e).ne h, by
    cases e : B0 p with
    | none => rfl
    | some u => exact absurd h (s.gr.t p (by rw [e]; exact fun z => by cases z))⟩
theorem Ok.new {p : Addr} {u : HO} (o : Ok q n Hk H1) (hp : H1 p = none) : Ok q n (upd Hk p u) (upd H1 p u) := o.go (Gr.new o.a hp)
end
end Cr

set_option Elab.async false
set_option linter.all false
set_option maxRecDepth 100000
set_option maxHeartbeats 800000
/-! dicts of ints that still change, read by comprehensions -/
namespace Cr
open PySem PySem.Spec PyProof.Rows L2
structure ICell (q : Option Addr) (B0 Hk H1 : Hp) (p : Addr) (m : List (Int × Int)) : Prop where
  nk : Hk p = none
  nq : q ≠ some p
  nb : B0 p = none
  ex : H1 p = some (.dK (mdict m))
section
variable {K : PySem.W.Frag} {q : Option Addr} {n : Nat} {δ δ' : List Sl} {te te2 ta tb tp tx ty tz2 : TE} {c c1 c2 c3 : Nat} {d : PyData} {A0 B0 Hk H1 Hk' H2 : Hp} {σ : L2.St} {D : Ends} {tz tbd : TS} {r : Addr} {m : List (Int × Int)}
theorem ICell.go (x : ICell q B0 Hk H1 r m) (g : Gr q Hk H1 Hk' H2) : ICell q B0 Hk' H2 r m :=
  ⟨g.f r x.nk (by rw [x.ex]; exact fun z => by cases z), x.nq, x.nb, g.s r _ x.nq x.ex⟩
/-! ### a dict whose keys alone matter -/
structure BCell (q : Option Addr) (B0 Hk H1 : Hp) (p : Addr) (ks : List Int) : Prop where
  nk : Hk p = none
  nq : q ≠ some p
  nb : B0 p = none
  ex : ∃ kvs : List (Key × V), H1 p = some (.dK kvs) ∧ kvs.map (·.1) = ks.map Sum.inl
theorem BCell.go {ks : List Int} (x : BCell q B0 Hk H1 r ks) (g : Gr q Hk H1 Hk' H2) : BCell q B0 Hk' H2 r ks := by
  obtain ⟨kvs, e, h⟩ := x.ex
  exact ⟨g.f r x.nk (by rw [e]; exact fun z => by cases z), x.nq, x.nb, kvs, g.s r _ x.nq e, h⟩
end
end Cr

set_option Elab.async false
set_option linter.all false
set_option maxRecDepth 100000
set_option maxHeartbeats 800000
/-! fractions at keys come to the sums -/
namespace Cr
open PySem PySem.Spec PyProof.Rows L2
/-! ### a polynomial with too many roots -/
/-! ### sums of multiples -/
/-! ### least terms -/
/-! ### a common multiple -/
section
variable {K : PySem.W.Frag} {q : Option Addr} {n : Nat} {δ δ' : List Sl} {te te2 ta tb : TE} {c c1 c2 c3 : Nat} {d d1 d2 : PyData} {A0 B0 Hk H1 Hk' H2 : Hp} {σ : L2.St} {D : Ends} {tz : TS}
end
end Cr

set_option Elab.async false
set_option linter.all false
set_option maxRecDepth 100000
set_option maxHeartbeats 800000
/-! rules of sums -/
namespace Cr
open PySem PySem.Spec PyProof.Rows L2
/-! ### a stretch of the sums under a rule -/
/-! ### numbers divided by what they share -/
/-! ### how long the numbers of a shortest rule may be -/
/-! ### rules of the hand layer -/
section
variable {K : PySem.W.Frag} {q : Option Addr} {n : Nat} {δ δ' : List Sl} {te ta tb : TE} {c c1 c2 : Nat} {d d1 d2 d3 d4 d5 : PyData} {A0 B0 Hk H1 H2 Hk' : Hp} {σ : L2.St} {D : Ends} {tz : TS} {p : Addr} {ds es : List PyData}

/-! ### lists of polynomials, some drawn -/
end
end Cr

set_option Elab.async false
set_option linter.all false
set_option maxRecDepth 100000
set_option maxHeartbeats 1000000
namespace Cr
open PySem PySem.Spec PyProof.Rows L2 L2
/-! ### talks: ranges, rounds -/
end Cr

set_option Elab.async false
set_option linter.all false
set_option maxRecDepth 100000
set_option maxHeartbeats 1000000
namespace Cr
open PySem PySem.Spec PyProof.Rows L2 LiI
section
variable {K : PySem.W.Frag} {q : Option Addr} {n : Nat} {δ δ' : List Sl} {te ta tb tc tk : TE} {tt tu : TT} {c c1 c2 c3 : Nat} {Φ Φ1 Φ2 Φ3 : PyData → Prop} {d d1 d2 d3 : PyData} {wi : TI} {A0 B0 Hk H1 H2 Hk' : Hp} {σ : L2.St} {D : Ends} {ts tz : TS} {g : TG} {p r : Addr} {ds : List PyData}
/-- all that is new is known -/
def moreH (Hk H1 H' : Hp) : Hp := fun b => match H1 b with
  | none => H' b
  | some _ => Hk b
theorem moreH_new {b : Addr} {Hk H1 H' : Hp} (h : H1 b = none) : moreH Hk H1 H' b = H' b := by unfold moreH; rw [h]
theorem moreH_old {b : Addr} {Hk H1 H' : Hp} (h : H1 b ≠ none) : moreH Hk H1 H' b = Hk b := by
  unfold moreH
  cases e : H1 b with
  | none => exact absurd e h
  | some u => rfl
theorem Gr.more {Hk H1 H' : Hp} (s : Same Hk H1) (e : ∀ b o, H1 b = some o → H' b = some o) : Gr q Hk H1 (moreH Hk H1 H') H' := by
  refine ⟨fun b o h => ?_, fun b o h => ?_, fun b o _ h => e b o h, fun b h h1 => ?_, fun b h => ?_⟩
  · rw [moreH_old (by rw [s b o h]; exact fun z => by cases z)]; exact h
  · cases h1 : H1 b with
    | none => rw [moreH_new h1] at h; exact h
    | some u =>
      rw [moreH_old (by rw [h1]; exact fun z => by cases z)] at h
      exact e b o (s b o h)
  · rw [moreH_old h1]; exact h
  · cases h1 : H1 b with
    | none => exact absurd h1 h
    | some u => rw [e b u h1]; exact fun z => by cases z
/-! a dict of one's own that changes -/
structure DCell (q : Option Addr) (B0 Hk H1 : Hp) (p : Addr) (m : List (Int × Int)) : Prop where
  nk : Hk p = none
  nq : q ≠ some p
  nb : B0 p = none
  ex : H1 p = some (.dK (mdict m))
theorem DCell.go {m : List (Int × Int)} (x : DCell q B0 Hk H1 p m) (g : Gr q Hk H1 Hk' H2) : DCell q B0 Hk' H2 p m :=
  ⟨g.f p x.nk (by rw [x.ex]; exact fun z => by cases z), x.nq, x.nb, g.s p _ x.nq x.ex⟩
end
/-! rounds as data -/
theorem divW2 {i : Int} : CDivW i 2 := by
  unfold CDivW
  first
    | decide
    | exact ⟨by decide, by decide⟩
end Cr
namespace Cr
open PySem PySem.Spec PyProof.Rows L2
section
variable {K : PySem.W.Frag} {q : Option Addr} {n : Nat} {δ : List Sl} {te : TE} {c : Nat} {Φ : PyData → Prop} {d : PyData} {A0 B0 Hk H1 : Hp} {σ : L2.St} {D : Ends} {tz : TS} {p : Addr} {ds es : List PyData}
end
end Cr
namespace Cr
open PySem PySem.Spec PyProof.Rows L2
section
variable {K : PySem.W.Frag} {q : Option Addr} {n : Nat} {δ : List Sl} {te ti : TE} {tt : TT} {c c1 ci : Nat} {Φ : PyData → Prop} {d : PyData} {A0 B0 Hk H1 : Hp} {σ : L2.St} {D : Ends} {tz : TS} {p r t : Addr} {ds es : List PyData}
end
end Cr

set_option Elab.async false
set_option linter.all false
set_option maxRecDepth 100000
set_option maxHeartbeats 1000000
namespace Cr
open PySem PySem.Spec PyProof.Rows L2
/-! all pairs of small ledgers -/
end Cr
namespace Cr
open PySem PySem.Spec PyProof.Rows L2
section
variable {K : PySem.W.Frag} {q : Option Addr} {n : Nat} {δ : List Sl} {c : Nat} {A0 B0 Hk H1 : Hp} {σ : L2.St} {D : Ends}
end
end Cr
namespace Cr
open PySem PySem.Spec PyProof.Rows L2
section
variable {K : PySem.W.Frag} {q : Option Addr} {n : Nat} {δ : List Sl} {te ti : TE} {c : Nat} {A0 B0 Hk H1 : Hp} {σ : L2.St} {D : Ends} {tz : TS}
end
end Cr
namespace Cr
open PySem PySem.Spec PyProof.Rows L2
end Cr

set_option Elab.async false
set_option linter.all false
set_option maxRecDepth 100000
set_option maxHeartbeats 1000000
namespace Cr
open PySem PySem.Spec PyProof.Rows L2
/-! ### truth of a list -/
section
variable {K : PySem.W.Frag} {q : Option Addr} {n : Nat} {δ δ' : List Sl} {te ta tb : TE} {tt : TT} {c : Nat} {d d1 d2 d3 d4 d5 : PyData} {A0 B0 Hk H1 H2 Hk' : Hp} {σ : L2.St} {D : Ends} {tz : TS} {p O : Addr} {ds es e0 rest : List PyData}
/-! ### a new list, its first item a new list, too -/
structure Fresh2 (q : Option Addr) (B0 Hk H : Hp) (O : Addr) (e0 rest : List PyData) : Prop where
  nk : Hk O = none
  nq : q ≠ some O
  nb : B0 O = none
  ex : ∃ D xs ys, H O = some (.lst (.ref D :: xs)) ∧ DqAll Hk xs rest ∧ O ≠ D ∧ Hk D = none ∧ q ≠ some D ∧ B0 D = none ∧ H D = some (.lst ys) ∧ DqAll Hk ys e0
theorem Fresh2.go (x : Fresh2 q B0 Hk H1 O e0 rest) (g : Gr q Hk H1 Hk' H2) : Fresh2 q B0 Hk' H2 O e0 rest := by
  obtain ⟨D, xs, ys, e1, d1, ne, k1, q1, b1, e2, d2⟩ := x.ex
  exact ⟨g.f O x.nk (by rw [e1]; exact fun z => by cases z), x.nq, x.nb, D, xs, ys, g.s O _ x.nq e1, DqAll.mono g.k _ _ d1, ne, g.f D k1 (by rw [e2]; exact fun z => by cases z), q1, b1, g.s D _ q1 e2, DqAll.mono g.k _ _ d2⟩
def JNN (q : Option Addr) (δ : List Sl) (te : TE) (e0 rest : List PyData) : Prop := ∀ (σ : L2.St) (H H1 : Hp) (n : Nat), Sg H σ δ → Ok q n H H1 → ∀ Q : VK, (∀ O Hk H2, Gr q H H1 Hk H2 → Ok q n Hk H2 → Fresh2 q H1 Hk H2 O e0 rest → Q (.ref O) H2) → te σ H1 Q
theorem Fresh2.base {B1 : Hp} (x : Fresh2 q B1 Hk H1 O e0 rest) (t : ∀ b, B0 b ≠ none → B1 b ≠ none) : Fresh2 q B0 Hk H1 O e0 rest := by
  have z : ∀ b, B1 b = none → B0 b = none := fun b h => by
    cases e : B0 b with
    | none => rfl
    | some u => exact absurd h (t b (by rw [e]; exact fun y => by cases y))
  obtain ⟨D, xs, ys, e1, d1, ne, k1, q1, b1, e2, d2⟩ := x.ex
  exact ⟨x.nk, x.nq, z _ x.nb, D, xs, ys, e1, d1, ne, k1, q1, z _ b1, e2, d2⟩
/-- it stands still from here -/
theorem Fresh2.freeze (x : Fresh2 q B0 Hk H1 O e0 rest) (s : At q n δ A0 B0 σ Hk H1) : ∃ Hk', Same Hk Hk' ∧ At q n δ A0 B0 σ Hk' H1 ∧ Dq Hk' (.ref O) (.list (.list e0 :: rest)) ∧ ∃ D xs ys, Hk' O = some (.lst (.ref D :: xs)) ∧ Hk' D = some (.lst ys) ∧ O ≠ D ∧ q ≠ some O ∧ q ≠ some D ∧ B0 O = none ∧ B0 D = none ∧ Hk O = none ∧ Hk D = none ∧ ys.length = e0.length ∧ xs.length = rest.length ∧ DqAll Hk' ys e0 := by
  obtain ⟨F, xs, ys, e1, d1, ne, k1, q1, b1, e2, d2⟩ := x.ex
  have g1 := s.gr.freeze b1 k1 e2
  have nO : upd Hk F (.lst ys) O = none := by rw [upd_ne ne]; exact x.nk
  have g2 := g1.freeze x.nb nO e1
  have sm : Same Hk (upd (upd Hk F (.lst ys)) O (.lst (.ref F :: xs))) := (same_upd k1).trans (same_upd nO)
  have eF : upd (upd Hk F (.lst ys)) O (.lst (.ref F :: xs)) F = some (.lst ys) := by rw [upd_ne (Ne.symm ne)]; exact upd_same
  refine ⟨upd (upd Hk F (.lst ys)) O (.lst (.ref F :: xs)), sm, ⟨⟨g2.a, fun r er => ?_, s.ok.j⟩, s.sg.mono sm, g2⟩, .lst upd_same (.cons (.lst eF (DqAll.mono sm _ _ d2)) (DqAll.mono sm _ _ d1)), F, xs, ys, upd_same, eF, ne, x.nq, q1, x.nb, b1, x.nk, k1, d2.length, d1.length, DqAll.mono sm _ _ d2⟩
  rw [upd_ne (fun z => x.nq (by rw [← z]; exact er)), upd_ne (fun z => q1 (by rw [← z]; exact er))]
  exact s.ok.kf r er
theorem JNN.e (h : JNN q δ te e0 rest) : E q δ te (.list (.list e0 :: rest)) := fun σ H H1 n sg o Q k =>
  h σ H H1 n sg o _ fun O Hk H2 g o1 f => by
    obtain ⟨Hk', sm, a, dq, _⟩ := f.freeze (A0 := H) (B0 := H1) (δ := []) (σ := []) ⟨o1, ⟨rfl, fun i s e => by simp at e⟩, g⟩
    exact k _ _ Hk' H2 a.gr a.ok rfl dq
/-- what an address holds is told -/
theorem At.tell {i : Nat} (s : At q n δ A0 B0 σ Hk H1) (hi : δ[i]? = some (.adr p)) (dq : Dq Hk (.ref p) d) : At q n (δ.set i (.dat d)) A0 B0 σ Hk H1 := by
  refine ⟨s.ok, ⟨by rw [List.length_set]; exact s.sg.1, fun j t e ne => ?_⟩, s.gr⟩
  by_cases hj : i = j
  · subst hj
    have hl : i < δ.length := (List.getElem?_eq_some_iff.mp hi).1
    rw [List.getElem?_set_self hl] at e
    cases e
    exact ⟨.ref p, s.sg.getA hi, dq⟩
  · rw [List.getElem?_set_ne hj] at e
    exact s.sg.2 j t e ne
theorem At.back {δ2 : List Sl} (s : At q n δ A0 B0 σ Hk H1) (a : At q n δ2 A0 B0 σ Hk' H2) (g : Same Hk Hk') : At q n δ A0 B0 σ Hk' H2 := ⟨a.ok, s.sg.mono g, a.gr⟩
end
end Cr

set_option Elab.async false
set_option linter.all false
set_option maxRecDepth 100000
set_option maxHeartbeats 1000000
namespace Cr
open PySem PySem.Spec PyProof.Rows L2
section
variable {P : Program} {w : World} {K : PySem.W.Frag} {mg : Str → Option Value} {base : Heap}
end
section
variable {K : PySem.W.Frag} {q : Option Addr} {n : Nat} {δ δ' : List Sl} {te ta tb : TE} {tt : TT} {c : Nat} {d d1 d2 : PyData} {A0 B0 Hk H1 H2 Hk' : Hp} {σ : L2.St} {D : Ends} {tz : TS} {p O : Addr} {ds es e0 rest : List PyData} {wi wi1 : TI} {g g1 : TG}
end
end Cr

namespace Cr
open PySem PySem.Spec PyProof.Rows L2
/-! ### a op b op c op d as a test -/
section
variable {X : Cx} {a b c d : Expr} {ta tb tc td : TE} {pos : Pos}
end
section
variable {K : PySem.W.Frag} {q : Option Addr} {δ : List Sl} {ta tb tc td ti te : TE} {n : Nat}
end
/-! ### a ledger parted at a key -/
end Cr

set_option Elab.async false
set_option linter.all false
set_option maxRecDepth 100000
set_option maxHeartbeats 1000000
namespace Cr
open PySem PySem.Spec PyProof.Rows L2
/-! ### what a talk tells adds up -/
/-! the talk itself -/
end Cr

set_option Elab.async false
set_option linter.all false
set_option maxRecDepth 100000
set_option maxHeartbeats 800000
/-! what talks cost -/
namespace Cr
open PySem PySem.Spec PyProof.Rows L2
/-! ### rows of ranges, one by one -/
section
variable {g a b : List (Int × Int)} {r0 : Int × Int}
/-! ### all rows together -/
end
/-! ### the least of all -/
def IsMin (f : Nat → Int) (top n : Nat) : Prop := (1 ≤ n ∧ n ≤ top) ∧ (∀ m, 1 ≤ m → m ≤ top → f n ≤ f m) ∧ ∀ m, 1 ≤ m → m < n → f n < f m
theorem IsMin.uniq {f : Nat → Int} {top n m : Nat} (h : IsMin f top n) (h2 : IsMin f top m) : n = m := by
  obtain ⟨⟨a, b⟩, c, d⟩ := h
  obtain ⟨⟨a2, b2⟩, c2, d2⟩ := h2
  rcases Nat.lt_trichotomy n m with e | e | e
  · have := d2 n a e
    have := c m a2 b2
    omega
  · exact e
  · have := d m a2 e
    have := c2 n a b
    omega
def IsFst (P : Nat → Prop) (n : Nat) : Prop := 1 ≤ n ∧ P n ∧ ∀ m, 1 ≤ m → m < n → ¬ P m
theorem IsFst.uniq {P : Nat → Prop} {n m : Nat} (h : IsFst P n) (h2 : IsFst P m) : n = m := by
  obtain ⟨a, b, c⟩ := h
  obtain ⟨a2, b2, c2⟩ := h2
  rcases Nat.lt_trichotomy n m with e | e | e
  · exact absurd b (c2 n a e)
  · exact e
  · exact absurd b2 (c m a2 e)
/-! ### min of pairs of ints, list.index of ints -/
theorem k_index {X : Cx} {K : PySem.W.Frag} (hK : X.K = K) : MtR X "list.index" (rIndex K) := hK ▸ mt_index
/-! ### the most of some -/
section
variable {K : PySem.W.Frag} {q : Option Addr} {δ : List Sl} {te te2 : TE}
end
/-- what repr may print -/
def Shw (k W : Nat) (d : PyData) : Prop := d.showable = true ∧ d.hasDict = false ∧ d.depth ≤ k ∧ PyData.leavesShort 100 d = true ∧ PyData.weight d ≤ W
theorem Shw.mono {k k' W W' : Nat} {d : PyData} (h : Shw k W d) (hk : k ≤ k') (hW : W ≤ W') : Shw k' W' d := ⟨h.1, h.2.1, Nat.le_trans h.2.2.1 hk, h.2.2.2.1, Nat.le_trans h.2.2.2.2 hW⟩
theorem Shw.size {k W : Nat} {d : PyData} (h : Shw k W d) (hW : W ≤ 160000) : d.shown.length ≤ sizeLine := by
  have z := PyData.shown_le 100 (by omega) d h.2.2.2.1
  have e : sizeLine = 16777216 := by decide
  rw [e]
  have m := Nat.mul_le_mul_left (100 + 2) (Nat.le_trans h.2.2.2.2 hW)
  omega
section
variable {K : PySem.W.Frag} {q : Option Addr} {n c : Nat} {δ : List Sl} {ta tb : TE} {d2 : PyData} {A0 B0 Hk H1 : Hp} {σ : L2.St} {D : Ends} {tz : TS} {Φ : PyData → Prop}
end
/-! ### a def that is called where no guard stands -/
structure FnOkG (P : Program) (w : World) (K : PySem.W.Frag) (mg : Str → Option Value) (base : Heap) (CX : CXT) (k : Nat) (f : Addr) (fd : FuncData) (ps : List Str) (sp : Sp) : Prop where
  len : ∀ vs H Q E, sp vs H Q E → vs.length = ps.length
  run : ∀ (A : Around) (outer : List Env) (s : Shared) (H : Hp) (args : Args) (us : List Value) (vs : List V) (Q : VK) (E : XK), A.guards = some [] → Room k A → Env0 P w K mg base A outer s H → BindsTo s fd args (ps.zip us) → Vals vs us → sp vs H Q E →
    codeAny (model P w) A (.call (.ref f) args) (CR CX outer P w H s Q E) s
section
variable {P : Program} {w : World} {K : PySem.W.Frag} {mg : Str → Option Value} {base : Heap}
end
section
variable {X : Cx} {CX : CXT} {k : Nat} {f : Addr} {fd : FuncData} {ps : List Str} {sp : Sp} {dvs : List V} {ds : List Value} {E : XK} {x : Str} {p pos : Pos} {e : Expr} {es : List Expr} {t : TA}
end
section
variable {K : PySem.W.Frag} {q : Option Addr} {δ : List Sl} {te : TE}
end
end Cr

set_option Elab.async false
set_option linter.all false
set_option maxRecDepth 100000
set_option maxHeartbeats 800000
/-! A tuple judged pair by pair. -/
namespace Cr
open PySem PySem.Spec PyProof.Rows L2
theorem asc_pw : ∀ l : List (Int × Int), asc l = true → l.Pairwise fun a b => a.1 < b.1
  | [], _ => .nil
  | [x], _ => by simp
  | x :: y :: l, h => by
    have e : asc (x :: y :: l) = (decide (x.1 < y.1) && asc (y :: l)) := rfl
    rw [e, Bool.and_eq_true] at h
    have ih := asc_pw (y :: l) h.2
    have hxy : x.1 < y.1 := of_decide_eq_true h.1
    refine List.pairwise_cons.mpr ⟨fun z hz => ?_, ih⟩
    rcases List.mem_cons.mp hz with e | e
    · rw [e]; exact hxy
    · have := (List.pairwise_cons.mp ih).1 z e
      omega
theorem led_of {ds : List PyData} (h : isLedD (.tuple ds) = true) : ∃ l, Led l ∧ ds = pd l := by
  have h0 : (ds.all isChangeD && (asc (ds.filterMap unpr) && nz (ds.filterMap unpr))) = true := h
  rw [Bool.and_eq_true] at h0
  obtain ⟨l, rfl⟩ := changes_pd h0.1
  rw [unpr_pd, Bool.and_eq_true] at h0
  refine ⟨l, ⟨asc_pw l h0.2.1, fun x hx => ?_⟩, rfl⟩
  have := List.all_eq_true.mp h0.2.2 x hx
  simpa using this
theorem pd_inj {a b : List (Int × Int)} (h : pd a = pd b) : a = b := by
  have := congrArg (fun ds => ds.filterMap unpr) h
  simpa [unpr_pd] using this
section
variable {K : PySem.W.Frag} {q : Option Addr} {δ : List Sl} {te tb : TE}
/-- {} -/
theorem e_dnew : E q δ tDNewK (.dict []) := fun σ H H1 n sg o Q k => fun p hp => by
  have g := Gr.new (q := none) (o := .dK []) o.a hp
  exact k _ _ _ _ g.none_to (o.go g) rfl (.dic upd_same)
/-- no tuple of it is long -/
def ShortT (d : PyData) : Prop := ∀ ds, d = .tuple ds → ds.length ≤ 100000
theorem short_tup {ds : List PyData} (h : ds.length ≤ 100000) : ShortT (.tuple ds) := fun es e => by cases e; exact h
end
/-! ### a class's instance -/
structure FunV (K : PySem.W.Frag) (x qual : Str) (st : Stmt) (f : Addr) (fd : FuncData) : Prop where
  ex : ∃ (oc : Value) (od : Option Addr) (dV kV doc pm : Value) (an : Option Addr) (cdv ct : Value) (osl : Array (Option Value)), fd = PySem.W.fnOf x qual (defArgs st) (defBody st) (defScope st) dV kV doc pm an cdv ct ∧ K.lookup f = some ⟨oc, od, .func fd, osl⟩ ∧ PySem.W.codeIn K cdv qual = true
  kp : PySem.W.keepIn K (.ref f) = true
theorem FunV.binds {K : PySem.W.Frag} {x qual : Str} {st : Stmt} {f : Addr} {fd : FuncData} {ps : List Str} (F : FunV K x qual st f fd)
    (h : ∀ (dV kV doc pm : Value) (an : Option Addr) (cdv ct : Value) (us : List Value), us.length = ps.length → bindArgs (PySem.W.fnOf x qual (defArgs st) (defBody st) (defScope st) dV kV doc pm an cdv ct) ⟨us, []⟩ = pure (ps.zip us)) : Binds K fd ps [] := by
  obtain ⟨oc, od, dV, kV, doc, pm, an, cdv, ct, osl, rfl, lk, hcd⟩ := F.ex
  exact .all (h dV kV doc pm an cdv ct)
/-- what isinstance asks of a class that is no tuple -/
structure InsC (K : PySem.W.Frag) (C : Addr) : Prop where
  ha : PySem.W.findIn K (.ref C) "__class__" = some (some (.builtin "object.__class__"))
  hn : PySem.W.specialIn K (.builtin "object.__class__") "__get__" = some (some (.builtin "getset_descriptor.__get__"))
  htk : PySem.W.takesIn K (.builtin "object.__class__") = some true
  hm : PySem.W.mroIn K C (.type "object") = some true
  kt : PySem.W.kitOne K (.ref C) (.type "tuple") = some false
  ki : PySem.W.kitOne K (.ref C) (.type "int") = some false
theorem kit_no {K : PySem.W.Frag} {C : Addr} (h : PySem.W.subIn K (.ref C) (.type "tuple") = some false) : PySem.W.kitOne K (.ref C) (.type "tuple") = some false := by
  unfold PySem.W.kitOne
  rw [if_neg (fun e => by first | (have := eq_of_beq e; cases this) | simp at e)]
  show (if PySem.W.kitMeta "tuple" = true then PySem.W.subIn K (.ref C) (.type "tuple") else none) = some false
  rw [if_pos (by decide +kernel)]
  exact h
theorem kit_noI {K : PySem.W.Frag} {C : Addr} (h : PySem.W.subIn K (.ref C) (.type "int") = some false) : PySem.W.kitOne K (.ref C) (.type "int") = some false := by
  unfold PySem.W.kitOne
  rw [if_neg (fun e => by first | (have := eq_of_beq e; cases this) | simp at e)]
  show (if PySem.W.kitMeta "int" = true then PySem.W.subIn K (.ref C) (.type "int") else none) = some false
  rw [if_pos (by decide +kernel)]
  exact h
theorem kit_yesV {K : PySem.W.Frag} {C : Addr} (h : PySem.W.subIn K (.ref C) (.type "ValueError") = some true) : PySem.W.kitOne K (.ref C) (.type "ValueError") = some true := by
  unfold PySem.W.kitOne
  rw [if_neg (fun e => by first | (have := eq_of_beq e; cases this) | simp at e)]
  show (if PySem.W.kitMeta "ValueError" = true then PySem.W.subIn K (.ref C) (.type "ValueError") else none) = some true
  rw [if_pos (by decide +kernel)]
  exact h
/-- __init__ of a class with one attribute: it stores what it is given -/
def spI (C : Addr) (fld : Str) (Pd : PyData → Prop) : Sp := fun vs H Q _ => ∃ (q : Option Addr) (Hk H0 : Hp) (n : Nat) (x dx : Addr) (w : V) (d : PyData), vs = [.ref x, w] ∧ H = upd (upd H0 dx (.own x)) x (.ins C dx []) ∧ H0 x = none ∧ H0 dx = none ∧ dx ≠ x ∧ Ok q n Hk H0 ∧ Dq Hk w d ∧ Pd d ∧
  ∀ Hk' H2, Gr q Hk H0 Hk' H2 → Ok q n Hk' H2 → (∃ fs, H2 x = some (.ins C dx fs)) → Q .non H2
section
variable {P : Program} {w : World} {K : PySem.W.Frag} {mg : Str → Option Value} {base : Heap}
/-- self.fld = value behind a check -/
theorem init_ok {x qual fld : Str} {st : Stmt} {f C : Addr} {fd : FuncData} {N ps : List Str} {k : Nat} {Pd : PyData → Prop} {tc : TE} (hp : ps.length = 2) (hN2 : N.length = 2) (F : FunV K x qual st f fd) (S : FnScope N ps (defScope st)) (cl : Cls K C) (na : NoAttr K C fld)
    (body : ∀ (cdv : Value) (A : Around) (outer : List Env) (s : Shared) (B0 : Hp) (E : XK), Room k (A.deeper (envOfC qual (defScope st) s.heap.objs.size f cdv)) →
      PSs (cxOf CX0 P w K mg base N qual (defScope st) f cdv A outer s B0 E).nox (defBody st) (tSeq (tDrop tc) (sFld K (tVar 0) (tVar 1) fld)))
    (hc : ∀ (q : Option Addr) (δ : List Sl) (d : PyData), Pd d → δ[1]? = some (.dat d) → E q δ tc .none) :
    FnOk P w K mg base CX0 (k + 1) f fd ps (spI C fld Pd) := by
  obtain ⟨oc, od, dV, kV, doc, pm, an, cdv, ct, osl, rfl, lk, hcd⟩ := F.ex
  refine fn_of lk hcd S (fun vs H Q E h => ?_) fun A outer s H vs Q E hr h => ?_
  · obtain ⟨_, _, _, _, _, _, _, _, rfl, _⟩ := h
    rw [hp]; rfl
  · obtain ⟨q, Hk, H0, n, a, dx, v, d, rfl, rfl, h1, h2, h3, o, dv, pd, kk⟩ := h
    refine ⟨_, (body cdv A outer s _ E hr).nox, ?_⟩
    have hka : Hk a = none := o.a.free h1
    have hkd : Hk dx = none := o.a.free h2
    have nqa : q ≠ some a := fun e => (o.j a e).ne h1
    have nqd : q ≠ some dx := fun e => (o.j dx e).ne h2
    have sg0 := start_sg (N := N) (vs := [.ref a, v]) (sls := [.adr a, .dat d]) (VS.cons (H := Hk) (s := .adr a) rfl (VS.cons (s := .dat d) dv VS.nil)) (by rw [hN2]; exact Nat.le_refl _)
    rw [hN2] at sg0
    have s1 : At q n [.adr a, .dat d] Hk H0 (L2.start N [.ref a, v]) Hk (upd (upd H0 dx (.own a)) a (.ins C dx [])) := ⟨(o.cell hkd nqd).cell hka nqa, sg0, ((Gr.refl o.a).put h2 hkd).put h1 hka⟩
    refine q_drop (hc q _ d pd rfl) s1 fun Hk1 H1 g1 a1 => ?_
    have e1 : H1 a = some (.ins C dx []) := g1.s a _ nqa upd_same
    have hk1 : Hk1 a = none := g1.f a hka (by rw [upd_same]; exact fun z => by cases z)
    refine (e_var (i := 1) rfl) _ Hk1 H1 n a1.sg a1.ok _ fun d2 v2 Hk2 H2 g2 o2 ed dv2 => ?_
    have e2 : H2 a = some (.ins C dx []) := g2.s a _ nqa e1
    have hk2 : Hk2 a = none := g2.f a hk1 (by rw [e1]; exact fun z => by cases z)
    refine ⟨.ref a, a1.sg.getA (i := 0) rfl, a, C, dx, [], rfl, e2, cl, na, by show 0 < 1000; decide, ?_⟩
    exact kk Hk2 _ ((a1.gr.trans g2).put h1 hk2) (o2.cell hk2 nqa) ⟨_, upd_same⟩
end
/-- a def that is handed an instance and says False -/
def spIns (K : PySem.W.Frag) : Sp := fun vs H Q _ => ∃ (q : Option Addr) (Hk : Hp) (n : Nat) (a C dx : Addr) (fs : List (Str × V)), vs = [.ref a] ∧ H a = some (.ins C dx fs) ∧ Cls K C ∧ InsC K C ∧ Ok q n Hk H ∧ ∀ Hk' H2, Gr q Hk H Hk' H2 → Ok q n Hk' H2 → Q (.bl false) H2
section
variable {K : PySem.W.Frag} {q : Option Addr} {n : Nat} {δ : List Sl} {A0 B0 Hk H1 : Hp} {σ : L2.St} {D : Ends} {tz : TS}
/-- if not isinstance(x, tuple) or ..: return False -/
theorem q_insNo {i : Nat} {a C dx : Addr} {fs : List (Str × V)} {tt : TT} (s : At q n δ A0 B0 σ Hk H1) (hi : δ[i]? = some (.adr a)) (e : H1 a = some (.ins C dx fs)) (cl : Cls K C) (ic : InsC K C) (k : D.rt (.bl false) H1) :
    tSeq (tIfS (tOr (tNot (tB (tCB (rIsiU K) (tCons (tVar i) (tCons (tC (.ty "tuple")) tNil))))) tt) (tRet (tC (.bl false))) tNext) tz D σ H1 := by
  refine ⟨.ref a, s.sg.getA hi, .inl ⟨.ref a, .ty "tuple", .ref C, .type "tuple", false, rfl, .ty "tuple", .base (.ins e cl ic.ha ic.hn ic.htk ic.hm), ic.kt, false, rfl, ?_⟩⟩
  exact k
end
end Cr

set_option Elab.async false
set_option linter.all false
set_option maxRecDepth 100000
set_option maxHeartbeats 800000
/-! Ledgers form a ring. -/
namespace Cr
open PySem PySem.Spec PyProof.Rows L2
end Cr

set_option Elab.async false
set_option linter.all false
set_option maxRecDepth 100000
set_option maxHeartbeats 800000
/-! Defs that raise, and trys around them. -/
namespace L2
open PySem PySem.Spec PyProof.Rows
/-- X() of an own exception class -/
theorem pmk_own0 {X : Cx} {C : Addr} {bmB : List Value} {B newId initId : String} {x : Str} {p pos : Pos} (F : ExcBaseFacts B newId initId bmB) (q : PySem.W.excIn X.K C bmB newId = true) (gC : X.mg x = some (.ref C)) (kC : PySem.W.keepIn X.K (.ref C) = true) (r : Raises X (.ref C)) (hg : Gl X x)
    (hdb : (x == ("__debug__" : Str)) = false := by decide) : PMk X (.Call (.Name x p) [] [] pos) (fun _ H Q => Q (.ref C) none H) := by
  intro pins s σ H Q I h
  refine wpAny_Call_Name_kw (ld_glob I hg gC ?_ hdb)
  refine PySem.W.callWith_K0 I.kIn kC ?_
  show wpAny _ _ (call (.ref C) []) _ _ _
  obtain ⟨bm, N, nm, qn, bs, hdct, sn, sub, ab, col, dd, k0, k1, k2, k3, k5, mN, hC, hN, hni, T⟩ := exc_obj I.kIn q
  refine wpAny_call_exc_subT F T hC hN hni (fun h' e hm => ?_) (by show 0 ≤ sizeLine; omega)
  exact mk_of I hm r h (I.hok.gone hm.new)
end L2
namespace Cr
open PySem PySem.Spec PyProof.Rows L2
/-- what a def raises: the class's name -/
abbrev RelE := Option Addr → List Sl → Nat → Str → Prop
def spE (mg : Str → Option Value) (R : RelE) : Sp := fun vs H _ E => ∃ (q : Option Addr) (Hk : Hp) (sls : List Sl) (n c : Nat) (x : Str), Ok q (n + c) Hk H ∧ VS Hk vs sls ∧ R q sls c x ∧
  ∀ C, mg x = some (.ref C) → ∀ Hk' H2, Gr q Hk H Hk' H2 → Ok q n Hk' H2 → E (.ref C) none H2
def spU (s1 s2 : Sp) : Sp := fun vs H Q E => s1 vs H Q E ∨ s2 vs H Q E
section
variable {P : Program} {w : World} {K : PySem.W.Frag} {mg : Str → Option Value} {base : Heap} {k : Nat} {f : Addr} {fd : FuncData} {ps : List Str} {sp s1 s2 : Sp} {CX : CXT}
theorem fn_lift (F : FnOk P w K mg base CX0 k f fd ps sp) : FnOk P w K mg base (L2.CX P w) k f fd ps sp := ⟨F.len, fun A outer s H args us vs Q E hr he hb hv hs => codeAny_mono (F.run A outer s H args us vs Q E hr he hb hv hs) fun r s' h => by
  cases r with
  | error e => exact h.elim
  | ok fl => cases fl <;> exact h⟩
theorem fn_or (F : FnOk P w K mg base CX k f fd ps s1) (G : FnOk P w K mg base CX k f fd ps s2) : FnOk P w K mg base CX k f fd ps (spU s1 s2) := ⟨fun vs H Q E h => by
  rcases h with h | h
  · exact F.len _ _ _ _ h
  · exact G.len _ _ _ _ h, fun A outer s H args us vs Q E hr he hb hv hs => by
  rcases hs with h | h
  · exact F.run A outer s H args us vs Q E hr he hb hv h
  · exact G.run A outer s H args us vs Q E hr he hb hv h⟩
/-- what is asked where it raises -/
abbrev FinE (mg : Str → Option Value) (q : Option Addr) (n : Nat) (A0 B0 : Hp) (x : Str) (E : XK) : Prop := ∀ C, mg x = some (.ref C) → ∀ Hk' H2, Gr q A0 B0 Hk' H2 → Ok q n Hk' H2 → E (.ref C) none H2
theorem fn_okE {x qual : Str} {st : Stmt} {N : List Str} {R : RelE} (F : Fun K x qual st f fd) (S : FnScope N ps (defScope st)) (hN : ps.length ≤ N.length) (len : ∀ q sls c x, R q sls c x → sls.length = ps.length)
    (body : ∀ (cdv : Value) (A : Around) (outer : List Env) (s : Shared) (B0 : Hp) (E : XK), Room k (A.deeper (envOfC qual (defScope st) s.heap.objs.size f cdv)) →
      ∃ t, PSs (cxOf (L2.CX P w) P w K mg base N qual (defScope st) f cdv A outer s B0 E) (defBody st) t ∧
        ∀ (q : Option Addr) (sls : List Sl) (n c : Nat) (x : Str) (A0 : Hp) (σ : L2.St) (Q : VK), R q sls c x → At q (n + c) (sls ++ List.replicate (N.length - sls.length) .any) A0 B0 σ A0 B0 → FinE mg q n A0 B0 x E → t { nx := fun _ H' => Q .non H', rt := Q } σ B0) :
    FnOk P w K mg base (L2.CX P w) (k + 1) f fd ps (spE mg R) := by
  refine F.okX S (fun vs H Q E h => ?_) (fun cdv A outer s H vs Q E hr h => ?_)
  · obtain ⟨q, Hk, sls, n, c, x, o, hv, r, _⟩ := h
    rw [hv.1]; exact len q sls c x r
  · obtain ⟨q, Hk, sls, n, c, x, o, hv, r, fin⟩ := h
    obtain ⟨t, ht, hq⟩ := body cdv A outer s H E hr
    refine ⟨t, ht, hq q sls n c x Hk (L2.start N vs) Q r ⟨o, start_sg hv (by rw [hv.1, len q sls c x r]; exact hN), Gr.refl o.a⟩ fin⟩
end
/-- an expression that raises -/
def Rs (mg : Str → Option Value) (q : Option Addr) (δ : List Sl) (te : TE) (c : Nat) (x : Str) (W : WX) : Prop :=
  ∀ (σ : L2.St) (H H1 : Hp) (n : Nat), Sg H σ δ → Ok q (n + c) H H1 → (∀ C, mg x = some (.ref C) → ∀ Hk' H2, Gr q H H1 Hk' H2 → Ok q n Hk' H2 → W (.ref C) none σ H2) → ∀ Q : VK, te σ H1 Q
section
variable {K : PySem.W.Frag} {mg : Str → Option Value} {q : Option Addr} {n : Nat} {δ : List Sl} {te ta' : TE} {ta tk : TA} {c c1 : Nat} {x : Str} {W : WX} {A0 B0 Hk H1 : Hp} {σ : L2.St} {D : Ends} {tz : TS} {Φa : List Sl → Prop} {B : RelE} {R : RelX} {s1 s2 : Sp} {Φ : PyData → Prop}
theorem Rs.cost (h : Rs mg q δ te c x W) (l : c ≤ c1) : Rs mg q δ te c1 x W := fun σ H H1 n sg o k Q => h σ H H1 n sg (o.mono (by omega)) k Q
theorem rs_call {E : XK} (ha : AJ q δ ta c1 Φa) (hr : ∀ sls, Φa sls → B q sls c x) : Rs mg q δ (tCall (spU s1 (spE mg B)) [] E ta) (c + c1) x (fun cls d _ H => E cls d H) := fun σ H H1 n sg o k Q =>
  ha σ H H1 (n + c) sg (by rw [Nat.add_assoc]; exact o) _ fun sls vs Hk H2 g o1 p hv => by
    show spU s1 (spE mg B) (vs ++ []) H2 Q E
    rw [List.append_nil]
    exact .inr ⟨q, Hk, sls, n, c, x, o1, hv, hr sls p, fun C hC Hk' H3 g' o2 => k C hC Hk' H3 (g.trans g') o2⟩
theorem rs_callS (ha : AJ q δ ta c1 Φa) (hr : ∀ sls, Φa sls → B q sls c x) : Rs mg q δ (tCallS (spU s1 (spE mg B)) (WE W) ta) (c + c1) x W := fun σ H H1 n sg o k Q =>
  ha σ H H1 (n + c) sg (by rw [Nat.add_assoc]; exact o) _ fun sls vs Hk H2 g o1 p hv =>
    .inr ⟨q, Hk, sls, n, c, x, o1, hv, hr sls p, fun C hC Hk' H3 g' o2 => k C hC Hk' H3 (g.trans g') o2⟩
theorem j_callU {E : XK} (ha : AJ q δ ta c1 Φa) (hr : ∀ sls, Φa sls → R q sls c Φ) : J q δ (tCall (spU (spX R) s2) [] E ta) (c + c1) Φ := fun σ H H1 n sg o Q k =>
  ha σ H H1 (n + c) sg (by rw [Nat.add_assoc]; exact o) _ fun sls vs Hk H2 g o1 p hv => by
    show spU (spX R) s2 (vs ++ []) H2 Q E
    rw [List.append_nil]
    exact .inl ⟨q, Hk, sls, n, c, Φ, o1, hv, hr sls p, fun d v Hk' H3 g' o2 pd dv => k d v Hk' H3 (g.trans g') o2 pd dv⟩
theorem j_callUS (ha : AJ q δ ta c1 Φa) (hr : ∀ sls, Φa sls → R q sls c Φ) : J q δ (tCallS (spU (spX R) s2) (WE W) ta) (c + c1) Φ := fun σ H H1 n sg o Q k =>
  ha σ H H1 (n + c) sg (by rw [Nat.add_assoc]; exact o) _ fun sls vs Hk H2 g o1 p hv =>
    .inl ⟨q, Hk, sls, n, c, Φ, o1, hv, hr sls p, fun d v Hk' H3 g' o2 pd dv => k d v Hk' H3 (g.trans g') o2 pd dv⟩
theorem rs_callK {E : XK} {gV : List V → List V → List V} {ss us rs : List Sl} (ha : AE q δ ta ss) (hk : AE q δ tk us) (hg : ∀ (H : Hp) (vs zs : List V), VS H vs ss → VS H zs us → VS H (gV vs zs) rs) (hr : B q rs 0 x) : Rs mg q δ (tCallK (spU s1 (spE mg B)) gV E ta tk) 0 x (fun cls d _ H => E cls d H) := fun σ H H1 n sg o k Q =>
  ha σ H H1 n sg o _ fun sls vs Hk H2 g o1 e hv => hk σ Hk H2 n (sg.mono g.k) o1 _ fun sl2 zs Hk' H3 g' o2 e2 hz => by
    subst e; subst e2
    exact .inr ⟨q, Hk', rs, n, 0, x, o2, hg Hk' vs zs (hv.mono g'.k) hz, hr, fun C hC Hk2 H4 g2 o3 => k C hC Hk2 H4 ((g.trans g').trans g2) o3⟩
/-! ### statements that raise -/
abbrev FinW (mg : Str → Option Value) (q : Option Addr) (n : Nat) (δ : List Sl) (A0 B0 Hk H1 : Hp) (x : Str) (W : WX) (σ : L2.St) : Prop := ∀ C, mg x = some (.ref C) → ∀ Hk' H2, Gr q Hk H1 Hk' H2 → At q n δ A0 B0 σ Hk' H2 → W (.ref C) none σ H2
theorem s_dropR {m : Nat} (h : Rs mg q δ te c x W) (s : At q m δ A0 B0 σ Hk H1) (hm : n + c ≤ m) (k : FinW mg q n δ A0 B0 Hk H1 x W σ) : tDrop te D σ H1 := h σ Hk H1 n s.sg (s.ok.mono hm) (fun C hC Hk' H2 g o => k C hC Hk' H2 g ⟨o, s.sg.mono g.k, s.gr.trans g⟩) _
theorem q_dropR {m : Nat} (h : Rs mg q δ te c x W) (s : At q m δ A0 B0 σ Hk H1) (hm : n + c ≤ m) (k : FinW mg q n δ A0 B0 Hk H1 x W σ) : tSeq (tDrop te) tz D σ H1 := s_dropR (D := { D with nx := tz D }) h s hm k
theorem s_retR {m : Nat} (h : Rs mg q δ te c x W) (s : At q m δ A0 B0 σ Hk H1) (hm : n + c ≤ m) (k : FinW mg q n δ A0 B0 Hk H1 x W σ) : tRet te D σ H1 := h σ Hk H1 n s.sg (s.ok.mono hm) (fun C hC Hk' H2 g o => k C hC Hk' H2 g ⟨o, s.sg.mono g.k, s.gr.trans g⟩) _
/-- the error leaves the def -/
theorem fin_w {E : XK} {m : Nat} {δ' : List Sl} {Hk0 H10 : Hp} (f : FinE mg q n A0 B0 x E) (l : n ≤ m) : FinW mg q m δ' A0 B0 Hk0 H10 x (fun cls d _ H => E cls d H) σ := fun C hC Hk' H2 _ a => f C hC Hk' H2 a.gr (a.ok.mono l)
/-- raise X() -/
theorem s_raise {E : XK} {m : Nat} {C : Addr} (f : FinE mg q n A0 B0 x E) (s : At q m δ A0 B0 σ Hk H1) (hm : n ≤ m) (hC : mg x = some (.ref C)) : E (.ref C) none H1 := f C hC Hk H1 s.gr (s.ok.mono hm)
theorem ref_inj {C C' : Addr} (h : mg x = some (.ref C)) (h' : mg x = some (.ref C')) : C = C' := by
  rw [h] at h'
  cases h'; rfl
/-! ### the clauses of a try -/
theorem w_as {c : Value} {i : Nat} {ts : Addr → Value → Option Addr → TS} {Wout : WX} {cls : Value} {d : Option Addr} {H : Hp} (e : PySem.W.exmOne K cls c = some true)
    (h : ∀ a, H a = none → ts a cls d { nx := fun σ' H' => D.nx (σ'.set i none) H', rt := D.rt, bk := fun σ' H' => D.bk (σ'.set i none) H', ct := fun σ' H' => D.ct (σ'.set i none) H' } (σ.set i (some (.ref a))) H) : wAs K c i ts Wout D cls d σ H :=
  ⟨true, e, fun _ => h, fun z => nomatch z⟩
/-- the clause's name is bound, then gone -/
theorem At.bound {i : Nat} {a : Addr} (s : At q n δ A0 B0 σ Hk H1) : At q n (δ.set i (.adr a)) A0 B0 (σ.set i (some (.ref a))) Hk H1 := ⟨s.ok, s.sg.set i (s := .adr a) rfl, s.gr⟩
theorem At.unbound {i : Nat} (s : At q n δ A0 B0 σ Hk H1) : At q n (δ.set i .any) A0 B0 (σ.set i none) Hk H1 := ⟨s.ok, ⟨by rw [List.length_set, List.length_set]; exact s.sg.1, fun j t e ne => by
  by_cases hj : i = j
  · subst hj
    by_cases hl : i < δ.length
    · rw [List.getElem?_set_self hl] at e
      cases e
      exact absurd rfl ne
    · rw [List.getElem?_eq_none (by rw [List.length_set]; omega)] at e; cases e
  · rw [List.getElem?_set_ne hj] at e ⊢
    exact s.sg.2 j t e ne⟩, s.gr⟩
end
/-! ### instances as data -/
def Kn (K : PySem.W.Frag) (d : PyData) : Prop := top d = true ∨ ∃ C, d = insD C ∧ Cls K C ∧ InsC K C
def deep : Nat → PyData → Bool
  | 0, d => top d
  | n + 1, .tuple ds => ds.all (deep n)
  | _ + 1, d => top d
theorem deep_top : ∀ {n : Nat} {d : PyData}, deep n d = true → top d = true
  | 0, _, h => h
  | _ + 1, .tuple _, _ => rfl
  | _ + 1, .none, _ => rfl
  | _ + 1, .bool _, _ => rfl
  | _ + 1, .int _, _ => rfl
  | _ + 1, .str _, _ => rfl
  | _ + 1, .list _, _ => rfl
  | _ + 1, .dict _, h => h
/-- what a check may be handed -/
structure Odd (K : PySem.W.Frag) (d : PyData) : Prop where
  sh : ShortT d
  kn : Kn K d
  dp : ∀ ds, d = .tuple ds → ∀ x ∈ ds, deep 1 x = true
theorem Odd.of {K : PySem.W.Frag} {d : PyData} (s : ShortT d) (h : deep 2 d = true) : Odd K d := ⟨s, .inl (deep_top h), fun ds e x hx => by
  subst e
  exact List.all_eq_true.mp h x hx⟩
theorem Odd.ins {K : PySem.W.Frag} {C : Addr} (c : Cls K C) (i : InsC K C) : Odd K (insD C) := ⟨fun ds e => by (cases e), .inr ⟨C, rfl, c, i⟩, fun ds e => by (cases e)⟩
theorem deep_pr (n : Nat) (x : Int × Int) : deep n (pr x) = true := by
  cases n with
  | zero => rfl
  | succ n => cases n <;> rfl
theorem deep_pd (n : Nat) (l : List (Int × Int)) : (pd l).all (deep n) = true := List.all_eq_true.mpr fun d hd => by
  obtain ⟨x, _, rfl⟩ := List.mem_map.mp hd
  exact deep_pr n x
theorem deep_led (n : Nat) (l : List (Int × Int)) : deep n (led l) = true := by
  cases n with
  | zero => rfl
  | succ n => exact deep_pd n l
theorem deep_ints (n : Nat) (f : List Int) : (f.map PyData.int).all (deep n) = true := List.all_eq_true.mpr fun d hd => by
  obtain ⟨x, _, rfl⟩ := List.mem_map.mp hd
  cases n <;> rfl
theorem deep_pol (n : Nat) (f : List Int) : deep n (pol f) = true := by
  cases n with
  | zero => rfl
  | succ n => exact deep_ints n f
/-! ### what the checks ask -/
def isFromD (j : Int) : PyData → Bool
  | .int i => decide (j ≤ i)
  | _ => false
def isSumsD : PyData → Bool
  | .tuple ds => decide ((0 : Int) < (ds.length : Int)) && ds.all isIntD
  | _ => false
def lenD : PyData → Nat
  | .tuple ds => ds.length
  | _ => 0
theorem len_pol (f : List Int) : lenD (pol f) = f.length := List.length_map ..
theorem pol_isSums {f : List Int} (h : f ≠ []) : isSumsD (pol f) = true := by
  have h0 := List.length_pos_iff.mpr h
  show (decide ((0 : Int) < ((f.map PyData.int).length : Int)) && (f.map PyData.int).all isIntD) = true
  rw [List.length_map, decide_eq_true (by omega), Bool.true_and]
  exact List.all_eq_true.mpr fun d hd => by
    obtain ⟨x, _, rfl⟩ := List.mem_map.mp hd
    rfl
theorem intsD_of : ∀ {ds : List PyData}, ds.all isIntD = true → ∃ f : List Int, ds = f.map PyData.int
  | [], _ => ⟨[], rfl⟩
  | d :: ds, h => by
    rw [List.all_cons, Bool.and_eq_true] at h
    obtain ⟨f, rfl⟩ := intsD_of h.2
    cases d with
    | int i => exact ⟨i :: f, rfl⟩
    | _ => cases h.1
theorem sums_pol {d : PyData} (h : isSumsD d = true) : ∃ f : List Int, f ≠ [] ∧ d = pol f := by
  cases d with
  | tuple ds =>
    have h' : (decide ((0 : Int) < (ds.length : Int)) && ds.all isIntD) = true := h
    rw [Bool.and_eq_true] at h'
    obtain ⟨f, rfl⟩ := intsD_of h'.2
    have := of_decide_eq_true h'.1
    rw [List.length_map] at this
    exact ⟨f, List.length_pos_iff.mp (by omega), rfl⟩
  | _ => cases h
section
variable {K : PySem.W.Frag} {q : Option Addr} {δ : List Sl} {te : TE} {d : PyData}
theorem e_isiT (h : E q δ te d) (kn : Kn K d) : E q δ (tCB (rIsiU K) (tCons te (tCons (tC (.ty "tuple")) tNil))) (.bool (isiTup d)) := by
  rcases kn with ht | ⟨C, rfl, cl, ic⟩
  · exact e_isi h (kit_tuple d) ht
  · exact fun σ H H1 m sg o Q k => h σ H H1 m sg o _ fun x v Hk H2 g o1 e dv => by
      subst e
      cases dv with
      | ins ha => exact .inl ⟨_, .ty "tuple", .ref C, .type "tuple", false, rfl, .ty "tuple", .base (.ins (g.a _ _ ha) cl ic.ha ic.hn ic.htk ic.hm), ic.kt, k _ _ Hk H2 g o1 rfl (.bl false)⟩
theorem e_isiI (h : E q δ te d) (kn : Kn K d) : E q δ (tCB (rIsiU K) (tCons te (tCons (tC (.ty "int")) tNil))) (.bool (isiInt d)) := by
  rcases kn with ht | ⟨C, rfl, cl, ic⟩
  · exact e_isi h (kit_int d) ht
  · exact fun σ H H1 m sg o Q k => h σ H H1 m sg o _ fun x v Hk H2 g o1 e dv => by
      subst e
      cases dv with
      | ins ha => exact .inl ⟨_, .ty "int", .ref C, .type "int", false, rfl, .ty "int", .base (.ins (g.a _ _ ha) cl ic.ha ic.hn ic.htk ic.hm), ic.ki, k _ _ Hk H2 g o1 rfl (.bl false)⟩
theorem int_top (h : isiInt d = true) : top d = true := by cases d <;> first | rfl | cases h
theorem kn_deep {n : Nat} (h : deep n d = true) : Kn K d := .inl (deep_top h)
/-- an instance made, told as data -/
theorem e_make {C : Addr} {fld : Str} {Pd : PyData → Prop} {E1 : XK} (h : E q δ te d) (hp : Pd d) : E q δ (tMake C (spI C fld Pd) [] E1 (tCons te tNil)) (insD C) := fun σ H H1 n sg o Q k =>
  h σ H H1 n sg o _ fun d' v Hk H2 g o2 ed dv => by
    subst ed
    intro x dx h1 h2 h3
    have hka : Hk x = none := o2.a.free h1
    refine ⟨q, Hk, H2, n, x, dx, v, _, rfl, rfl, h1, h2, h3, o2, dv, hp, fun Hk' H3 g3 o3 ⟨fs, e3⟩ => ⟨rfl, ?_⟩⟩
    have nq : q ≠ some x := fun e => (o2.j x e).ne h1
    have hH1 : H1 x = none := Classical.byContradiction fun z => g.t x z h1
    cases hk3 : Hk' x with
    | some o =>
      have e4 := g3.a x o hk3
      rw [e3] at e4
      cases e4
      exact k _ _ Hk' H3 (g.trans g3) o3 rfl (.ins hk3)
    | none =>
      have gf := (g.trans g3).freeze hH1 hk3 e3
      exact k _ _ (upd Hk' x (.ins C dx fs)) H3 gf ⟨gf.a, fun r er => by rw [upd_ne (fun z => nq (by rw [← z]; exact er))]; exact o3.kf r er, o3.j⟩ rfl (.ins upd_same)
/-! ### bad pieces -/
theorem j_catX {ta tb : TE} {c1 c2 : Nat} {P1 P2 : List PyData → Prop} {Φ : PyData → Prop} (ha : J q δ ta c1 (fun d => ∃ ds, P1 ds ∧ d = .tuple ds)) (hb : J q δ tb c2 (fun d => ∃ ds, P2 ds ∧ d = .tuple ds)) (hp : ∀ ds es, P1 ds → P2 es → ds.length + es.length ≤ 1000000 ∧ Φ (.tuple (ds ++ es))) : J q δ (tOp (rAddU K) ta tb) (c2 + c1) Φ :=
  j_op ha hb fun a b ⟨ds, p1, ea⟩ ⟨es, p2, eb⟩ => by
    subst ea; subst eb
    have z := hp ds es p1 p2
    exact (rj_catT (ds := ds) (es := es) (Φ := Φ) z.1 z.2).to fun _ _ _ _ h => .inr (.inr h)
theorem j_one {c : Nat} {Φ : PyData → Prop} (h : J q δ te c Φ) : J q δ (tTup (tCons te tNil)) c (fun d => ∃ ds, (∃ x, Φ x ∧ ds = [x]) ∧ d = .tuple ds) :=
  (j_tup (Ψ := fun ds => ∃ x, Φ x ∧ ds = [x]) ((aj_cons (c1 := c) (c2 := 0) (Φr := fun sls => sls = []) h ae_nil fun d sls pd e => ⟨[d], by rw [e]; rfl, by simp, d, pd, rfl⟩).cost (by omega)))
/-- t[:a] + (x,) + t[b:] -/
theorem j_putT {tt ti tj : TE} {ds : List PyData} {a b c : Nat} {Φ : PyData → Prop} (h1 : E q δ tt (.tuple ds)) (ha : E q δ ti (.int (a : Int))) (hb : E q δ tj (.int (b : Int))) (hd : J q δ te c Φ) (hl : ds.length ≤ 400000) :
    J q δ (tOp (rAddU K) (tOp (rAddU K) (tSl (rSlU K) tt tNoPart (tPart ti)) (tTup (tCons te tNil))) (tSl (rSlU K) tt (tPart tj) tNoPart)) c (fun x => ∃ d, Φ d ∧ x = .tuple (ds.take a ++ [d] ++ ds.drop b)) :=
  (j_catX (c1 := c) (c2 := 0) (P1 := fun es => ∃ d, Φ d ∧ es = ds.take a ++ [d]) (P2 := fun es => es = ds.drop b)
    ((j_catX (c1 := 0) (c2 := c) (P1 := fun es => es = ds.take a) (P2 := fun es => ∃ x, Φ x ∧ es = [x]) ((e_slT h1 to_none (to_some ha)).imp fun d e => ⟨_, rfl, by rw [e, cutD_to]⟩) (j_one hd) fun es fs e1 ⟨x, px, e2⟩ => by
      subst e1; subst e2
      exact ⟨by rw [List.length_take, List.length_singleton]; omega, _, ⟨x, px, rfl⟩, rfl⟩).cost (by omega))
    ((e_slT h1 (to_some hb) to_none).imp fun d e => ⟨_, rfl, by rw [e, cutD_from]⟩) fun es fs ⟨d, pd, e1⟩ e2 => by
      subst e1; subst e2
      exact ⟨by rw [List.length_append, List.length_take, List.length_singleton, List.length_drop]; omega, d, pd, rfl⟩).cost (by omega)
theorem e_putT {tt ti tj : TE} {ds : List PyData} {a b : Nat} {d : PyData} (h1 : E q δ tt (.tuple ds)) (ha : E q δ ti (.int (a : Int))) (hb : E q δ tj (.int (b : Int))) (hd : E q δ te d) (hl : ds.length ≤ 400000) :
    E q δ (tOp (rAddU K) (tOp (rAddU K) (tSl (rSlU K) tt tNoPart (tPart ti)) (tTup (tCons te tNil))) (tSl (rSlU K) tt (tPart tj) tNoPart)) (.tuple (ds.take a ++ [d] ++ ds.drop b)) :=
  (j_putT h1 ha hb hd hl).imp fun x ⟨d', e, ex⟩ => by rw [ex, e]
/-- [a, b, ..][i] -/
theorem j_ixOf {tl ti : TE} {c : Nat} {ds : List PyData} {Φ : PyData → Prop} (hl : E q δ tl (.list ds)) (hi : J q δ ti c (IntP fun x => 0 ≤ x ∧ x < (ds.length : Int))) (h : ∀ d ∈ ds, Φ d) : J q δ (tOp (rIx K) tl ti) c Φ :=
  (j_iL (c1 := 0) (c2 := c) (P := fun x => 0 ≤ x ∧ x < (ds.length : Int)) (Ψ := fun es => es = ds) (hl.imp fun d e => ⟨_, rfl, e⟩) hi fun es i he hi => by
    subst he
    obtain ⟨k, rfl⟩ : ∃ k : Nat, i = (k : Int) := ⟨i.toNat, by omega⟩
    have hk : k < es.length := by omega
    exact ⟨es[k], atI_nat (List.getElem?_eq_getElem hk), h _ (List.getElem_mem hk)⟩).cost (by omega)
theorem deep_cut {n a b : Nat} {ds : List PyData} {d : PyData} (h : ds.all (deep n) = true) (hd : deep n d = true) : deep (n + 1) (.tuple (ds.take a ++ [d] ++ ds.drop b)) = true := by
  show (ds.take a ++ [d] ++ ds.drop b).all (deep n) = true
  refine List.all_eq_true.mpr fun x hx => ?_
  have h' := List.all_eq_true.mp h
  rcases List.mem_append.mp hx with z | z
  · rcases List.mem_append.mp z with z | z
    · exact h' x (List.mem_of_mem_take z)
    · rw [List.mem_singleton.mp z]; exact hd
  · exact h' x (List.mem_of_mem_drop z)
theorem short_cut {a b : Nat} {ds : List PyData} {d : PyData} (h : ds.length ≤ 40000) : ShortT (.tuple (ds.take a ++ [d] ++ ds.drop b)) := short_tup (by rw [List.length_append, List.length_append, List.length_take, List.length_singleton, List.length_drop]; omega)
/-- one piece that is no pair with an amount -/
theorem no_led {ds : List PyData} {d : PyData} (hm : d ∈ ds) (h : ∀ y : Int × Int, y.2 ≠ 0 → d ≠ pr y) : isLedD (.tuple ds) = false := Bool.eq_false_iff.mpr fun z => by
  obtain ⟨l, hL, e⟩ := led_of z
  rw [e] at hm
  obtain ⟨y, hy, ey⟩ := List.mem_map.mp hm
  exact h y (hL.2 y hy) ey.symm
theorem led_lt2 {l : List (Int × Int)} (hL : Led l) {a b : Nat} {u v : Int × Int} (eu : l[a]? = some u) (ev : l[b]? = some v) (h : a < b) : u.1 < v.1 := by
  obtain ⟨ha, rfl⟩ := List.getElem?_eq_some_iff.mp eu
  obtain ⟨hb, rfl⟩ := List.getElem?_eq_some_iff.mp ev
  exact List.pairwise_iff_getElem.mp hL.1 a b ha hb h
theorem beq_cast (w k : Nat) : (((w : Nat) : Int) == ((k : Nat) : Int)) = (w == k) := by
  by_cases h : w = k
  · subst h; simp
  · have h1 : (((w : Nat) : Int) == ((k : Nat) : Int)) = false := by simpa using (by omega : ¬ ((w : Nat) : Int) = ((k : Nat) : Int))
    rw [h1]; symm; simpa using h
/-- two neighbours that don't ascend -/
theorem no_led2 {A B : List PyData} {u v : Int × Int} (h : ¬ u.1 < v.1) : isLedD (.tuple (A ++ [pr u, pr v] ++ B)) = false := Bool.eq_false_iff.mpr fun z => by
  obtain ⟨l, hL, e⟩ := led_of z
  have e' : A ++ [pr u, pr v] ++ B = l.map pr := e
  obtain ⟨l1, l2, rfl, e1, e2⟩ := List.map_eq_append_iff.mp e'.symm
  obtain ⟨l3, l4, rfl, e3, e4⟩ := List.map_eq_append_iff.mp e1
  have e5 : l4 = [u, v] := pd_inj (show pd l4 = pd [u, v] from e4)
  subst e5
  have hp := (List.pairwise_append.mp (List.pairwise_append.mp hL.1).1).2.1
  exact h ((List.pairwise_cons.mp hp).1 v (by simp))
theorem no_ledR {l : List (Int × Int)} (hL : Led l) (h : 1 < l.length) : isLedD (.tuple (pd l).reverse) = false := Bool.eq_false_iff.mpr fun z => by
  obtain ⟨m, hm, e⟩ := led_of z
  have e2 : l.reverse = m := pd_inj (by rw [← e]; unfold pd; rw [List.map_reverse])
  rw [← e2] at hm
  have h2 := List.pairwise_reverse.mp hm.1
  match l, h with
  | x :: y :: t, _ =>
    have a := (List.pairwise_cons.mp hL.1).1 y (by simp)
    have b := (List.pairwise_cons.mp h2).1 y (by simp)
    omega
theorem no_sums {ds : List PyData} {d : PyData} (hm : d ∈ ds) (h : isIntD d = false) : isSumsD (.tuple ds) = false := by
  show (decide ((0 : Int) < (ds.length : Int)) && ds.all isIntD) = false
  rw [Bool.and_eq_false_iff]
  exact .inr (Bool.eq_false_iff.mpr fun z => by rw [List.all_eq_true.mp z d hm] at h; cases h)
/-! ### what a drawn piece of another kind may be -/
/-- isinstance(e, X) of the error in hand -/
def rIsEG (K : PySem.W.Frag) (cls : Value) (d : Option Addr) (a : Addr) : List V → Hp → VK → Prop := fun xs H Q => ∃ D, cls = .ref D ∧ d = none ∧ ExcC K D ∧ rIsE K D a xs H Q
theorem call_isEG {X : Cx} {a : Addr} {cls : Value} {dd : Option Addr} {oe : Obj} {pn : List (Addr × Obj)} (hz : Zc cls dd oe) (hf : ∃ vs, oe.data = .fields vs) : CallR (X.suite a ((a, oe) :: pn)) (.builtin "isinstance") (rIsEG X.K cls dd a) := by
  intro pins s σ H xs us Q I r h
  obtain ⟨D, rfl, rfl, C, h⟩ := h
  exact call_isE C hz hf pins s σ H xs us Q I r h
theorem e_isE {i : Nat} {a D : Addr} (hi : δ[i]? = some (.adr a)) (c : ExcC K D) (hk : PySem.W.kitOne K (.ref D) (.type "ValueError") = some true) : E q δ (tCB (rIsEG K (.ref D) none a) (tCons (tVar i) (tCons (tC (.ty "ValueError")) tNil))) (.bool true) := fun σ H H1 n sg o Q k =>
  ⟨.ref a, sg.getA hi, D, rfl, rfl, c, .ty "ValueError", .type "ValueError", true, rfl, (fun u r => r), hk, k _ _ H H1 (Gr.refl o.a) o rfl (.bl true)⟩
end

/-! ### a list of pieces that is bent at some of its places -/
section
variable {K : PySem.W.Frag} {q : Option Addr} {n : Nat} {δ δ' : List Sl} {te ta tb ti : TE} {c c1 c2 : Nat} {Φ : PyData → Prop} {d : PyData} {A0 B0 Hk H1 : Hp} {σ : L2.St} {D : Ends} {tz tbody : TS} {g : TG} {p : Addr} {ds : List PyData} {ΨB : List Bool → Prop}
/-- x = [e for ..], drawn place by place, a list that changes on -/
theorem q_newLcI {α : Type} {emb : α → PyData} {wi : TI} {vs : List Nat} {xs : List α} {N i0 : Nat} {Φi : Nat → PyData → Prop} (hw : IE q δ wi (xs.map emb)) (hz : xs.length ≤ N) (hN : N ≤ 1000000)
    (he : ∀ j x, xs[j]? = some x → ∃ δ', GB (wipeD δ vs) g (emb x) δ' vs ∧ J q δ' te c1 (Φi j)) (s : At q (n + c1 * N) δ A0 B0 σ Hk H1)
    (k : ∀ p ds Hk' H2, ds.length = xs.length → (∀ j d, ds[j]? = some d → Φi j d) → Gr q Hk H1 Hk' H2 → At q n (δ.set i0 (.adr p)) A0 B0 (σ.set i0 (some (.ref p))) Hk' H2 → Cell q B0 Hk' H2 p ds → tz D (σ.set i0 (some (.ref p))) H2) :
    tSeq (tAsg (tLc wi g tYes te vs) (gName i0)) tz D σ H1 :=
  hw σ Hk H1 (n + c1 * N) s.sg s.ok _ fun items Jt HkW H2 g0 o0 ei wk Da hD => by
    have hlen : items.length = xs.length := by rw [ei, List.length_map]
    have hDk : HkW Da = none := g0.a.free hD
    have hDq : q ≠ some Da := fun e => (o0.j Da e).ne hD
    have hD1 : H1 Da = none := Classical.byContradiction fun z => g0.t Da z hD
    have hDb : B0 Da = none := Classical.byContradiction fun z => s.gr.t Da z hD1
    have g1 : Gr q HkW H2 HkW (upd H2 Da (.lst [])) := Gr.cell g0.a hD
    refine ⟨fun i m H' => m = items.length - i ∧ i ≤ items.length ∧ ∃ Hk' ys es, Gr q HkW H2 Hk' H' ∧ Ok q (n + c1 * (N - i)) Hk' H' ∧ Hk' Da = none ∧ H' Da = some (.lst ys) ∧ DqAll Hk' ys es ∧ es.length = i ∧ ∀ j d, es[j]? = some d → Φi j d,
      ⟨items.length, by simp, Nat.zero_le _, HkW, [], [], g1, o0.cell hDk hDq, hDk, upd_same, .nil, rfl, by simp⟩, ?_⟩
    rintro i m H' ⟨rfl, hi, Hk', ys, es, gr, ok, hDn, hl, hd, hel, hep⟩
    by_cases hlt : i < items.length
    · obtain ⟨go, yl⟩ := (wk i Hk' H' gr.k ok.a).1 hlt
      refine .inr ⟨go, fun H'' => ∃ Hk3 ys' es', Gr q HkW H2 Hk3 H'' ∧ Ok q (n + c1 * (N - (i + 1))) Hk3 H'' ∧ Hk3 Da = none ∧ H'' Da = some (.lst ys') ∧ DqAll Hk3 ys' es' ∧ es'.length = i + 1 ∧ ∀ j d, es'[j]? = some d → Φi j d, fun H'' p => ⟨items.length - (i + 1), by omega, rfl, hlt, p⟩, fun v H'' y => ?_⟩
      obtain ⟨Hk2, g2, d, ed, dx⟩ := yl v H'' y
      obtain ⟨x, ex, rfl⟩ : ∃ x, xs[i]? = some x ∧ emb x = d := by
        rw [ei, List.getElem?_map] at ed
        exact Option.map_eq_some_iff.mp ed
      obtain ⟨δ', hgb, hte⟩ := he i x ex
      have hf : n + c1 * (N - i) = (n + c1 * (N - (i + 1))) + c1 := by
        rw [show N - i = (N - (i + 1)) + 1 by omega, Nat.mul_add, Nat.mul_one, Nat.add_assoc]
      rw [hf] at ok
      have ok2 := ok.go g2
      have sgw : Sg Hk2 (wipe σ vs) (wipeD δ vs) := ((s.sg.mono g0.k).mono (gr.k.trans g2.k)).wipe vs
      have hD2 : Hk2 Da = none := g2.f Da hDn (by rw [hl]; exact fun z => by cases z)
      have hl2 : H'' Da = some (.lst ys) := g2.s Da _ (fun z => by cases z) hl
      have hd2 := DqAll.mono g2.k _ _ hd
      have gr2 := gr.trans g2.none_to
      refine hgb (wipe σ vs) Hk2 H'' v sgw g2.a dx _ fun σ' sg' hl' hk' => ⟨wipe_eq (by rw [hl', wipe_length]) hk', ?_⟩
      unfold tYes
      refine iteT (hte σ' Hk2 H'' _ sg' ok2 _ fun y w Hk4 H4 g4 o4 ey dw => ?_)
      have hD4 : Hk4 Da = none := g4.f Da hD2 (by rw [hl2]; exact fun z => by cases z)
      have hl4 : H4 Da = some (.lst ys) := g4.s Da _ hDq hl2
      have hd4 := DqAll.mono g4.k _ _ hd2
      refine ⟨ys, hl4, ?_, Hk4, ys ++ [w], es ++ [y], (gr2.trans g4).put hD hD4, o4.cell hD4 hDq, hD4, upd_same, hd4.append (.cons dw .nil), by rw [List.length_append, hel]; rfl, fun j z hz => ?_⟩
      · rw [hd4.length, hel, sizeLine_eq]; omega
      · by_cases hj : j < es.length
        · rw [List.getElem?_append_left hj] at hz
          exact hep j z hz
        · rw [List.getElem?_append_right (by omega)] at hz
          have hj0 : j - es.length = 0 := Classical.byContradiction fun h => by rw [List.getElem?_eq_none (by simp; omega)] at hz; cases hz
          rw [hj0] at hz
          cases hz
          rw [show j = i by omega]; exact ey
    · have e : i = items.length := by omega
      subst e
      refine .inl ⟨(wk _ Hk' H' gr.k ok.a).2 (Nat.le_refl _), ?_⟩
      have gg := g0.trans gr
      exact k Da es Hk' H' (by rw [hel, hlen]) hep gg ⟨⟨ok.a, ok.kf, fun p e => (ok.j p e).mono (Nat.le_add_right _ _)⟩, (s.sg.mono gg.k).set i0 (s := .adr Da) rfl, s.gr.trans gg⟩ ⟨hDn, hDq, hDb, ys, hl, hd⟩
end
section
variable {K : PySem.W.Frag} {q : Option Addr} {δ : List Sl} {wi : TI} {Φ : PyData → Prop}
theorem bools_of : ∀ {rs : List PyData}, (∀ d ∈ rs, BoolP (fun _ => True) d) → ∃ bs : List Bool, rs = bs.map .bool
  | [], _ => ⟨[], rfl⟩
  | d :: rs, h => by
    obtain ⟨bs, e⟩ := bools_of (rs := rs) fun x hx => h x (List.mem_cons_of_mem _ hx)
    obtain ⟨b, _, eb⟩ := h d List.mem_cons_self
    exact ⟨b :: bs, by rw [eb, e]; rfl⟩
theorem _root_.Cr.IE.lcd {es : List PyData} (h : IE q δ wi es) : IJ q δ wi 0 (fun items => ∃ xs : List PyData, xs = es ∧ items = xs.map id) := fun σ H H1 n sg o R k => h σ H H1 n sg o R fun items Jt Hk H2 g o' e w => k items Jt Hk H2 g o' ⟨es, rfl, by rw [List.map_id]; exact e⟩ w
end
/-! ### keys and widths judged -/
end Cr

set_option Elab.async false
set_option linter.all false
set_option maxRecDepth 100000
set_option maxHeartbeats 800000
/-! list.count(True), index(True) of lists of bools, list(..) of data -/
namespace Cr
open PySem PySem.Spec PyProof.Rows L2
section
variable {X : Cx}
/-- l.count(x) of flat values -/
def rCntV (K : PySem.W.Frag) : V → List V → Hp → VK → Prop := fun x xs H Q => ∃ (a : Addr) (ys : List V) (y : V), x = V.ref a ∧ xs = [y] ∧ SqL K H a ys ∧ flatV y = true ∧ ys.all flatV = true ∧ Q (.int (ys.countP fun z => eqV z y : Nat)) H
theorem cnt_eq {y : V} : ∀ {ys : List V} {us : List Value}, Vals ys us → ys.all flatV = true → us.countP (eqU y) = ys.countP fun z => eqV z y
  | _, _, .nil, _ => rfl
  | z :: ys, u :: us, .cons r t, f => by
    rw [List.all_cons, Bool.and_eq_true] at f
    rw [List.countP_cons, List.countP_cons, cnt_eq t f.2, eqU_of r f.1]
theorem mt_lcntV : MtR X "list.count" (rCntV X.K) := by
  intro pins s σ H x xs v us Q I rx rxs h
  obtain ⟨a, ys, y, rfl, rfl, hs, fy, fys, q⟩ := h
  cases rx
  cases rxs with
  | cons ry rt =>
    rename_i uy ut
    cases rt
    obtain ⟨its, rv, ⟨⟨cls, dd, data, sl⟩, n, ho, hc, hdn, hd⟩, hlen⟩ := I.list hs
    simp only at hc hd
    subst hc hd
    refine call_meets PySem.F.slot_list_count ⟨_, ho, rfl⟩ PySem.F.entry_list_count (PySem.F.args_list_count_2 _ _)
      (SeqAt.list_countAt a its.toArray n dd sl uy (eqU y)) ⟨ho, fun u' hu' => mem_eqAt ry fy rv fys u' (by simpa using hu'), ?_⟩
    have ec : its.toArray.toList.countP (eqU y) = ys.countP fun z => eqV z y := cnt_eq rv fys
    refine ⟨.int (ys.countP fun z => eqV z y : Nat), H, I.tok _, ⟨s.toks, ?_⟩, q⟩
    show Value.int ((its.toArray.toList.countP (eqU y) : Nat) : Int) s.toks = Value.int (((ys.countP fun z => eqV z y) : Nat) : Int) s.toks
    rw [ec]
end
section
variable {K : PySem.W.Frag} {q : Option Addr} {δ : List Sl} {te te2 : TE}
/-- bs.count(True) -/
theorem e_countB {bs : List Bool} {b : Bool} (h : E q δ te (.list (bs.map .bool))) (h2 : E q δ te2 (.bool b)) : E q δ (tBM K "list" (rCntV K) te (tCons te2 tNil)) (.int (bs.count b : Nat)) := fun σ H H1 n sg o Q k =>
  h σ H H1 n sg o _ fun d v Hk H2 g o1 e dv => by
    subst e
    obtain ⟨a, xs, rfl, h1, hd⟩ := dv.lstOf
    have e2 : xs = bs.map V.bl := DqAll.bls hd
    subst e2
    refine ⟨.inl ⟨rfl, _, .inl (.inl (o1.a _ _ h1))⟩, h2 σ Hk H2 n (sg.mono g.k) o1 _ fun d' w Hk3 H3 g3 o3 e3 dw => ?_⟩
    subst e3
    rw [dw.blOf]
    have h3 := o3.a _ _ (g3.k _ _ h1)
    refine ⟨a, bs.map V.bl, .bl b, rfl, rfl, .inl (.inl h3), rfl, List.all_eq_true.mpr fun z hz => ?_, ?_⟩
    · obtain ⟨i, _, rfl⟩ := List.mem_map.mp hz; rfl
    · rw [List.countP_map]
      exact k _ _ Hk3 H3 (g.trans g3) o3 (by rfl) (.int _)
/-- bs.index(True) -/
theorem e_indexB {bs : List Bool} {b : Bool} {j : Nat} (h : E q δ te (.list (bs.map .bool))) (h2 : E q δ te2 (.bool b)) (hj : bs[j]? = some b) (hm : ∀ m < j, bs[m]? ≠ some b) : E q δ (tBM K "list" (rIndex K) te (tCons te2 tNil)) (.int (j : Int)) := fun σ H H1 n sg o Q k =>
  h σ H H1 n sg o _ fun d v Hk H2 g o1 e dv => by
    subst e
    obtain ⟨a, xs, rfl, h1, hd⟩ := dv.lstOf
    have e2 : xs = bs.map V.bl := DqAll.bls hd
    subst e2
    refine ⟨.inl ⟨rfl, _, .inl (.inl (o1.a _ _ h1))⟩, h2 σ Hk H2 n (sg.mono g.k) o1 _ fun d' w Hk3 H3 g3 o3 e3 dw => ?_⟩
    subst e3
    rw [dw.blOf]
    have h3 := o3.a _ _ (g3.k _ _ h1)
    refine ⟨a, bs.map V.bl, .bl b, j, .bl b, rfl, rfl, .inl (.inl h3), rfl, List.all_eq_true.mpr fun z hz => ?_, by rw [List.getElem?_map, hj]; rfl, by simp [eqV], fun m z hmj hz => ?_, k _ _ Hk3 H3 (g.trans g3) o3 rfl (.int _)⟩
    · obtain ⟨i, _, rfl⟩ := List.mem_map.mp hz; rfl
    · rw [List.getElem?_map] at hz
      obtain ⟨i, hi, rfl⟩ := Option.map_eq_some_iff.mp hz
      have hne : i ≠ b := fun e => hm m hmj (by rw [← e]; exact hi)
      simp [eqV, hne]
end
/-! isinstance(e, C) of the error in hand, C an own class -/
section
variable {K : PySem.W.Frag} {q : Option Addr} {δ : List Sl}
theorem k_lcnt {X : Cx} {K : PySem.W.Frag} (hK : X.K = K) : MtR X "list.count" (rCntV K) := hK ▸ mt_lcntV
theorem kit_ownT {C D : Addr} (hd : PySem.W.hasDictIn K C = true) (ht : PySem.W.typeIn K (.ref C) = some (.type "type")) (h : PySem.W.subIn K (.ref D) (.ref C) = some true) : PySem.W.kitOne K (.ref D) (.ref C) = some true := by
  obtain ⟨cd, hc, _⟩ := PySem.W.any_some hd
  unfold PySem.W.kitOne
  split
  · rfl
  · show (if ((PySem.W.clsIn K C).isSome && PySem.W.typeIn K (.ref C) == some (.type "type")) = true then PySem.W.subIn K (.ref D) (.ref C) else none) = some true
    rw [if_pos (by rw [hc, ht]; rfl)]
    exact h
theorem kit_ownF {C D : Addr} (hd : PySem.W.hasDictIn K C = true) (ht : PySem.W.typeIn K (.ref C) = some (.type "type")) (hC : PySem.W.subIn K (.ref C) (.ref C) = some true) (h : PySem.W.subIn K (.ref D) (.ref C) = some false) : PySem.W.kitOne K (.ref D) (.ref C) = some false := by
  obtain ⟨cd, hc, _⟩ := PySem.W.any_some hd
  unfold PySem.W.kitOne
  split
  · rename_i e
    have e2 : D = C := Value.ref.inj (eq_of_beq e)
    rw [e2, hC] at h
    cases h
  · show (if ((PySem.W.clsIn K C).isSome && PySem.W.typeIn K (.ref C) == some (.type "type")) = true then PySem.W.subIn K (.ref D) (.ref C) else none) = some false
    rw [if_pos (by rw [hc, ht]; rfl)]
    exact h
theorem e_isX {i : Nat} {a D C : Addr} {b : Bool} (hi : δ[i]? = some (.adr a)) (c : ExcC K D) (hk : PySem.W.kitOne K (.ref D) (.ref C) = some b) : E q δ (tCB (rIsEG K (.ref D) none a) (tCons (tVar i) (tCons (tC (.ref C)) tNil))) (.bool b) := fun σ H H1 n sg o Q k =>
  ⟨.ref a, sg.getA hi, D, rfl, rfl, c, .ref C, .ref C, b, rfl, (fun u r => r), hk, k _ _ H H1 (Gr.refl o.a) o rfl (.bl b)⟩
/-- no mark yet: [] == [] -/
def isChsD : PyData → Bool
  | .list ds => ds.all isChangeD
  | _ => false
end
/-! ### def f( *v ) that raises -/
section
variable {P : Program} {w : World} {K : PySem.W.Frag} {mg : Str → Option Value} {base : Heap} {k : Nat} {f : Addr} {sp s1 s2 : Sp} {CX : CXT}
end
section
variable {K : PySem.W.Frag} {mg : Str → Option Value} {q : Option Addr} {δ : List Sl} {ta : TA} {c c1 : Nat} {x : Str} {Φa : List Sl → Prop} {B : RelE} {R : RelX} {s1 s2 : Sp} {Φ : PyData → Prop}
end
/-! [a, b, ..][i] of drawn values of any kind -/
section
variable {K : PySem.W.Frag} {q : Option Addr} {δ : List Sl} {te ti : TE} {tl tr : TA} {c c1 c2 ci N : Nat} {Φ : PyData → Prop}
def AJP (q : Option Addr) (δ : List Sl) (ta : TA) (c N : Nat) (Φ : PyData → Prop) : Prop := AJ q δ ta c (fun sls => ∃ ds : List PyData, sls = ds.map Sl.dat ∧ ds.length = N ∧ ∀ x ∈ ds, Φ x)
theorem ajq_nil : AJP q δ tNil 0 0 Φ := AJ.imp ae_nil fun _ e => ⟨[], e, rfl, by simp⟩
theorem ajq_cons (h : J q δ te c1 Φ) (t : AJP q δ tr c2 N Φ) : AJP q δ (tCons te tr) (c2 + c1) (N + 1) Φ := aj_cons h t fun d sls pd ⟨ds, e2, hl, hp⟩ => ⟨d :: ds, by rw [e2]; rfl, by rw [List.length_cons, hl], fun x hx => by
  rcases List.mem_cons.mp hx with h | h
  · rw [h]; exact pd
  · exact hp x h⟩
end
section
variable {K : PySem.W.Frag} {q : Option Addr} {n : Nat} {δ : List Sl} {te ti : TE} {A0 B0 Hk H1 : Hp} {σ : L2.St} {D : Ends} {tz : TS} {d1 d2 d3 d4 d5 d6 : PyData}
/-- a, b, c, d, e, f = a list -/
theorem gb_lst6 {i j l m t r : Nat} {vs : List Nat} (h1 : i ∈ vs) (h2 : j ∈ vs) (h3 : l ∈ vs) (h4 : m ∈ vs) (h5 : t ∈ vs) (h6 : r ∈ vs) : GB δ (gLst K 6 (gCons (gName i) (gCons (gName j) (gCons (gName l) (gCons (gName m) (gCons (gName t) (gCons (gName r) gNil))))))) (.list [d1, d2, d3, d4, d5, d6]) ((((((δ.set i (.dat d1)).set j (.dat d2)).set l (.dat d3)).set m (.dat d4)).set t (.dat d5)).set r (.dat d6)) vs := fun σ H H1 v sg s dv Q k => by
  obtain ⟨a, xs, rfl, e1, e2⟩ := dv.lstOf
  obtain ⟨x, y, z, u, w, y6, rfl, dx, dy, dz, du, dw, d6'⟩ : ∃ x y z u w y6, xs = [x, y, z, u, w, y6] ∧ Dq H x d1 ∧ Dq H y d2 ∧ Dq H z d3 ∧ Dq H u d4 ∧ Dq H w d5 ∧ Dq H y6 d6 := by
    cases e2 with
    | cons a b => cases b with
      | cons c d => cases d with
        | cons e f => cases f with
          | cons g h => cases h with
            | cons i j => cases j with
              | cons k l => cases l; exact ⟨_, _, _, _, _, _, rfl, a, c, e, g, i, k⟩
  refine ⟨a, _, rfl, .inl (.inl (s _ _ e1)), rfl, x, _, rfl, y, _, rfl, z, _, rfl, u, _, rfl, w, _, rfl, y6, [], rfl, rfl, k _ ((((((sg.set i (s := .dat d1) dx).set j (s := .dat d2) dy).set l (s := .dat d3) dz).set m (s := .dat d4) du).set t (s := .dat d5) dw).set r (s := .dat d6) d6') (by simp) fun b hb => ?_⟩
  rw [List.getElem?_set_ne (fun e => hb (by rw [← e]; exact h6)), List.getElem?_set_ne (fun e => hb (by rw [← e]; exact h5)), List.getElem?_set_ne (fun e => hb (by rw [← e]; exact h4)), List.getElem?_set_ne (fun e => hb (by rw [← e]; exact h3)), List.getElem?_set_ne (fun e => hb (by rw [← e]; exact h2)), List.getElem?_set_ne (fun e => hb (by rw [← e]; exact h1))]
theorem q_asgL6 {i j l m t r : Nat} (h : E q δ te (.list [d1, d2, d3, d4, d5, d6])) (s : At q n δ A0 B0 σ Hk H1)
    (k : ∀ σ' Hk' H2, Gr q Hk H1 Hk' H2 → At q n ((((((δ.set i (.dat d1)).set j (.dat d2)).set l (.dat d3)).set m (.dat d4)).set t (.dat d5)).set r (.dat d6)) A0 B0 σ' Hk' H2 → tz D σ' H2) :
    tSeq (tAsg te (gLst K 6 (gCons (gName i) (gCons (gName j) (gCons (gName l) (gCons (gName m) (gCons (gName t) (gCons (gName r) gNil)))))))) tz D σ H1 :=
  h σ Hk H1 n s.sg s.ok _ fun d v Hk2 H2 g o e dv => by
    subst e
    exact gb_lst6 (vs := [i, j, l, m, t, r]) (by simp) (by simp) (by simp) (by simp) (by simp) (by simp) σ Hk2 H2 v (s.sg.mono g.k) g.a dv _ fun σ2 sg2 _ _ => k σ2 Hk2 H2 g ⟨o, sg2, s.gr.trans g⟩
theorem k_pgLst {X : Cx} {pos : Pos} {K : PySem.W.Frag} (hK : X.K = K) {es : List Expr} {k : Nat} {t : TGs} {n : Nat} (hc : X.calm = true) (h : PGs X es t)
    (hn : (assignEach es X.env).length = n := by rfl) (hst : (assignEach es X.env).findIdx? (·.1) = none := by rfl) : PG X (.Tuple es k pos) (gLst K n t) := hK ▸ pg_lst hc h hn hst
end
section
variable {mg : Str → Option Value} {q : Option Addr} {δ : List Sl} {te : TE} {ta : TA} {c : Nat} {x : Str} {W : WX}
theorem rs_cb {r : List V → Hp → VK → Prop} (h : Rs mg q δ te c x W) : Rs mg q δ (tCB r (tCons te ta)) c x W := fun σ H H1 n sg o k Q => h σ H H1 n sg o k _
end
/-- what the check of changes may be asked -/
def OkL (d : PyData) : Prop := top d = true ∧ ∀ ds, d = .list ds → ds.length ≤ 100000 ∧ ∀ x ∈ ds, deep 1 x = true
/-! rows of sums judged -/
def isRowsD : PyData → Bool
  | .list ds => !ds.isEmpty && (ds.all isSumsD && ds.all fun r => lenD r == lenD (ds.headD .none))
  | _ => false
def OkR (K : PySem.W.Frag) (d : PyData) : Prop := top d = true ∧ ∀ ds, d = .list ds → ds.length ≤ 1000 ∧ ∀ x ∈ ds, Odd K x ∧ lenD x ≤ 400
section
variable {K : PySem.W.Frag} {q : Option Addr} {δ : List Sl} {te te2 : TE} {c : Nat} {ds : List PyData}
/-- xs[n:], n drawn -/
theorem j_slLF {P : Int → Prop} (h : E q δ te (.list ds)) (h2 : J q δ te2 c (IntP P)) : J q δ (tSl (rSlU K) te (tPart te2) tNoPart) c (fun d => ∃ es : List PyData, (∃ k m, es = (ds.drop k).take m) ∧ d = .list es) := fun σ H H1 n sg o Q k =>
  h σ H H1 (n + c) sg o _ fun d v Hk H2 g o1 e dv => h2 σ Hk H2 n (sg.mono g.k) o1 _ fun d2 v2 Hk3 H4 g3 o3 ⟨i, _, e2⟩ dv2 => by
    subst e; subst e2
    refine ⟨i, dv2.intOf, ?_⟩
    obtain ⟨a, xs, rfl, e1, e2⟩ := (Dq.mono g3.k _ _ dv).lstOf
    refine .inl ⟨a, xs, rfl, .inl (.inl (g3.a _ _ e1)), fun p hn => ?_⟩
    have g4 := Gr.new (q := none) (o := .lst (cutV xs (some i) none)) g3.a hn
    refine k (.list (cutD ds (some i) none)) _ _ _ ((g.trans g3).trans g4.none_to) (o3.go g4) ⟨_, ⟨_, _, rfl⟩, rfl⟩ (.lst upd_same (DqAll.mono g4.k _ _ ?_))
    unfold cutV
    rw [e2.length]
    exact (e2.drop _).take _
end
section
variable {K : PySem.W.Frag} {q : Option Addr} {n : Nat} {δ : List Sl} {ta tb ti te : TE} {tr : TA} {c c1 c2 : Nat} {A0 B0 Hk H1 : Hp} {σ : L2.St} {D : Ends} {p : Addr} {ds : List PyData} {d : PyData} {Φ1 : PyData → Prop} {Φr : List Sl → Prop}
theorem aj_kn (h : E q δ te d) (hr : AJ q δ tr c Φr) : AJ q δ (tCons te tr) c (fun sls => ∃ s', Φr s' ∧ sls = .dat d :: s') := (aj_cons (c1 := 0) (c2 := c) (Φr := Φr) h hr fun d' sls e p => ⟨sls, p, by rw [e]⟩).cost (by omega)
theorem aj_dr (h : J q δ te c1 Φ1) (hr : AJ q δ tr c2 Φr) : AJ q δ (tCons te tr) (c2 + c1) (fun sls => ∃ d s', Φ1 d ∧ Φr s' ∧ sls = .dat d :: s') := aj_cons h hr fun d' sls e p => ⟨d', sls, e, p, rfl⟩
theorem j_andV {a : Bool} (h1 : E q δ ta (.bool a)) (h2 : J q δ tb c (BoolP fun _ => True)) : J q δ (tAndV ta tb) c (BoolP fun b => b = true → a = true) := fun σ H H1 n sg o Q k => h1 σ H H1 (n + c) sg o _ fun x v Hk H2 g o1 e dv => by
  subst e
  refine ⟨a, dv.blOf, ?_⟩
  cases a with
  | true => exact iteT (h2 σ Hk H2 n (sg.mono g.k) o1 _ fun b Hv Hk' H3 g' o2 ⟨b', _, e⟩ dv' => k _ Hv Hk' H3 (g.trans g') o2 ⟨b', fun _ => rfl, e⟩ dv')
  | false => exact iteF (k (.bool false) (.bl false) Hk H2 g (o1.mono (by omega)) ⟨false, fun h => (by cases h), rfl⟩ (.bl false))
/-- xs[j] = [a, b, xs[j]][draw] -/
theorem s_put3 {i j : Nat} {d1 d2 d0 : PyData} (ha : E q δ ta d1) (hb : E q δ tb d2) (h3 : J q δ ti c (IntP fun x => 0 ≤ x ∧ x < 3)) (s : At q (n + c) δ A0 B0 σ Hk H1) (cl : Cell q B0 Hk H1 p ds) (hi : δ[i]? = some (.adr p)) (h0 : ds[j]? = some d0)
    (k : ∀ d Hk' H2, (d = d1 ∨ d = d2 ∨ d = d0) → Same Hk Hk' → At q n δ A0 B0 σ Hk' H2 → Cell q B0 Hk' H2 p (ds.set j d) → D.nx σ H2) :
    tAsg (tOp (rIx K) (tLst (tCons ta (tCons tb (tCons (tOp (rIx K) (tVar i) (tC (.int (j : Int)))) tNil)))) ti) (gSub (tVar i) (tC (.int (j : Int))) rSetL) D σ H1 := by
  have hj : j < ds.length := (List.getElem?_eq_some_iff.mp h0).1
  refine ha σ Hk H1 (n + c) s.sg s.ok _ fun d v Hk2 H2 g o ed dv0 => ?_
  have dv : Dq Hk2 v d1 := by rw [← ed]; exact dv0
  refine hb σ Hk2 H2 (n + c) (s.sg.mono g.k) o _ fun d v2 Hk3 H3 g3 o3 ed dv3 => ?_
  have dv2 : Dq Hk3 v2 d2 := by rw [← ed]; exact dv3
  have g13 := g.trans g3
  have cl3 := cl.go g13
  obtain ⟨xs, ex, hd⟩ := cl3.ex
  have sg3 := s.sg.mono g13.k
  obtain ⟨z, hz, hzd⟩ := hd.get h0
  refine ⟨.ref p, sg3.getA hi, .inl ⟨p, xs, (j : Int), z, rfl, rfl, .inl (.inl ex), atI_nat hz, ?_⟩⟩
  refine ⟨by show 3 ≤ sizeLine; rw [sizeLine_eq]; decide, fun a hn => ?_⟩
  have gN := Gr.new (q := none) (o := .lst [v, v2, z]) g3.a hn
  have o4 := o3.go gN
  refine h3 σ _ _ n (sg3.mono gN.k) o4 _ fun d w Hk5 H5 g5 o5 ⟨m, hm, ed⟩ dw => ?_
  subst ed
  have ew := dw.intOf
  subst ew
  have hl : H5 a = some (.lst [v, v2, z]) := o5.a _ _ (g5.k _ _ upd_same)
  have sm := gN.k.trans g5.k
  have cl5 := (cl3.go gN.none_to).go g5
  have sg5 := sg3.mono sm
  obtain ⟨xs5, ex5, hd5⟩ := cl5.ex
  obtain ⟨r, rfl⟩ : ∃ r : Nat, m = (r : Int) := ⟨m.toNat, by omega⟩
  have hr3 : r < 3 := by omega
  obtain ⟨v', d', hv', hd', dv'⟩ : ∃ v' d', [v, v2, z][r]? = some v' ∧ (d' = d1 ∨ d' = d2 ∨ d' = d0) ∧ Dq Hk5 v' d' := by
    match r, hr3 with
    | 0, _ => exact ⟨v, _, rfl, .inl rfl, Dq.mono (g3.k.trans sm) _ _ dv⟩
    | 1, _ => exact ⟨v2, _, rfl, .inr (.inl rfl), Dq.mono sm _ _ dv2⟩
    | 2, _ => exact ⟨z, _, rfl, .inr (.inr rfl), Dq.mono sm _ _ hzd⟩
  refine .inl ⟨a, [v, v2, z], (r : Int), v', rfl, rfl, .inl (.inl hl), atI_nat hv', ?_⟩
  refine ⟨.ref p, sg5.getA hi, p, xs5, (j : Int), j, rfl, rfl, ex5, ?_, k d' Hk5 _ hd' (g13.k.trans sm) ⟨o5.cell cl5.nk cl5.nq, sg5, (((s.gr.trans g13).trans gN.none_to).trans g5).put cl5.nb cl5.nk⟩ ⟨cl5.nk, cl5.nq, cl5.nb, xs5.set j v', upd_same, DqAll.set hd5 j dv'⟩⟩
  rw [hd5.length]; unfold ixN; rw [if_pos (by omega), if_pos (by omega)]; simp
end
section
variable {K : PySem.W.Frag} {q : Option Addr} {n : Nat} {δ : List Sl} {te : TE} {c : Nat} {A0 B0 Hk H1 : Hp} {σ : L2.St} {D : Ends} {p : Addr} {ds : List PyData} {Φ : PyData → Prop}
/-- xs[j] = e at a written place -/
theorem s_putC {i j : Nat} (h : J q δ te c Φ) (s : At q (n + c) δ A0 B0 σ Hk H1) (cl : Cell q B0 Hk H1 p ds) (hi : δ[i]? = some (.adr p)) (hj : j < ds.length)
    (k : ∀ d Hk' H2, Φ d → Same Hk Hk' → At q n δ A0 B0 σ Hk' H2 → Cell q B0 Hk' H2 p (ds.set j d) → D.nx σ H2) : tAsg te (gSub (tVar i) (tC (.int (j : Int))) rSetL) D σ H1 :=
  h σ Hk H1 n s.sg s.ok _ fun d v Hk2 H2 g o pd dv => by
    have a : At q n δ A0 B0 σ Hk2 H2 := ⟨o, s.sg.mono g.k, s.gr.trans g⟩
    have cl3 := cl.go g
    obtain ⟨xs, ex, hd⟩ := cl3.ex
    refine ⟨.ref p, a.sg.getA hi, p, xs, (j : Int), j, rfl, rfl, ex, ?_, k d Hk2 _ pd g.k ⟨o.cell cl3.nk cl3.nq, a.sg, a.gr.put cl3.nb cl3.nk⟩ ⟨cl3.nk, cl3.nq, cl3.nb, xs.set j v, upd_same, DqAll.set hd j dv⟩⟩
    rw [hd.length]; unfold ixN; rw [if_pos (by omega), if_pos (by omega)]; simp
end
end Cr

set_option Elab.async false
set_option linter.all false
set_option maxRecDepth 100000
set_option maxHeartbeats 800000
/-! The head by one run: facts by names, and more. -/
namespace Cr
open PySem PySem.Spec PyProof.Rows L2
theorem fun_of {K : PySem.W.Frag} {x qual : Str} {st : Stmt} {kws : List (Str × V)} {f : Addr} {fd : FuncData} (F : FunD K x qual (defArgs st) (defBody st) (defScope st) [] kws f fd) : Fun K x qual st f fd := by
  obtain ⟨oc, od, dV, kV, doc, pm, an, cdv, ct, osl, e, lk, hcd, hD, hK⟩ := F.ex
  rcases hD with ⟨_, rfl⟩ | ⟨z, _⟩
  · exact ⟨⟨oc, od, kV, doc, pm, an, cdv, ct, osl, e, lk, hcd⟩, F.kp⟩
  · exact absurd rfl z
theorem funV_of {K : PySem.W.Frag} {x qual : Str} {st : Stmt} {dvs : List V} {kws : List (Str × V)} {f : Addr} {fd : FuncData} (F : FunD K x qual (defArgs st) (defBody st) (defScope st) dvs kws f fd) : FunV K x qual st f fd := by
  obtain ⟨oc, od, dV, kV, doc, pm, an, cdv, ct, osl, e, lk, hcd, hD, hK⟩ := F.ex
  exact ⟨⟨oc, od, dV, kV, doc, pm, an, cdv, ct, osl, e, lk, hcd⟩, F.kp⟩
theorem binds_of1 {K : PySem.W.Frag} {x qual : Str} {st : Stmt} {v : V} {f : Addr} {fd : FuncData} {ps : List Str} (F : FunD K x qual (defArgs st) (defBody st) (defScope st) [v] [] f fd)
    (h : ∀ (T : Addr) (kV doc pm : Value) (an : Option Addr) (cdv ct : Value) (us its : List Value), us.length = ps.length → its.length = 1 →
      ∃ k, bindArgs (PySem.W.fnOf x qual (defArgs st) (defBody st) (defScope st) (.ref T) kV doc pm an cdv ct) ⟨us, []⟩ = seqItems? (.ref T) >>= k ∧ k (some its.toArray) = pure (ps.zip (us ++ its.drop 1))) : Binds K fd ps [] := by
  obtain ⟨ds, hv, hb⟩ := F.binds1 (ps := ps) ps.length 1 (by simp) (by simp) h
  have e : ds = [] := by
    have h0 := hv.length
    exact List.length_eq_zero_iff.mp h0.symm
  rw [e] at hb
  exact hb
end Cr

namespace Lw
open PySem PySem.Spec PyProof.Rows L2 Cr
abbrev N__law_jar : List Str := ["script", "at", "cell"]
abbrev P__law_jar : List Str := ["script", "at"]
theorem sc__law_jar : FnScope N__law_jar P__law_jar (defScope s__law_jar) := ⟨rfl, rfl, rfl, by decide +kernel, rfl, by decide +kernel, by decide +kernel⟩
abbrev N__law_sums : List Str := ["book", "size", "found", "terms", "j", "key_here", "amount_here", "k"]
abbrev P__law_sums : List Str := ["book", "size"]
theorem sc__law_sums : FnScope N__law_sums P__law_sums (defScope s__law_sums) := ⟨rfl, rfl, rfl, by decide +kernel, rfl, by decide +kernel, by decide +kernel⟩
abbrev N__law_along : List Str := ["book", "steps", "size", "found", "key_here", "by_here", "term", "line", "entry"]
abbrev P__law_along : List Str := ["book", "steps", "size"]
theorem sc__law_along : FnScope N__law_along P__law_along (defScope s__law_along) := ⟨rfl, rfl, rfl, by decide +kernel, rfl, by decide +kernel, by decide +kernel⟩
abbrev N__law_gather : List Str := ["rows_here", "table", "key_here", "by_here"]
abbrev P__law_gather : List Str := ["rows_here"]
theorem sc__law_gather : FnScope N__law_gather P__law_gather (defScope s__law_gather) := ⟨rfl, rfl, rfl, by decide +kernel, rfl, by decide +kernel, by decide +kernel⟩
abbrev N__law_pick : List Str := ["jar", "below", "digit", "blend"]
abbrev P__law_pick : List Str := ["jar", "below"]
theorem sc__law_pick : FnScope N__law_pick P__law_pick (defScope s__law_pick) := ⟨rfl, rfl, rfl, by decide +kernel, rfl, by decide +kernel, by decide +kernel⟩
abbrev N__law_amount : List Str := ["jar", "most_here", "amount_here"]
abbrev P__law_amount : List Str := ["jar", "most_here"]
theorem sc__law_amount : FnScope N__law_amount P__law_amount (defScope s__law_amount) := ⟨rfl, rfl, rfl, by decide +kernel, rfl, by decide +kernel, by decide +kernel⟩
abbrev N__law_book : List Str := ["jar", "many_here", "reach", "most_here", "changes_here", "size", "k"]
abbrev P__law_book : List Str := ["jar", "many_here", "reach", "most_here"]
theorem sc__law_book : FnScope N__law_book P__law_book (defScope s__law_book) := ⟨rfl, rfl, rfl, by decide +kernel, rfl, by decide +kernel, by decide +kernel⟩
abbrev N__law_log : List Str := ["jar", "book", "most_here", "found", "reach", "k", "way", "by_here", "key_here", "spot"]
abbrev P__law_log : List Str := ["jar", "book", "most_here"]
theorem sc__law_log : FnScope N__law_log P__law_log (defScope s__law_log) := ⟨rfl, rfl, rfl, by decide +kernel, rfl, by decide +kernel, by decide +kernel⟩
abbrev N_is_an_integer : List Str := ["value"]
abbrev P_is_an_integer : List Str := ["value"]
theorem sc_is_an_integer : FnScope N_is_an_integer P_is_an_integer (defScope s_is_an_integer) := ⟨rfl, rfl, rfl, by decide +kernel, rfl, by decide +kernel, by decide +kernel⟩
abbrev N_is_change : List Str := ["value"]
abbrev P_is_change : List Str := ["value"]
theorem sc_is_change : FnScope N_is_change P_is_change (defScope s_is_change) := ⟨rfl, rfl, rfl, by decide +kernel, rfl, by decide +kernel, by decide +kernel⟩
abbrev N_is_ledger : List Str := ["value", "ascending", "pair", "one", "other", "key", "amount"]
abbrev P_is_ledger : List Str := ["value"]
theorem sc_is_ledger : FnScope N_is_ledger P_is_ledger (defScope s_is_ledger) := ⟨rfl, rfl, rfl, by decide +kernel, rfl, by decide +kernel, by decide +kernel⟩
abbrev N_check_ledger : List Str := ["value"]
abbrev P_check_ledger : List Str := ["value"]
theorem sc_check_ledger : FnScope N_check_ledger P_check_ledger (defScope s_check_ledger) := ⟨rfl, rfl, rfl, by decide +kernel, rfl, by decide +kernel, by decide +kernel⟩
abbrev N_Ledger__init__ : List Str := ["self", "pairs"]
abbrev P_Ledger__init__ : List Str := ["self", "pairs"]
theorem sc_Ledger__init__ : FnScope N_Ledger__init__ P_Ledger__init__ (defScope s_Ledger__init__) := ⟨rfl, rfl, rfl, by decide +kernel, rfl, by decide +kernel, by decide +kernel⟩
abbrev N__law_no_book : List Str := ["jar", "book", "spot", "before", "some", "at", "bads", "bad"]
abbrev P__law_no_book : List Str := ["jar", "book"]
theorem sc__law_no_book : FnScope N__law_no_book P__law_no_book (defScope s__law_no_book) := ⟨rfl, rfl, rfl, by decide +kernel, rfl, by decide +kernel, by decide +kernel⟩
abbrev N__law_no_log : List Str := ["jar", "steps", "bads", "others", "spot"]
abbrev P__law_no_log : List Str := ["jar", "steps"]
theorem sc__law_no_log : FnScope N__law_no_log P__law_no_log (defScope s__law_no_log) := ⟨rfl, rfl, rfl, by decide +kernel, rfl, by decide +kernel, by decide +kernel⟩
abbrev N_check_changes : List Str := ["value", "change"]
abbrev P_check_changes : List Str := ["value"]
theorem sc_check_changes : FnScope N_check_changes P_check_changes (defScope s_check_changes) := ⟨rfl, rfl, rfl, by decide +kernel, rfl, by decide +kernel, by decide +kernel⟩
abbrev N_summed : List Str := ["changes", "amounts", "key", "by"]
abbrev P_summed : List Str := ["changes"]
theorem sc_summed : FnScope N_summed P_summed (defScope s_summed) := ⟨rfl, rfl, rfl, by decide +kernel, rfl, by decide +kernel, by decide +kernel⟩
abbrev N_ledger_after : List Str := ["ledger", "log"]
abbrev P_ledger_after : List Str := ["ledger", "log"]
theorem sc_ledger_after : FnScope N_ledger_after P_ledger_after (defScope s_ledger_after) := ⟨rfl, rfl, rfl, by decide +kernel, rfl, by decide +kernel, by decide +kernel⟩
abbrev N_less : List Str := ["one", "other", "key", "amount"]
abbrev P_less : List Str := ["one", "other"]
theorem sc_less : FnScope N_less P_less (defScope s_less) := ⟨rfl, rfl, rfl, by decide +kernel, rfl, by decide +kernel, by decide +kernel⟩
abbrev N_short_log : List Str := ["one", "other"]
abbrev P_short_log : List Str := ["one", "other"]
theorem sc_short_log : FnScope N_short_log P_short_log (defScope s_short_log) := ⟨rfl, rfl, rfl, by decide +kernel, rfl, by decide +kernel, by decide +kernel⟩
abbrev N_is_from : List Str := ["value", "least"]
abbrev P_is_from : List Str := ["value", "least"]
theorem sc_is_from : FnScope N_is_from P_is_from (defScope s_is_from) := ⟨rfl, rfl, rfl, by decide +kernel, rfl, by decide +kernel, by decide +kernel⟩
abbrev N_check_number : List Str := ["value", "least"]
abbrev P_check_number : List Str := ["value", "least"]
theorem sc_check_number : FnScope N_check_number P_check_number (defScope s_check_number) := ⟨rfl, rfl, rfl, by decide +kernel, rfl, by decide +kernel, by decide +kernel⟩
abbrev N_first_sums : List Str := ["pairs", "number", "result", "keys", "terms", "_", "key", "amount", "term"]
abbrev P_first_sums : List Str := ["pairs", "number"]
theorem sc_first_sums : FnScope N_first_sums P_first_sums (defScope s_first_sums) := ⟨rfl, rfl, rfl, by decide +kernel, rfl, by decide +kernel, by decide +kernel⟩
abbrev N_sums_behind : List Str := ["sums", "change", "number", "by"]
abbrev P_sums_behind : List Str := ["sums", "change"]
theorem sc_sums_behind : FnScope N_sums_behind P_sums_behind (defScope s_sums_behind) := ⟨rfl, rfl, rfl, by decide +kernel, rfl, by decide +kernel, by decide +kernel⟩
abbrev N_sums_along : List Str := ["ledger", "log", "number", "found", "change"]
abbrev P_sums_along : List Str := ["ledger", "log", "number"]
theorem sc_sums_along : FnScope N_sums_along P_sums_along (defScope s_sums_along) := ⟨rfl, rfl, rfl, by decide +kernel, rfl, by decide +kernel, by decide +kernel⟩
abbrev N_is_sums : List Str := ["value", "number"]
abbrev P_is_sums : List Str := ["value"]
theorem sc_is_sums : FnScope N_is_sums P_is_sums (defScope s_is_sums) := ⟨rfl, rfl, rfl, by decide +kernel, rfl, by decide +kernel, by decide +kernel⟩
abbrev N_check_rows : List Str := ["value", "row"]
abbrev P_check_rows : List Str := ["value"]
theorem sc_check_rows : FnScope N_check_rows P_check_rows (defScope s_check_rows) := ⟨rfl, rfl, rfl, by decide +kernel, rfl, by decide +kernel, by decide +kernel⟩
abbrev N_log_fault : List Str := ["ledger", "log", "rows", "sums", "index", "change"]
abbrev P_log_fault : List Str := ["ledger", "log", "rows"]
theorem sc_log_fault : FnScope N_log_fault P_log_fault (defScope s_log_fault) := ⟨rfl, rfl, rfl, by decide +kernel, rfl, by decide +kernel, by decide +kernel⟩
abbrev N_common_log : List Str := ["one", "other", "many"]
abbrev P_common_log : List Str := ["one", "other"]
theorem sc_common_log : FnScope N_common_log P_common_log (defScope s_common_log) := ⟨rfl, rfl, rfl, by decide +kernel, rfl, by decide +kernel, by decide +kernel⟩
abbrev N_shortest_undo : List Str := ["log", "key", "amount"]
abbrev P_shortest_undo : List Str := ["log"]
theorem sc_shortest_undo : FnScope N_shortest_undo P_shortest_undo (defScope s_shortest_undo) := ⟨rfl, rfl, rfl, by decide +kernel, rfl, by decide +kernel, by decide +kernel⟩
abbrev N_changed_in : List Str := ["amounts", "key", "by", "amount"]
abbrev P_changed_in : List Str := ["amounts", "key", "by"]
theorem sc_changed_in : FnScope N_changed_in P_changed_in (defScope s_changed_in) := ⟨rfl, rfl, rfl, by decide +kernel, rfl, by decide +kernel, by decide +kernel⟩
abbrev N_first_return : List Str := ["log", "apart", "index", "key", "by"]
abbrev P_first_return : List Str := ["log"]
theorem sc_first_return : FnScope N_first_return P_first_return (defScope s_first_return) := ⟨rfl, rfl, rfl, by decide +kernel, rfl, by decide +kernel, by decide +kernel⟩
abbrev N__law_call : List Str := ["way", "parts", "book", "mate", "steps", "more", "size", "lines"]
abbrev P__law_call : List Str := ["way", "parts"]
theorem sc__law_call : FnScope N__law_call P__law_call (defScope s__law_call) := ⟨rfl, rfl, rfl, by decide +kernel, rfl, by decide +kernel, by decide +kernel⟩
abbrev N__law_told : List Str := ["way", "parts", "marks", "e"]
abbrev P__law_told : List Str := ["way", "parts"]
theorem sc__law_told : FnScope N__law_told P__law_told (defScope s__law_told) := ⟨rfl, rfl, rfl, by decide +kernel, rfl, by decide +kernel, by decide +kernel⟩
abbrev N__law_no_whole : List Str := ["jar", "least", "some"]
abbrev P__law_no_whole : List Str := ["jar", "least"]
theorem sc__law_no_whole : FnScope N__law_no_whole P__law_no_whole (defScope s__law_no_whole) := ⟨rfl, rfl, rfl, by decide +kernel, rfl, by decide +kernel, by decide +kernel⟩
abbrev N__law_no_lines : List Str := ["jar", "lines", "spot", "row", "others", "j", "bads", "bad"]
abbrev P__law_no_lines : List Str := ["jar", "lines"]
theorem sc__law_no_lines : FnScope N__law_no_lines P__law_no_lines (defScope s__law_no_lines) := ⟨rfl, rfl, rfl, by decide +kernel, rfl, by decide +kernel, by decide +kernel⟩
abbrev N_law : List Str := ["script", "at", "jar", "way", "book", "mate", "steps", "more", "lines", "right", "wrong", "bad", "parts", "is_long", "first", "names", "asked", "due", "k"]
abbrev P_law : List Str := ["script"]
theorem sc_law : FnScope N_law P_law (defScope s_law) := ⟨rfl, rfl, rfl, by decide +kernel, rfl, by decide +kernel, by decide +kernel⟩
structure Tx (K : PySem.W.Frag) (mg : Str → Option Value) where
  a__law_jar : Addr
  fd__law_jar : FuncData
  F__law_jar : Fun K "_law_jar" "_law_jar" s__law_jar a__law_jar fd__law_jar
  b__law_jar : Binds K fd__law_jar P__law_jar []
  m__law_jar : mg "_law_jar" = some (.ref a__law_jar)
  a__law_sums : Addr
  fd__law_sums : FuncData
  F__law_sums : Fun K "_law_sums" "_law_sums" s__law_sums a__law_sums fd__law_sums
  b__law_sums : Binds K fd__law_sums P__law_sums []
  m__law_sums : mg "_law_sums" = some (.ref a__law_sums)
  a__law_along : Addr
  fd__law_along : FuncData
  F__law_along : Fun K "_law_along" "_law_along" s__law_along a__law_along fd__law_along
  b__law_along : Binds K fd__law_along P__law_along []
  m__law_along : mg "_law_along" = some (.ref a__law_along)
  a__law_gather : Addr
  fd__law_gather : FuncData
  F__law_gather : Fun K "_law_gather" "_law_gather" s__law_gather a__law_gather fd__law_gather
  b__law_gather : Binds K fd__law_gather P__law_gather []
  m__law_gather : mg "_law_gather" = some (.ref a__law_gather)
  a__law_pick : Addr
  fd__law_pick : FuncData
  F__law_pick : Fun K "_law_pick" "_law_pick" s__law_pick a__law_pick fd__law_pick
  b__law_pick : Binds K fd__law_pick P__law_pick []
  m__law_pick : mg "_law_pick" = some (.ref a__law_pick)
  a__law_amount : Addr
  fd__law_amount : FuncData
  F__law_amount : Fun K "_law_amount" "_law_amount" s__law_amount a__law_amount fd__law_amount
  b__law_amount : Binds K fd__law_amount P__law_amount []
  m__law_amount : mg "_law_amount" = some (.ref a__law_amount)
  a__law_book : Addr
  fd__law_book : FuncData
  F__law_book : Fun K "_law_book" "_law_book" s__law_book a__law_book fd__law_book
  b__law_book : Binds K fd__law_book P__law_book []
  m__law_book : mg "_law_book" = some (.ref a__law_book)
  a__law_log : Addr
  fd__law_log : FuncData
  F__law_log : Fun K "_law_log" "_law_log" s__law_log a__law_log fd__law_log
  b__law_log : Binds K fd__law_log P__law_log []
  m__law_log : mg "_law_log" = some (.ref a__law_log)
  a_is_an_integer : Addr
  fd_is_an_integer : FuncData
  F_is_an_integer : Fun K "is_an_integer" "is_an_integer" s_is_an_integer a_is_an_integer fd_is_an_integer
  b_is_an_integer : Binds K fd_is_an_integer P_is_an_integer []
  m_is_an_integer : mg "is_an_integer" = some (.ref a_is_an_integer)
  a_is_change : Addr
  fd_is_change : FuncData
  F_is_change : Fun K "is_change" "is_change" s_is_change a_is_change fd_is_change
  b_is_change : Binds K fd_is_change P_is_change []
  m_is_change : mg "is_change" = some (.ref a_is_change)
  a_is_ledger : Addr
  fd_is_ledger : FuncData
  F_is_ledger : Fun K "is_ledger" "is_ledger" s_is_ledger a_is_ledger fd_is_ledger
  b_is_ledger : Binds K fd_is_ledger P_is_ledger []
  m_is_ledger : mg "is_ledger" = some (.ref a_is_ledger)
  a_check_ledger : Addr
  fd_check_ledger : FuncData
  F_check_ledger : Fun K "check_ledger" "check_ledger" s_check_ledger a_check_ledger fd_check_ledger
  b_check_ledger : Binds K fd_check_ledger P_check_ledger []
  m_check_ledger : mg "check_ledger" = some (.ref a_check_ledger)
  a_Ledger__init__ : Addr
  fd_Ledger__init__ : FuncData
  F_Ledger__init__ : FunV K "__init__" "Ledger.__init__" s_Ledger__init__ a_Ledger__init__ fd_Ledger__init__
  b_Ledger__init__ : Binds K fd_Ledger__init__ P_Ledger__init__ []
  C_Ledger : Addr
  M_Ledger : Mk K C_Ledger a_Ledger__init__
  m_Ledger : mg "Ledger" = some (.ref C_Ledger)
  cl_Ledger : Cls K C_Ledger
  n_Ledger : NoAttr K C_Ledger "_pairs"
  I_Ledger : InsC K C_Ledger
  a__law_no_book : Addr
  fd__law_no_book : FuncData
  F__law_no_book : Fun K "_law_no_book" "_law_no_book" s__law_no_book a__law_no_book fd__law_no_book
  b__law_no_book : Binds K fd__law_no_book P__law_no_book []
  m__law_no_book : mg "_law_no_book" = some (.ref a__law_no_book)
  a__law_no_log : Addr
  fd__law_no_log : FuncData
  F__law_no_log : Fun K "_law_no_log" "_law_no_log" s__law_no_log a__law_no_log fd__law_no_log
  b__law_no_log : Binds K fd__law_no_log P__law_no_log []
  m__law_no_log : mg "_law_no_log" = some (.ref a__law_no_log)
  a_check_changes : Addr
  fd_check_changes : FuncData
  F_check_changes : Fun K "check_changes" "check_changes" s_check_changes a_check_changes fd_check_changes
  b_check_changes : Binds K fd_check_changes P_check_changes []
  m_check_changes : mg "check_changes" = some (.ref a_check_changes)
  a_summed : Addr
  fd_summed : FuncData
  F_summed : Fun K "summed" "summed" s_summed a_summed fd_summed
  b_summed : Binds K fd_summed P_summed []
  m_summed : mg "summed" = some (.ref a_summed)
  a_ledger_after : Addr
  fd_ledger_after : FuncData
  F_ledger_after : Fun K "ledger_after" "ledger_after" s_ledger_after a_ledger_after fd_ledger_after
  b_ledger_after : Binds K fd_ledger_after P_ledger_after []
  m_ledger_after : mg "ledger_after" = some (.ref a_ledger_after)
  a_less : Addr
  fd_less : FuncData
  F_less : Fun K "less" "less" s_less a_less fd_less
  b_less : Binds K fd_less P_less []
  m_less : mg "less" = some (.ref a_less)
  a_short_log : Addr
  fd_short_log : FuncData
  F_short_log : Fun K "short_log" "short_log" s_short_log a_short_log fd_short_log
  b_short_log : Binds K fd_short_log P_short_log []
  m_short_log : mg "short_log" = some (.ref a_short_log)
  a_is_from : Addr
  fd_is_from : FuncData
  F_is_from : Fun K "is_from" "is_from" s_is_from a_is_from fd_is_from
  b_is_from : Binds K fd_is_from P_is_from []
  m_is_from : mg "is_from" = some (.ref a_is_from)
  a_check_number : Addr
  fd_check_number : FuncData
  F_check_number : Fun K "check_number" "check_number" s_check_number a_check_number fd_check_number
  b_check_number : Binds K fd_check_number P_check_number []
  m_check_number : mg "check_number" = some (.ref a_check_number)
  a_first_sums : Addr
  fd_first_sums : FuncData
  F_first_sums : Fun K "first_sums" "first_sums" s_first_sums a_first_sums fd_first_sums
  b_first_sums : Binds K fd_first_sums P_first_sums []
  m_first_sums : mg "first_sums" = some (.ref a_first_sums)
  a_sums_behind : Addr
  fd_sums_behind : FuncData
  F_sums_behind : Fun K "sums_behind" "sums_behind" s_sums_behind a_sums_behind fd_sums_behind
  b_sums_behind : Binds K fd_sums_behind P_sums_behind []
  m_sums_behind : mg "sums_behind" = some (.ref a_sums_behind)
  a_sums_along : Addr
  fd_sums_along : FuncData
  F_sums_along : Fun K "sums_along" "sums_along" s_sums_along a_sums_along fd_sums_along
  b_sums_along : Binds K fd_sums_along P_sums_along []
  m_sums_along : mg "sums_along" = some (.ref a_sums_along)
  a_is_sums : Addr
  fd_is_sums : FuncData
  F_is_sums : Fun K "is_sums" "is_sums" s_is_sums a_is_sums fd_is_sums
  b_is_sums : Binds K fd_is_sums P_is_sums []
  m_is_sums : mg "is_sums" = some (.ref a_is_sums)
  a_check_rows : Addr
  fd_check_rows : FuncData
  F_check_rows : Fun K "check_rows" "check_rows" s_check_rows a_check_rows fd_check_rows
  b_check_rows : Binds K fd_check_rows P_check_rows []
  m_check_rows : mg "check_rows" = some (.ref a_check_rows)
  a_log_fault : Addr
  fd_log_fault : FuncData
  F_log_fault : Fun K "log_fault" "log_fault" s_log_fault a_log_fault fd_log_fault
  b_log_fault : Binds K fd_log_fault P_log_fault []
  m_log_fault : mg "log_fault" = some (.ref a_log_fault)
  a_common_log : Addr
  fd_common_log : FuncData
  F_common_log : Fun K "common_log" "common_log" s_common_log a_common_log fd_common_log
  b_common_log : Binds K fd_common_log P_common_log []
  m_common_log : mg "common_log" = some (.ref a_common_log)
  a_shortest_undo : Addr
  fd_shortest_undo : FuncData
  F_shortest_undo : Fun K "shortest_undo" "shortest_undo" s_shortest_undo a_shortest_undo fd_shortest_undo
  b_shortest_undo : Binds K fd_shortest_undo P_shortest_undo []
  m_shortest_undo : mg "shortest_undo" = some (.ref a_shortest_undo)
  a_changed_in : Addr
  fd_changed_in : FuncData
  F_changed_in : Fun K "changed_in" "changed_in" s_changed_in a_changed_in fd_changed_in
  b_changed_in : Binds K fd_changed_in P_changed_in []
  m_changed_in : mg "changed_in" = some (.ref a_changed_in)
  a_first_return : Addr
  fd_first_return : FuncData
  F_first_return : Fun K "first_return" "first_return" s_first_return a_first_return fd_first_return
  b_first_return : Binds K fd_first_return P_first_return []
  m_first_return : mg "first_return" = some (.ref a_first_return)
  a__law_call : Addr
  fd__law_call : FuncData
  F__law_call : Fun K "_law_call" "_law_call" s__law_call a__law_call fd__law_call
  b__law_call : Binds K fd__law_call P__law_call []
  m__law_call : mg "_law_call" = some (.ref a__law_call)
  a__law_told : Addr
  fd__law_told : FuncData
  F__law_told : Fun K "_law_told" "_law_told" s__law_told a__law_told fd__law_told
  b__law_told : Binds K fd__law_told P__law_told []
  m__law_told : mg "_law_told" = some (.ref a__law_told)
  a__law_no_whole : Addr
  fd__law_no_whole : FuncData
  F__law_no_whole : Fun K "_law_no_whole" "_law_no_whole" s__law_no_whole a__law_no_whole fd__law_no_whole
  b__law_no_whole : Binds K fd__law_no_whole P__law_no_whole []
  m__law_no_whole : mg "_law_no_whole" = some (.ref a__law_no_whole)
  a__law_no_lines : Addr
  fd__law_no_lines : FuncData
  F__law_no_lines : Fun K "_law_no_lines" "_law_no_lines" s__law_no_lines a__law_no_lines fd__law_no_lines
  b__law_no_lines : Binds K fd__law_no_lines P__law_no_lines []
  m__law_no_lines : mg "_law_no_lines" = some (.ref a__law_no_lines)
  a_law : Addr
  fd_law : FuncData
  F_law : Fun K "law" "law" s_law a_law fd_law
  b_law : Binds K fd_law P_law []
  m_law : mg "law" = some (.ref a_law)
  e_InvalidChanges : Addr
  g_InvalidChanges : mg "InvalidChanges" = some (.ref e_InvalidChanges)
  u_InvalidChanges : PySem.W.subIn K (.ref e_InvalidChanges) (.type "BaseException") = some true
  t_InvalidChanges : PySem.W.typeIn K (.ref e_InvalidChanges) = some (.type "type")
  h_InvalidChanges : PySem.W.hasDictIn K e_InvalidChanges = true
  e_InvalidLedger : Addr
  g_InvalidLedger : mg "InvalidLedger" = some (.ref e_InvalidLedger)
  u_InvalidLedger : PySem.W.subIn K (.ref e_InvalidLedger) (.type "BaseException") = some true
  t_InvalidLedger : PySem.W.typeIn K (.ref e_InvalidLedger) = some (.type "type")
  h_InvalidLedger : PySem.W.hasDictIn K e_InvalidLedger = true
  e_InvalidNumber : Addr
  g_InvalidNumber : mg "InvalidNumber" = some (.ref e_InvalidNumber)
  u_InvalidNumber : PySem.W.subIn K (.ref e_InvalidNumber) (.type "BaseException") = some true
  t_InvalidNumber : PySem.W.typeIn K (.ref e_InvalidNumber) = some (.type "type")
  h_InvalidNumber : PySem.W.hasDictIn K e_InvalidNumber = true
  e_InvalidRows : Addr
  g_InvalidRows : mg "InvalidRows" = some (.ref e_InvalidRows)
  u_InvalidRows : PySem.W.subIn K (.ref e_InvalidRows) (.type "BaseException") = some true
  t_InvalidRows : PySem.W.typeIn K (.ref e_InvalidRows) = some (.type "type")
  h_InvalidRows : PySem.W.hasDictIn K e_InvalidRows = true
  e_OtherLength : Addr
  g_OtherLength : mg "OtherLength" = some (.ref e_OtherLength)
  u_OtherLength : PySem.W.subIn K (.ref e_OtherLength) (.type "BaseException") = some true
  t_OtherLength : PySem.W.typeIn K (.ref e_OtherLength) = some (.type "type")
  h_OtherLength : PySem.W.hasDictIn K e_OtherLength = true
  e_SumsError : Addr
  g_SumsError : mg "SumsError" = some (.ref e_SumsError)
  u_SumsError : PySem.W.subIn K (.ref e_SumsError) (.type "BaseException") = some true
  t_SumsError : PySem.W.typeIn K (.ref e_SumsError) = some (.type "type")
  h_SumsError : PySem.W.hasDictIn K e_SumsError = true
  x_InvalidChanges : PySem.W.excIn K e_InvalidChanges [.type "ValueError", .type "Exception", .type "BaseException", .type "object"] "ValueError.__new__" = true
  k_InvalidChanges : PySem.W.keepIn K (.ref e_InvalidChanges) = true
  E_InvalidChanges : ExcC K e_InvalidChanges
  v_InvalidChanges : PySem.W.kitOne K (.ref e_InvalidChanges) (.type "ValueError") = some true
  x_InvalidLedger : PySem.W.excIn K e_InvalidLedger [.type "ValueError", .type "Exception", .type "BaseException", .type "object"] "ValueError.__new__" = true
  k_InvalidLedger : PySem.W.keepIn K (.ref e_InvalidLedger) = true
  E_InvalidLedger : ExcC K e_InvalidLedger
  v_InvalidLedger : PySem.W.kitOne K (.ref e_InvalidLedger) (.type "ValueError") = some true
  x_InvalidNumber : PySem.W.excIn K e_InvalidNumber [.type "ValueError", .type "Exception", .type "BaseException", .type "object"] "ValueError.__new__" = true
  k_InvalidNumber : PySem.W.keepIn K (.ref e_InvalidNumber) = true
  E_InvalidNumber : ExcC K e_InvalidNumber
  v_InvalidNumber : PySem.W.kitOne K (.ref e_InvalidNumber) (.type "ValueError") = some true
  x_InvalidRows : PySem.W.excIn K e_InvalidRows [.type "ValueError", .type "Exception", .type "BaseException", .type "object"] "ValueError.__new__" = true
  k_InvalidRows : PySem.W.keepIn K (.ref e_InvalidRows) = true
  E_InvalidRows : ExcC K e_InvalidRows
  v_InvalidRows : PySem.W.kitOne K (.ref e_InvalidRows) (.type "ValueError") = some true
  x_OtherLength : PySem.W.excIn K e_OtherLength [.type "ValueError", .type "Exception", .type "BaseException", .type "object"] "ValueError.__new__" = true
  k_OtherLength : PySem.W.keepIn K (.ref e_OtherLength) = true
  E_OtherLength : ExcC K e_OtherLength
  v_OtherLength : PySem.W.kitOne K (.ref e_OtherLength) (.type "ValueError") = some true
  s_InvalidChanges_InvalidChanges : PySem.W.subIn K (.ref e_InvalidChanges) (.ref e_InvalidChanges) = some true
  s_InvalidChanges_InvalidLedger : PySem.W.subIn K (.ref e_InvalidChanges) (.ref e_InvalidLedger) = some false
  s_InvalidChanges_InvalidNumber : PySem.W.subIn K (.ref e_InvalidChanges) (.ref e_InvalidNumber) = some false
  s_InvalidChanges_InvalidRows : PySem.W.subIn K (.ref e_InvalidChanges) (.ref e_InvalidRows) = some false
  s_InvalidChanges_OtherLength : PySem.W.subIn K (.ref e_InvalidChanges) (.ref e_OtherLength) = some false
  s_InvalidChanges_SumsError : PySem.W.subIn K (.ref e_InvalidChanges) (.ref e_SumsError) = some true
  s_InvalidLedger_InvalidChanges : PySem.W.subIn K (.ref e_InvalidLedger) (.ref e_InvalidChanges) = some false
  s_InvalidLedger_InvalidLedger : PySem.W.subIn K (.ref e_InvalidLedger) (.ref e_InvalidLedger) = some true
  s_InvalidLedger_InvalidNumber : PySem.W.subIn K (.ref e_InvalidLedger) (.ref e_InvalidNumber) = some false
  s_InvalidLedger_InvalidRows : PySem.W.subIn K (.ref e_InvalidLedger) (.ref e_InvalidRows) = some false
  s_InvalidLedger_OtherLength : PySem.W.subIn K (.ref e_InvalidLedger) (.ref e_OtherLength) = some false
  s_InvalidLedger_SumsError : PySem.W.subIn K (.ref e_InvalidLedger) (.ref e_SumsError) = some true
  s_InvalidNumber_InvalidChanges : PySem.W.subIn K (.ref e_InvalidNumber) (.ref e_InvalidChanges) = some false
  s_InvalidNumber_InvalidLedger : PySem.W.subIn K (.ref e_InvalidNumber) (.ref e_InvalidLedger) = some false
  s_InvalidNumber_InvalidNumber : PySem.W.subIn K (.ref e_InvalidNumber) (.ref e_InvalidNumber) = some true
  s_InvalidNumber_InvalidRows : PySem.W.subIn K (.ref e_InvalidNumber) (.ref e_InvalidRows) = some false
  s_InvalidNumber_OtherLength : PySem.W.subIn K (.ref e_InvalidNumber) (.ref e_OtherLength) = some false
  s_InvalidNumber_SumsError : PySem.W.subIn K (.ref e_InvalidNumber) (.ref e_SumsError) = some true
  s_InvalidRows_InvalidChanges : PySem.W.subIn K (.ref e_InvalidRows) (.ref e_InvalidChanges) = some false
  s_InvalidRows_InvalidLedger : PySem.W.subIn K (.ref e_InvalidRows) (.ref e_InvalidLedger) = some false
  s_InvalidRows_InvalidNumber : PySem.W.subIn K (.ref e_InvalidRows) (.ref e_InvalidNumber) = some false
  s_InvalidRows_InvalidRows : PySem.W.subIn K (.ref e_InvalidRows) (.ref e_InvalidRows) = some true
  s_InvalidRows_OtherLength : PySem.W.subIn K (.ref e_InvalidRows) (.ref e_OtherLength) = some false
  s_InvalidRows_SumsError : PySem.W.subIn K (.ref e_InvalidRows) (.ref e_SumsError) = some true
  s_OtherLength_InvalidChanges : PySem.W.subIn K (.ref e_OtherLength) (.ref e_InvalidChanges) = some false
  s_OtherLength_InvalidLedger : PySem.W.subIn K (.ref e_OtherLength) (.ref e_InvalidLedger) = some false
  s_OtherLength_InvalidNumber : PySem.W.subIn K (.ref e_OtherLength) (.ref e_InvalidNumber) = some false
  s_OtherLength_InvalidRows : PySem.W.subIn K (.ref e_OtherLength) (.ref e_InvalidRows) = some false
  s_OtherLength_OtherLength : PySem.W.subIn K (.ref e_OtherLength) (.ref e_OtherLength) = some true
  s_OtherLength_SumsError : PySem.W.subIn K (.ref e_OtherLength) (.ref e_SumsError) = some true
  z_ValueError : mg "ValueError" = none
  z_abs : mg "abs" = none
  z_all : mg "all" = none
  z_any : mg "any" = none
  z_bool : mg "bool" = none
  z_enumerate : mg "enumerate" = none
  z_int : mg "int" = none
  z_isinstance : mg "isinstance" = none
  z_len : mg "len" = none
  z_list : mg "list" = none
  z_max : mg "max" = none
  z_min : mg "min" = none
  z_range : mg "range" = none
  z_sorted : mg "sorted" = none
  z_sum : mg "sum" = none
  z_tuple : mg "tuple" = none
  z_zip : mg "zip" = none
def g_kb_common_log_0_other_one {α : Type} (us ws : List α) : List α := match us, ws with
  | [], [k0, k1] => [k1, k0]
  | _, _ => []
theorem kb_common_log_0_other_one {K : PySem.W.Frag} {f : Addr} {fd : FuncData} (F : Fun K "common_log" "common_log" s_common_log f fd) : KBinds K fd P_common_log ["other", "one"] g_kb_common_log_0_other_one g_kb_common_log_0_other_one where
  to := fun s us ws _ hl => by
    obtain ⟨oc, od, kV, doc, pm, an, cdv, ct, osl, rfl, lk, hcd⟩ := F.ex
    unfold g_kb_common_log_0_other_one at hl ⊢
    split at hl
    · exact .of_eq rfl
    · exact absurd hl (by decide)
  rel := fun {vs us zs ws} h1 h2 => by
    rcases h1 with _ | ⟨_, _⟩ <;> rcases h2 with _ | ⟨rk0, _ | ⟨rk1, _ | ⟨_, _⟩⟩⟩ <;> first | exact (.cons rk1 (.cons rk0 .nil)) | exact .nil
theorem v_kb_common_log_0_other_one {H : Hp} {uk0 uk1 : Sl} : ∀ vs zs : List V, VS H vs [] → VS H zs [uk0, uk1] → VS H (g_kb_common_log_0_other_one vs zs) [uk1, uk0] := by
  intro vs zs h1 h2
  have za := VS.inv0 h1
  subst za
  obtain ⟨wk0, tk0, rfl, qk0, rk0⟩ := VS.inv1 h2
  obtain ⟨wk1, tk1, rfl, qk1, rk1⟩ := VS.inv1 rk0
  have zb := VS.inv0 rk1
  subst zb
  exact (VS.cons qk1 (VS.cons qk0 VS.nil))
def g_kb_first_return_0_log {α : Type} (us ws : List α) : List α := match us, ws with
  | [], [k0] => [k0]
  | _, _ => []
theorem kb_first_return_0_log {K : PySem.W.Frag} {f : Addr} {fd : FuncData} (F : Fun K "first_return" "first_return" s_first_return f fd) : KBinds K fd P_first_return ["log"] g_kb_first_return_0_log g_kb_first_return_0_log where
  to := fun s us ws _ hl => by
    obtain ⟨oc, od, kV, doc, pm, an, cdv, ct, osl, rfl, lk, hcd⟩ := F.ex
    unfold g_kb_first_return_0_log at hl ⊢
    split at hl
    · exact .of_eq rfl
    · exact absurd hl (by decide)
  rel := fun {vs us zs ws} h1 h2 => by
    rcases h1 with _ | ⟨_, _⟩ <;> rcases h2 with _ | ⟨rk0, _ | ⟨_, _⟩⟩ <;> first | exact (.cons rk0 .nil) | exact .nil
theorem v_kb_first_return_0_log {H : Hp} {uk0 : Sl} : ∀ vs zs : List V, VS H vs [] → VS H zs [uk0] → VS H (g_kb_first_return_0_log vs zs) [uk0] := by
  intro vs zs h1 h2
  have za := VS.inv0 h1
  subst za
  obtain ⟨wk0, tk0, rfl, qk0, rk0⟩ := VS.inv1 h2
  have zb := VS.inv0 rk0
  subst zb
  exact (VS.cons qk0 VS.nil)
def g_kb_ledger_after_0_log_ledger {α : Type} (us ws : List α) : List α := match us, ws with
  | [], [k0, k1] => [k1, k0]
  | _, _ => []
theorem kb_ledger_after_0_log_ledger {K : PySem.W.Frag} {f : Addr} {fd : FuncData} (F : Fun K "ledger_after" "ledger_after" s_ledger_after f fd) : KBinds K fd P_ledger_after ["log", "ledger"] g_kb_ledger_after_0_log_ledger g_kb_ledger_after_0_log_ledger where
  to := fun s us ws _ hl => by
    obtain ⟨oc, od, kV, doc, pm, an, cdv, ct, osl, rfl, lk, hcd⟩ := F.ex
    unfold g_kb_ledger_after_0_log_ledger at hl ⊢
    split at hl
    · exact .of_eq rfl
    · exact absurd hl (by decide)
  rel := fun {vs us zs ws} h1 h2 => by
    rcases h1 with _ | ⟨_, _⟩ <;> rcases h2 with _ | ⟨rk0, _ | ⟨rk1, _ | ⟨_, _⟩⟩⟩ <;> first | exact (.cons rk1 (.cons rk0 .nil)) | exact .nil
theorem v_kb_ledger_after_0_log_ledger {H : Hp} {uk0 uk1 : Sl} : ∀ vs zs : List V, VS H vs [] → VS H zs [uk0, uk1] → VS H (g_kb_ledger_after_0_log_ledger vs zs) [uk1, uk0] := by
  intro vs zs h1 h2
  have za := VS.inv0 h1
  subst za
  obtain ⟨wk0, tk0, rfl, qk0, rk0⟩ := VS.inv1 h2
  obtain ⟨wk1, tk1, rfl, qk1, rk1⟩ := VS.inv1 rk0
  have zb := VS.inv0 rk1
  subst zb
  exact (VS.cons qk1 (VS.cons qk0 VS.nil))
def g_kb_log_fault_0_rows_log_ledger {α : Type} (us ws : List α) : List α := match us, ws with
  | [], [k0, k1, k2] => [k2, k1, k0]
  | _, _ => []
theorem kb_log_fault_0_rows_log_ledger {K : PySem.W.Frag} {f : Addr} {fd : FuncData} (F : Fun K "log_fault" "log_fault" s_log_fault f fd) : KBinds K fd P_log_fault ["rows", "log", "ledger"] g_kb_log_fault_0_rows_log_ledger g_kb_log_fault_0_rows_log_ledger where
  to := fun s us ws _ hl => by
    obtain ⟨oc, od, kV, doc, pm, an, cdv, ct, osl, rfl, lk, hcd⟩ := F.ex
    unfold g_kb_log_fault_0_rows_log_ledger at hl ⊢
    split at hl
    · exact .of_eq rfl
    · exact absurd hl (by decide)
  rel := fun {vs us zs ws} h1 h2 => by
    rcases h1 with _ | ⟨_, _⟩ <;> rcases h2 with _ | ⟨rk0, _ | ⟨rk1, _ | ⟨rk2, _ | ⟨_, _⟩⟩⟩⟩ <;> first | exact (.cons rk2 (.cons rk1 (.cons rk0 .nil))) | exact .nil
theorem v_kb_log_fault_0_rows_log_ledger {H : Hp} {uk0 uk1 uk2 : Sl} : ∀ vs zs : List V, VS H vs [] → VS H zs [uk0, uk1, uk2] → VS H (g_kb_log_fault_0_rows_log_ledger vs zs) [uk2, uk1, uk0] := by
  intro vs zs h1 h2
  have za := VS.inv0 h1
  subst za
  obtain ⟨wk0, tk0, rfl, qk0, rk0⟩ := VS.inv1 h2
  obtain ⟨wk1, tk1, rfl, qk1, rk1⟩ := VS.inv1 rk0
  obtain ⟨wk2, tk2, rfl, qk2, rk2⟩ := VS.inv1 rk1
  have zb := VS.inv0 rk2
  subst zb
  exact (VS.cons qk2 (VS.cons qk1 (VS.cons qk0 VS.nil)))
def g_kb_short_log_0_other_one {α : Type} (us ws : List α) : List α := match us, ws with
  | [], [k0, k1] => [k1, k0]
  | _, _ => []
theorem kb_short_log_0_other_one {K : PySem.W.Frag} {f : Addr} {fd : FuncData} (F : Fun K "short_log" "short_log" s_short_log f fd) : KBinds K fd P_short_log ["other", "one"] g_kb_short_log_0_other_one g_kb_short_log_0_other_one where
  to := fun s us ws _ hl => by
    obtain ⟨oc, od, kV, doc, pm, an, cdv, ct, osl, rfl, lk, hcd⟩ := F.ex
    unfold g_kb_short_log_0_other_one at hl ⊢
    split at hl
    · exact .of_eq rfl
    · exact absurd hl (by decide)
  rel := fun {vs us zs ws} h1 h2 => by
    rcases h1 with _ | ⟨_, _⟩ <;> rcases h2 with _ | ⟨rk0, _ | ⟨rk1, _ | ⟨_, _⟩⟩⟩ <;> first | exact (.cons rk1 (.cons rk0 .nil)) | exact .nil
theorem v_kb_short_log_0_other_one {H : Hp} {uk0 uk1 : Sl} : ∀ vs zs : List V, VS H vs [] → VS H zs [uk0, uk1] → VS H (g_kb_short_log_0_other_one vs zs) [uk1, uk0] := by
  intro vs zs h1 h2
  have za := VS.inv0 h1
  subst za
  obtain ⟨wk0, tk0, rfl, qk0, rk0⟩ := VS.inv1 h2
  obtain ⟨wk1, tk1, rfl, qk1, rk1⟩ := VS.inv1 rk0
  have zb := VS.inv0 rk1
  subst zb
  exact (VS.cons qk1 (VS.cons qk0 VS.nil))
def g_kb_sums_along_0_number_log_ledger {α : Type} (us ws : List α) : List α := match us, ws with
  | [], [k0, k1, k2] => [k2, k1, k0]
  | _, _ => []
theorem kb_sums_along_0_number_log_ledger {K : PySem.W.Frag} {f : Addr} {fd : FuncData} (F : Fun K "sums_along" "sums_along" s_sums_along f fd) : KBinds K fd P_sums_along ["number", "log", "ledger"] g_kb_sums_along_0_number_log_ledger g_kb_sums_along_0_number_log_ledger where
  to := fun s us ws _ hl => by
    obtain ⟨oc, od, kV, doc, pm, an, cdv, ct, osl, rfl, lk, hcd⟩ := F.ex
    unfold g_kb_sums_along_0_number_log_ledger at hl ⊢
    split at hl
    · exact .of_eq rfl
    · exact absurd hl (by decide)
  rel := fun {vs us zs ws} h1 h2 => by
    rcases h1 with _ | ⟨_, _⟩ <;> rcases h2 with _ | ⟨rk0, _ | ⟨rk1, _ | ⟨rk2, _ | ⟨_, _⟩⟩⟩⟩ <;> first | exact (.cons rk2 (.cons rk1 (.cons rk0 .nil))) | exact .nil
theorem v_kb_sums_along_0_number_log_ledger {H : Hp} {uk0 uk1 uk2 : Sl} : ∀ vs zs : List V, VS H vs [] → VS H zs [uk0, uk1, uk2] → VS H (g_kb_sums_along_0_number_log_ledger vs zs) [uk2, uk1, uk0] := by
  intro vs zs h1 h2
  have za := VS.inv0 h1
  subst za
  obtain ⟨wk0, tk0, rfl, qk0, rk0⟩ := VS.inv1 h2
  obtain ⟨wk1, tk1, rfl, qk1, rk1⟩ := VS.inv1 rk0
  obtain ⟨wk2, tk2, rfl, qk2, rk2⟩ := VS.inv1 rk1
  have zb := VS.inv0 rk2
  subst zb
  exact (VS.cons qk2 (VS.cons qk1 (VS.cons qk0 VS.nil)))
section
variable {P : Program} {w : World} {K : PySem.W.Frag} {mg : Str → Option Value} {base : Heap}
/-! ### _law_jar -/

theorem ok__law_jar (T : Tx K mg) : FnOk P w K mg base CX0 1 T.a__law_jar T.fd__law_jar P__law_jar (spMk K) := by
  refine T.F__law_jar.ok sc__law_jar (fun vs H Q Ew h => by obtain ⟨a, ns, t, rfl, _⟩ := h; rfl) (fun cdv A outer s H vs Q Ew hr h => ?_)
  obtain ⟨a, ns, t, rfl, hS, h0, h1, k⟩ := h
  refine ⟨_, (pss_cons (ps_set (i := 2) sc__law_jar.nd rfl (Or.inl rfl) (pe_ifExp (pt_cmpR op_lt (pv 1) (pe_callB (k_len (K := K) rfl) (by rfl) T.z_len (by decide +kernel) (pa_cons (pv 0) pa_nil)) (nomark _)) (pe_ix (k_ix (K := K) rfl) (pv 0) (pv 1) (fun _ _ => rfl)) pe_int))
      (pss_one (ps_ret (pe_lst (pa_cons (pe_callB (call_maxQ rfl) (by rfl) T.z_max (by decide +kernel) (pa_cons pe_int (pa_cons (pe_op op_sub (pe_callB call_absQ (by rfl) T.z_abs (by decide +kernel) (pa_cons (pv 2) pa_nil)) (pe_op op_powW pe_int pe_int)) pa_nil))) (pa_cons (pe_op (k_addU (K := K) rfl) (pe_op (k_addU (K := K) rfl) (pe_op op_mulU (pe_op op_modN (pe_callTy call_intQ (by rfl) T.z_int (by decide +kernel) (pa_cons (pv 2) pa_nil)) (pe_op (k_addU (K := K) rfl) (pe_op op_powW pe_int pe_int) pe_int)) pe_int) (pe_op op_mulU pe_int (pv 1))) pe_int) (pa_cons pe_int pa_nil))))))), ?_⟩
  have hA : At none 0 [.scr K ns, .dat (.int t), .any] H H (L2.start N__law_jar [.ref a, .int t]) H H := ⟨⟨Same.refl _, fun p e => (by cases e), fun p e => (by cases e)⟩, start_sg (N := N__law_jar) (VS.cons (s := .scr K ns) ⟨a, rfl, hS⟩ (VS.cons (s := .dat (.int t)) (.int t) VS.nil)) (by show 2 ≤ 3; decide), Gr.refl (Same.refl _)⟩
  refine q_asg (n := 0) (c := 0) (Φ := fun x => ∃ v : Int, x = .int v) ?_ hA fun d σ1 Hk1 H1 ⟨v, e⟩ g1 a1 => ?_
  · by_cases ht : t < ns.length
    · have hv : atI ns t = some (ns[t.toNat]'(by omega)) := by
        have h2 := atI_nat (List.getElem?_eq_getElem (show t.toNat < ns.length by omega))
        rw [Int.toNat_of_nonneg h0] at h2; exact h2
      exact (e_if (b := true) (tb_is (tb_test (e_ltI (e_var rfl) (e_lenS rfl))) (decide_eq_true ht)) (fun _ => e_iS rfl (e_var rfl) hv) (fun h => by cases h)).imp fun d e => ⟨_, e⟩
    · exact (e_if (b := false) (d := .int 0) (tb_is (tb_test (e_ltI (e_var rfl) (e_lenS rfl))) (decide_eq_false ht)) (fun h => by cases h) (fun _ => e_int)).imp fun d e => ⟨_, e⟩
  · subst e
    obtain ⟨m1, em1⟩ : ∃ m : Int, m = (10 : Int) ^ (37 : Int).toNat + 139 := ⟨_, rfl⟩
    have hm1 : 0 < m1 ∧ m1 < 2 ^ 130 := by rw [em1]; exact ⟨by decide, by decide⟩
    have b1 := fmod_in (a := v) hm1.1
    obtain ⟨x, ex⟩ : ∃ x : Int, x = (if (if v < 0 then -v else v) - (10 : Int) ^ (18 : Int).toNat > 0 then (if v < 0 then -v else v) - (10 : Int) ^ (18 : Int).toNat else 0) := ⟨_, rfl⟩
    have E1 := e_max (q := none) (δ := [.scr K ns, .dat (.int t), .dat (.int v)]) (e_int (i := 0)) (e_subI (e_abs (e_var (i := 2) rfl)) (e_pow (e_int (i := 10)) (e_int (i := 18)) (pow_ok (a := 4) (by decide) (by omega) (by omega) (by omega))))
    rw [← ex] at E1
    have E2 := e_addI (q := none) (K := K) (δ := [.scr K ns, .dat (.int t), .dat (.int v)]) (e_addI (K := K) (e_mulI (e_mod (j := m1) (e_intI (e_var (i := 2) rfl)) (e_is (e_addI (K := K) (e_pow (e_int (i := 10)) (e_int (i := 37)) (pow_ok (a := 4) (by decide) (by omega) (by omega) (by omega))) (e_int (i := 139))) (by rw [em1])) (by omega)) (e_int (i := 83)) (wide_mul (a := 130) (b := 7) (by omega) (by decide) (by omega) (by omega) (by omega))) (e_mulI (e_int (i := 61)) (e_var (i := 1) rfl) (wide_mul (a := 6) (b := 11) (by decide) (by omega) (by omega) (by omega) (by omega)))) (e_int (i := 23))
    obtain ⟨y, ey⟩ : ∃ y : Int, y = v.fmod m1 * 83 + 61 * t + 23 := ⟨_, rfl⟩
    rw [← ey] at E2
    refine s_retLst (n := 0) (ds := [.int x, .int y, .int 0]) (ae_cons E1 (ae_cons E2 (ae_cons e_int ae_nil))) (by simp) a1 fun p vs Hk2 H2 g2 hp hv => ?_
    have hvs := DqAll.ints (ns := [x, y, 0]) hv
    subst hvs
    have gg := (g1.trans g2).trans (Gr.cell (q := none) (o := .lst [.int x, .int y, .int 0]) g2.a hp)
    refine k p _ (fun b o h => gg.s b o (fun z => by cases z) h) ?_ ⟨x, y, 0, upd_same, by omega, by omega, by omega, by omega⟩
    cases hH : H p with
    | none => rfl
    | some o => exact absurd hp ((g1.trans g2).t p (by rw [hH]; exact fun z => by cases z))
/-! ### _law_sums -/
def R__law_sums : RelX := fun _ sls c Φ => c = 0 ∧ ∃ (l : List (Int × Int)) (m : Int) (A B : Nat), Kb A B l ∧ A ≤ 1000 ∧ 0 < A ∧ 0 < B ∧ B ≤ 100000 ∧ l.length ≤ 100000 ∧ 0 ≤ m ∧ m ≤ 400 ∧ sls = [.dat (led l), .dat (.int m)] ∧ Φ = fun d => d = pol (psums l m.toNat)
theorem ok__law_sums (T : Tx K mg) : FnOk P w K mg base CX0 1 T.a__law_sums T.fd__law_sums P__law_sums (spX R__law_sums) := by
  refine fn_ok T.F__law_sums sc__law_sums (by decide) (fun q sls c Φ h => by obtain ⟨_, l, m, A, B, _, _, _, _, _, _, _, _, rfl, _⟩ := h; rfl) fun cdv A outer s B0 Ew hr => ⟨_,
    (pss_cons (ps_asg (Cr.pe_tup (pa_cons (pe_lst pa_nil) (pa_cons (pe_lc (own := [("key_here", 5), ("amount_here", 6)]) rfl sc__law_sums.nd (k_piTup (K := K) rfl (pv 0)) (blkOk_by (own := [("key_here", 5), ("amount_here", 6)]) (N := N__law_sums) (sc := defScope s__law_sums) (by decide +kernel)) (fun _ _ _ _ _ => (k_pgTup (K := K) (n := 2) rfl rfl (pgs_cons (pg_name (i := 5) sc__law_sums.nd rfl (Or.inl rfl)) (pgs_cons (pg_name (i := 6) sc__law_sums.nd rfl (Or.inl rfl)) pgs_nil)))) (fun _ _ _ _ _ => pts_nil) (fun _ _ _ _ _ => (pv 6))) pa_nil))) (k_pgTup (K := K) (n := 2) rfl rfl (pgs_cons (pg_name (i := 2) sc__law_sums.nd rfl (Or.inl rfl)) (pgs_cons (pg_name (i := 3) sc__law_sums.nd rfl (Or.inr rfl)) pgs_nil))))
      (pss_cons (ps_for PassesOwn.never rfl (pi_range1 rfl T.z_range (pa_cons (pv 1) pa_nil)) (pg_name (i := 4) sc__law_sums.nd rfl (Or.inl rfl)) (pss_cons (ps_expr (pe_bm PySem.F.plainAttrs_list PySem.F.slot_list_append PySem.F.type_list_append mt_append (pv 2) (pa_cons (pe_callB (k_sum (K := K) rfl rfl) (by rfl) T.z_sum (by decide +kernel) (pa_cons (pv 3) pa_nil)) pa_nil)))
      (pss_one (ps_set (i := 3) sc__law_sums.nd rfl (Or.inr rfl) (pe_lc (own := [("k", 7)]) rfl sc__law_sums.nd (pi_range1 rfl T.z_range (pa_cons (pe_callB (k_len (K := K) rfl) (by rfl) T.z_len (by decide +kernel) (pa_cons (pv 0) pa_nil)) pa_nil)) (blkOk_by (own := [("k", 7)]) (N := N__law_sums) (sc := defScope s__law_sums) (by decide +kernel)) (fun _ _ _ _ _ => (pg_name (i := 7) sc__law_sums.nd rfl (Or.inl rfl))) (fun _ _ _ _ _ => pts_nil) (fun _ _ _ _ _ => (pe_op op_mulU (pe_ix (k_ix (K := K) rfl) (pv 3) (pv 7) (fun _ _ => rfl)) (pe_ix (k_ix (K := K) rfl) (pe_ix (k_ix (K := K) rfl) (pv 0) (pv 7) (fun _ _ => rfl)) pe_int (fun _ _ => rfl)))))))))
      (pss_one (ps_ret (pe_callTy (k_tup (K := K) rfl) (by rfl) T.z_tuple (by decide +kernel) (pa_cons (pv 2) pa_nil)))))), fun q sls n c Φ A0 σ Q hR hA fin => ?_⟩
  obtain ⟨rfl, l, m, A, B, hK, hA1, hA0, hB0, hB1, hl, h0, h1, rfl, rfl⟩ := hR
  refine q_tupNew (i := 2) (j := 3) (d2 := .list ((tms l 0).map .int)) (e_is (e_lc1 (vs := [5, 6]) (emb := pr) (xs := l) (ie_tup (e_var rfl)) (fun x => .int x.2) (by omega) fun x hx => ⟨_, gb_tup2 (by simp) (by simp), e_var rfl⟩) (by rw [tms_zero, List.map_map]; rfl)) hA fun p σ1 Hk1 H1 g1 a1 cl1 => ?_
  refine q_for (n := n) (c := 0) (ie_rng1 (e_var rfl) (by omega) (by omega)) a1 fun items HkW H4 e g4 a4 => ?_
  subst e
  refine ⟨fun i σ' Hk' H' => Same HkW Hk' ∧ At q n [.dat (led l), .dat (.int m), .adr p, .dat (.list ((tms l i).map .int)), .any, .any, .any, .any] A0 B0 σ' Hk' H' ∧ Cell q B0 Hk' H' p ((psums l i).map .int), ⟨Same.refl _, a4, cl1.go g4⟩, fun i σ' Hk' H' h => ⟨h.1, h.2.1.ok.a⟩, ?_, ?_⟩
  · rintro i d σ' Hk' H' ed ⟨h4, st, cl⟩ v Hk5 H5 g5 dv
    obtain ⟨hi, rfl⟩ := rng_get' ed
    refine gb_name (vs := [4]) (by simp) σ' Hk5 H5 v (st.sg.mono g5.k) g5.a dv _ fun σ2 sg2 _ _ => ?_
    have st2 : At q n _ A0 B0 σ2 Hk5 H5 := ⟨st.ok.go g5, sg2, st.gr.trans g5.none_to⟩
    refine q_append (n := n) (c := 0) (Φ := fun d => d = .int (psum l i)) (e_sum (e_var rfl)) st2 (cl.go g5.none_to) rfl (by rw [List.length_map, psums_len]; omega) fun d Hk6 H6 ed s6 a6 cl6 => ?_
    have hil : A * i ≤ A * 400 := Nat.mul_le_mul_left _ (by omega)
    have hil2 : A * 400 ≤ 1000 * 400 := Nat.mul_le_mul_right _ hA1
    refine s_asgE (i := 3) (d := .list ((tms l (i + 1)).map .int)) (e_is (e_lc1 (vs := [7]) (emb := fun k : Nat => PyData.int (0 + (k : Int))) (xs := List.range l.length) ((ie_rng1 (j := (l.length : Nat)) (e_is (e_lenT (e_var rfl)) (by rw [pd_len])) (by omega) (by omega)).is rfl) (fun k => .int ((tms l i).getD k 0 * (l.getD k (0, 0)).1)) (by rw [List.length_range]; omega) fun k hk => ?_) (by rw [← terms_range, List.map_map]; rfl)) a6 fun σ7 Hk7 H7 g7 a7 => ⟨Hk7, ((h4.trans g5.k).trans s6).trans g7.k, a7.forget 4, ?_⟩
    · have hk' := List.mem_range.mp hk
      have tl : (tms l i).length = l.length := by simp [tms]
      have hx := hK l[k] (List.getElem_mem hk')
      have e1 : (tms l i).getD k 0 = l[k].2 * l[k].1 ^ i := by simp [tms, List.getD_eq_getElem?_getD, hk']
      have e2 : l.getD k (0, 0) = l[k] := by simp [List.getD_eq_getElem?_getD, hk']
      rw [e1, e2]
      refine ⟨_, gb_name (by simp), e_mulI (e_iL (ds := (tms l i).map .int) (e_var rfl) (e_var rfl) ?_) (e_iT (ds := [.int l[k].1, .int l[k].2]) (e_iT (ds := pd l) (e_var rfl) (e_var rfl) ?_) e_int rfl) (wide_mul (tm_bits hx.1 hx.2 i) hx.1 (by omega) (by omega) (by omega))⟩
      · rw [Int.zero_add]
        exact atI_nat (by rw [List.getElem?_map]; simp [tms, hk'])
      · rw [Int.zero_add]
        exact atI_nat (by unfold pd; rw [List.getElem?_map, List.getElem?_eq_getElem hk']; rfl)
    have cl7 := cl6.go g7
    rw [ed] at cl7
    rw [psums_succ, List.map_append]; exact cl7
  · rintro σ' Hk' H' ⟨h4, st, cl⟩
    rw [rng_len] at cl
    obtain ⟨Hk5, s5, st5⟩ := st.freeze (i := 2) cl rfl
    exact s_retE (d := pol (psums l m.toNat)) (e_tupL (e_var rfl)) st5 (Nat.le_refl _) fin rfl
/-! ### _law_along -/
def R__law_along : RelX := fun _ sls c Φ => c = 0 ∧ ∃ (l cs : List (Int × Int)) (m : Int), (l.length ≤ 1000 ∧ Kb 60 60 l) ∧ (cs.length ≤ 1000 ∧ Kb 60 60 cs) ∧ (1 ≤ m ∧ m ≤ 400) ∧ sls = [.dat (led l), .dat (.list (pd cs)), .dat (.int m)] ∧ Φ = fun d => d = .list (rowsA (psums l m.toNat) cs cs.length)
theorem ok__law_along (T : Tx K mg) : FnOk P w K mg base CX0 2 T.a__law_along T.fd__law_along P__law_along (spX R__law_along) := by
  have G__law_sums := ok__law_sums (P := P) (w := w) (base := base) T
  refine fn_ok T.F__law_along sc__law_along (by decide) (fun q sls c Φ h => by obtain ⟨_, a, b, m, _, _, _, rfl, _⟩ := h; rfl) fun cdv A outer s B0 Ew hr => ⟨_,
    (pss_cons (ps_set (i := 3) sc__law_along.nd rfl (Or.inl rfl) (pe_lst (pa_cons (pe_call G__law_sums (hr.mono (by decide)) (by rfl) T.m__law_sums T.F__law_sums.kp T.b__law_sums .nil pass0 (pa_cons (pv 0) (pa_cons (pv 2) pa_nil))) pa_nil)))
      (pss_cons (ps_for PassesOwn.never rfl (k_piList (K := K) rfl (pv 1)) (k_pgTup (K := K) (n := 2) rfl rfl (pgs_cons (pg_name (i := 4) sc__law_along.nd rfl (Or.inl rfl)) (pgs_cons (pg_name (i := 5) sc__law_along.nd rfl (Or.inl rfl)) pgs_nil))) (pss_cons (ps_par (i := 6) (j := 7) (by rfl) sc__law_along.nd rfl rfl (by decide) rfl rfl (pa_cons (pv 5) (pa_cons (pe_lst pa_nil) pa_nil)) (by rfl))
      (pss_cons (ps_for PassesOwn.never rfl (k_piTup (K := K) rfl (pe_ix (k_ix (K := K) rfl) (pv 3) (pe_un un_neg pe_int) (fun _ _ => rfl))) (pg_name (i := 8) sc__law_along.nd rfl (Or.inl rfl)) (pss_cons (ps_expr (pe_bm PySem.F.plainAttrs_list PySem.F.slot_list_append PySem.F.type_list_append mt_append (pv 7) (pa_cons (pe_op (k_addU (K := K) rfl) (pv 8) (pv 6)) pa_nil)))
      (pss_one (ps_set (i := 6) sc__law_along.nd rfl (Or.inl rfl) (pe_op op_mulU (pv 6) (pv 4))))))
      (pss_one (ps_expr (pe_bm PySem.F.plainAttrs_list PySem.F.slot_list_append PySem.F.type_list_append mt_append (pv 3) (pa_cons (pe_callTy (k_tup (K := K) rfl) (by rfl) T.z_tuple (by decide +kernel) (pa_cons (pv 7) pa_nil)) pa_nil)))))))
      (pss_one (ps_ret (pv 3))))), fun q sls n c Φ A0 σ Q hR hA fin => ?_⟩
  obtain ⟨rfl, l, cs, m, ⟨hl, hK⟩, ⟨hcl, hcK⟩, ⟨hm1, hm2⟩, rfl, rfl⟩ := hR
  obtain ⟨f, ef⟩ : ∃ f : List Int, f = psums l m.toNat := ⟨_, rfl⟩
  have hfl : f.length ≤ 400 := by rw [ef, psums_len]; omega
  refine q_newLs (i := 3) (c := 0) (ds := rowsA f cs 0) (ae_cons (j_call (R := R__law_sums) (c := 0) (Φ := fun d => d = pol f) (ae_cons (e_var rfl) (ae_cons (e_var rfl) ae_nil)) fun sls e => ⟨rfl, l, m, 60, 60, hK, by omega, by omega, by omega, by omega, by omega, by omega, by omega, e, by rw [ef]⟩) ae_nil) (by rw [rowsA_len]; omega) hA fun p Hk4 H4 g4 a4 cl4 => ?_
  refine q_for (n := n) (c := 0) (ie_lst (e_var rfl)) a4 fun items HkW H5 ei g5 a5 => ?_
  subst ei
  have cl5 := cl4.go g5
  refine ⟨fun i σ' Hk' H' => Same HkW Hk' ∧ At q n [.dat (led l), .dat (.list (pd cs)), .dat (.int m), .adr p, .any, .any, .any, .any, .any] A0 B0 σ' Hk' H' ∧ Cell q B0 Hk' H' p (rowsA f cs i), ⟨Same.refl _, a5, cl5⟩, fun i σ' Hk' H' h => ⟨h.1, h.2.1.ok.a⟩, ?_, ?_⟩
  · rintro i d σ' Hk' H' ed ⟨h2, st, cl⟩ v Hk6 H6 g6 dv
    obtain ⟨x, ex, rfl⟩ : ∃ x, cs[i]? = some x ∧ pr x = d := by
      unfold pd at ed
      rw [List.getElem?_map] at ed
      exact Option.map_eq_some_iff.mp ed
    have hx := hcK x (List.mem_of_getElem? ex)
    have hi : i < cs.length := (List.getElem?_eq_some_iff.mp ex).1
    refine gb_tup2 (d1 := .int x.1) (d2 := .int x.2) (vs := [4, 5]) (by simp) (by simp) σ' Hk6 H6 v (st.sg.mono g6.k) g6.a dv _ fun σ7 sg7 _ _ => ?_
    have st7 : At q n [.dat (led l), .dat (.list (pd cs)), .dat (.int m), .adr p, .dat (.int x.1), .dat (.int x.2), .any, .any, .any] A0 B0 σ7 Hk6 H6 := ⟨st.ok.go g6, sg7, st.gr.trans g6.none_to⟩
    refine q_par2New (i := 6) (j := 7) (d := .int x.2) (e_var rfl) st7 fun r σ8 Hk8 H8 s8 a8 cn8 kp8 => ?_
    obtain ⟨cl8, nr⟩ := kp8 p _ (cl.go g6.none_to)
    obtain ⟨R, eR⟩ : ∃ R : List Int, R = rowA f cs i := ⟨_, rfl⟩
    have hRl : R.length ≤ 400 := by rw [eR, rowA_len]; exact hfl
    have hlast : atI (rowsA f cs i) (-1) = some (pol R) := by rw [eR]; exact rowsA_last _ _ i
    refine q_cut (I := fun σ' H' => ∃ (Hk' : Hp), Same Hk8 Hk' ∧ At q n [.dat (led l), .dat (.list (pd cs)), .dat (.int m), .adr p, .dat (.int x.1), .dat (.int x.2), .any, .adr r, .any] A0 B0 σ' Hk' H' ∧ Cell q B0 Hk' H' p (rowsA f cs i) ∧ Cell q B0 Hk' H' r ((wch R x.1 x.2).map .int)) (fun D' kk => ?_) fun σ9 H9 ⟨Hk9, s9, a9, cl9, cn9⟩ => ?_
    · refine s_forC (i := 3) (es := R.map .int) (e_iL (e_var rfl) (e_un e_int) hlast) (plain_pol R) a8 cl8 rfl fun HkV H9 g9 a9 cl9 => ?_
      have cn9 := cn8.go g9
      refine ⟨fun j σ' Hk' H' => Same HkV Hk' ∧ j ≤ R.length ∧ At q n [.dat (led l), .dat (.list (pd cs)), .dat (.int m), .adr p, .dat (.int x.1), .dat (.int x.2), .dat (.int (x.2 * x.1 ^ j)), .adr r, .any] A0 B0 σ' Hk' H' ∧ Cell q B0 Hk' H' p (rowsA f cs i) ∧ Cell q B0 Hk' H' r (((wch R x.1 x.2).take j).map .int), ⟨Same.refl _, Nat.zero_le _, by rw [Int.pow_zero, Int.mul_one]; exact a9, cl9, cn9⟩, fun j σ' Hk' H' h => ⟨h.1, h.2.2.1.ok.a⟩, ?_, ?_⟩
      · rintro j d σ' Hk' H' ed ⟨h3, hj, st, cl, cn⟩ v Hk10 H10 g10 dv
        obtain ⟨y, ey, rfl⟩ : ∃ y, R[j]? = some y ∧ PyData.int y = d := by
          rw [List.getElem?_map] at ed
          exact Option.map_eq_some_iff.mp ed
        have hjR : j < R.length := (List.getElem?_eq_some_iff.mp ey).1
        refine gb_name (vs := [8]) (by simp) σ' Hk10 H10 v (st.sg.mono g10.k) g10.a dv _ fun σ11 sg11 _ _ => ?_
        have st11 : At q n [.dat (led l), .dat (.list (pd cs)), .dat (.int m), .adr p, .dat (.int x.1), .dat (.int x.2), .dat (.int (x.2 * x.1 ^ j)), .adr r, .dat (.int y)] A0 B0 σ11 Hk10 H10 := ⟨st.ok.go g10, sg11, st.gr.trans g10.none_to⟩
        have hpb : (x.2 * x.1 ^ j).natAbs < 2 ^ (60 + 60 * j + 1) := lt_pow (mul_bits hx.2 (pow_bits hx.1 j)) (by omega)
        refine s_append2 (i := 7) (n := n) (c := 0) (Φ := fun d => d = .int (y + x.2 * x.1 ^ j)) (e_addI (e_var rfl) (e_var rfl)) st11 (cn.go g10.none_to) (cl.go g10.none_to) nr rfl (by rw [List.length_map, List.length_take]; omega) fun d Hk12 H12 e12 s12 a12 cn12 cl12 => ?_
        refine s_asgE (i := 6) (d := .int (x.2 * x.1 ^ (j + 1))) (e_is (e_mulI (e_var rfl) (e_var rfl) (wide_mul hpb hx.1 (by omega) (by omega) (by omega))) (by rw [Int.pow_succ, Int.mul_assoc])) a12 fun σ13 Hk13 H13 g13 a13 => ⟨Hk13, ((h3.trans g10.k).trans s12).trans g13.k, hjR, a13.forget 8, cl12.go g13, ?_⟩
        have cn13 := cn12.go g13
        rw [List.take_add_one, wch_get hjR]
        rw [e12] at cn13
        have ey2 : R[j] = y := Option.some.inj ((List.getElem?_eq_getElem hjR).symm.trans ey)
        rw [ey2, List.map_append]
        exact cn13
      · rintro σ' Hk' H' ⟨h3, hj, st, cl, cn⟩
        rw [List.length_map] at cn
        rw [List.take_of_length_le (by rw [wch_len]; exact Nat.le_refl _)] at cn
        exact kk _ _ ⟨Hk', g9.k.trans h3, st.forget 6, cl, cn⟩
    obtain ⟨Hk10, s10, a10, cl10⟩ := a9.freeze2 (i := 7) cn9 cl9 nr rfl
    refine s_append (i := 3) (n := n) (c := 0) (Φ := fun d => d = pol (rowA f cs (i + 1))) (e_is (e_tupL (e_var rfl)) (d1 := pol (rowA f cs (i + 1))) (by rw [rowA_succ ex, ← eR]; rfl)) a10 cl10 rfl (by rw [rowsA_len]; omega) fun d Hk11 H11 e11 s11 a11 cl11 => ⟨Hk11, ((((h2.trans g6.k).trans s8).trans s9).trans s10).trans s11, ((a11.forget 4).forget 5).forget 7, ?_⟩
    rw [rowsA_succ, ← e11]
    exact cl11
  · rintro σ' Hk' H' ⟨h2, st, cl⟩
    rw [pd_len] at cl
    obtain ⟨Hk2, s2, st2⟩ := st.freeze (i := 3) cl rfl
    exact s_ret (n := n) (c := 0) (Φ := fun d => d = .list (rowsA f cs cs.length)) (e_var rfl) st2 (by omega) fin fun d e => by rw [e, ef]
/-! ### _law_gather -/
def R__law_gather : RelX := fun _ sls c Φ => c = 0 ∧ ∃ cs : List (Int × Int), cs.length ≤ 100000 ∧ sls = [.dat (.list (pd cs))] ∧ Φ = fun x => x = led (gather cs)
theorem ok__law_gather (T : Tx K mg) : FnOk P w K mg base CX0 1 T.a__law_gather T.fd__law_gather P__law_gather (spX R__law_gather) := by
  refine fn_ok T.F__law_gather sc__law_gather (by decide) (fun q sls c Φ h => by obtain ⟨_, l, _, rfl, _⟩ := h; rfl) fun cdv A outer s B0 Ew hr => ?_
  have hu := hu_of hr
  refine ⟨_,
    (pss_cons (ps_set (i := 1) sc__law_gather.nd rfl (Or.inr rfl) pe_dnewK)
      (pss_cons (ps_for PassesOwn.never rfl (k_piList (K := K) rfl (pv 0)) (k_pgTup (K := K) (n := 2) rfl rfl (pgs_cons (pg_name (i := 2) sc__law_gather.nd rfl (Or.inl rfl)) (pgs_cons (pg_name (i := 3) sc__law_gather.nd rfl (Or.inl rfl)) pgs_nil))) (pss_one (ps_dput hu (pv 1) (pv 2) (pe_op (k_addU (K := K) rfl) (pe_dget2 hu (pv 1) (pv 2) pe_int ⟨rfl, rfl, rfl, rfl⟩) (pv 3)) rfl)))
      (pss_one (ps_ret (pe_callTy (k_tup (K := K) rfl) (by rfl) T.z_tuple (by decide +kernel) (pa_cons (pe_lc (own := [("key_here", 2)]) rfl sc__law_gather.nd (k_piList (K := K) rfl (pe_callB (call_sortedDIa rfl) (by rfl) T.z_sorted (by decide +kernel) (pa_cons (pv 1) pa_nil))) (blkOk_by (own := [("key_here", 2)]) (N := N__law_gather) (sc := defScope s__law_gather) (by decide +kernel)) (fun _ _ _ _ _ => (pg_name (i := 2) sc__law_gather.nd rfl (Or.inl rfl))) (fun _ _ _ _ _ => (pts_one (pt_cmpR (k_neD (K := K) rfl hr.units) (pe_dget hu (pv 1) (pv 2) (fun _ _ => rfl)) pe_int (nomark _)))) (fun _ _ _ _ _ => (Cr.pe_tup (pa_cons (pv 2) (pa_cons (pe_dget hu (pv 1) (pv 2) (fun _ _ => rfl)) pa_nil))))) pa_nil)))))), fun q sls n c Φ A0 σ Q hR hA fin => ?_⟩
  obtain ⟨rfl, l, hl, rfl, rfl⟩ := hR
  exact read_summed l hl hA fin
/-! ### _law_pick -/
abbrev R__law_pick : RelX := R_pick
theorem ok__law_pick (T : Tx K mg) : FnOk P w K mg base CX0 1 T.a__law_pick T.fd__law_pick P__law_pick (spX R__law_pick) := by
  refine fn_ok T.F__law_pick sc__law_pick (by decide) (fun q sls c Φ h => by obtain ⟨_, p, b, _, _, _, rfl, _⟩ := h; rfl) fun cdv A outer s B0 Ew hr => ⟨_,
    (pss_cons (ps_if (pt_cmpR op_gt (pe_ix (k_ix (K := K) rfl) (pv 0) pe_int (fun _ _ => rfl)) pe_int (nomark _)) (pss_cons (ps_set (i := 2) sc__law_pick.nd rfl (Or.inl rfl) (pe_op op_modN (pe_callTy call_intQ (by rfl) T.z_int (by decide +kernel) (pa_cons (pe_ix (k_ix (K := K) rfl) (pv 0) pe_int (fun _ _ => rfl)) pa_nil)) (pv 1)))
      (pss_cons (ps_asg (pe_op op_fdivW (pe_ix (k_ix (K := K) rfl) (pv 0) pe_int (fun _ _ => rfl)) (pv 1)) (pg_sub (pv 0) pe_int set_list))
      (pss_one (ps_ret (pv 2))))) pss_nil)
      (pss_cons (ps_asg (pe_op (k_addU (K := K) rfl) (pe_ix (k_ix (K := K) rfl) (pv 0) pe_int (fun _ _ => rfl)) pe_int) (pg_sub (pv 0) pe_int set_list))
      (pss_cons (ps_set (i := 3) sc__law_pick.nd rfl (Or.inl rfl) (pe_op op_modN (pe_op op_powW (pe_callTy call_intQ (by rfl) T.z_int (by decide +kernel) (pa_cons (pe_op (k_addU (K := K) rfl) (pe_ix (k_ix (K := K) rfl) (pv 0) pe_int (fun _ _ => rfl)) (pe_op op_mulU pe_int (pe_ix (k_ix (K := K) rfl) (pv 0) pe_int (fun _ _ => rfl)))) pa_nil)) pe_int) (pe_op (k_addU (K := K) rfl) (pe_op op_powW pe_int pe_int) pe_int)))
      (pss_cons (ps_set (i := 3) sc__law_pick.nd rfl (Or.inl rfl) (pe_op op_modN (pe_op op_powW (pe_callTy call_intQ (by rfl) T.z_int (by decide +kernel) (pa_cons (pe_op (k_addU (K := K) rfl) (pv 3) (pe_op op_mulU pe_int (pe_ix (k_ix (K := K) rfl) (pv 0) pe_int (fun _ _ => rfl)))) pa_nil)) pe_int) (pe_op (k_addU (K := K) rfl) (pe_op op_powW pe_int pe_int) pe_int)))
      (pss_one (ps_ret (pe_op op_modN (pe_op op_fdivW (pv 3) pe_int) (pv 1)))))))), fun q sls n c Φ A0 σ Q hR hA fin => ?_⟩
  obtain ⟨rfl, p, b, rfl, hb, hb2, rfl, rfl⟩ := hR
  exact read_pick hb hb2 hA fin
/-! ### _law_amount -/
def R__law_amount : RelX := fun q sls c Φ => c = 1 ∧ ∃ (p : Addr) (m : Int), q = some p ∧ 1 ≤ m ∧ m < 2 ^ 60 ∧ sls = [.adr p, .dat (.int m)] ∧ Φ = IntP fun i => i ≠ 0 ∧ -m ≤ i ∧ i ≤ m
theorem ok__law_amount (T : Tx K mg) : FnOk P w K mg base CX0 2 T.a__law_amount T.fd__law_amount P__law_amount (spX R__law_amount) := by
  have G__law_pick := ok__law_pick (P := P) (w := w) (base := base) T
  refine fn_ok T.F__law_amount sc__law_amount (by decide) (fun q sls c Φ h => by obtain ⟨_, p, m, _, _, _, rfl, _⟩ := h; rfl) fun cdv A outer s B0 Ew hr => ⟨_,
    (pss_cons (ps_set (i := 2) sc__law_amount.nd rfl (Or.inl rfl) (pe_op op_sub (pe_call G__law_pick (hr.mono (by decide)) (by rfl) T.m__law_pick T.F__law_pick.kp T.b__law_pick .nil pass0 (pa_cons (pv 0) (pa_cons (pe_op op_mulU pe_int (pv 1)) pa_nil))) (pv 1)))
      (pss_one (ps_ret (pe_ifExp (pt_cmpR op_ge (pv 2) pe_int (nomark _)) (pe_op (k_addU (K := K) rfl) (pv 2) pe_int) (pv 2))))), fun q sls n c Φ A0 σ Q hR hA fin => ?_⟩
  obtain ⟨rfl, p, m, rfl, h1, h2, rfl, rfl⟩ := hR
  refine q_asg (n := n) (c := 1) ((j_subI (Φ := IntP fun i => -m ≤ i ∧ i < m) (j_pick rfl (e_mulI e_int (e_var rfl) (wide_mul (a := 2) (b := 60) (by decide) (by omega) (by omega) (by omega) (by omega))) (by omega) (by omega)) (e_var rfl).intP fun i j hi hj => ⟨i - j, by omega, rfl⟩).cost (by omega)) hA fun d σ1 Hk1 H1 ⟨i, hi, ed⟩ g1 a1 => ?_
  subst ed
  by_cases h0 : 0 ≤ i
  · exact s_ret (n := n) (c := 0) (Φ := fun x => x = .int (i + 1)) (e_if (b := true) (tb_is (tb_test (e_geI (e_var rfl) e_int)) (decide_eq_true h0)) (fun _ => e_addI (e_var rfl) e_int) (fun h => by cases h)) a1 (by omega) fin fun d e => ⟨i + 1, by omega, e⟩
  · exact s_ret (n := n) (c := 0) (Φ := fun x => x = .int i) (e_if (b := false) (tb_is (tb_test (e_geI (e_var rfl) e_int)) (decide_eq_false h0)) (fun h => by cases h) (fun _ => e_var rfl)) a1 (by omega) fin fun d e => ⟨i, by omega, e⟩
/-! ### _law_book -/
def R__law_book : RelX := fun q sls c Φ => c = 1000 ∧ ∃ (p : Addr) (m r a : Int), q = some p ∧ 0 ≤ m ∧ m ≤ 400 ∧ 0 ≤ r ∧ r < 2 ^ 50 ∧ 1 ≤ a ∧ a < 2 ^ 50 ∧ sls = [.adr p, .dat (.int m), .dat (.int r), .dat (.int a)] ∧ Φ = fun d => ∃ l, Led l ∧ (l.length : Int) ≤ m ∧ (∀ x ∈ l, -r ≤ x.1 ∧ x.1 ≤ r) ∧ Bd 60 l ∧ d = led l
theorem j_bookS {δ : List Sl} {i : Nat} {p : Addr} {E0 : XK} {tm tr ta : TE} {cm cr ca : Nat} {M : Int} (hi : δ[i]? = some (.adr p)) (hM : M ≤ 400) (hm : J (some p) δ tm cm (IntP fun x => 0 ≤ x ∧ x ≤ M)) (hr : J (some p) δ tr cr (IntP fun x => 0 ≤ x ∧ x < 10 ^ 15)) (ha : J (some p) δ ta ca (IntP fun x => 1 ≤ x ∧ x < 10 ^ 15)) :
    J (some p) δ (tCall (spX R__law_book) [] E0 (tCons (tVar i) (tCons tm (tCons tr (tCons ta tNil))))) (1000 + (ca + cr + cm)) (fun d => ∃ l, Led l ∧ Kb 50 60 l ∧ (l.length : Int) ≤ M ∧ d = led l) :=
  j_callD (R := R__law_book) (c := 1000) (c1 := ca + cr + cm) (Φa := fun sls => ∃ m r a : Int, (0 ≤ m ∧ m ≤ M) ∧ (0 ≤ r ∧ r < 10 ^ 15) ∧ (1 ≤ a ∧ a < 10 ^ 15) ∧ sls = [.adr p, .dat (.int m), .dat (.int r), .dat (.int a)]) (aj_adr (Φr := fun sls => ∃ m r a : Int, (0 ≤ m ∧ m ≤ M) ∧ (0 ≤ r ∧ r < 10 ^ 15) ∧ (1 ≤ a ∧ a < 10 ^ 15) ∧ sls = [.dat (.int m), .dat (.int r), .dat (.int a)]) hi (aj_int (c1 := cm) (c2 := ca + cr) (Φr := fun sls => ∃ r a : Int, (0 ≤ r ∧ r < 10 ^ 15) ∧ (1 ≤ a ∧ a < 10 ^ 15) ∧ sls = [.dat (.int r), .dat (.int a)]) hm (aj_int (c1 := cr) (c2 := ca) (Φr := fun sls => ∃ a : Int, (1 ≤ a ∧ a < 10 ^ 15) ∧ sls = [.dat (.int a)]) hr ((aj_int (c1 := ca) (c2 := 0) (Φr := fun sls => sls = []) ha ae_nil fun i sls hi e => ⟨i, hi, by rw [e]⟩).cost (by omega)) fun i sls hi ⟨b, hb, e⟩ => ⟨i, b, hi, hb, by rw [e]⟩) fun i sls hi ⟨x, b, hx, hb, e⟩ => ⟨i, x, b, hi, hx, hb, by rw [e]⟩) fun sls ⟨i, x, b, hi, hx, hb, e⟩ => ⟨i, x, b, hi, hx, hb, by rw [e]⟩) fun sls ⟨i, x, b, hi, hx, hb, e⟩ => ⟨_, ⟨rfl, p, i, x, b, rfl, hi.1, by omega, by omega, by omega, by omega, by omega, e, rfl⟩, fun d ⟨l, h1, h2, h3, h4, h5⟩ => ⟨l, h1, fun y hy => ⟨by have z := h3 y hy; omega, (h4 y hy).2⟩, by omega, h5⟩⟩
theorem ok__law_book (T : Tx K mg) : FnOk P w K mg base CX0 3 T.a__law_book T.fd__law_book P__law_book (spX R__law_book) := by
  have G__law_amount := ok__law_amount (P := P) (w := w) (base := base) T
  have G__law_gather := ok__law_gather (P := P) (w := w) (base := base) T
  have G__law_pick := ok__law_pick (P := P) (w := w) (base := base) T
  refine fn_ok T.F__law_book sc__law_book (by decide) (fun q sls c Φ h => by obtain ⟨_, p, m, r, a, _, _, _, _, _, _, _, rfl, _⟩ := h; rfl) fun cdv A outer s B0 Ew hr => ⟨_,
    (pss_cons (ps_par (i := 4) (j := 5) (by rfl) sc__law_book.nd rfl rfl (by decide) rfl rfl (pa_cons (pe_lst pa_nil) (pa_cons (pe_ifExp (pt_cmpR op_gt (pv 3) (pe_op op_powW pe_int pe_int) (nomark _)) (pe_op op_fdivW (pv 3) pe_int) (pv 3)) pa_nil)) (by rfl))
      (pss_cons (ps_for PassesOwn.never rfl (pi_range1 rfl T.z_range (pa_cons (pe_call G__law_pick (hr.mono (by decide)) (by rfl) T.m__law_pick T.F__law_pick.kp T.b__law_pick .nil pass0 (pa_cons (pv 0) (pa_cons (pe_op (k_addU (K := K) rfl) (pv 1) pe_int) pa_nil))) pa_nil)) (pg_name (i := 6) sc__law_book.nd rfl (Or.inl rfl)) (pss_one (ps_expr (pe_bm PySem.F.plainAttrs_list PySem.F.slot_list_append PySem.F.type_list_append mt_append (pv 4) (pa_cons (Cr.pe_tup (pa_cons (pe_op op_sub (pe_call G__law_pick (hr.mono (by decide)) (by rfl) T.m__law_pick T.F__law_pick.kp T.b__law_pick .nil pass0 (pa_cons (pv 0) (pa_cons (pe_op (k_addU (K := K) rfl) (pe_op op_mulU pe_int (pv 2)) pe_int) pa_nil))) (pv 2)) (pa_cons (pe_call G__law_amount (hr.mono (by decide)) (by rfl) T.m__law_amount T.F__law_amount.kp T.b__law_amount .nil pass0 (pa_cons (pv 0) (pa_cons (pv 5) pa_nil))) pa_nil))) pa_nil)))))
      (pss_one (ps_ret (pe_call G__law_gather (hr.mono (by decide)) (by rfl) T.m__law_gather T.F__law_gather.kp T.b__law_gather .nil pass0 (pa_cons (pv 4) pa_nil)))))), fun q sls n c Φ A0 σ Q hR hA fin => ?_⟩
  obtain ⟨rfl, p, m, r, a, rfl, hm0, hm, hr0, hr2, ha0, ha, rfl, rfl⟩ := hR
  refine q_parNew (n := n + 1000) (c := 0) (Φ := fun x => ∃ z : Int, (1 ≤ z ∧ z ≤ a) ∧ x = .int z) ?_ hA fun l d σ1 Hk1 H1 ⟨z, hz, ed⟩ a1 cl => ?_
  · by_cases hb : a > (10 : Int) ^ (9 : Int).toNat
    · have hb' : (1000000000 : Int) < a := hb
      exact (e_if (b := true) (d := .int (a / 64)) (tb_is (tb_test (e_gtI (e_var rfl) (e_pow e_int e_int (pow_ok (a := 4) (by decide) (by omega) (by omega) (by omega))))) (decide_eq_true hb)) (fun _ => e_fdiv (e_var rfl) e_int (wide_div (b := 8) (by omega) (by decide) (by omega) (by omega))) (fun h => by cases h)).imp fun d e => ⟨a / 64, by omega, e⟩
    · exact (e_if (b := false) (d := .int a) (tb_is (tb_test (e_gtI (e_var rfl) (e_pow e_int e_int (pow_ok (a := 4) (by decide) (by omega) (by omega) (by omega))))) (decide_eq_false hb)) (fun h => by cases h) (fun _ => e_var rfl)).imp fun d e => ⟨a, by omega, e⟩
  subst ed
  refine q_for (n := n + 990) (c := 1) (Ψ := fun items => ∃ k : Nat, (k : Int) ≤ m ∧ items = rng 0 k) (ij_rng1 (j_pick rfl (e_addI (e_var rfl) e_int) (by omega) (by omega)) fun j hj => ⟨by omega, j.toNat, by omega, rfl⟩) (a1.mono (by omega)) fun items HkW H2 ⟨k, hk, ei⟩ g2 a2 => ?_
  subst ei
  have cl2 := cl.go g2
  refine ⟨fun i σ' Hk' H' => Same HkW Hk' ∧ i ≤ k ∧ ∃ cs : List (Int × Int), cs.length = i ∧ (∀ x ∈ cs, -r ≤ x.1 ∧ x.1 ≤ r) ∧ Amt a cs ∧ At (some p) (n + 2 * (k - i)) [.adr p, .dat (.int m), .dat (.int r), .dat (.int a), .adr l, .dat (.int z), .any] A0 B0 σ' Hk' H' ∧ Cell (some p) B0 Hk' H' l (pd cs), ⟨Same.refl _, Nat.zero_le _, [], rfl, by simp, (by intro x hx; cases hx), a2.mono (by omega), cl2⟩, fun i σ' Hk' H' h => ⟨h.1, by obtain ⟨_, _, cs, _, _, _, st, _⟩ := h; exact st.ok.a⟩, ?_, ?_⟩
  · rintro i d σ' Hk' H' ed ⟨h2, hik, cs, hlen, hkeys, hamt, st, cl3⟩ v Hk2 H3 g3 dv
    obtain ⟨hi, rfl⟩ := rng_get' ed
    refine gb_name (vs := [6]) (by simp) σ' Hk2 H3 v (st.sg.mono g3.k) g3.a dv _ fun σ2 sg2 _ _ => ?_
    have st2 : At (some p) (n + 2 * (k - i)) _ A0 B0 σ2 Hk2 H3 := ⟨st.ok.go g3, sg2, st.gr.trans g3.none_to⟩
    have cl4 := cl3.go g3.none_to
    refine s_append (n := n + 2 * (k - (i + 1))) (c := 2) (Φ := fun x => ∃ y : Int × Int, (-r ≤ y.1 ∧ y.1 ≤ r) ∧ (-a ≤ y.2 ∧ y.2 ≤ a) ∧ x = pr y) ?_ (st2.mono (by omega)) cl4 rfl (by rw [pd_len]; omega) fun d Hk3 H4 ⟨y, hy1, hy2, ed⟩ s3 a3 cl5 => ⟨Hk3, (h2.trans g3.k).trans s3, by omega, cs ++ [y], ?_, ?_, ?_, a3.forget 6, ?_⟩
    · refine (j_tup (c := 2) (Ψ := fun ds => ∃ y : Int × Int, (-r ≤ y.1 ∧ y.1 ≤ r) ∧ (-a ≤ y.2 ∧ y.2 ≤ a) ∧ ds = [.int y.1, .int y.2]) ?_).imp fun d ⟨ds, ⟨y, h1, h2, e⟩, e2⟩ => ⟨y, h1, h2, by rw [e2, e]; rfl⟩
      refine ((aj_cons (c1 := 1) (c2 := 1) (Φ1 := IntP fun i => -r ≤ i ∧ i ≤ r) (Φr := fun sls => ∃ y : Int, (-a ≤ y ∧ y ≤ a) ∧ sls = [.dat (.int y)]) (Φ' := fun sls => ∃ y : Int × Int, (-r ≤ y.1 ∧ y.1 ≤ r) ∧ (-a ≤ y.2 ∧ y.2 ≤ a) ∧ sls = [.dat (.int y.1), .dat (.int y.2)]) ?_ ?_ fun d sls ⟨i, hi, e⟩ ⟨y, hy, e2⟩ => ⟨(i, y), hi, hy, by rw [e, e2]⟩)).imp fun sls ⟨y, h1, h2, e⟩ => ⟨[.int y.1, .int y.2], e, by simp, y, h1, h2, rfl⟩
      · exact (j_subI (j_pick rfl (e_addI (e_mulI e_int (e_var rfl) (wide_mul (a := 2) (b := 50) (by decide) (by omega) (by omega) (by omega) (by omega))) e_int) (by omega) (by omega)) (e_var rfl).intP fun i j hi hj => ⟨i - j, by omega, rfl⟩).cost (by omega)
      · refine ((aj_cons (c1 := 1) (c2 := 0) (Φ1 := IntP fun i => i ≠ 0 ∧ -z ≤ i ∧ i ≤ z) (j_call (R := R__law_amount) (ae_adr rfl (ae_cons (e_var rfl) ae_nil)) fun sls e => ⟨rfl, p, z, rfl, hz.1, by omega, e, rfl⟩) ae_nil fun d sls ⟨i, hi, e⟩ e2 => ⟨i, by omega, by rw [e, e2]⟩)).cost (by omega)
    · rw [List.length_append, hlen]; rfl
    · intro x hx
      rcases List.mem_append.mp hx with h | h
      · exact hkeys x h
      · rw [List.mem_singleton.mp h]; exact hy1
    · intro x hx
      rcases List.mem_append.mp hx with h | h
      · exact hamt x h
      · rw [List.mem_singleton.mp h]; exact hy2
    · rw [ed] at cl5
      show Cell (some p) B0 Hk3 H4 l ((cs ++ [y]).map pr)
      rw [List.map_append]; exact cl5
  · rintro σ' Hk' H' ⟨h2, _, cs, hlen, hkeys, hamt, st, cl3⟩
    rw [rng_len] at hlen
    obtain ⟨Hk2, s2, st2⟩ := st.freeze (i := 4) cl3 rfl
    refine s_ret (n := n) (c := 0) (Φ := fun x => x = led (gather cs)) (j_call (R := R__law_gather) (ae_cons (e_var rfl) ae_nil) fun sls e => ⟨rfl, cs, by omega, e, rfl⟩) st2 (by omega) fin fun d e => ⟨gather cs, gather_led cs, ?_, fun x hx => gather_keys (P := fun k => -r ≤ k ∧ k ≤ r) hkeys x hx, fun x hx => ?_, e⟩
    · have := gather_len cs; omega
    · have hk1 := gather_keys (P := fun k => -r ≤ k ∧ k ≤ r) hkeys x hx
      have hk2 := (gather_mem cs x).mp hx
      have hk3 := tot_bound (by omega) hamt x.1
      rw [← hk2.1] at hk3
      have hk4 : a * (cs.length : Int) ≤ 2 ^ 50 * 400 := Int.mul_le_mul (by omega) (by omega) (by omega) (by omega)
      constructor <;> omega
/-! ### _law_log -/
def R__law_log : RelX := fun q sls c Φ => c = 3000 ∧ ∃ (p : Addr) (b : List (Int × Int)) (m : Int), q = some p ∧ (b.length ≤ 1000 ∧ Kb 60 60 b) ∧ (0 ≤ m ∧ m ≤ 400) ∧ sls = [.adr p, .dat (led b), .dat (.int m)] ∧ Φ = fun d => ∃ cs : List (Int × Int), (cs.length ≤ 400 ∧ Kb 60 60 cs) ∧ d = .list (pd cs)
theorem ok__law_log (T : Tx K mg) : FnOk P w K mg base CX0 2 T.a__law_log T.fd__law_log P__law_log (spX R__law_log) := by
  have G__law_pick := ok__law_pick (P := P) (w := w) (base := base) T
  refine fn_ok T.F__law_log sc__law_log (by decide) (fun q sls c Φ h => by obtain ⟨_, p, b, m, _, _, _, rfl, _⟩ := h; rfl) fun cdv A outer s B0 Ew hr => ⟨_,
    (pss_cons (ps_par (i := 3) (j := 4) (by rfl) sc__law_log.nd rfl rfl (by decide) rfl rfl (pa_cons (pe_lst pa_nil) (pa_cons (pe_ix (k_ix (K := K) rfl) (pe_lst (pa_cons pe_int (pa_cons (pe_op op_sub (pe_op op_powW pe_int pe_int) pe_int) pa_nil))) (pe_call G__law_pick (hr.mono (by decide)) (by rfl) T.m__law_pick T.F__law_pick.kp T.b__law_pick .nil pass0 (pa_cons (pv 0) (pa_cons pe_int pa_nil))) (fun _ _ => rfl)) pa_nil)) (by rfl))
      (pss_cons (ps_for PassesOwn.never rfl (pi_range1 rfl T.z_range (pa_cons (pe_call G__law_pick (hr.mono (by decide)) (by rfl) T.m__law_pick T.F__law_pick.kp T.b__law_pick .nil pass0 (pa_cons (pv 0) (pa_cons (pe_op (k_addU (K := K) rfl) (pv 2) pe_int) pa_nil))) pa_nil)) (pg_name (i := 5) sc__law_log.nd rfl (Or.inl rfl)) (pss_cons (ps_par (i := 6) (j := 7) (by rfl) sc__law_log.nd rfl rfl (by decide) rfl rfl (pa_cons (pe_call G__law_pick (hr.mono (by decide)) (by rfl) T.m__law_pick T.F__law_pick.kp T.b__law_pick .nil pass0 (pa_cons (pv 0) (pa_cons pe_int pa_nil))) (pa_cons (pe_op op_sub (pe_call G__law_pick (hr.mono (by decide)) (by rfl) T.m__law_pick T.F__law_pick.kp T.b__law_pick .nil pass0 (pa_cons (pv 0) (pa_cons (pe_ix (k_ix (K := K) rfl) (pe_lst (pa_cons pe_int (pa_cons (pe_op op_mulU pe_int (pe_op op_powW pe_int pe_int)) pa_nil))) (pe_call G__law_pick (hr.mono (by decide)) (by rfl) T.m__law_pick T.F__law_pick.kp T.b__law_pick .nil pass0 (pa_cons (pv 0) (pa_cons pe_int pa_nil))) (fun _ _ => rfl)) pa_nil))) pe_int) pa_nil)) (by rfl))
      (pss_cons (ps_set (i := 8) sc__law_log.nd rfl (Or.inl rfl) (pe_op op_sub (pe_call G__law_pick (hr.mono (by decide)) (by rfl) T.m__law_pick T.F__law_pick.kp T.b__law_pick .nil pass0 (pa_cons (pv 0) (pa_cons (pe_op (k_addU (K := K) rfl) (pe_op op_mulU pe_int (pv 4)) pe_int) pa_nil))) (pv 4)))
      (pss_cons (ps_if (PW.pt (pw_and (pt_cmpR (k_eqD (K := K) rfl hr.units) (pv 6) pe_int (nomark _)) (pw_and1 (pt_cmpR (k_neD (K := K) rfl hr.units) (pv 1) (Cr.pe_tup pa_nil) (nomark _))))) (pss_cons (ps_asg (pe_ix (k_ix (K := K) rfl) (pv 1) (pe_call G__law_pick (hr.mono (by decide)) (by rfl) T.m__law_pick T.F__law_pick.kp T.b__law_pick .nil pass0 (pa_cons (pv 0) (pa_cons (pe_callB (k_len (K := K) rfl) (by rfl) T.z_len (by decide +kernel) (pa_cons (pv 1) pa_nil)) pa_nil))) (fun _ _ => rfl)) (k_pgTup (K := K) (n := 2) rfl rfl (pgs_cons (pg_name (i := 8) sc__law_log.nd rfl (Or.inl rfl)) (pgs_cons (pg_name (i := 7) sc__law_log.nd rfl (Or.inl rfl)) pgs_nil))))
      (pss_one (ps_set (i := 7) sc__law_log.nd rfl (Or.inl rfl) (pe_op op_sub pe_int (pv 7))))) pss_nil)
      (pss_cons (ps_if (PW.pt (pw_and (pt_cmpR op_gt (pv 6) pe_int (nomark _)) (pw_and1 (pt_cmpR (k_neD (K := K) rfl hr.units) (pv 3) (pe_lst pa_nil) (nomark _))))) (pss_cons (ps_set (i := 9) sc__law_log.nd rfl (Or.inl rfl) (pe_callB (call_maxQ rfl) (by rfl) T.z_max (by decide +kernel) (pa_cons pe_int (pa_cons (pe_op op_sub (pe_op op_sub (pe_callB (k_len (K := K) rfl) (by rfl) T.z_len (by decide +kernel) (pa_cons (pv 3) pa_nil)) pe_int) (pe_call G__law_pick (hr.mono (by decide)) (by rfl) T.m__law_pick T.F__law_pick.kp T.b__law_pick .nil pass0 (pa_cons (pv 0) (pa_cons pe_int pa_nil)))) pa_nil))))
      (pss_one (ps_par (i := 8) (j := 7) (by rfl) sc__law_log.nd rfl rfl (by decide) rfl rfl (pa_cons (pe_ix (k_ix (K := K) rfl) (pe_ix (k_ix (K := K) rfl) (pv 3) (pv 9) (fun _ _ => rfl)) pe_int (fun _ _ => rfl)) (pa_cons (pe_ix (k_ix (K := K) rfl) (pe_lst (pa_cons (pv 7) (pa_cons (pe_op op_sub pe_int (pe_ix (k_ix (K := K) rfl) (pe_ix (k_ix (K := K) rfl) (pv 3) (pv 9) (fun _ _ => rfl)) pe_int (fun _ _ => rfl))) (pa_cons pe_int pa_nil)))) (pe_op op_sub (pv 6) pe_int) (fun _ _ => rfl)) pa_nil)) (by rfl)))) pss_nil)
      (pss_one (ps_expr (pe_bm PySem.F.plainAttrs_list PySem.F.slot_list_append PySem.F.type_list_append mt_append (pv 3) (pa_cons (Cr.pe_tup (pa_cons (pv 8) (pa_cons (pv 7) pa_nil))) pa_nil)))))))))
      (pss_one (ps_ret (pv 3))))), fun q sls n c Φ A0 σ Q hR hA fin => ?_⟩
  obtain ⟨rfl, p, b, m, rfl, ⟨hbl, hbK⟩, ⟨hm0, hm1⟩, rfl, rfl⟩ := hR
  refine q_parNew (n := n + 2990) (c := 1) (Φ := IntP fun x => 9 ≤ x ∧ x < 10 ^ 15) ((j_menu (c := 0) (ci := 1) (P := fun x => 9 ≤ x ∧ x < 10 ^ 15) (aji_cons (e_int.is (by omega)) (aji_cons ((e_subI (e_ten (v := 1000000000000000) (by omega) (by omega) (by decide)) e_int).is (by omega)) aji_nil)) (by omega) (j_pick rfl e_int (by omega) (by omega))).cost (by omega)) (hA.mono (by omega)) fun r d σ1 Hk1 H1 ⟨rc, hrc, ed⟩ a1 cl1 => ?_
  subst ed
  refine q_for (n := n + 2980) (c := 1) (Ψ := fun items => ∃ k : Nat, (k : Int) ≤ m ∧ items = rng 0 k) (ij_rng1 (j_pick rfl (e_addI (e_var rfl) e_int) (by omega) (by omega)) fun j hj => ⟨by omega, j.toNat, by omega, rfl⟩) (a1.mono (by omega)) fun items HkW H2 ⟨k, hk, ei⟩ g2 a2 => ?_
  subst ei
  have cl2 := cl1.go g2
  refine ⟨fun i σ' Hk' H' => Same HkW Hk' ∧ i ≤ k ∧ ∃ cs : List (Int × Int), cs.length = i ∧ Kb 60 60 cs ∧ At (some p) (n + 7 * (k - i)) [.adr p, .dat (led b), .dat (.int m), .adr r, .dat (.int rc), .any, .any, .any, .any, .any] A0 B0 σ' Hk' H' ∧ Cell (some p) B0 Hk' H' r (pd cs), ⟨Same.refl _, Nat.zero_le _, [], rfl, (by intro x hx; cases hx), a2.mono (by omega), cl2⟩, fun i σ' Hk' H' h => ⟨h.1, by obtain ⟨_, _, cs, _, _, st, _⟩ := h; exact st.ok.a⟩, ?_, ?_⟩
  · rintro i d σ' Hk' H' ed ⟨h2, hik, cs, hlen, hcs, st, cl3⟩ v Hk2 H3 g3 dv
    obtain ⟨hi, rfl⟩ := rng_get' ed
    refine gb_name (vs := [5]) (by simp) σ' Hk2 H3 v (st.sg.mono g3.k) g3.a dv _ fun σ2 sg2 _ _ => ?_
    have st2 : At (some p) (n + 7 * (k - i)) [.adr p, .dat (led b), .dat (.int m), .adr r, .dat (.int rc), .dat (.int (0 + (i : Int))), .any, .any, .any, .any] A0 B0 σ2 Hk2 H3 := ⟨st.ok.go g3, sg2, st.gr.trans g3.none_to⟩
    have cl4 := cl3.go g3.none_to
    obtain ⟨F, hF⟩ : ∃ F, F = n + 7 * (k - (i + 1)) := ⟨_, rfl⟩
    refine q_par (i := 6) (j := 7) (n := F + 3) (c := 3) (Ψ := fun a b => (∃ x : Int, (0 ≤ x ∧ x < 5) ∧ a = .int x) ∧ ∃ x : Int, x.natAbs < 2 ^ 60 ∧ b = .int x) ((aj_pair (c1 := 1) (c2 := 2) (Ψ1 := IntP fun x => 0 ≤ x ∧ x < 5) (Ψ2 := IntP fun x => x.natAbs < 2 ^ 60) (j_pick rfl e_int (by omega) (by omega)) ((j_subI (c1 := 2) (c2 := 0) (P1 := fun x => 0 ≤ x ∧ x < 10 ^ 15) (P2 := fun x => x = 3) (((j_pickJ (P := fun x => 7 ≤ x ∧ x < 10 ^ 15) rfl ((j_menu (c := 0) (ci := 1) (P := fun x => 7 ≤ x ∧ x < 10 ^ 15) (aji_cons (e_int.is (by omega)) (aji_cons ((e_mulI e_int (e_ten (v := 100000000000000) (by omega) (by omega) (by decide)) (wide_mul (a := 2) (b := 50) (by decide) (by decide) (by omega) (by omega) (by omega))).is (by omega)) aji_nil)) (by omega) (j_pick rfl e_int (by omega) (by omega)))) (fun b hb => ⟨by omega, by omega⟩)).imp fun d ⟨x, ⟨b, hb, hx⟩, e⟩ => ⟨x, by omega, e⟩).cost (by omega)) e_int.intP fun i j hi hj => ⟨i - j, by omega, rfl⟩).cost (by omega)))) (st2.mono (by omega)) fun da db σ4 Hk4 H4 ⟨⟨w, hw, ea⟩, ⟨by0, hby0, eb⟩⟩ g4 a4 => ?_
    subst ea; subst eb
    have cl5 := cl4.go g4
    refine q_asg (i := 8) (n := F + 2) (c := 1) (Φ := IntP fun x => x.natAbs < 2 ^ 60) ((j_subI (c1 := 1) (c2 := 0) (P1 := fun x => 0 ≤ x ∧ x < 2 * rc + 1) (P2 := fun x => x = rc) (j_pick rfl (e_addI (e_mulI e_int (e_var rfl) (wide_mul (a := 2) (b := 50) (by decide) (by omega) (by omega) (by omega) (by omega))) e_int) (by omega) (by omega)) (e_var rfl).intP fun i j hi hj => ⟨i - j, by omega, rfl⟩).cost (by omega)) (a4.mono (by omega)) fun d σ5 Hk5 H5 ⟨ky0, hky0, ed⟩ g5 a5 => ?_
    subst ed
    have cl6 := cl5.go g5
    refine q_cut (I := fun σ' H' => ∃ (Hk' : Hp) (ky by' : Int), ky.natAbs < 2 ^ 60 ∧ by'.natAbs < 2 ^ 60 ∧ Same Hk5 Hk' ∧ At (some p) (F + 1) [.adr p, .dat (led b), .dat (.int m), .adr r, .dat (.int rc), .dat (.int (0 + (i : Int))), .dat (.int w), .dat (.int by'), .dat (.int ky), .any] A0 B0 σ' Hk' H' ∧ Cell (some p) B0 Hk' H' r (pd cs)) (fun D' kk => ?_) fun σ6 H6 ⟨Hk6, ky1, by1, hky1, hby1, s6, a6, cl7⟩ => ?_
    · refine s_ifB (tb_and (a := w == 1) (b := !b.isEmpty) (tb_test (e_eqDI (e_var rfl) e_int)) fun _ => tb_test (e_is (e_neD (e_var rfl) (e_tup (ds := []) ae_nil) (shaped_led b) rfl) (by rw [eqv_led_nil]))) a5 (fun hb Hk7 H7 g7 a7 => ?_) (fun hb Hk7 H7 g7 a7 => kk _ _ ⟨Hk7, ky0, by0, hky0, hby0, g7.k, a7.mono (by omega), cl6.go g7⟩)
      have hne : 0 < b.length := by
        rcases b with _ | ⟨x, t⟩
        · simp at hb
        · simp
      refine q_asgU (i := 8) (j := 7) (n := F + 1) (c := 1) (Pp := fun x => x ∈ b) ((j_iTP (e_var rfl) (j_pick rfl (e_is (e_lenT (e_var rfl)) (d1 := .int ((b.length : Nat) : Int)) (by rw [pd_len])) (by omega) (by omega))).imp fun d ⟨x, hx, e⟩ => ⟨x, hx, e⟩) (a7.mono (by omega)) fun x σ8 Hk8 H8 hx g8 a8 => ?_
      have hxb := hbK x hx
      refine s_asgE (i := 7) (d := .int (0 - x.2)) (e_subI e_int (e_var rfl)) a8 fun σ9 Hk9 H9 g9 a9 => kk _ _ ⟨Hk9, x.1, 0 - x.2, hxb.1, by omega, (g7.k.trans g8.k).trans g9.k, a9, ((cl6.go g7).go g8).go g9⟩
    refine q_cut (I := fun σ' H' => ∃ (Hk' : Hp) (ky by' : Int), ky.natAbs < 2 ^ 60 ∧ by'.natAbs < 2 ^ 60 ∧ Same Hk6 Hk' ∧ At (some p) F [.adr p, .dat (led b), .dat (.int m), .adr r, .dat (.int rc), .dat (.int (0 + (i : Int))), .dat (.int w), .dat (.int by'), .dat (.int ky), .any] A0 B0 σ' Hk' H' ∧ Cell (some p) B0 Hk' H' r (pd cs)) (fun D' kk => ?_) fun σ7 H7 ⟨Hk7, ky2, by2, hky2, hby2, s7, a7, cl8⟩ => ?_
    · refine s_ifC (i := 3) (b := decide (1 < w) && !cs.isEmpty) (tb_and (tb_test (e_gtI (e_var rfl) e_int)) fun _ => tb_test (e_nePdNil (e_var rfl))) a6 cl7 rfl (fun hb Hk8 H8 g8 a8 cl8 => ?_) (fun hb Hk8 H8 g8 a8 cl8 => kk _ _ ⟨Hk8, ky1, by1, hky1, hby1, g8.k, a8.mono (by omega), cl8⟩)
      have hw1 : 1 < w := by
        rw [Bool.and_eq_true] at hb
        exact of_decide_eq_true hb.1
      have hne : 0 < cs.length := by
        rcases cs with _ | ⟨x, t⟩
        · simp at hb
        · simp
      refine q_asgC (i := 3) (j := 9) (n := F) (c := 1) (Φ := IntP fun x => 0 ≤ x ∧ x < (cs.length : Int)) ((j_max (c1 := 0) (c2 := 1) (P1 := fun x => x = 0) (P2 := fun x => x < (cs.length : Int)) e_int.intP ((j_subI (c1 := 0) (c2 := 1) (P1 := fun x => x = (cs.length : Int) - 1) (P2 := fun x => 0 ≤ x ∧ x < 4) (e_is (e_subI (e_lenL (e_var rfl)) e_int) (d1 := .int ((cs.length : Int) - 1)) (by rw [pd_len])).intP (j_pick rfl e_int (by omega) (by omega)) fun i j hi hj => ⟨i - j, by omega, rfl⟩).cost (by omega)) fun i j hi hj => by split <;> omega).cost (by omega)) a8 cl8 rfl (fun d ⟨x, _, e⟩ => by rw [e]; rfl) fun d σ9 Hk9 H9 ⟨sp, hsp, ed⟩ s9 a9 cl9 => ?_
      subst ed
      obtain ⟨u, eu⟩ : ∃ u : Nat, sp = (u : Int) := ⟨sp.toNat, by omega⟩
      subst eu
      have hu : u < cs.length := by omega
      have hat : atI (pd cs) ((u : Nat) : Int) = some (pr (cs[u]'hu)) := by
        refine atI_nat ?_
        unfold pd
        rw [List.getElem?_map, List.getElem?_eq_getElem hu]
        rfl
      have hxb := hcs (cs[u]'hu) (List.getElem_mem hu)
      refine s_parC (i := 8) (j := 7) (ic := 3) (n := F) (c1 := 0) (c2 := 0) (Φ1 := IntP fun x => x.natAbs < 2 ^ 60) (Φ2 := IntP fun x => x.natAbs < 2 ^ 60) ((e_iT (ds := [.int (cs[u]'hu).1, .int (cs[u]'hu).2]) (e_iL (e_var rfl) (e_var rfl) hat) e_int rfl).imp fun d e => ⟨_, hxb.1, e⟩) (j_menu (c := 0) (ci := 0) (P := fun x => x.natAbs < 2 ^ 60) (aji_cons (c1 := 0) (c2 := 0) ((e_var rfl).imp fun d e => ⟨_, hby1, e⟩) (aji_cons (c1 := 0) (c2 := 0) ((e_subI e_int (e_iT (ds := [.int (cs[u]'hu).1, .int (cs[u]'hu).2]) (e_iL (e_var rfl) (e_var rfl) hat) e_int rfl)).imp fun d e => ⟨_, by omega, e⟩) (aji_cons (c1 := 0) (c2 := 0) (e_int.imp fun d e => ⟨_, by decide, e⟩) aji_nil))) (by omega) ((e_subI (e_var rfl) e_int).imp fun d e => ⟨_, by omega, e⟩)) a9 cl9 rfl (fun d ⟨x, _, e⟩ => by rw [e]; rfl) (fun d ⟨x, _, e⟩ => by rw [e]; rfl) fun da db σ10 Hk10 H10 ⟨ky, hky, ea⟩ ⟨by', hby', eb⟩ s10 a10 cl10 => ?_
      subst ea; subst eb
      exact kk _ _ ⟨Hk10, ky, by', hky, hby', (g8.k.trans s9).trans s10, a10.forget 9, cl10⟩
    refine s_append (i := 3) (n := F) (c := 0) (Φ := fun d => d = pr (ky2, by2)) (e_pr (e_var rfl) (e_var rfl)) a7 cl8 rfl (by rw [pd_len]; omega) fun d Hk8 H8 ed s8 a8 cl9 => ⟨Hk8, (((((h2.trans g3.k).trans g4.k).trans g5.k).trans s6).trans s7).trans s8, by omega, cs ++ [(ky2, by2)], by rw [List.length_append, hlen]; rfl, hcs.app2 (Kb.one hky2 hby2), ?_, ?_⟩
    · have a9 := ((((a8.forget 5).forget 6).forget 7).forget 8)
      simp only [List.set_cons_zero, List.set_cons_succ] at a9
      exact a9.mono (by omega)
    · rw [ed] at cl9
      show Cell (some p) B0 Hk8 H8 r ((cs ++ [(ky2, by2)]).map pr)
      rw [List.map_append]
      exact cl9
  · rintro σ' Hk' H' ⟨h2, _, cs, hlen, hcs, st, cl⟩
    rw [rng_len] at hlen
    obtain ⟨Hk2, s2, st2⟩ := st.freeze (i := 3) cl rfl
    exact s_ret (n := n) (c := 0) (Φ := fun d => d = .list (pd cs)) (e_var rfl) st2 (by omega) fin fun d e => ⟨cs, ⟨by omega, hcs⟩, e⟩
/-! ### is_an_integer -/
def R_is_an_integer (K : PySem.W.Frag) : RelX := fun _ sls c Φ => c = 0 ∧ ∃ d, Kn K d ∧ sls = [.dat d] ∧ Φ = fun x => x = .bool (isIntD d)
theorem ok_is_an_integer (T : Tx K mg) : FnOk P w K mg base CX0 1 T.a_is_an_integer T.fd_is_an_integer P_is_an_integer (spX (R_is_an_integer K)) := by
  refine fn_ok T.F_is_an_integer sc_is_an_integer (by decide) (fun q sls c Φ h => by obtain ⟨_, d, _, rfl, _⟩ := h; rfl) fun cdv A outer s B0 Ew hr => ⟨_,
    (pss_one (ps_ret (pe_and (pe_callB (k_isi (K := K) rfl) (by rfl) T.z_isinstance (by decide +kernel) (pa_cons (pv 0) (pa_cons (pe_bltn (v := .ty "int") (by rfl) T.z_int (by decide +kernel) rfl) pa_nil))) (pe_one (pe_not (pe_callB (k_isi (K := K) rfl) (by rfl) T.z_isinstance (by decide +kernel) (pa_cons (pv 0) (pa_cons (pe_bltn (v := .ty "bool") (by rfl) T.z_bool (by decide +kernel) rfl) pa_nil)))))))), fun q sls n c Φ A0 σ Q hR hA fin => ?_⟩
  obtain ⟨rfl, d, kn, rfl, rfl⟩ := hR
  exact s_retE (e_andV (e_isiI (e_var rfl) kn) (fun hi => e_notV (e_isi (e_var rfl) (kit_bool d) (int_top hi)))) hA (Nat.le_refl _) fin (by rw [isInt_eq])
/-! ### is_change -/
def R_is_change (K : PySem.W.Frag) : RelX := fun _ sls c Φ => c = 0 ∧ ∃ d, deep 1 d = true ∧ sls = [.dat d] ∧ Φ = fun x => x = .bool (isChangeD d)
theorem ok_is_change (T : Tx K mg) : FnOk P w K mg base CX0 2 T.a_is_change T.fd_is_change P_is_change (spX (R_is_change K)) := by
  have G_is_an_integer := ok_is_an_integer (P := P) (w := w) (base := base) T
  refine fn_ok T.F_is_change sc_is_change (by decide) (fun q sls c Φ h => by obtain ⟨_, d, _, rfl, _⟩ := h; rfl) fun cdv A outer s B0 Ew hr => ⟨_,
    (pss_one (ps_ret (pe_and (pe_callB (k_isi (K := K) rfl) (by rfl) T.z_isinstance (by decide +kernel) (pa_cons (pv 0) (pa_cons (pe_bltn (v := .ty "tuple") (by rfl) T.z_tuple (by decide +kernel) rfl) pa_nil))) (pe_and (pe_cmpR (k_eqD (K := K) rfl hr.units) (pe_callB (k_len (K := K) rfl) (by rfl) T.z_len (by decide +kernel) (pa_cons (pv 0) pa_nil)) pe_int (nomark _)) (pe_and (pe_call G_is_an_integer (hr.mono (by decide)) (by rfl) T.m_is_an_integer T.F_is_an_integer.kp T.b_is_an_integer .nil pass0 (pa_cons (pe_ix (k_ix (K := K) rfl) (pv 0) pe_int (fun _ _ => rfl)) pa_nil)) (pe_one (pe_call G_is_an_integer (hr.mono (by decide)) (by rfl) T.m_is_an_integer T.F_is_an_integer.kp T.b_is_an_integer .nil pass0 (pa_cons (pe_ix (k_ix (K := K) rfl) (pv 0) pe_int (fun _ _ => rfl)) pa_nil)))))))), fun q sls n c Φ A0 σ Q hR hA fin => ?_⟩
  obtain ⟨rfl, d, hdp, rfl, rfl⟩ := hR
  have htop := deep_top hdp
  refine s_retE (d := .bool (isChangeD d)) ?_ hA (Nat.le_refl _) fin rfl
  have nonT : isiTup d = false → isChangeD d = false := fun h => by cases d <;> first | rfl | cases h
  by_cases ht : isiTup d = true
  · obtain ⟨ds, rfl⟩ : ∃ ds, d = .tuple ds := by
      cases d with
      | tuple ds => exact ⟨ds, rfl⟩
      | _ => cases ht
    refine e_is (e_andV (b := (ds.length == 2) && (isChangeD (.tuple ds))) (e_isi (e_var rfl) (kit_tuple _)) fun _ => e_andV (e_is (e_eqDI (e_lenT (e_var rfl)) e_int) ?_) fun h2 => ?_) ?_
    · by_cases h : ds.length = 2
      · rw [h]; rfl
      · rw [show (ds.length == 2) = false by simpa using h, show ((ds.length : Int) == 2) = false by simpa using (by omega : ¬ (ds.length : Int) = 2)]
    · have hl : ds.length = 2 := by simpa using h2
      obtain ⟨a, b, rfl⟩ : ∃ a b, ds = [a, b] := by
        match ds, hl with
        | [a, b], _ => exact ⟨a, b, rfl⟩
      have hall : top a = true ∧ top b = true := by simpa [deep] using hdp
      refine e_is (e_andV (j_call (R := R_is_an_integer K) (ae_cons (e_iT (e_var rfl) e_int rfl) ae_nil) fun sls e => ⟨rfl, a, .inl hall.1, e, rfl⟩) fun _ => j_call (R := R_is_an_integer K) (ae_cons (e_iT (e_var rfl) e_int rfl) ae_nil) fun sls e => ⟨rfl, b, .inl hall.2, e, rfl⟩) ?_
      cases a <;> cases b <;> rfl
    · by_cases h : ds.length = 2
      · rw [show (ds.length == 2) = true by simpa using h]; rfl
      · have hc : isChangeD (.tuple ds) = false := Bool.eq_false_iff.mpr fun z => by
          obtain ⟨x, e⟩ := change_pr z
          cases e
          exact h rfl
        rw [hc, show (ds.length == 2) = false by simpa using h]; rfl
  · have hf : isiTup d = false := by simpa using ht
    rw [nonT hf]
    exact e_andNo (e_is (e_isi (e_var rfl) (kit_tuple d) htop) (by rw [hf]))
/-! ### is_ledger -/
def R_is_ledger (K : PySem.W.Frag) : RelX := fun _ sls c Φ => c = 0 ∧ ∃ d, Odd K d ∧ sls = [.dat d] ∧ Φ = fun x => x = .bool (isLedD d)
theorem ok_is_ledger (T : Tx K mg) : FnOk P w K mg base CX0 3 T.a_is_ledger T.fd_is_ledger P_is_ledger (spX (R_is_ledger K)) := by
  have G_is_change := ok_is_change (P := P) (w := w) (base := base) T
  refine fn_ok T.F_is_ledger sc_is_ledger (by decide) (fun q sls c Φ h => by obtain ⟨_, d, _, rfl, _⟩ := h; rfl) fun cdv A outer s B0 Ew hr => ⟨_,
    (pss_cons (ps_if (PW.pt (pw_or (pt_not (pt_val (pe_callB (k_isi (K := K) rfl) (by rfl) T.z_isinstance (by decide +kernel) (pa_cons (pv 0) (pa_cons (pe_bltn (v := .ty "tuple") (by rfl) T.z_tuple (by decide +kernel) rfl) pa_nil))))) (pw_or1 (pt_not (pt_val (pe_callB (k_all (K := K) rfl rfl) (by rfl) T.z_all (by decide +kernel) (pa_cons (pe_lc (own := [("pair", 2)]) rfl sc_is_ledger.nd (k_piTup (K := K) rfl (pv 0)) (blkOk_by (own := [("pair", 2)]) (N := N_is_ledger) (sc := defScope s_is_ledger) (by decide +kernel)) (fun _ _ _ _ _ => (pg_name (i := 2) sc_is_ledger.nd rfl (Or.inl rfl))) (fun _ _ _ _ _ => pts_nil) (fun _ _ _ _ _ => (pe_call G_is_change (hr.mono (by decide)) (by rfl) T.m_is_change T.F_is_change.kp T.b_is_change .nil pass0 (pa_cons (pv 2) pa_nil)))) pa_nil))))))) (pss_one (ps_ret pe_bl)) pss_nil)
      (pss_cons (ps_set (i := 1) sc_is_ledger.nd rfl (Or.inl rfl) (pe_callB (k_all (K := K) rfl rfl) (by rfl) T.z_all (by decide +kernel) (pa_cons (pe_lc (own := [("one", 3), ("other", 4)]) rfl sc_is_ledger.nd (Zm.pi_zipS (K := K) rfl (by rfl) T.z_zip (pa_cons (pv 0) (pa_cons (pe_slice (k_sl (K := K) rfl) (pv 0) (po_some pe_int) po_none) pa_nil))) (blkOk_by (own := [("one", 3), ("other", 4)]) (N := N_is_ledger) (sc := defScope s_is_ledger) (by decide +kernel)) (fun _ _ _ _ _ => (k_pgTup (K := K) (n := 2) rfl rfl (pgs_cons (pg_name (i := 3) sc_is_ledger.nd rfl (Or.inl rfl)) (pgs_cons (pg_name (i := 4) sc_is_ledger.nd rfl (Or.inl rfl)) pgs_nil)))) (fun _ _ _ _ _ => pts_nil) (fun _ _ _ _ _ => (pe_cmpR op_lt (pe_ix (k_ix (K := K) rfl) (pv 3) pe_int (fun _ _ => rfl)) (pe_ix (k_ix (K := K) rfl) (pv 4) pe_int (fun _ _ => rfl)) (nomark _)))) pa_nil)))
      (pss_one (ps_ret (pe_and (pv 1) (pe_one (pe_callB (k_all (K := K) rfl rfl) (by rfl) T.z_all (by decide +kernel) (pa_cons (pe_lc (own := [("key", 5), ("amount", 6)]) rfl sc_is_ledger.nd (k_piTup (K := K) rfl (pv 0)) (blkOk_by (own := [("key", 5), ("amount", 6)]) (N := N_is_ledger) (sc := defScope s_is_ledger) (by decide +kernel)) (fun _ _ _ _ _ => (k_pgTup (K := K) (n := 2) rfl rfl (pgs_cons (pg_name (i := 5) sc_is_ledger.nd rfl (Or.inl rfl)) (pgs_cons (pg_name (i := 6) sc_is_ledger.nd rfl (Or.inl rfl)) pgs_nil)))) (fun _ _ _ _ _ => pts_nil) (fun _ _ _ _ _ => (pe_cmpR (k_neD (K := K) rfl hr.units) (pv 6) pe_int (nomark _)))) pa_nil)))))))), fun q sls n c Φ A0 σ Q hR hA fin => ?_⟩
  obtain ⟨rfl, d, od, rfl, rfl⟩ := hR
  have first : isiTup d = false → isLedD d = false := fun h => by cases d <;> first | rfl | cases h
  by_cases ht : isiTup d = true
  · obtain ⟨ds, rfl⟩ : ∃ ds, d = .tuple ds := by
      cases d with
      | tuple ds => exact ⟨ds, rfl⟩
      | _ => cases ht
    have hlen := od.sh ds rfl
    refine q_whenB (b := !(ds.all isChangeD)) (tb_is (tb_or (b := !(ds.all isChangeD)) (tb_not (tb_B (e_isi (e_var rfl) (kit_tuple _)))) fun _ => tb_not (tb_B (e_is (e_all (bs := ds.map isChangeD) (e_is (e_lc1 (vs := [2]) (emb := id) (xs := ds) (by rw [List.map_id]; exact ie_tup (e_var rfl)) (fun x => .bool (isChangeD x)) (by omega) fun x hx => ⟨_, gb_name (by simp), j_call (R := R_is_change K) (ae_cons (e_var rfl) ae_nil) fun sls e => ⟨rfl, x, od.dp ds rfl x hx, e, rfl⟩⟩) (by rw [bools_map]))) (by rw [all_id_map])))) (by rw [ht]; rfl)) hA (fun hb Hk1 H1 g1 a1 => ?_) (fun hb Hk1 H1 g1 a1 => ?_)
    · refine s_retE (d := .bool false) e_bl a1 (Nat.le_refl _) fin ?_
      have : isLedD (.tuple ds) = false := by
        show (ds.all isChangeD && _) = false
        rw [show ds.all isChangeD = false by simpa using hb, Bool.false_and]
      rw [this]
    · obtain ⟨l, rfl⟩ := changes_pd (ds := ds) (by simpa using hb)
      rw [pd_len] at hlen
      refine q_asgE (d := .bool (asc l)) (e_is (e_all (bs := (adj l).map fun p => decide (p.1.1 < p.2.1)) (e_is (e_lc1 (vs := [3, 4]) (emb := fun p : (Int × Int) × (Int × Int) => .tuple [pr p.1, pr p.2]) (xs := adj l) (by rw [← zip_adj]; exact ie_zipS (e_var rfl) (e_slT (e_var rfl) (to_some e_int) to_none)) (fun p => .bool (decide (p.1.1 < p.2.1))) ?_ fun p hp => ⟨_, gb_tup2 (by simp) (by simp), e_ltI (e_iT (ds := [.int p.1.1, .int p.1.2]) (e_var rfl) e_int rfl) (e_iT (ds := [.int p.2.1, .int p.2.2]) (e_var rfl) e_int rfl)⟩) (by rw [bools_map]))) (by rw [all_id_map]; rfl)) a1 fun σ2 Hk2 H2 g2 a2 => ?_
      · show (l.zip (l.drop 1)).length ≤ 1000000
        rw [List.length_zip]; omega
      refine s_retE (d := .bool (asc l && nz l)) (e_andV (e_var rfl) fun _ => e_is (e_all (bs := l.map fun x => !(x.2 == 0)) (e_is (e_lc1 (vs := [5, 6]) (emb := pr) (xs := l) (ie_tup (e_var rfl)) (fun x => .bool (!(x.2 == 0))) (by omega) fun x hx => ⟨_, gb_tup2 (by simp) (by simp), e_neDI (e_var rfl) e_int⟩) (by rw [bools_map]))) (by rw [all_id_map]; rfl)) a2 (Nat.le_refl _) fin ?_
      show _ = PyData.bool (isLedD (led l))
      rw [isLed_led]
  · have hf : isiTup d = false := by simpa using ht
    refine q_whenB (b := true) (tb_is (tb_or (b := true) (tb_not (tb_B (e_isiT (e_var rfl) od.kn))) fun h => by rw [hf] at h; cases h) (by rw [hf]; rfl)) hA (fun hb Hk1 H1 g1 a1 => ?_) (fun hb => by cases hb)
    exact s_retE (d := .bool false) e_bl a1 (Nat.le_refl _) fin (by rw [first hf])
/-! ### check_ledger -/
def R_check_ledger : RelX := fun _ sls c Φ => c = 0 ∧ ∃ l, Led l ∧ l.length ≤ 100000 ∧ sls = [.dat (led l)] ∧ Φ = fun x => x = .none
theorem ok_check_ledger (T : Tx K mg) : FnOk P w K mg base CX0 4 T.a_check_ledger T.fd_check_ledger P_check_ledger (spX R_check_ledger) := by
  have G_is_ledger := ok_is_ledger (P := P) (w := w) (base := base) T
  refine fn_ok T.F_check_ledger sc_check_ledger (by decide) (fun q sls c Φ h => by obtain ⟨_, l, _, _, rfl, _⟩ := h; rfl) fun cdv A outer s B0 Ew hr => ⟨_,
    (pss_one (ps_if (pt_not (pt_val (pe_call G_is_ledger (hr.mono (by decide)) (by rfl) T.m_is_ledger T.F_is_ledger.kp T.b_is_ledger .nil pass0 (pa_cons (pv 0) pa_nil)))) (pss_one ps_never) pss_nil)), fun q sls n c Φ A0 σ Q hR hA fin => ?_⟩
  obtain ⟨rfl, l, hL, hl, rfl, rfl⟩ := hR
  exact s_ifNo (tb_is (tb_not (tb_B (j_call (R := R_is_ledger K) (ae_cons (e_var rfl) ae_nil) fun sls e => ⟨rfl, led l, Odd.of (fun ds e => by cases e; rw [pd_len]; exact hl) (deep_led 2 l), e, rfl⟩))) (by rw [led_isLed hL]; rfl)) hA fun Hk' H2 g a => s_end a (Nat.le_refl _) fin rfl
/-! ### check_ledger, where it raises -/
def B_check_ledger (K : PySem.W.Frag) : RelE := fun _ sls c x => c = 0 ∧ ∃ d, Odd K d ∧ isLedD d = false ∧ sls = [.dat d] ∧ x = "InvalidLedger"
theorem ck_ledger {K : PySem.W.Frag} {mg : Str → Option Value} {q : Option Addr} {δ : List Sl} {te : TE} {d : PyData} {E0 : XK} (h : isLedD d = true) (o : Odd K d) (ed : E q δ te d) : E q δ (tCall (spU (spX R_check_ledger) (spE mg (B_check_ledger K))) [] E0 (tCons te tNil)) .none := by
  obtain ⟨ds, rfl⟩ : ∃ ds, d = .tuple ds := by
    cases d with
    | tuple ds => exact ⟨ds, rfl⟩
    | _ => cases h
  obtain ⟨l, hL, rfl⟩ := led_of h
  exact j_callU (R := R_check_ledger) (c := 0) (ae_cons ed ae_nil) fun sls e => ⟨rfl, l, hL, by have := o.sh _ rfl; rwa [pd_len] at this, e, rfl⟩
theorem ox_check_ledger (T : Tx K mg) : FnOk P w K mg base (L2.CX P w) 4 T.a_check_ledger T.fd_check_ledger P_check_ledger (spE mg (B_check_ledger K)) := by
  have G_is_ledger := ok_is_ledger (P := P) (w := w) (base := base) T
  refine fn_okE T.F_check_ledger sc_check_ledger (by decide) (fun q sls c x h => by obtain ⟨_, d, _, _, rfl, _⟩ := h; rfl) fun cdv A outer s B0 Ew hr => ⟨_,
    (pss_one (ps_if (pt_not (pt_val (pe_call G_is_ledger (hr.mono (by decide)) (by rfl) T.m_is_ledger T.F_is_ledger.kp T.b_is_ledger .nil pass0 (pa_cons (pv 0) pa_nil)))) (pss_one (ps_raise rfl (takes_of (E := Ew) rfl rfl rfl rfl) (pmk_own0 PySem.F.excBase_ValueError T.x_InvalidLedger T.g_InvalidLedger T.k_InvalidLedger (raises_own T.u_InvalidLedger T.t_InvalidLedger) rfl))) pss_nil)), fun q sls n c x A0 σ Q hR hA fin => ?_⟩
  obtain ⟨rfl, d, kn, hd, rfl, rfl⟩ := hR
  exact s_ifB (b := true) (tb_is (tb_not (tb_B (j_call (R := R_is_ledger K) (ae_cons (e_var rfl) ae_nil) fun sls e => ⟨rfl, d, kn, e, rfl⟩))) (by rw [hd]; rfl)) hA (fun _ Hk1 H1 g1 a1 => s_raise fin a1 (Nat.le_refl _) T.g_InvalidLedger) (fun h => by cases h)
/-! ### Ledger__init__ -/
theorem ok_Ledger__init__ (T : Tx K mg) : FnOk P w K mg base CX0 5 T.a_Ledger__init__ T.fd_Ledger__init__ P_Ledger__init__ (spI T.C_Ledger "_pairs" (fun d => ∃ l, Led l ∧ l.length ≤ 100000 ∧ d = led l)) := by
  have G_check_ledger := ok_check_ledger (P := P) (w := w) (base := base) T
  refine init_ok rfl rfl T.F_Ledger__init__ sc_Ledger__init__ T.cl_Ledger T.n_Ledger (fun cdv A outer s B0 E hr => (pss_cons (ps_expr (pe_call G_check_ledger (hr.mono (by decide)) (by rfl) T.m_check_ledger T.F_check_ledger.kp T.b_check_ledger .nil pass0 (pa_cons (pv 1) pa_nil)))
      (pss_one (ps_fld (pv 0) (pv 1) rfl)))) fun q δ d hd h1 => ?_
  obtain ⟨l, hL, hl, rfl⟩ := hd
  exact j_call (R := R_check_ledger) (c := 0) (ae_cons (e_var h1) ae_nil) fun sls e => ⟨rfl, l, hL, hl, e, rfl⟩
/-! ### _law_no_book -/
def NoB (K : PySem.W.Frag) (d : PyData) : Prop := isLedD d = false ∧ Odd K d
theorem noB_cut {K : PySem.W.Frag} {l : List (Int × Int)} (hl : l.length ≤ 400) {a b : Nat} {d : PyData} (h : ∀ y : Int × Int, y.2 ≠ 0 → d ≠ pr y) (hd : deep 1 d = true) : NoB K (.tuple ((pd l).take a ++ [d] ++ (pd l).drop b)) := ⟨no_led (d := d) (by simp) h, Odd.of (short_cut (by rw [pd_len]; omega)) (deep_cut (deep_pd 1 l) hd)⟩
/-- a pair put behind one that is not below it -/
theorem noB_put {K : PySem.W.Frag} {l : List (Int × Int)} (hl : l.length ≤ 400) {s : Nat} {v u : Int × Int} (hv : l[s]? = some v) (h : ¬ v.1 < u.1) : NoB K (.tuple ((pd l).take (s + 1) ++ [pr u] ++ (pd l).drop (s + 1))) := by
  refine ⟨?_, Odd.of (short_cut (by rw [pd_len]; omega)) (deep_cut (deep_pd 1 l) (deep_pr 1 u))⟩
  have e1 : (pd l).take (s + 1) = (pd l).take s ++ [pr v] := by
    rw [List.take_add_one]
    congr 1
    unfold pd
    rw [List.getElem?_map, hv]
    rfl
  rw [e1]
  have := no_led2 (A := (pd l).take s) (B := (pd l).drop (s + 1)) (u := v) (v := u) h
  simpa using this
theorem noB_rot {K : PySem.W.Frag} {l : List (Int × Int)} (hL : Led l) (hl : l.length ≤ 400) (h : 1 < l.length) : NoB K (.tuple ((pd l).drop 1 ++ (pd l).take 1)) := by
  refine ⟨?_, Odd.of (short_tup (by rw [List.length_append, List.length_drop, List.length_take, pd_len]; omega)) ?_⟩
  · match l, h with
    | x :: y :: t, _ =>
      obtain ⟨A, z, e⟩ : ∃ A z, y :: t = A ++ [z] := ⟨_, _, (List.dropLast_concat_getLast (by simp)).symm⟩
      have hz : z ∈ y :: t := by rw [e]; simp
      have hxz : x.1 < z.1 := (List.pairwise_cons.mp hL.1).1 z hz
      have := no_led2 (A := pd A) (B := []) (u := z) (v := x) (by omega)
      have e2 : (pd (x :: y :: t)).drop 1 ++ (pd (x :: y :: t)).take 1 = pd A ++ [pr z, pr x] ++ [] := by
        show pd (y :: t) ++ [pr x] = _
        rw [e]
        unfold pd
        simp
      rw [e2]
      exact this
  · show ((pd l).drop 1 ++ (pd l).take 1).all (deep 1) = true
    have := List.all_eq_true.mp (deep_pd 1 l)
    rw [List.all_append, List.all_eq_true.mpr fun x hx => this x (List.mem_of_mem_drop hx), List.all_eq_true.mpr fun x hx => this x (List.mem_of_mem_take hx)]
    rfl
theorem noB_swap {K : PySem.W.Frag} {l : List (Int × Int)} (hL : Led l) (hl : l.length ≤ 400) {s : Nat} {u v : Int × Int} (eu : l[s]? = some u) (ev : l[s + 1]? = some v) : NoB K (.tuple ((pd l).take s ++ [pr v, pr u] ++ (pd l).drop (s + 2))) := by
  have huv : u.1 < v.1 := led_lt2 hL eu ev (by omega)
  refine ⟨no_led2 (by omega), Odd.of (short_tup (by rw [List.length_append, List.length_append, List.length_take, List.length_drop, pd_len]; simp; omega)) ?_⟩
  show ((pd l).take s ++ [pr v, pr u] ++ (pd l).drop (s + 2)).all (deep 1) = true
  rw [List.all_append, List.all_append]
  have := List.all_eq_true.mp (deep_pd 1 l)
  rw [List.all_eq_true.mpr fun x hx => this x (List.mem_of_mem_take hx), List.all_eq_true.mpr fun x hx => this x (List.mem_of_mem_drop hx)]
  simp [deep_pr]
def bads7 (y : Int) : List PyData := [pr (y, 1), pr (y + 1, 0), .tuple [.int (y + 1), .bool true], .tuple [.none, .int 1], .tuple [.int (y + 1), .str "1"], .tuple [.bool true, .int 1], .none]
theorem bads7_no {y : Int} {d : PyData} (h : d ∈ bads7 y) (h1 : d ≠ pr (y, 1)) : (∀ z : Int × Int, z.2 ≠ 0 → d ≠ pr z) ∧ deep 1 d = true := by
  simp only [bads7, List.mem_cons, List.not_mem_nil, or_false] at h
  rcases h with rfl | rfl | rfl | rfl | rfl | rfl | rfl
  · exact absurd rfl h1
  · exact ⟨(fun z hz e => hz (by have e3 := (List.cons.inj (List.cons.inj (PyData.tuple.inj e)).2).1; injection e3 with e4; exact e4.symm)), deep_pr 1 _⟩
  · exact ⟨(fun z hz e => by have e3 := (List.cons.inj (List.cons.inj (PyData.tuple.inj e)).2).1; cases e3), rfl⟩
  · exact ⟨(fun z hz e => by have e3 := (List.cons.inj (PyData.tuple.inj e)).1; cases e3), rfl⟩
  · exact ⟨(fun z hz e => by have e3 := (List.cons.inj (List.cons.inj (PyData.tuple.inj e)).2).1; cases e3), rfl⟩
  · exact ⟨(fun z hz e => by have e3 := (List.cons.inj (PyData.tuple.inj e)).1; cases e3), rfl⟩
  · exact ⟨(fun z hz e => by cases e), rfl⟩
def R__law_no_book (K : PySem.W.Frag) : RelX := fun q sls c Φ => c = 3 ∧ ∃ (p : Addr) (l : List (Int × Int)), q = some p ∧ Led l ∧ l.length ≤ 400 ∧ sls = [.adr p, .dat (led l)] ∧ Φ = NoB K
theorem ok__law_no_book (T : Tx K mg) : FnOk P w K mg base CX0 7 T.a__law_no_book T.fd__law_no_book P__law_no_book (spX (R__law_no_book K)) := by
  have G_Ledger__init__ := ok_Ledger__init__ (P := P) (w := w) (base := base) T
  have G__law_pick := ok__law_pick (P := P) (w := w) (base := base) T
  refine fn_ok T.F__law_no_book sc__law_no_book (by decide) (fun q sls c Φ h => by obtain ⟨_, p, l, _, _, _, rfl, _⟩ := h; rfl) fun cdv A outer s B0 Ew hr => ⟨_,
    (pss_cons (ps_set (i := 2) sc__law_no_book.nd rfl (Or.inr rfl) (pe_call G__law_pick (hr.mono (by decide)) (by rfl) T.m__law_pick T.F__law_pick.kp T.b__law_pick .nil pass0 (pa_cons (pv 0) (pa_cons (pe_op (k_addU (K := K) rfl) (pe_callB (k_len (K := K) rfl) (by rfl) T.z_len (by decide +kernel) (pa_cons (pv 1) pa_nil)) pe_int) pa_nil))))
      (pss_cons (ps_set (i := 3) sc__law_no_book.nd rfl (Or.inl rfl) (pe_ifExp (pt_cmpR op_gt (pv 2) pe_int (nomark _)) (pe_ix (k_ix (K := K) rfl) (pe_ix (k_ix (K := K) rfl) (pv 1) (pe_op op_sub (pv 2) pe_int) (fun _ _ => rfl)) pe_int (fun _ _ => rfl)) (pe_un un_neg pe_int)))
      (pss_cons (ps_set (i := 4) sc__law_no_book.nd rfl (Or.inl rfl) (pe_lst (pa_cons pe_non (pa_cons pe_int (pa_cons (pe_lst pa_nil) (pa_cons pe_dnewK (pa_cons pe_str (pa_cons pe_bl (pa_cons (pe_callTy (k_lst (K := K) rfl) (by rfl) T.z_list (by decide +kernel) (pa_cons (pv 1) pa_nil)) (pa_cons (pe_make T.M_Ledger G_Ledger__init__ (hr.mono (by decide)) (by rfl) T.m_Ledger T.b_Ledger__init__ .nil pass0 (pa_cons (pv 1) pa_nil)) (pa_cons (Cr.pe_tup (pa_cons (Cr.pe_tup (pa_cons pe_int (pa_cons pe_int (pa_cons pe_int pa_nil)))) pa_nil)) (pa_cons (Cr.pe_tup (pa_cons pe_int pa_nil)) (pa_cons (Cr.pe_tup (pa_cons (Cr.pe_tup (pa_cons pe_int pa_nil)) pa_nil)) (pa_cons (Cr.pe_tup (pa_cons (pe_lst (pa_cons pe_int (pa_cons pe_int pa_nil))) pa_nil)) pa_nil))))))))))))))
      (pss_cons (ps_set (i := 4) sc__law_no_book.nd rfl (Or.inl rfl) (pe_op (k_addU (K := K) rfl) (pv 4) (pe_lst (pa_cons (Cr.pe_tup (pa_cons (Cr.pe_tup (pa_cons pe_int (pa_cons pe_int pa_nil))) (pa_cons (Cr.pe_tup (pa_cons pe_int (pa_cons pe_int pa_nil))) pa_nil))) (pa_cons (Cr.pe_tup (pa_cons (Cr.pe_tup (pa_cons pe_int (pa_cons pe_int pa_nil))) (pa_cons (Cr.pe_tup (pa_cons pe_int (pa_cons pe_int pa_nil))) (pa_cons (Cr.pe_tup (pa_cons pe_int (pa_cons pe_int pa_nil))) pa_nil)))) (pa_cons (Cr.pe_tup (pa_cons (Cr.pe_tup (pa_cons pe_int (pa_cons pe_int pa_nil))) (pa_cons (Cr.pe_tup (pa_cons pe_int (pa_cons pe_int pa_nil))) pa_nil))) pa_nil))))))
      (pss_cons (ps_if (pt_cmpR op_gt (pe_callB (k_len (K := K) rfl) (by rfl) T.z_len (by decide +kernel) (pa_cons (pv 1) pa_nil)) pe_int (nomark _)) (pss_cons (ps_set (i := 5) sc__law_no_book.nd rfl (Or.inl rfl) (pe_call G__law_pick (hr.mono (by decide)) (by rfl) T.m__law_pick T.F__law_pick.kp T.b__law_pick .nil pass0 (pa_cons (pv 0) (pa_cons (pe_op op_sub (pe_callB (k_len (K := K) rfl) (by rfl) T.z_len (by decide +kernel) (pa_cons (pv 1) pa_nil)) pe_int) pa_nil))))
      (pss_one (ps_set (i := 4) sc__law_no_book.nd rfl (Or.inl rfl) (pe_op (k_addU (K := K) rfl) (pv 4) (pe_lst (pa_cons (pe_revT (K := K) rfl (pv 1)) (pa_cons (pe_op (k_addU (K := K) rfl) (pe_op (k_addU (K := K) rfl) (pe_slice (k_sl (K := K) rfl) (pv 1) po_none (po_some (pv 5))) (Cr.pe_tup (pa_cons (pe_ix (k_ix (K := K) rfl) (pv 1) (pe_op (k_addU (K := K) rfl) (pv 5) pe_int) (fun _ _ => rfl)) (pa_cons (pe_ix (k_ix (K := K) rfl) (pv 1) (pv 5) (fun _ _ => rfl)) pa_nil)))) (pe_slice (k_sl (K := K) rfl) (pv 1) (po_some (pe_op (k_addU (K := K) rfl) (pv 5) pe_int)) po_none)) (pa_cons (pe_op (k_addU (K := K) rfl) (pe_slice (k_sl (K := K) rfl) (pv 1) (po_some pe_int) po_none) (pe_slice (k_sl (K := K) rfl) (pv 1) po_none (po_some pe_int))) pa_nil)))))))) pss_nil)
      (pss_cons (ps_set (i := 6) sc__law_no_book.nd rfl (Or.inl rfl) (pe_lst (pa_cons (Cr.pe_tup (pa_cons (pv 3) (pa_cons pe_int pa_nil))) (pa_cons (Cr.pe_tup (pa_cons (pe_op (k_addU (K := K) rfl) (pv 3) pe_int) (pa_cons pe_int pa_nil))) (pa_cons (Cr.pe_tup (pa_cons (pe_op (k_addU (K := K) rfl) (pv 3) pe_int) (pa_cons pe_bl pa_nil))) (pa_cons (Cr.pe_tup (pa_cons pe_non (pa_cons pe_int pa_nil))) (pa_cons (Cr.pe_tup (pa_cons (pe_op (k_addU (K := K) rfl) (pv 3) pe_int) (pa_cons pe_str pa_nil))) (pa_cons (Cr.pe_tup (pa_cons pe_bl (pa_cons pe_int pa_nil))) (pa_cons pe_non pa_nil)))))))))
      (pss_cons (ps_set (i := 4) sc__law_no_book.nd rfl (Or.inl rfl) (pe_op (k_addU (K := K) rfl) (pv 4) (pe_lc (own := [("bad", 7)]) rfl sc__law_no_book.nd (k_piList (K := K) rfl (pe_slice (k_sl (K := K) rfl) (pv 6) (po_some (pe_callTy call_intQ (by rfl) T.z_int (by decide +kernel) (pa_cons (pe_cmpR (k_eqD (K := K) rfl hr.units) (pv 2) pe_int (nomark _)) pa_nil))) po_none)) (blkOk_by (own := [("bad", 7)]) (N := N__law_no_book) (sc := defScope s__law_no_book) (by decide +kernel)) (fun _ _ _ _ _ => (pg_name (i := 7) sc__law_no_book.nd rfl (Or.inl rfl))) (fun _ _ _ _ _ => pts_nil) (fun _ _ _ _ _ => (pe_op (k_addU (K := K) rfl) (pe_op (k_addU (K := K) rfl) (pe_slice (k_sl (K := K) rfl) (pv 1) po_none (po_some (pv 2))) (Cr.pe_tup (pa_cons (pv 7) pa_nil))) (pe_slice (k_sl (K := K) rfl) (pv 1) (po_some (pv 2)) po_none))))))
      (pss_one (ps_ret (pe_ix (k_ix (K := K) rfl) (pv 4) (pe_call G__law_pick (hr.mono (by decide)) (by rfl) T.m__law_pick T.F__law_pick.kp T.b__law_pick .nil pass0 (pa_cons (pv 0) (pa_cons (pe_callB (k_len (K := K) rfl) (by rfl) T.z_len (by decide +kernel) (pa_cons (pv 4) pa_nil)) pa_nil))) (fun _ _ => rfl))))))))))), fun q sls n c Φ A0 σ Q hR hA fin => ?_⟩
  obtain ⟨rfl, p, l, rfl, hL, hl, rfl, rfl⟩ := hR
  have elen : ∀ {δ : List Sl}, δ[1]? = some (.dat (led l)) → E (some p) δ (tCB (rLenQ K) (tCons (tVar 1) tNil)) (.int (l.length : Int)) := fun h => e_is (e_lenT (ds := pd l) (e_var h)) (by rw [pd_len])
  have eat : ∀ {δ : List Sl} {ti : TE} {k : Nat} {y : Int × Int}, δ[1]? = some (.dat (led l)) → E (some p) δ ti (.int (k : Int)) → l[k]? = some y → E (some p) δ (tOp (rIx K) (tVar 1) ti) (pr y) := fun h1 h2 ey => e_iT (ds := pd l) (e_var h1) h2 (atI_nat (by unfold pd; rw [List.getElem?_map, ey]; rfl))
  have t2 : ∀ {δ : List Sl} {ta tb : TE} {a b : PyData}, E (some p) δ ta a → E (some p) δ tb b → E (some p) δ (Cr.tTup (tCons ta (tCons tb tNil))) (.tuple [a, b]) := fun h1 h2 => e_tup (ds := [_, _]) (ae_cons h1 (ae_cons h2 ae_nil))
  refine q_asg (i := 2) (n := n + 2) (c := 1) (Φ := IntP fun x => 0 ≤ x ∧ x < (l.length : Int) + 1) (j_pick rfl (e_addI (elen rfl) e_int) (by omega) (by omega)) hA fun d σ1 Hk1 H1 ⟨x, hx, ed⟩ g1 a1 => ?_
  subst ed
  obtain ⟨s, rfl⟩ : ∃ s : Nat, x = (s : Int) := ⟨x.toNat, by omega⟩
  have hs : s ≤ l.length := by omega
  refine q_asg (i := 3) (n := n + 2) (c := 0) (Φ := fun d => ∃ y : Int, (∀ r, s = r + 1 → ∃ v, l[r]? = some v ∧ v.1 = y) ∧ d = .int y) (j_if (c := 0) (c1 := 0) (P := fun b => b = decide ((0 : Int) < (s : Int))) (tb_test (e_gtI (e_var rfl) e_int)) (fun h => ?_) (fun h => (e_is (d1 := .int (-9)) (e_un e_int) rfl).imp fun d e => ⟨-9, fun r er => by have := of_decide_eq_false h.symm; omega, e⟩)) a1 fun d σ2 Hk2 H2 ⟨y, hy, ed⟩ g2 a2 => ?_
  · have h1 : (0 : Int) < (s : Int) := of_decide_eq_true h.symm
    obtain ⟨r, rfl⟩ : ∃ r, s = r + 1 := ⟨s - 1, by omega⟩
    obtain ⟨v, ev⟩ : ∃ v, l[r]? = some v := ⟨l[r]'(by omega), List.getElem?_eq_getElem _⟩
    exact (e_iT (ds := [.int v.1, .int v.2]) (eat (k := r) rfl (e_is (e_subI (e_var rfl) e_int) (congrArg PyData.int (by omega))) ev) e_int rfl).imp fun d e => ⟨v.1, (fun r' er => ⟨v, by rw [show r' = r from by omega]; exact ev, rfl⟩), e⟩
  subst ed
  refine q_asgE (i := 4) (d := .list [.none, .int 5, .list [], .dict [], .str "a", .bool true, .list (pd l), insD T.C_Ledger, .tuple [.tuple [.int 1, .int 2, .int 3]], .tuple [.int 5], .tuple [.tuple [.int 1]], .tuple [.list [.int 1, .int 2]]]) (e_lst (ds := [.none, .int 5, .list [], .dict [], .str "a", .bool true, .list (pd l), insD T.C_Ledger, .tuple [.tuple [.int 1, .int 2, .int 3]], .tuple [.int 5], .tuple [.tuple [.int 1]], .tuple [.list [.int 1, .int 2]]]) (ae_cons e_non (ae_cons e_int (ae_cons (e_lst (ds := []) ae_nil) (ae_cons e_dnew (ae_cons e_str (ae_cons e_bl (ae_cons (e_lstT (ds := pd l) (e_var rfl)) (ae_cons (e_make (e_var rfl) ⟨l, hL, by omega, rfl⟩) (ae_cons (e_tup (ds := [.tuple [.int 1, .int 2, .int 3]]) (ae_cons (e_tup (ds := [.int 1, .int 2, .int 3]) (ae_cons e_int (ae_cons e_int (ae_cons e_int ae_nil)))) ae_nil)) (ae_cons (e_tup (ds := [.int 5]) (ae_cons e_int ae_nil)) (ae_cons (e_tup (ds := [.tuple [.int 1]]) (ae_cons (e_tup (ds := [.int 1]) (ae_cons e_int ae_nil)) ae_nil)) (ae_cons (e_tup (ds := [.list [.int 1, .int 2]]) (ae_cons (e_lst (ds := [.int 1, .int 2]) (ae_cons e_int (ae_cons e_int ae_nil))) ae_nil)) ae_nil))))))))))))) a2 fun σ3 Hk3 H3 g3 a3 => ?_
  have h3 : ∀ d ∈ [PyData.none, .int 5, .list [], .dict [], .str "a", .bool true, .list (pd l), insD T.C_Ledger, .tuple [.tuple [.int 1, .int 2, .int 3]], .tuple [.int 5], .tuple [.tuple [.int 1]], .tuple [.list [.int 1, .int 2]]], NoB K d := fun d hd => by
    simp only [List.mem_cons, List.not_mem_nil, or_false] at hd
    rcases hd with rfl | rfl | rfl | rfl | rfl | rfl | rfl | rfl | rfl | rfl | rfl | rfl
    · exact ⟨rfl, Odd.of (fun ds e => by cases e) rfl⟩
    · exact ⟨rfl, Odd.of (fun ds e => by cases e) rfl⟩
    · exact ⟨rfl, Odd.of (fun ds e => by cases e) rfl⟩
    · exact ⟨rfl, Odd.of (fun ds e => by cases e) rfl⟩
    · exact ⟨rfl, Odd.of (fun ds e => by cases e) rfl⟩
    · exact ⟨rfl, Odd.of (fun ds e => by cases e) rfl⟩
    · exact ⟨rfl, Odd.of (fun ds e => by cases e) rfl⟩
    · exact ⟨rfl, Odd.ins T.cl_Ledger T.I_Ledger⟩
    · exact ⟨rfl, Odd.of (short_tup (by simp)) rfl⟩
    · exact ⟨rfl, Odd.of (short_tup (by simp)) rfl⟩
    · exact ⟨rfl, Odd.of (short_tup (by simp)) rfl⟩
    · exact ⟨rfl, Odd.of (short_tup (by simp)) rfl⟩
  obtain ⟨L3, eL3⟩ : ∃ L3 : List PyData, L3 = [PyData.none, .int 5, .list [], .dict [], .str "a", .bool true, .list (pd l), insD T.C_Ledger, .tuple [.tuple [.int 1, .int 2, .int 3]], .tuple [.int 5], .tuple [.tuple [.int 1]], .tuple [.list [.int 1, .int 2]]] := ⟨_, rfl⟩
  have l3 : L3.length ≤ 20 := by rw [eL3]; simp
  rw [← eL3] at a3 h3
  refine q_asgE (i := 4) (d := .list (L3 ++ [.tuple [pr (0, 1), pr (0, 1)], .tuple [pr (0, 1), pr (3, 1), pr (0, 2)], .tuple [pr (1, 1), pr (0, 1)]])) (e_catL (ds := L3) (es := [.tuple [pr (0, 1), pr (0, 1)], .tuple [pr (0, 1), pr (3, 1), pr (0, 2)], .tuple [pr (1, 1), pr (0, 1)]]) (e_var rfl) (e_lst (ds := [.tuple [pr (0, 1), pr (0, 1)], .tuple [pr (0, 1), pr (3, 1), pr (0, 2)], .tuple [pr (1, 1), pr (0, 1)]]) (ae_cons (e_tup (ds := [pr (0, 1), pr (0, 1)]) (ae_cons (e_pr e_int e_int) (ae_cons (e_pr e_int e_int) ae_nil))) (ae_cons (e_tup (ds := [pr (0, 1), pr (3, 1), pr (0, 2)]) (ae_cons (e_pr e_int e_int) (ae_cons (e_pr e_int e_int) (ae_cons (e_pr e_int e_int) ae_nil)))) (ae_cons (e_tup (ds := [pr (1, 1), pr (0, 1)]) (ae_cons (e_pr e_int e_int) (ae_cons (e_pr e_int e_int) ae_nil))) ae_nil)))) (by simp; omega)) a3 fun σ4 Hk4 H4 g4 a4 => ?_
  have h4 : ∀ d ∈ L3 ++ [.tuple [pr (0, 1), pr (0, 1)], .tuple [pr (0, 1), pr (3, 1), pr (0, 2)], .tuple [pr (1, 1), pr (0, 1)]], NoB K d := fun d hd => by
    rcases List.mem_append.mp hd with z | z
    · exact h3 d z
    · simp only [List.mem_cons, List.not_mem_nil, or_false] at z
      rcases z with rfl | rfl | rfl
      · exact ⟨by have := no_led2 (A := []) (B := []) (u := (0, 1)) (v := (0, 1)) (by decide); simpa using this, Odd.of (short_tup (by simp)) rfl⟩
      · exact ⟨by have := no_led2 (A := [pr (0, 1)]) (B := []) (u := (3, 1)) (v := (0, 2)) (by decide); simpa using this, Odd.of (short_tup (by simp)) rfl⟩
      · exact ⟨by have := no_led2 (A := []) (B := []) (u := (1, 1)) (v := (0, 1)) (by decide); simpa using this, Odd.of (short_tup (by simp)) rfl⟩
  obtain ⟨L4, eL4⟩ : ∃ L4 : List PyData, L4 = L3 ++ [.tuple [pr (0, 1), pr (0, 1)], .tuple [pr (0, 1), pr (3, 1), pr (0, 2)], .tuple [pr (1, 1), pr (0, 1)]] := ⟨_, rfl⟩
  have l4 : L4.length ≤ 30 := by rw [eL4]; simp; omega
  rw [← eL4] at a4 h4
  refine q_cut (I := fun σ' H' => ∃ (Hk' : Hp) (ds : List PyData) (s5 : Sl), At (some p) (n + 1) [.adr p, .dat (led l), .dat (.int (s : Int)), .dat (.int y), .dat (.list ds), .any, .any, .any] A0 B0 σ' Hk' H' ∧ (∀ d ∈ ds, NoB K d) ∧ ds.length ≤ 50) (fun D' kk => ?_) fun σ9 H9 ⟨Hk9, ds9, _, a9, hno, hl9⟩ => ?_
  · refine s_ifB (b := decide ((1 : Int) < (l.length : Int))) (tb_test (e_gtI (elen rfl) e_int)) a4 (fun hb Hk5 H5 g5 a5 => ?_) (fun hb Hk5 H5 g5 a5 => kk _ _ ⟨Hk5, L4, .any, a5.mono (by omega), h4, by omega⟩)
    have h1 : (1 : Int) < (l.length : Int) := of_decide_eq_true hb
    refine q_asg (i := 5) (n := n + 1) (c := 1) (Φ := IntP fun x => 0 ≤ x ∧ x < (l.length : Int) - 1) (j_pick rfl (e_subI (elen rfl) e_int) (by omega) (by omega)) a5 fun d σ6 Hk6 H6 ⟨x, hx, ed⟩ g6 a6 => ?_
    subst ed
    obtain ⟨t, rfl⟩ : ∃ t : Nat, x = (t : Int) := ⟨x.toNat, by omega⟩
    obtain ⟨u, eu⟩ : ∃ u, l[t]? = some u := ⟨l[t]'(by omega), List.getElem?_eq_getElem _⟩
    obtain ⟨v, ev⟩ : ∃ v, l[t + 1]? = some v := ⟨l[t + 1]'(by omega), List.getElem?_eq_getElem _⟩
    have nx : ∀ {δ : List Sl} (k : Nat), δ[5]? = some (.dat (.int (t : Int))) → E (some p) δ (tOp (rAddU K) (tVar 5) (tC (.int (k : Int)))) (.int ((t + k : Nat) : Int)) := fun k h => e_is (e_addI (e_var h) e_int) (by congr 1)
    refine s_asgE (i := 4) (d := .list (L4 ++ [.tuple (pd l).reverse, .tuple ((pd l).take t ++ [pr v, pr u] ++ (pd l).drop (t + 2)), .tuple ((pd l).drop 1 ++ (pd l).take 1)])) (e_catL (ds := L4) (es := [.tuple (pd l).reverse, .tuple ((pd l).take t ++ [pr v, pr u] ++ (pd l).drop (t + 2)), .tuple ((pd l).drop 1 ++ (pd l).take 1)]) (e_var rfl) (e_lst (ds := [.tuple (pd l).reverse, .tuple ((pd l).take t ++ [pr v, pr u] ++ (pd l).drop (t + 2)), .tuple ((pd l).drop 1 ++ (pd l).take 1)]) (ae_cons (e_revT (ds := pd l) (e_var rfl)) (ae_cons (e_catT (ds := (pd l).take t ++ [pr v, pr u]) (es := (pd l).drop (t + 2)) (e_catT (ds := (pd l).take t) (es := [pr v, pr u]) (e_is (e_slT (ds := pd l) (e_var rfl) to_none (to_some (e_var rfl))) (by rw [cutD_to])) (e_tup (ds := [pr v, pr u]) (ae_cons (eat rfl (nx 1 rfl) ev) (ae_cons (eat rfl (e_var rfl) eu) ae_nil))) (by rw [List.length_take, pd_len]; simp; omega)) (e_is (e_slT (ds := pd l) (e_var rfl) (to_some (nx 2 rfl)) to_none) (by rw [cutD_from])) (by rw [List.length_append, List.length_take, List.length_drop, pd_len]; simp; omega)) (ae_cons (e_catT (ds := (pd l).drop 1) (es := (pd l).take 1) (e_is (e_slT (ds := pd l) (e_var rfl) (to_some (i := ((1 : Nat) : Int)) e_int) to_none) (by rw [cutD_from])) (e_is (e_slT (ds := pd l) (e_var rfl) to_none (to_some (i := ((1 : Nat) : Int)) e_int)) (by rw [cutD_to])) (by rw [List.length_drop, List.length_take, pd_len]; omega)) ae_nil)))) (by simp; omega)) a6 fun σ7 Hk7 H7 g7 a7 => kk _ _ ⟨Hk7, _, .any, a7.forget 5, fun d hd => ?_, by simp; omega⟩
    rcases List.mem_append.mp hd with z | z
    · exact h4 d z
    · simp only [List.mem_cons, List.not_mem_nil, or_false] at z
      rcases z with rfl | rfl | rfl
      · refine ⟨no_ledR hL (by omega), Odd.of (short_tup (by rw [List.length_reverse, pd_len]; omega)) ?_⟩
        show (pd l).reverse.all (deep 1) = true
        rw [List.all_reverse]
        exact deep_pd 1 l
      · exact noB_swap hL hl eu ev
      · exact noB_rot hL hl (by omega)
  · have e1 : ∀ {δ : List Sl}, δ[3]? = some (.dat (.int y)) → E (some p) δ (tOp (rAddU K) (tVar 3) (tC (.int 1))) (.int (y + 1)) := fun h => e_addI (e_var h) e_int
    refine q_asgE (i := 6) (d := .list (bads7 y)) (e_lst (hl := by simp [bads7]) (ds := bads7 y) (ae_cons (e_pr (e_var rfl) e_int) (ae_cons (e_pr (e1 rfl) e_int) (ae_cons (t2 (e1 rfl) e_bl) (ae_cons (t2 e_non e_int) (ae_cons (t2 (e1 rfl) e_str) (ae_cons (t2 e_bl e_int) (ae_cons e_non ae_nil)))))))) a9 fun σ10 Hk10 H10 g10 a10 => ?_
    obtain ⟨z, ez⟩ : ∃ z : Nat, z = if ((s : Int) == 0) then 1 else 0 := ⟨_, rfl⟩
    have hz : s = 0 → z = 1 := fun h => by rw [ez, h]; rfl
    refine q_asgE (i := 4) (d := .list (ds9 ++ ((bads7 y).drop z).map fun b => .tuple ((pd l).take s ++ [b] ++ (pd l).drop s))) (e_catL (ds := ds9) (es := ((bads7 y).drop z).map fun b => .tuple ((pd l).take s ++ [b] ++ (pd l).drop s)) (e_var rfl) (e_lc1 (vs := [7]) (emb := id) (xs := (bads7 y).drop z) (by rw [List.map_id]; exact ie_lst (e_is (e_slL (ds := bads7 y) (e_var rfl) (to_some (i := (z : Int)) (e_is (e_intB (e_eqDI (e_var rfl) e_int)) (by rw [ez]; split <;> rfl))) to_none) (by rw [cutD_from]))) (fun b => .tuple ((pd l).take s ++ [b] ++ (pd l).drop s)) (by rw [List.length_drop]; simp [bads7]; omega) fun b hb => ⟨_, gb_name (by simp), e_putT (ds := pd l) (a := s) (b := s) (e_var rfl) (e_var rfl) (e_var rfl) (e_var rfl) (by rw [pd_len]; omega)⟩) (by rw [List.length_map, List.length_drop]; simp [bads7]; omega)) a10 fun σ11 Hk11 H11 g11 a11 => ?_
    have h11 : ∀ d ∈ ds9 ++ ((bads7 y).drop z).map (fun b => PyData.tuple ((pd l).take s ++ [b] ++ (pd l).drop s)), NoB K d := fun d hd => by
      rcases List.mem_append.mp hd with w | w
      · exact hno d w
      · obtain ⟨b, hb, rfl⟩ := List.mem_map.mp w
        by_cases hb1 : b = pr (y, 1)
        · cases s with
          | zero =>
            exfalso
            rw [hz rfl, hb1] at hb
            simp [bads7, pr] at hb
          | succ r =>
            obtain ⟨v, ev, hv⟩ := hy r rfl
            rw [hb1]
            exact noB_put hl ev (by show ¬ v.1 < y; omega)
        · have := bads7_no (List.mem_of_mem_drop hb) hb1
          exact noB_cut hl this.1 this.2
    have hlen : 0 < (ds9 ++ ((bads7 y).drop z).map (fun b => PyData.tuple ((pd l).take s ++ [b] ++ (pd l).drop s))).length ∧ (ds9 ++ ((bads7 y).drop z).map (fun b => PyData.tuple ((pd l).take s ++ [b] ++ (pd l).drop s))).length ≤ 100 := by
      have hz1 : z ≤ 1 := by rw [ez]; split <;> omega
      rw [List.length_append, List.length_map, List.length_drop]
      simp [bads7]
      omega
    generalize ds9 ++ ((bads7 y).drop z).map (fun b => PyData.tuple ((pd l).take s ++ [b] ++ (pd l).drop s)) = ws at a11 h11 hlen
    exact s_ret (n := n) (c := 1) (Φ := NoB K) (j_ixOf (ds := ws) (e_var rfl) (j_pick rfl (e_lenL (ds := ws) (e_var rfl)) (by omega) (by omega)) h11) a11 (by omega) fin fun d h => h
/-! ### _law_no_log -/
def badC : List PyData := [.none, .int 5, .tuple [], .tuple [.int 1], .tuple [.int 1, .int 2, .int 3], .list [.int 1, .int 2], .str "12", .tuple [.none, .int 1], .tuple [.int 1, .none], .tuple [.bool true, .int 1], .tuple [.int 1, .bool false], .tuple [.str "1", .int 1], .tuple [.int 1, .list [.int 1]]]
theorem badC_no {d : PyData} (h : d ∈ badC) : isChangeD d = false ∧ deep 1 d = true := by
  have z := List.all_eq_true.mp (show badC.all (fun d => !isChangeD d && deep 1 d) = true from rfl) d h
  rw [Bool.and_eq_true] at z
  exact ⟨by simpa using z.1, z.2⟩
def R__law_no_log : RelX := fun q sls c Φ => c = 3 ∧ ∃ (p : Addr) (cs : List (Int × Int)), q = some p ∧ cs.length ≤ 400 ∧ sls = [.adr p, .dat (.list (pd cs))] ∧ Φ = fun d => isChsD d = false ∧ OkL d
theorem ok__law_no_log (T : Tx K mg) : FnOk P w K mg base CX0 2 T.a__law_no_log T.fd__law_no_log P__law_no_log (spX R__law_no_log) := by
  have G__law_pick := ok__law_pick (P := P) (w := w) (base := base) T
  refine fn_ok T.F__law_no_log sc__law_no_log (by decide) (fun q sls c Φ h => by obtain ⟨_, p, cs, _, _, rfl, _⟩ := h; rfl) fun cdv A outer s B0 Ew hr => ⟨_,
    (pss_cons (ps_set (i := 2) sc__law_no_log.nd rfl (Or.inl rfl) (pe_lst (pa_cons pe_non (pa_cons pe_int (pa_cons (Cr.pe_tup pa_nil) (pa_cons (Cr.pe_tup (pa_cons pe_int pa_nil)) (pa_cons (Cr.pe_tup (pa_cons pe_int (pa_cons pe_int (pa_cons pe_int pa_nil)))) (pa_cons (pe_lst (pa_cons pe_int (pa_cons pe_int pa_nil))) (pa_cons pe_str (pa_cons (Cr.pe_tup (pa_cons pe_non (pa_cons pe_int pa_nil))) (pa_cons (Cr.pe_tup (pa_cons pe_int (pa_cons pe_non pa_nil))) (pa_cons (Cr.pe_tup (pa_cons pe_bl (pa_cons pe_int pa_nil))) (pa_cons (Cr.pe_tup (pa_cons pe_int (pa_cons pe_bl pa_nil))) (pa_cons (Cr.pe_tup (pa_cons pe_str (pa_cons pe_int pa_nil))) (pa_cons (Cr.pe_tup (pa_cons pe_int (pa_cons (pe_lst (pa_cons pe_int pa_nil)) pa_nil))) pa_nil)))))))))))))))
      (pss_cons (ps_set (i := 3) sc__law_no_log.nd rfl (Or.inl rfl) (pe_lst (pa_cons pe_non (pa_cons (Cr.pe_tup pa_nil) (pa_cons (pe_callTy (k_tup (K := K) rfl) (by rfl) T.z_tuple (by decide +kernel) (pa_cons (pv 1) pa_nil)) (pa_cons pe_dnewK (pa_cons pe_str (pa_cons pe_int (pa_cons pe_bl (pa_cons (Cr.pe_tup (pa_cons (Cr.pe_tup (pa_cons pe_int (pa_cons pe_int pa_nil))) pa_nil)) pa_nil))))))))))
      (pss_cons (ps_set (i := 4) sc__law_no_log.nd rfl (Or.inl rfl) (pe_call G__law_pick (hr.mono (by decide)) (by rfl) T.m__law_pick T.F__law_pick.kp T.b__law_pick .nil pass0 (pa_cons (pv 0) (pa_cons (pe_op (k_addU (K := K) rfl) (pe_callB (k_len (K := K) rfl) (by rfl) T.z_len (by decide +kernel) (pa_cons (pv 1) pa_nil)) pe_int) pa_nil))))
      (pss_cons (ps_if (pt_cmpR (k_eqD (K := K) rfl hr.units) (pe_call G__law_pick (hr.mono (by decide)) (by rfl) T.m__law_pick T.F__law_pick.kp T.b__law_pick .nil pass0 (pa_cons (pv 0) (pa_cons pe_int pa_nil))) pe_int (nomark _)) (pss_one (ps_ret (pe_ix (k_ix (K := K) rfl) (pv 3) (pe_call G__law_pick (hr.mono (by decide)) (by rfl) T.m__law_pick T.F__law_pick.kp T.b__law_pick .nil pass0 (pa_cons (pv 0) (pa_cons pe_int pa_nil))) (fun _ _ => rfl)))) pss_nil)
      (pss_one (ps_ret (pe_op (k_addU (K := K) rfl) (pe_op (k_addU (K := K) rfl) (pe_slice (k_sl (K := K) rfl) (pv 1) po_none (po_some (pv 4))) (pe_lst (pa_cons (pe_ix (k_ix (K := K) rfl) (pv 2) (pe_call G__law_pick (hr.mono (by decide)) (by rfl) T.m__law_pick T.F__law_pick.kp T.b__law_pick .nil pass0 (pa_cons (pv 0) (pa_cons pe_int pa_nil))) (fun _ _ => rfl)) pa_nil))) (pe_slice (k_sl (K := K) rfl) (pv 1) (po_some (pv 4)) po_none)))))))), fun q sls n c Φ A0 σ Q hR hA fin => ?_⟩
  obtain ⟨rfl, p, cs, rfl, hl, rfl, rfl⟩ := hR
  have t2 : ∀ {δ : List Sl} {ta tb : TE} {a b : PyData}, E (some p) δ ta a → E (some p) δ tb b → E (some p) δ (Cr.tTup (tCons ta (tCons tb tNil))) (.tuple [a, b]) := fun h1 h2 => e_tup (ds := [_, _]) (ae_cons h1 (ae_cons h2 ae_nil))
  refine q_asgE (i := 2) (d := .list badC) (e_lst (hl := by simp [badC]) (ds := badC) (ae_cons e_non (ae_cons e_int (ae_cons (e_tup (ds := []) ae_nil) (ae_cons (e_tup (ds := [.int 1]) (ae_cons e_int ae_nil)) (ae_cons (e_tup (ds := [.int 1, .int 2, .int 3]) (ae_cons e_int (ae_cons e_int (ae_cons e_int ae_nil)))) (ae_cons (e_lst (ds := [.int 1, .int 2]) (ae_cons e_int (ae_cons e_int ae_nil))) (ae_cons e_str (ae_cons (t2 e_non e_int) (ae_cons (t2 e_int e_non) (ae_cons (t2 e_bl e_int) (ae_cons (t2 e_int e_bl) (ae_cons (t2 e_str e_int) (ae_cons (t2 e_int (e_lst (ds := [.int 1]) (ae_cons e_int ae_nil))) ae_nil)))))))))))))) hA fun σ1 Hk1 H1 g1 a1 => ?_
  refine q_asgE (i := 3) (d := .list [.none, .tuple [], .tuple (pd cs), .dict [], .str "log", .int 0, .bool true, .tuple [pr (1, 1)]]) (e_lst (ds := [.none, .tuple [], .tuple (pd cs), .dict [], .str "log", .int 0, .bool true, .tuple [pr (1, 1)]]) (ae_cons e_non (ae_cons (e_tup (ds := []) ae_nil) (ae_cons (e_tupL (ds := pd cs) (e_var rfl)) (ae_cons e_dnew (ae_cons e_str (ae_cons e_int (ae_cons e_bl (ae_cons (e_tup (ds := [pr (1, 1)]) (ae_cons (e_pr e_int e_int) ae_nil)) ae_nil))))))))) a1 fun σ2 Hk2 H2 g2 a2 => ?_
  refine q_asg (i := 4) (n := n + 2) (c := 1) (Φ := IntP fun x => 0 ≤ x ∧ x < (cs.length : Int) + 1) (j_pick rfl (e_addI (e_is (e_lenL (ds := pd cs) (e_var rfl)) (d1 := .int (cs.length : Int)) (by rw [pd_len])) e_int) (by omega) (by omega)) a2 fun d σ3 Hk3 H3 ⟨x, hx, ed⟩ g3 a3 => ?_
  subst ed
  obtain ⟨s, rfl⟩ : ∃ s : Nat, x = (s : Int) := ⟨x.toNat, by omega⟩
  refine q_when (n := n + 1) (c := 1) (P := fun _ => True) (tj_test (j_eqDI (Φ := BoolP fun _ => True) (j_pick rfl e_int (by omega) (by omega)) e_int.intP fun i j _ _ => ⟨i == j, trivial, rfl⟩)) a3 (fun _ Hk4 H4 g4 a4 => ?_) (fun _ Hk4 H4 g4 a4 => ?_)
  · refine s_ret (n := n) (c := 1) (Φ := fun d => isChsD d = false ∧ OkL d) (j_ixOf (ds := [.none, .tuple [], .tuple (pd cs), .dict [], .str "log", .int 0, .bool true, .tuple [pr (1, 1)]]) (e_var rfl) ((j_pick (b := 8) rfl e_int (by omega) (by omega)).intImp (by omega) fun x hx => ⟨hx.1, by show x < ((8 : Nat) : Int); have := hx.2; omega⟩) fun d hd => ?_) a4 (by omega) fin fun d h => h
    simp only [List.mem_cons, List.not_mem_nil, or_false] at hd
    rcases hd with rfl | rfl | rfl | rfl | rfl | rfl | rfl | rfl <;> exact ⟨rfl, rfl, fun ds e => by cases e⟩
  · refine s_ret (n := n) (c := 1) (Φ := fun d => ∃ ds, (∃ b, (isChangeD b = false ∧ deep 1 b = true) ∧ ds = (pd cs).take s ++ [b] ++ (pd cs).drop s) ∧ d = .list ds) (j_catLL (c1 := 1) (c2 := 0) (P1 := fun ds => ∃ b, (isChangeD b = false ∧ deep 1 b = true) ∧ ds = (pd cs).take s ++ [b]) (P2 := fun ds => ds = (pd cs).drop s) (j_catLL (c1 := 0) (c2 := 1) (P1 := fun ds => ds = (pd cs).take s) (P2 := fun ds => ∃ b, (isChangeD b = false ∧ deep 1 b = true) ∧ ds = [b]) ((e_slL (ds := pd cs) (e_var rfl) to_none (to_some (e_var rfl))).imp fun d e => ⟨_, rfl, by rw [e, cutD_to]⟩) (j_lst (Ψ := fun ds => ∃ b, (isChangeD b = false ∧ deep 1 b = true) ∧ ds = [b]) (aj_cons (c1 := 1) (c2 := 0) (Φ1 := fun d => isChangeD d = false ∧ deep 1 d = true) (Φr := fun sls => sls = []) (j_ixOf (ds := badC) (e_var rfl) ((j_pick (b := 13) rfl e_int (by omega) (by omega)).intImp (by omega) fun x hx => ⟨hx.1, by show x < ((13 : Nat) : Int); have := hx.2; omega⟩) fun d hd => badC_no hd) ae_nil fun d sls hd e => ⟨[d], by rw [e]; rfl, by simp, d, hd, rfl⟩)) fun f g h1 ⟨b, hb, h2⟩ => ⟨by rw [h1, h2, List.length_take, pd_len]; simp; omega, b, hb, by rw [h1, h2]⟩) ((e_slL (ds := pd cs) (e_var rfl) (to_some (e_var rfl)) to_none).imp fun d e => ⟨_, rfl, by rw [e, cutD_from]⟩) fun f g ⟨b, hb, h1⟩ h2 => ⟨by rw [h1, h2, List.length_append, List.length_take, List.length_drop, pd_len]; simp; omega, b, hb, by rw [h1, h2]⟩) a4 (by omega) fin fun d ⟨ds, ⟨b, hb, eds⟩, e⟩ => ?_
    subst e; subst eds
    refine ⟨Bool.eq_false_iff.mpr fun z => ?_, rfl, fun ds e => ?_⟩
    · have := List.all_eq_true.mp (show ((pd cs).take s ++ [b] ++ (pd cs).drop s).all isChangeD = true from z) b (by simp)
      rw [hb.1] at this
      cases this
    · cases e
      refine ⟨by rw [List.length_append, List.length_append, List.length_take, List.length_drop, pd_len]; simp; omega, fun x hx => ?_⟩
      have hp := List.all_eq_true.mp (deep_pd 1 cs)
      rcases List.mem_append.mp hx with z | z
      · rcases List.mem_append.mp z with y | y
        · exact hp x (List.mem_of_mem_take y)
        · rw [List.mem_singleton.mp y]; exact hb.2
      · exact hp x (List.mem_of_mem_drop z)
/-! ### check_changes -/
def R_check_changes : RelX := fun _ sls c Φ => c = 0 ∧ ∃ cs : List (Int × Int), cs.length ≤ 100000 ∧ sls = [.dat (.list (pd cs))] ∧ Φ = fun x => x = .none
theorem ok_check_changes (T : Tx K mg) : FnOk P w K mg base CX0 3 T.a_check_changes T.fd_check_changes P_check_changes (spX R_check_changes) := by
  have G_is_change := ok_is_change (P := P) (w := w) (base := base) T
  refine fn_ok T.F_check_changes sc_check_changes (by decide) (fun q sls c Φ h => by obtain ⟨_, l, _, rfl, _⟩ := h; rfl) fun cdv A outer s B0 Ew hr => ⟨_,
    (pss_one (ps_if (PW.pt (pw_or (pt_not (pt_val (pe_callB (k_isi (K := K) rfl) (by rfl) T.z_isinstance (by decide +kernel) (pa_cons (pv 0) (pa_cons (pe_bltn (v := .ty "list") (by rfl) T.z_list (by decide +kernel) rfl) pa_nil))))) (pw_or1 (pt_not (pt_val (pe_callB (k_all (K := K) rfl rfl) (by rfl) T.z_all (by decide +kernel) (pa_cons (pe_lc (own := [("change", 1)]) rfl sc_check_changes.nd (k_piList (K := K) rfl (pv 0)) (blkOk_by (own := [("change", 1)]) (N := N_check_changes) (sc := defScope s_check_changes) (by decide +kernel)) (fun _ _ _ _ _ => (pg_name (i := 1) sc_check_changes.nd rfl (Or.inl rfl))) (fun _ _ _ _ _ => pts_nil) (fun _ _ _ _ _ => (pe_call G_is_change (hr.mono (by decide)) (by rfl) T.m_is_change T.F_is_change.kp T.b_is_change .nil pass0 (pa_cons (pv 1) pa_nil)))) pa_nil))))))) (pss_one ps_never) pss_nil)), fun q sls n c Φ A0 σ Q hR hA fin => ?_⟩
  obtain ⟨rfl, l, hl, rfl, rfl⟩ := hR
  exact s_ifNo (tb_is (tb_or (b := false) (tb_not (tb_B (e_isi (e_var rfl) (kit_list _)))) fun _ => tb_is (tb_not (tb_B (e_is (e_all (bs := l.map fun x => isChangeD (pr x)) (e_is (e_lc1 (vs := [1]) (emb := pr) (xs := l) (ie_lst (e_var rfl)) (fun x => .bool (isChangeD (pr x))) (by omega) fun x hx => ⟨_, gb_name (by simp), j_call (R := R_is_change K) (ae_cons (e_var rfl) ae_nil) fun sls e => ⟨rfl, pr x, deep_pr 1 x, e, rfl⟩⟩) (by rw [bools_map]))) (by rw [all_id_map])))) (by have h : (l.all fun x => isChangeD (pr x)) = true := List.all_eq_true.mpr fun x _ => rfl; rw [h]; rfl)) rfl) hA fun Hk' H2 g a => s_end a (Nat.le_refl _) fin rfl
/-! ### check_changes, where it raises -/
def B_check_changes : RelE := fun _ sls c x => c = 0 ∧ ∃ d, OkL d ∧ isChsD d = false ∧ sls = [.dat d] ∧ x = "InvalidChanges"
theorem ox_check_changes (T : Tx K mg) : FnOk P w K mg base (L2.CX P w) 3 T.a_check_changes T.fd_check_changes P_check_changes (spE mg B_check_changes) := by
  have G_is_change := ok_is_change (P := P) (w := w) (base := base) T
  refine fn_okE T.F_check_changes sc_check_changes (by decide) (fun q sls c x h => by obtain ⟨_, d, _, _, rfl, _⟩ := h; rfl) fun cdv A outer s B0 Ew hr => ⟨_,
    (pss_one (ps_if (PW.pt (pw_or (pt_not (pt_val (pe_callB (k_isi (K := K) rfl) (by rfl) T.z_isinstance (by decide +kernel) (pa_cons (pv 0) (pa_cons (pe_bltn (v := .ty "list") (by rfl) T.z_list (by decide +kernel) rfl) pa_nil))))) (pw_or1 (pt_not (pt_val (pe_callB (k_all (K := K) rfl rfl) (by rfl) T.z_all (by decide +kernel) (pa_cons (pe_lc (own := [("change", 1)]) rfl sc_check_changes.nd (k_piList (K := K) rfl (pv 0)) (blkOk_by (own := [("change", 1)]) (N := N_check_changes) (sc := defScope s_check_changes) (by decide +kernel)) (fun _ _ _ _ _ => (pg_name (i := 1) sc_check_changes.nd rfl (Or.inl rfl))) (fun _ _ _ _ _ => pts_nil) (fun _ _ _ _ _ => (pe_call G_is_change (hr.mono (by decide)) (by rfl) T.m_is_change T.F_is_change.kp T.b_is_change .nil pass0 (pa_cons (pv 1) pa_nil)))) pa_nil))))))) (pss_one (ps_raise rfl (takes_of (E := Ew) rfl rfl rfl rfl) (pmk_own0 PySem.F.excBase_ValueError T.x_InvalidChanges T.g_InvalidChanges T.k_InvalidChanges (raises_own T.u_InvalidChanges T.t_InvalidChanges) rfl))) pss_nil)), fun q sls n c x A0 σ Q hR hA fin => ?_⟩
  obtain ⟨rfl, d, ⟨htop, hlst⟩, hd, rfl, rfl⟩ := hR
  refine s_ifB (b := true) ?_ hA (fun _ Hk1 H1 g1 a1 => s_raise fin a1 (Nat.le_refl _) T.g_InvalidChanges) (fun h => by cases h)
  by_cases ht : isiLst d = true
  · obtain ⟨ds, rfl⟩ : ∃ ds, d = .list ds := by
      cases d with
      | list ds => exact ⟨ds, rfl⟩
      | _ => cases ht
    obtain ⟨hl, hx⟩ := hlst ds rfl
    have hd2 : ds.all isChangeD = false := hd
    exact tb_is (tb_or (a := false) (b := true) (tb_is (tb_not (tb_B (e_isi (e_var rfl) (kit_list _)))) rfl) fun _ => tb_is (tb_not (tb_B (e_is (e_all (bs := ds.map isChangeD) (e_is (e_lc1 (vs := [1]) (emb := id) (xs := ds) (by rw [List.map_id]; exact ie_lst (e_var rfl)) (fun x => .bool (isChangeD x)) (by omega) fun x hm => ⟨_, gb_name (by simp), j_call (R := R_is_change K) (ae_cons (e_var rfl) ae_nil) fun sls e => ⟨rfl, x, hx x hm, e, rfl⟩⟩) (by rw [bools_map]))) (by rw [all_id_map])))) (by rw [hd2]; rfl)) rfl
  · have hf : isiLst d = false := by simpa using ht
    exact tb_is (tb_or (a := true) (b := true) (tb_is (tb_not (tb_B (e_isi (e_var rfl) (kit_list d) htop))) (by rw [hf]; rfl)) fun h => by cases h) rfl
/-! ### summed -/
def R_summed : RelX := fun _ sls c Φ => c = 0 ∧ ∃ cs : List (Int × Int), cs.length ≤ 100000 ∧ sls = [.dat (.list (pd cs))] ∧ Φ = fun x => x = led (gather cs)
theorem ok_summed (T : Tx K mg) : FnOk P w K mg base CX0 1 T.a_summed T.fd_summed P_summed (spX R_summed) := by
  refine fn_ok T.F_summed sc_summed (by decide) (fun q sls c Φ h => by obtain ⟨_, l, _, rfl, _⟩ := h; rfl) fun cdv A outer s B0 Ew hr => ?_
  have hu := hu_of hr
  refine ⟨_,
    (pss_cons (ps_set (i := 1) sc_summed.nd rfl (Or.inr rfl) pe_dnewK)
      (pss_cons (ps_for PassesOwn.never rfl (k_piList (K := K) rfl (pv 0)) (k_pgTup (K := K) (n := 2) rfl rfl (pgs_cons (pg_name (i := 2) sc_summed.nd rfl (Or.inl rfl)) (pgs_cons (pg_name (i := 3) sc_summed.nd rfl (Or.inl rfl)) pgs_nil))) (pss_one (ps_dput hu (pv 1) (pv 2) (pe_op (k_addU (K := K) rfl) (pe_dget2 hu (pv 1) (pv 2) pe_int ⟨rfl, rfl, rfl, rfl⟩) (pv 3)) rfl)))
      (pss_one (ps_ret (pe_callTy (k_tup (K := K) rfl) (by rfl) T.z_tuple (by decide +kernel) (pa_cons (pe_lc (own := [("key", 2)]) rfl sc_summed.nd (k_piList (K := K) rfl (pe_callB (call_sortedDIa rfl) (by rfl) T.z_sorted (by decide +kernel) (pa_cons (pv 1) pa_nil))) (blkOk_by (own := [("key", 2)]) (N := N_summed) (sc := defScope s_summed) (by decide +kernel)) (fun _ _ _ _ _ => (pg_name (i := 2) sc_summed.nd rfl (Or.inl rfl))) (fun _ _ _ _ _ => (pts_one (pt_cmpR (k_neD (K := K) rfl hr.units) (pe_dget hu (pv 1) (pv 2) (fun _ _ => rfl)) pe_int (nomark _)))) (fun _ _ _ _ _ => (Cr.pe_tup (pa_cons (pv 2) (pa_cons (pe_dget hu (pv 1) (pv 2) (fun _ _ => rfl)) pa_nil))))) pa_nil)))))), fun q sls n c Φ A0 σ Q hR hA fin => ?_⟩
  obtain ⟨rfl, l, hl, rfl, rfl⟩ := hR
  exact read_summed l hl hA fin
/-! ### ledger_after -/
def R_ledger_after : RelX := fun _ sls c Φ => c = 0 ∧ ∃ l cs : List (Int × Int), Led l ∧ l.length ≤ 1000 ∧ cs.length ≤ 1000 ∧ sls = [.dat (led l), .dat (.list (pd cs))] ∧ Φ = fun x => x = led (gather (l ++ cs))
theorem ok_ledger_after (T : Tx K mg) : FnOk P w K mg base CX0 5 T.a_ledger_after T.fd_ledger_after P_ledger_after (spX R_ledger_after) := by
  have G_check_changes := ok_check_changes (P := P) (w := w) (base := base) T
  have G_check_ledger := ok_check_ledger (P := P) (w := w) (base := base) T
  have G_summed := ok_summed (P := P) (w := w) (base := base) T
  refine fn_ok T.F_ledger_after sc_ledger_after (by decide) (fun q sls c Φ h => by obtain ⟨_, l, cs, _, _, _, rfl, _⟩ := h; rfl) fun cdv A outer s B0 Ew hr => ⟨_,
    (pss_cons (ps_expr (pe_call G_check_ledger (hr.mono (by decide)) (by rfl) T.m_check_ledger T.F_check_ledger.kp T.b_check_ledger .nil pass0 (pa_cons (pv 0) pa_nil)))
      (pss_cons (ps_expr (pe_call G_check_changes (hr.mono (by decide)) (by rfl) T.m_check_changes T.F_check_changes.kp T.b_check_changes .nil pass0 (pa_cons (pv 1) pa_nil)))
      (pss_one (ps_ret (pe_call G_summed (hr.mono (by decide)) (by rfl) T.m_summed T.F_summed.kp T.b_summed .nil pass0 (pa_cons (pe_op (k_addU (K := K) rfl) (pe_callTy (k_lst (K := K) rfl) (by rfl) T.z_list (by decide +kernel) (pa_cons (pv 0) pa_nil)) (pv 1)) pa_nil)))))), fun q sls n c Φ A0 σ Q hR hA fin => ?_⟩
  obtain ⟨rfl, l, cs, hL, hl, hc, rfl, rfl⟩ := hR
  refine q_drop (j_call (R := R_check_ledger) (ae_cons (e_var rfl) ae_nil) fun sls e => ⟨rfl, l, hL, by omega, e, rfl⟩) hA fun Hk1 H1 g1 a1 => ?_
  refine q_drop (j_call (R := R_check_changes) (ae_cons (e_var rfl) ae_nil) fun sls e => ⟨rfl, cs, by omega, e, rfl⟩) a1 fun Hk2 H2 g2 a2 => ?_
  refine s_retE (d := led (gather (l ++ cs))) ?_ a2 (Nat.le_refl _) fin rfl
  refine j_call (R := R_summed) (ae_cons (d := .list (pd (l ++ cs))) (e_is (e_catL (e_lstT (e_var rfl)) (e_var rfl) (by rw [pd_len, pd_len]; omega)) (by unfold pd; rw [← List.map_append])) ae_nil) fun sls e => ⟨rfl, _, by rw [List.length_append]; omega, e, rfl⟩
/-! ### ledger_after, where it raises -/
theorem ck_changes {mg : Str → Option Value} {q : Option Addr} {δ : List Sl} {te : TE} {d : PyData} {E0 : XK} (h : isChsD d = true) (o : OkL d) (ed : E q δ te d) : E q δ (tCall (spU (spX R_check_changes) (spE mg B_check_changes)) [] E0 (tCons te tNil)) .none := by
  obtain ⟨ds, rfl⟩ : ∃ ds, d = .list ds := by
    cases d with
    | list ds => exact ⟨ds, rfl⟩
    | _ => cases h
  obtain ⟨l, rfl⟩ := changes_pd (ds := ds) h
  exact j_callU (R := R_check_changes) (c := 0) (ae_cons ed ae_nil) fun sls e => ⟨rfl, l, by have := (o.2 _ rfl).1; rwa [pd_len] at this, e, rfl⟩
def B_ledger_after (K : PySem.W.Frag) : RelE := fun _ sls c x => c = 0 ∧ ∃ d0 d1, Odd K d0 ∧ OkL d1 ∧ sls = [.dat d0, .dat d1] ∧ ((isLedD d0 = false ∧ x = "InvalidLedger") ∨ (isLedD d0 = true ∧ isChsD d1 = false ∧ x = "InvalidChanges"))
theorem ox_ledger_after (T : Tx K mg) : FnOk P w K mg base (L2.CX P w) 5 T.a_ledger_after T.fd_ledger_after P_ledger_after (spE mg (B_ledger_after K)) := by
  have U_check_changes := fn_or (fn_lift (ok_check_changes (P := P) (w := w) (base := base) T)) (ox_check_changes (P := P) (w := w) (base := base) T)
  have U_check_ledger := fn_or (fn_lift (ok_check_ledger (P := P) (w := w) (base := base) T)) (ox_check_ledger (P := P) (w := w) (base := base) T)
  refine fn_okE T.F_ledger_after sc_ledger_after (by decide) (fun q sls c x h => by obtain ⟨_, d0, d1, _, _, rfl, _⟩ := h; rfl) fun cdv A outer s B0 Ew hr => ⟨_,
    (pss_cons (ps_expr (pe_call U_check_ledger (hr.mono (by decide)) (by rfl) T.m_check_ledger T.F_check_ledger.kp T.b_check_ledger .nil (passes_call (W := fun cls d _ H => Ew cls d H) (E := Ew) (takes_of rfl rfl rfl rfl) fun _ _ _ _ h => h) (pa_cons (pv 0) pa_nil)))
      (pss_cons (ps_expr (pe_call U_check_changes (hr.mono (by decide)) (by rfl) T.m_check_changes T.F_check_changes.kp T.b_check_changes .nil (passes_call (W := fun cls d _ H => Ew cls d H) (E := Ew) (takes_of rfl rfl rfl rfl) fun _ _ _ _ h => h) (pa_cons (pv 1) pa_nil)))
      (pss_one ps_never))), fun q sls n c x A0 σ Q hR hA fin => ?_⟩
  obtain ⟨rfl, d0, d1, o0, o1, rfl, h⟩ := hR
  rcases h with ⟨h0, rfl⟩ | ⟨h0, h1, rfl⟩
  · exact q_dropR (rs_call (c := 0) (B := B_check_ledger K) (ae_cons (e_var rfl) ae_nil) fun sls es => ⟨rfl, d0, o0, h0, es, rfl⟩) hA (Nat.le_refl _) (fin_w fin (Nat.le_refl _))
  · refine q_drop (ck_ledger h0 o0 (e_var rfl)) hA fun Hk1 H1 g1 a1 => ?_
    exact q_dropR (rs_call (c := 0) (B := B_check_changes) (ae_cons (e_var rfl) ae_nil) fun sls es => ⟨rfl, d1, o1, h1, es, rfl⟩) a1 (Nat.le_refl _) (fin_w fin (Nat.le_refl _))
/-! ### less -/
def R_less : RelX := fun _ sls c Φ => c = 0 ∧ ∃ a b : List (Int × Int), (Led a ∧ a.length ≤ 1000) ∧ (Led b ∧ b.length ≤ 1000) ∧ sls = [.dat (led a), .dat (led b)] ∧ Φ = fun x => x = led (gather (a ++ b.map fun x => (x.1, -x.2)))
theorem ok_less (T : Tx K mg) : FnOk P w K mg base CX0 5 T.a_less T.fd_less P_less (spX R_less) := by
  have G_check_ledger := ok_check_ledger (P := P) (w := w) (base := base) T
  have G_summed := ok_summed (P := P) (w := w) (base := base) T
  refine fn_ok T.F_less sc_less (by decide) (fun q sls c Φ h => by obtain ⟨_, a, b, _, _, rfl, _⟩ := h; rfl) fun cdv A outer s B0 Ew hr => ⟨_,
    (pss_cons (ps_expr (pe_call G_check_ledger (hr.mono (by decide)) (by rfl) T.m_check_ledger T.F_check_ledger.kp T.b_check_ledger .nil pass0 (pa_cons (pv 0) pa_nil)))
      (pss_cons (ps_expr (pe_call G_check_ledger (hr.mono (by decide)) (by rfl) T.m_check_ledger T.F_check_ledger.kp T.b_check_ledger .nil pass0 (pa_cons (pv 1) pa_nil)))
      (pss_one (ps_ret (pe_call G_summed (hr.mono (by decide)) (by rfl) T.m_summed T.F_summed.kp T.b_summed .nil pass0 (pa_cons (pe_op (k_addU (K := K) rfl) (pe_callTy (k_lst (K := K) rfl) (by rfl) T.z_list (by decide +kernel) (pa_cons (pv 0) pa_nil)) (pe_lc (own := [("key", 2), ("amount", 3)]) rfl sc_less.nd (k_piTup (K := K) rfl (pv 1)) (blkOk_by (own := [("key", 2), ("amount", 3)]) (N := N_less) (sc := defScope s_less) (by decide +kernel)) (fun _ _ _ _ _ => (k_pgTup (K := K) (n := 2) rfl rfl (pgs_cons (pg_name (i := 2) sc_less.nd rfl (Or.inl rfl)) (pgs_cons (pg_name (i := 3) sc_less.nd rfl (Or.inl rfl)) pgs_nil)))) (fun _ _ _ _ _ => pts_nil) (fun _ _ _ _ _ => (Cr.pe_tup (pa_cons (pv 2) (pa_cons (pe_un un_neg (pv 3)) pa_nil)))))) pa_nil)))))), fun q sls n c Φ A0 σ Q hR hA fin => ?_⟩
  obtain ⟨rfl, a, b, ⟨hA1, hA2⟩, ⟨hB1, hB2⟩, rfl, rfl⟩ := hR
  refine q_drop (j_call (R := R_check_ledger) (ae_cons (e_var rfl) ae_nil) fun sls e => ⟨rfl, a, hA1, by omega, e, rfl⟩) hA fun Hk1 H1 g1 a1 => ?_
  refine q_drop (j_call (R := R_check_ledger) (ae_cons (e_var rfl) ae_nil) fun sls e => ⟨rfl, b, hB1, by omega, e, rfl⟩) a1 fun Hk2 H2 g2 a2 => ?_
  refine s_retE (d := led (gather (a ++ b.map fun x => (x.1, -x.2)))) ?_ a2 (Nat.le_refl _) fin rfl
  refine j_call (R := R_summed) (ae_cons (d := .list (pd (a ++ b.map fun x => (x.1, -x.2)))) (e_is (e_catL (e_lstT (e_var rfl)) (e_lcPd (ie_tup (e_var rfl)) (fun x => (x.1, -x.2)) (by omega) fun x hx => e_pr (e_var rfl) (e_un (e_var rfl))) (by rw [pd_len, pd_len, List.length_map]; omega)) (by unfold pd; rw [← List.map_append])) ae_nil) fun sls e => ⟨rfl, _, by rw [List.length_append, List.length_map]; omega, e, rfl⟩
/-! ### less, where it raises -/
def B_less (K : PySem.W.Frag) : RelE := fun _ sls c x => c = 0 ∧ ∃ d0 d1, Odd K d0 ∧ Odd K d1 ∧ sls = [.dat d0, .dat d1] ∧ ((isLedD d0 = false ∧ x = "InvalidLedger") ∨ (isLedD d0 = true ∧ isLedD d1 = false ∧ x = "InvalidLedger"))
theorem ox_less (T : Tx K mg) : FnOk P w K mg base (L2.CX P w) 5 T.a_less T.fd_less P_less (spE mg (B_less K)) := by
  have U_check_ledger := fn_or (fn_lift (ok_check_ledger (P := P) (w := w) (base := base) T)) (ox_check_ledger (P := P) (w := w) (base := base) T)
  refine fn_okE T.F_less sc_less (by decide) (fun q sls c x h => by obtain ⟨_, d0, d1, _, _, rfl, _⟩ := h; rfl) fun cdv A outer s B0 Ew hr => ⟨_,
    (pss_cons (ps_expr (pe_call U_check_ledger (hr.mono (by decide)) (by rfl) T.m_check_ledger T.F_check_ledger.kp T.b_check_ledger .nil (passes_call (W := fun cls d _ H => Ew cls d H) (E := Ew) (takes_of rfl rfl rfl rfl) fun _ _ _ _ h => h) (pa_cons (pv 0) pa_nil)))
      (pss_cons (ps_expr (pe_call U_check_ledger (hr.mono (by decide)) (by rfl) T.m_check_ledger T.F_check_ledger.kp T.b_check_ledger .nil (passes_call (W := fun cls d _ H => Ew cls d H) (E := Ew) (takes_of rfl rfl rfl rfl) fun _ _ _ _ h => h) (pa_cons (pv 1) pa_nil)))
      (pss_one ps_never))), fun q sls n c x A0 σ Q hR hA fin => ?_⟩
  obtain ⟨rfl, d0, d1, o0, o1, rfl, h⟩ := hR
  rcases h with ⟨h0, rfl⟩ | ⟨h0, h1, rfl⟩
  · exact q_dropR (rs_call (c := 0) (B := B_check_ledger K) (ae_cons (e_var rfl) ae_nil) fun sls es => ⟨rfl, d0, o0, h0, es, rfl⟩) hA (Nat.le_refl _) (fin_w fin (Nat.le_refl _))
  · refine q_drop (ck_ledger h0 o0 (e_var rfl)) hA fun Hk1 H1 g1 a1 => ?_
    exact q_dropR (rs_call (c := 0) (B := B_check_ledger K) (ae_cons (e_var rfl) ae_nil) fun sls es => ⟨rfl, d1, o1, h1, es, rfl⟩) a1 (Nat.le_refl _) (fin_w fin (Nat.le_refl _))
/-! ### short_log -/
def R_short_log : RelN := fun sls es => ∃ a b : List (Int × Int), (Led a ∧ a.length ≤ 1000) ∧ (Led b ∧ b.length ≤ 1000) ∧ sls = [.dat (led a), .dat (led b)] ∧ es = pd (gather (b ++ a.map fun x => (x.1, -x.2)))
theorem ok_short_log (T : Tx K mg) : FnOk P w K mg base CX0 6 T.a_short_log T.fd_short_log P_short_log (spN R_short_log) := by
  have G_less := ok_less (P := P) (w := w) (base := base) T
  refine fn_okN T.F_short_log sc_short_log (by decide) (fun sls es h => by obtain ⟨a, b, _, _, rfl, _⟩ := h; rfl) fun cdv A outer s B0 Ew hr => ⟨_,
    (pss_one (ps_ret (pe_callTy (k_lst (K := K) rfl) (by rfl) T.z_list (by decide +kernel) (pa_cons (pe_call G_less (hr.mono (by decide)) (by rfl) T.m_less T.F_less.kp T.b_less .nil pass0 (pa_cons (pv 1) (pa_cons (pv 0) pa_nil))) pa_nil)))), fun q sls n es A0 σ Q hR hA fin => ?_⟩
  obtain ⟨a, b, hA1, hB1, rfl, rfl⟩ := hR
  exact s_retN (lstTN (j_call (R := R_less) (c := 0) (Φ := fun d => d = led (gather (b ++ a.map fun x => (x.1, -x.2)))) (ae_cons (e_var rfl) (ae_cons (e_var rfl) ae_nil)) fun sls e => ⟨rfl, b, a, hB1, hA1, e, rfl⟩)) hA (Nat.le_refl _) fin
/-! ### short_log, where it raises -/
def B_short_log (K : PySem.W.Frag) : RelE := fun q sls c x => ∃ d0 d1, sls = [.dat d0, .dat d1] ∧ B_less K q [.dat d1, .dat d0] c x
theorem ox_short_log (T : Tx K mg) : FnOk P w K mg base (L2.CX P w) 6 T.a_short_log T.fd_short_log P_short_log (spE mg (B_short_log K)) := by
  have U_less := fn_or (fn_lift (ok_less (P := P) (w := w) (base := base) T)) (ox_less (P := P) (w := w) (base := base) T)
  refine fn_okE T.F_short_log sc_short_log (by decide) (fun q sls c x h => by obtain ⟨d0, d1, rfl, _⟩ := h; rfl) fun cdv A outer s B0 Ew hr => ⟨_,
    (pss_one (ps_ret (pe_callTy (k_lst (K := K) rfl) (by rfl) T.z_list (by decide +kernel) (pa_cons (pe_call U_less (hr.mono (by decide)) (by rfl) T.m_less T.F_less.kp T.b_less .nil (passes_call (W := fun cls d _ H => Ew cls d H) (E := Ew) (takes_of rfl rfl rfl rfl) fun _ _ _ _ h => h) (pa_cons (pv 1) (pa_cons (pv 0) pa_nil))) pa_nil)))), fun q sls n c x A0 σ Q hR hA fin => ?_⟩
  obtain ⟨d0, d1, rfl, h⟩ := hR
  obtain ⟨rfl, _⟩ := id h
  exact s_retR (rs_cb (rs_call (c := 0) (c1 := 0) (B := B_less K) (ae_cons (e_var rfl) (ae_cons (e_var rfl) ae_nil)) fun sls es => by subst es; exact h)) hA (Nat.le_refl _) (fin_w fin (Nat.le_refl _))
/-! ### is_from -/
def R_is_from (K : PySem.W.Frag) : RelX := fun _ sls c Φ => c = 0 ∧ ∃ d j, Kn K d ∧ sls = [.dat d, .dat (.int j)] ∧ Φ = fun x => x = .bool (isFromD j d)
theorem ok_is_from (T : Tx K mg) : FnOk P w K mg base CX0 2 T.a_is_from T.fd_is_from P_is_from (spX (R_is_from K)) := by
  have G_is_an_integer := ok_is_an_integer (P := P) (w := w) (base := base) T
  refine fn_ok T.F_is_from sc_is_from (by decide) (fun q sls c Φ h => by obtain ⟨_, d, j, _, rfl, _⟩ := h; rfl) fun cdv A outer s B0 Ew hr => ⟨_,
    (pss_one (ps_ret (pe_and (pe_call G_is_an_integer (hr.mono (by decide)) (by rfl) T.m_is_an_integer T.F_is_an_integer.kp T.b_is_an_integer .nil pass0 (pa_cons (pv 0) pa_nil)) (pe_one (pe_cmpR op_ge (pv 0) (pv 1) (nomark _)))))), fun q sls n c Φ A0 σ Q hR hA fin => ?_⟩
  obtain ⟨rfl, d, j, kn, rfl, rfl⟩ := hR
  refine s_retE (d := .bool (isFromD j d)) ?_ hA (Nat.le_refl _) fin rfl
  by_cases h : isIntD d = true
  · obtain ⟨i, rfl⟩ : ∃ i, d = .int i := by
      cases d with
      | int i => exact ⟨i, rfl⟩
      | _ => cases h
    exact e_is (e_andV (a := true) (b := decide (j ≤ i)) (j_call (R := R_is_an_integer K) (ae_cons (e_var rfl) ae_nil) fun sls e => ⟨rfl, .int i, kn, e, rfl⟩) (fun _ => e_geI (e_var rfl) (e_var rfl))) rfl
  · have hf : isIntD d = false := by simpa using h
    have hz : isFromD j d = false := by cases d <;> first | rfl | cases hf
    rw [hz]
    exact e_andNo (e_is (j_call (R := R_is_an_integer K) (c := 0) (Φ := fun x => x = .bool (isIntD d)) (ae_cons (e_var rfl) ae_nil) fun sls e => ⟨rfl, d, kn, e, rfl⟩) (by rw [hf]))
/-! ### check_number -/
def R_check_number : RelX := fun _ sls c Φ => c = 0 ∧ ∃ i j, j ≤ i ∧ sls = [.dat (.int i), .dat (.int j)] ∧ Φ = fun x => x = .none
theorem ok_check_number (T : Tx K mg) : FnOk P w K mg base CX0 3 T.a_check_number T.fd_check_number P_check_number (spX R_check_number) := by
  have G_is_from := ok_is_from (P := P) (w := w) (base := base) T
  refine fn_ok T.F_check_number sc_check_number (by decide) (fun q sls c Φ h => by obtain ⟨_, i, j, _, rfl, _⟩ := h; rfl) fun cdv A outer s B0 Ew hr => ⟨_,
    (pss_one (ps_if (pt_not (pt_val (pe_call G_is_from (hr.mono (by decide)) (by rfl) T.m_is_from T.F_is_from.kp T.b_is_from .nil pass0 (pa_cons (pv 0) (pa_cons (pv 1) pa_nil))))) (pss_one ps_never) pss_nil)), fun q sls n c Φ A0 σ Q hR hA fin => ?_⟩
  obtain ⟨rfl, i, j, hij, rfl, rfl⟩ := hR
  exact s_ifNo (tb_is (tb_not (tb_B (j_call (R := R_is_from K) (ae_cons (e_var rfl) (ae_cons (e_var rfl) ae_nil)) fun sls e => ⟨rfl, .int i, j, .inl rfl, e, rfl⟩))) (by rw [show isFromD j (.int i) = decide (j ≤ i) from rfl, decide_eq_true hij]; rfl)) hA fun Hk' H2 g a => s_end a (Nat.le_refl _) fin rfl
/-! ### check_number, where it raises -/
def B_check_number (K : PySem.W.Frag) : RelE := fun _ sls c x => c = 0 ∧ ∃ d j, Kn K d ∧ isFromD j d = false ∧ sls = [.dat d, .dat (.int j)] ∧ x = "InvalidNumber"
theorem ck_number {K : PySem.W.Frag} {mg : Str → Option Value} {q : Option Addr} {δ : List Sl} {te : TE} {d : PyData} {E0 : XK} {j : Int} {tj : TE} (ej : E q δ tj (.int j)) (h : isFromD j d = true) (o : Odd K d) (ed : E q δ te d) : E q δ (tCall (spU (spX R_check_number) (spE mg (B_check_number K))) [] E0 (tCons te (tCons tj tNil))) .none := by
  obtain ⟨i, rfl⟩ : ∃ i, d = .int i := by
    cases d with
    | int i => exact ⟨i, rfl⟩
    | _ => cases h
  exact j_callU (R := R_check_number) (c := 0) (ae_cons ed (ae_cons ej ae_nil)) fun sls e => ⟨rfl, i, j, of_decide_eq_true h, e, rfl⟩
theorem ox_check_number (T : Tx K mg) : FnOk P w K mg base (L2.CX P w) 3 T.a_check_number T.fd_check_number P_check_number (spE mg (B_check_number K)) := by
  have G_is_from := ok_is_from (P := P) (w := w) (base := base) T
  refine fn_okE T.F_check_number sc_check_number (by decide) (fun q sls c x h => by obtain ⟨_, d, j, _, _, rfl, _⟩ := h; rfl) fun cdv A outer s B0 Ew hr => ⟨_,
    (pss_one (ps_if (pt_not (pt_val (pe_call G_is_from (hr.mono (by decide)) (by rfl) T.m_is_from T.F_is_from.kp T.b_is_from .nil pass0 (pa_cons (pv 0) (pa_cons (pv 1) pa_nil))))) (pss_one (ps_raise rfl (takes_of (E := Ew) rfl rfl rfl rfl) (pmk_own0 PySem.F.excBase_ValueError T.x_InvalidNumber T.g_InvalidNumber T.k_InvalidNumber (raises_own T.u_InvalidNumber T.t_InvalidNumber) rfl))) pss_nil)), fun q sls n c x A0 σ Q hR hA fin => ?_⟩
  obtain ⟨rfl, d, j, kn, hd, rfl, rfl⟩ := hR
  exact s_ifB (b := true) (tb_is (tb_not (tb_B (j_call (R := R_is_from K) (ae_cons (e_var rfl) (ae_cons (e_var rfl) ae_nil)) fun sls e => ⟨rfl, d, j, kn, e, rfl⟩))) (by rw [hd]; rfl)) hA (fun _ Hk1 H1 g1 a1 => s_raise fin a1 (Nat.le_refl _) T.g_InvalidNumber) (fun h => by cases h)
/-! ### first_sums -/
def R_first_sums : RelX := fun _ sls c Φ => c = 0 ∧ ∃ (l : List (Int × Int)) (m : Int) (A B : Nat), Kb A B l ∧ A ≤ 1000 ∧ 0 < A ∧ 0 < B ∧ B ≤ 100000 ∧ l.length ≤ 100000 ∧ 0 ≤ m ∧ m ≤ 400 ∧ sls = [.dat (led l), .dat (.int m)] ∧ Φ = fun d => d = pol (psums l m.toNat)
theorem ok_first_sums (T : Tx K mg) : FnOk P w K mg base CX0 1 T.a_first_sums T.fd_first_sums P_first_sums (spX R_first_sums) := by
  refine fn_ok T.F_first_sums sc_first_sums (by decide) (fun q sls c Φ h => by obtain ⟨_, l, m, A, B, _, _, _, _, _, _, _, _, rfl, _⟩ := h; rfl) fun cdv A outer s B0 Ew hr => ⟨_,
    (pss_cons (ps_set (i := 2) sc_first_sums.nd rfl (Or.inl rfl) (pe_lst pa_nil))
      (pss_cons (ps_setLc (i := 3) (own := [("key", 6), ("amount", 7)]) rfl sc_first_sums.nd rfl rfl (sw_true rfl rfl rfl (by decide +kernel)) (k_piTup (K := K) rfl (pv 0)) (blkOk_by (own := [("key", 6), ("amount", 7)]) (N := N_first_sums) (sc := defScope s_first_sums) (by decide +kernel)) (fun _ _ _ _ _ => (k_pgTup (K := K) (n := 2) rfl rfl (pgs_cons (pg_name (i := 6) sc_first_sums.nd rfl (Or.inl rfl)) (pgs_cons (pg_name (i := 7) sc_first_sums.nd rfl (Or.inl rfl)) pgs_nil)))) (fun _ _ _ _ _ => pts_nil) (fun _ _ _ _ _ => (pv 6)))
      (pss_cons (ps_setLc (i := 4) (own := [("key", 6), ("amount", 7)]) rfl sc_first_sums.nd rfl rfl (sw_true rfl rfl rfl (by decide +kernel)) (k_piTup (K := K) rfl (pv 0)) (blkOk_by (own := [("key", 6), ("amount", 7)]) (N := N_first_sums) (sc := defScope s_first_sums) (by decide +kernel)) (fun _ _ _ _ _ => (k_pgTup (K := K) (n := 2) rfl rfl (pgs_cons (pg_name (i := 6) sc_first_sums.nd rfl (Or.inl rfl)) (pgs_cons (pg_name (i := 7) sc_first_sums.nd rfl (Or.inl rfl)) pgs_nil)))) (fun _ _ _ _ _ => pts_nil) (fun _ _ _ _ _ => (pv 7)))
      (pss_cons (ps_for PassesOwn.never rfl (pi_range1 rfl T.z_range (pa_cons (pv 1) pa_nil)) (pg_name (i := 5) sc_first_sums.nd rfl (Or.inl rfl)) (pss_cons (ps_expr (pe_bm PySem.F.plainAttrs_list PySem.F.slot_list_append PySem.F.type_list_append mt_append (pv 2) (pa_cons (pe_callB (k_sum (K := K) rfl rfl) (by rfl) T.z_sum (by decide +kernel) (pa_cons (pv 4) pa_nil)) pa_nil)))
      (pss_one (ps_setLc (i := 4) (own := [("term", 8), ("key", 6)]) rfl sc_first_sums.nd rfl rfl (sw_true rfl rfl rfl (by decide +kernel)) (k_piZip (K := K) rfl rfl T.z_zip (pa_cons (pv 4) (pa_cons (pv 3) pa_nil))) (blkOk_by (own := [("term", 8), ("key", 6)]) (N := N_first_sums) (sc := defScope s_first_sums) (by decide +kernel)) (fun _ _ _ _ _ => (k_pgTup (K := K) (n := 2) rfl rfl (pgs_cons (pg_name (i := 8) sc_first_sums.nd rfl (Or.inl rfl)) (pgs_cons (pg_name (i := 6) sc_first_sums.nd rfl (Or.inl rfl)) pgs_nil)))) (fun _ _ _ _ _ => pts_nil) (fun _ _ _ _ _ => (pe_op op_mulU (pv 8) (pv 6)))))))
      (pss_one (ps_ret (pe_callTy (k_tup (K := K) rfl) (by rfl) T.z_tuple (by decide +kernel) (pa_cons (pv 2) pa_nil)))))))), fun q sls n c Φ A0 σ Q hR hA fin => ?_⟩
  obtain ⟨rfl, l, m, A, B, hK, hA1, hA0, hB0, hB1, hl, h0, h1, rfl, rfl⟩ := hR
  refine q_newL (i := 2) hA fun p H1 a1 cl1 => ?_
  refine q_asgE (i := 3) (d := .list ((l.map fun x : Int × Int => x.1).map .int)) (e_is (e_lc1 (vs := [6, 7]) (emb := pr) (xs := l) (ie_tup (e_var rfl)) (fun x => .int x.1) (by omega) fun x hx => ⟨_, gb_tup2 (by simp) (by simp), e_var rfl⟩) (by rw [List.map_map]; rfl)) a1 fun σ2 Hk2 H2 g2 a2 => ?_
  have cl2 := cl1.go g2
  refine q_asgE (i := 4) (d := .list ((tms l 0).map .int)) (e_is (e_lc1 (vs := [6, 7]) (emb := pr) (xs := l) (ie_tup (e_var rfl)) (fun x => .int x.2) (by omega) fun x hx => ⟨_, gb_tup2 (by simp) (by simp), e_var rfl⟩) (by rw [tms_zero, List.map_map]; rfl)) a2 fun σ3 Hk3 H3 g3 a3 => ?_
  have cl3 := cl2.go g3
  refine q_for (n := n) (c := 0) (ie_rng1 (e_var rfl) (by omega) (by omega)) a3 fun items HkW H4 e g4 a4 => ?_
  subst e
  refine ⟨fun i σ' Hk' H' => Same HkW Hk' ∧ At q n [.dat (led l), .dat (.int m), .adr p, .dat (.list ((l.map fun x : Int × Int => x.1).map .int)), .dat (.list ((tms l i).map .int)), .any, .any, .any, .any] A0 B0 σ' Hk' H' ∧ Cell q B0 Hk' H' p ((psums l i).map .int), ⟨Same.refl _, a4, cl3.go g4⟩, fun i σ' Hk' H' h => ⟨h.1, h.2.1.ok.a⟩, ?_, ?_⟩
  · rintro i d σ' Hk' H' ed ⟨h4, st, cl⟩ v Hk5 H5 g5 dv
    obtain ⟨hi, rfl⟩ := rng_get' ed
    refine gb_name (vs := [5]) (by simp) σ' Hk5 H5 v (st.sg.mono g5.k) g5.a dv _ fun σ2 sg2 _ _ => ?_
    have st2 : At q n _ A0 B0 σ2 Hk5 H5 := ⟨st.ok.go g5, sg2, st.gr.trans g5.none_to⟩
    refine q_append (n := n) (c := 0) (Φ := fun d => d = .int (psum l i)) (e_sum (e_var rfl)) st2 (cl.go g5.none_to) rfl (by rw [List.length_map, psums_len]; omega) fun d Hk6 H6 ed s6 a6 cl6 => ?_
    have hil : A * i ≤ A * 400 := Nat.mul_le_mul_left _ (by omega)
    have hil2 : A * 400 ≤ 1000 * 400 := Nat.mul_le_mul_right _ hA1
    refine s_asgE (i := 4) (d := .list ((tms l (i + 1)).map .int)) (e_is (e_lc1 (vs := [8, 6]) (emb := fun x => pr (x.2 * x.1 ^ i, x.1)) (xs := l) ((ie_zipL (e_var rfl) (e_var rfl)).is (zip_terms l i)) (fun x => .int (x.2 * x.1 ^ i * x.1)) (by omega) fun x hx => ⟨_, gb_tup2 (by simp) (by simp), e_mulI (e_var rfl) (e_var rfl) (wide_mul (tm_bits (hK x hx).1 (hK x hx).2 i) (hK x hx).1 (by omega) (by omega) (by omega))⟩) (by rw [tms_succ, List.map_map]; rfl)) a6 fun σ7 Hk7 H7 g7 a7 => ⟨Hk7, ((h4.trans g5.k).trans s6).trans g7.k, a7.forget 5, ?_⟩
    have cl7 := cl6.go g7
    rw [ed] at cl7
    rw [psums_succ, List.map_append]; exact cl7
  · rintro σ' Hk' H' ⟨h4, st, cl⟩
    rw [rng_len] at cl
    obtain ⟨Hk5, s5, st5⟩ := st.freeze (i := 2) cl rfl
    exact s_retE (d := pol (psums l m.toNat)) (e_tupL (e_var rfl)) st5 (Nat.le_refl _) fin rfl
/-! ### sums_behind -/
def R_sums_behind : RelX := fun _ sls c Φ => c = 0 ∧ ∃ (f : List Int) (x : Int × Int), f.length ≤ 400 ∧ x.1.natAbs < 2 ^ 60 ∧ x.2.natAbs < 2 ^ 60 ∧ sls = [.dat (pol f), .dat (pr x)] ∧ Φ = fun d => d = pol (wch f x.1 x.2)
theorem ok_sums_behind (T : Tx K mg) : FnOk P w K mg base CX0 2 T.a_sums_behind T.fd_sums_behind P_sums_behind (spX R_sums_behind) := by
  have G_first_sums := ok_first_sums (P := P) (w := w) (base := base) T
  refine fn_ok T.F_sums_behind sc_sums_behind (by decide) (fun q sls c Φ h => by obtain ⟨_, f, x, _, _, _, rfl, _⟩ := h; rfl) fun cdv A outer s B0 Ew hr => ⟨_,
    (pss_one (ps_ret (pe_callTy (k_tup (K := K) rfl) (by rfl) T.z_tuple (by decide +kernel) (pa_cons (pe_lc (own := [("number", 2), ("by", 3)]) rfl sc_sums_behind.nd (k_piZip (K := K) rfl rfl T.z_zip (pa_cons (pv 0) (pa_cons (pe_call G_first_sums (hr.mono (by decide)) (by rfl) T.m_first_sums T.F_first_sums.kp T.b_first_sums .nil pass0 (pa_cons (Cr.pe_tup (pa_cons (pv 1) pa_nil)) (pa_cons (pe_callB (k_len (K := K) rfl) (by rfl) T.z_len (by decide +kernel) (pa_cons (pv 0) pa_nil)) pa_nil))) pa_nil))) (blkOk_by (own := [("number", 2), ("by", 3)]) (N := N_sums_behind) (sc := defScope s_sums_behind) (by decide +kernel)) (fun _ _ _ _ _ => (k_pgTup (K := K) (n := 2) rfl rfl (pgs_cons (pg_name (i := 2) sc_sums_behind.nd rfl (Or.inl rfl)) (pgs_cons (pg_name (i := 3) sc_sums_behind.nd rfl (Or.inl rfl)) pgs_nil)))) (fun _ _ _ _ _ => pts_nil) (fun _ _ _ _ _ => (pe_op (k_addU (K := K) rfl) (pv 2) (pv 3)))) pa_nil)))), fun q sls n c Φ A0 σ Q hR hA fin => ?_⟩
  obtain ⟨rfl, f, x, hl, hk, hb, rfl, rfl⟩ := hR
  refine s_retE (d := pol (wch f x.1 x.2)) (e_tupL (e_is (e_lc1 (vs := [2, 3]) (emb := pr) (xs := f.zip (psums [(x.1, x.2)] f.length)) ((ie_zipT (e_var rfl) (j_call (R := R_first_sums) (c := 0) (Φ := fun d => d = pol (psums [(x.1, x.2)] f.length)) (ae_cons (e_is (e_tup (ds := [pr x]) (ae_cons (e_var rfl) ae_nil)) (d1 := led [(x.1, x.2)]) rfl) (ae_cons (e_is (e_lenT (e_var rfl)) (d1 := .int (f.length : Nat)) (by rw [pol_len])) ae_nil)) fun sls e => ⟨rfl, [(x.1, x.2)], (f.length : Nat), 60, 60, Kb.one hk hb, by omega, by omega, by omega, by omega, by simp, by omega, by omega, e, rfl⟩)).is (zipD_ints _ _)) (fun x => .int (x.1 + x.2)) ?_ fun x hx => ⟨_, gb_tup2 (by simp) (by simp), e_addI (e_var rfl) (e_var rfl)⟩) ?_)) hA (Nat.le_refl _) fin rfl
  · rw [List.length_zip]; omega
  · unfold wch; rw [List.map_map]; rfl
/-! ### sums_along -/
def R_sums_along : RelN := fun sls es => ∃ (l cs : List (Int × Int)) (m : Int), (Led l ∧ l.length ≤ 1000 ∧ Kb 60 60 l) ∧ (cs.length ≤ 1000 ∧ Kb 60 60 cs) ∧ (1 ≤ m ∧ m ≤ 400) ∧ sls = [.dat (led l), .dat (.list (pd cs)), .dat (.int m)] ∧ es = rowsA (psums l m.toNat) cs cs.length
theorem ok_sums_along (T : Tx K mg) : FnOk P w K mg base CX0 5 T.a_sums_along T.fd_sums_along P_sums_along (spN R_sums_along) := by
  have G_check_changes := ok_check_changes (P := P) (w := w) (base := base) T
  have G_check_ledger := ok_check_ledger (P := P) (w := w) (base := base) T
  have G_check_number := ok_check_number (P := P) (w := w) (base := base) T
  have G_first_sums := ok_first_sums (P := P) (w := w) (base := base) T
  have G_sums_behind := ok_sums_behind (P := P) (w := w) (base := base) T
  refine fn_okN T.F_sums_along sc_sums_along (by decide) (fun sls es h => by obtain ⟨a, b, m, _, _, _, rfl, _⟩ := h; rfl) fun cdv A outer s B0 Ew hr => ⟨_,
    (pss_cons (ps_expr (pe_call G_check_ledger (hr.mono (by decide)) (by rfl) T.m_check_ledger T.F_check_ledger.kp T.b_check_ledger .nil pass0 (pa_cons (pv 0) pa_nil)))
      (pss_cons (ps_expr (pe_call G_check_changes (hr.mono (by decide)) (by rfl) T.m_check_changes T.F_check_changes.kp T.b_check_changes .nil pass0 (pa_cons (pv 1) pa_nil)))
      (pss_cons (ps_expr (pe_call G_check_number (hr.mono (by decide)) (by rfl) T.m_check_number T.F_check_number.kp T.b_check_number .nil pass0 (pa_cons (pv 2) (pa_cons pe_int pa_nil))))
      (pss_cons (ps_set (i := 3) sc_sums_along.nd rfl (Or.inl rfl) (pe_lst (pa_cons (pe_call G_first_sums (hr.mono (by decide)) (by rfl) T.m_first_sums T.F_first_sums.kp T.b_first_sums .nil pass0 (pa_cons (pv 0) (pa_cons (pv 2) pa_nil))) pa_nil)))
      (pss_cons (ps_for PassesOwn.never rfl (k_piList (K := K) rfl (pv 1)) (pg_name (i := 4) sc_sums_along.nd rfl (Or.inl rfl)) (pss_one (ps_expr (pe_bm PySem.F.plainAttrs_list PySem.F.slot_list_append PySem.F.type_list_append mt_append (pv 3) (pa_cons (pe_call G_sums_behind (hr.mono (by decide)) (by rfl) T.m_sums_behind T.F_sums_behind.kp T.b_sums_behind .nil pass0 (pa_cons (pe_ix (k_ix (K := K) rfl) (pv 3) (pe_un un_neg pe_int) (fun _ _ => rfl)) (pa_cons (pv 4) pa_nil))) pa_nil)))))
      (pss_one (ps_ret (pv 3)))))))), fun q sls n es A0 σ Q hR hA fin => ?_⟩
  obtain ⟨l, cs, m, ⟨hL, hl, hK⟩, ⟨hcl, hcK⟩, ⟨hm1, hm2⟩, rfl, rfl⟩ := hR
  refine q_drop (j_call (R := R_check_ledger) (ae_cons (e_var rfl) ae_nil) fun sls e => ⟨rfl, l, hL, by omega, e, rfl⟩) hA fun Hk1 H1 g1 a1 => ?_
  refine q_drop (j_call (R := R_check_changes) (ae_cons (e_var rfl) ae_nil) fun sls e => ⟨rfl, cs, by omega, e, rfl⟩) a1 fun Hk2 H2 g2 a2 => ?_
  refine q_drop (j_call (R := R_check_number) (ae_cons (e_var rfl) (ae_cons e_int ae_nil)) fun sls e => ⟨rfl, m, 1, hm1, e, rfl⟩) a2 fun Hk3 H3 g3 a3 => ?_
  refine q_newLs (i := 3) (c := 0) (ds := rowsA (psums l m.toNat) cs 0) (ae_cons (j_call (R := R_first_sums) (c := 0) (Φ := fun d => d = pol (psums l m.toNat)) (ae_cons (e_var rfl) (ae_cons (e_var rfl) ae_nil)) fun sls e => ⟨rfl, l, m, 60, 60, hK, by omega, by omega, by omega, by omega, by omega, by omega, by omega, e, rfl⟩) ae_nil) (by rw [rowsA_len]; omega) a3 fun p Hk4 H4 g4 a4 cl4 => ?_
  refine q_for (n := n) (c := 0) (ie_lst (e_var rfl)) a4 fun items HkW H5 ei g5 a5 => ?_
  subst ei
  have cl5 := cl4.go g5
  refine ⟨fun i σ' Hk' H' => Same HkW Hk' ∧ At q n [.dat (led l), .dat (.list (pd cs)), .dat (.int m), .adr p, .any] A0 B0 σ' Hk' H' ∧ Cell q B0 Hk' H' p (rowsA (psums l m.toNat) cs i), ⟨Same.refl _, a5, cl5⟩, fun i σ' Hk' H' h => ⟨h.1, h.2.1.ok.a⟩, ?_, ?_⟩
  · rintro i d σ' Hk' H' ed ⟨h2, st, cl⟩ v Hk6 H6 g6 dv
    obtain ⟨x, ex, rfl⟩ : ∃ x, cs[i]? = some x ∧ pr x = d := by
      unfold pd at ed
      rw [List.getElem?_map] at ed
      exact Option.map_eq_some_iff.mp ed
    have hx := hcK x (List.mem_of_getElem? ex)
    have hi : i < cs.length := (List.getElem?_eq_some_iff.mp ex).1
    refine gb_name (vs := [4]) (by simp) σ' Hk6 H6 v (st.sg.mono g6.k) g6.a dv _ fun σ7 sg7 _ _ => ?_
    have st7 : At q n [.dat (led l), .dat (.list (pd cs)), .dat (.int m), .adr p, .dat (pr x)] A0 B0 σ7 Hk6 H6 := ⟨st.ok.go g6, sg7, st.gr.trans g6.none_to⟩
    refine s_appendP (i := 3) (n := n) (c := 0) (Φ := fun d => d = pol (rowA (psums l m.toNat) cs (i + 1))) (j_call (R := R_sums_behind) (c := 0) (ae_cons (e_iL (e_var rfl) (e_un e_int) (rowsA_last _ _ i)) (ae_cons (e_var rfl) ae_nil)) fun sls e => ⟨rfl, rowA (psums l m.toNat) cs i, x, by rw [rowA_len, psums_len]; omega, hx.1, hx.2, e, by rw [rowA_succ ex]⟩) st7 (cl.go g6.none_to) rfl (by rw [rowsA_len]; omega) (fun d e => by rw [e]; exact plain_pol _) fun d Hk8 H8 e s8 a8 cl8 => ⟨Hk8, (h2.trans g6.k).trans s8, a8.forget 4, ?_⟩
    rw [rowsA_succ, ← e]
    exact cl8
  · rintro σ' Hk' H' ⟨h2, st, cl⟩
    rw [pd_len] at cl
    exact s_retC st cl rfl (Nat.le_refl _) fin
/-! ### sums_along, where it raises -/
def B_sums_along (K : PySem.W.Frag) : RelE := fun _ sls c x => c = 0 ∧ ∃ d0 d1 d2, Odd K d0 ∧ OkL d1 ∧ Odd K d2 ∧ sls = [.dat d0, .dat d1, .dat d2] ∧ ((isLedD d0 = false ∧ x = "InvalidLedger") ∨ (isLedD d0 = true ∧ isChsD d1 = false ∧ x = "InvalidChanges") ∨ (isLedD d0 = true ∧ isChsD d1 = true ∧ isFromD 1 d2 = false ∧ x = "InvalidNumber"))
theorem ox_sums_along (T : Tx K mg) : FnOk P w K mg base (L2.CX P w) 5 T.a_sums_along T.fd_sums_along P_sums_along (spE mg (B_sums_along K)) := by
  have U_check_changes := fn_or (fn_lift (ok_check_changes (P := P) (w := w) (base := base) T)) (ox_check_changes (P := P) (w := w) (base := base) T)
  have U_check_ledger := fn_or (fn_lift (ok_check_ledger (P := P) (w := w) (base := base) T)) (ox_check_ledger (P := P) (w := w) (base := base) T)
  have U_check_number := fn_or (fn_lift (ok_check_number (P := P) (w := w) (base := base) T)) (ox_check_number (P := P) (w := w) (base := base) T)
  refine fn_okE T.F_sums_along sc_sums_along (by decide) (fun q sls c x h => by obtain ⟨_, d0, d1, d2, _, _, _, rfl, _⟩ := h; rfl) fun cdv A outer s B0 Ew hr => ⟨_,
    (pss_cons (ps_expr (pe_call U_check_ledger (hr.mono (by decide)) (by rfl) T.m_check_ledger T.F_check_ledger.kp T.b_check_ledger .nil (passes_call (W := fun cls d _ H => Ew cls d H) (E := Ew) (takes_of rfl rfl rfl rfl) fun _ _ _ _ h => h) (pa_cons (pv 0) pa_nil)))
      (pss_cons (ps_expr (pe_call U_check_changes (hr.mono (by decide)) (by rfl) T.m_check_changes T.F_check_changes.kp T.b_check_changes .nil (passes_call (W := fun cls d _ H => Ew cls d H) (E := Ew) (takes_of rfl rfl rfl rfl) fun _ _ _ _ h => h) (pa_cons (pv 1) pa_nil)))
      (pss_cons (ps_expr (pe_call U_check_number (hr.mono (by decide)) (by rfl) T.m_check_number T.F_check_number.kp T.b_check_number .nil (passes_call (W := fun cls d _ H => Ew cls d H) (E := Ew) (takes_of rfl rfl rfl rfl) fun _ _ _ _ h => h) (pa_cons (pv 2) (pa_cons pe_int pa_nil))))
      (pss_cons ps_never
      (pss_cons ps_never
      (pss_one ps_never)))))), fun q sls n c x A0 σ Q hR hA fin => ?_⟩
  obtain ⟨rfl, d0, d1, d2, o0, o1, o2, rfl, h⟩ := hR
  rcases h with ⟨h0, rfl⟩ | ⟨h0, h1, rfl⟩ | ⟨h0, h1, h2, rfl⟩
  · exact q_dropR (rs_call (c := 0) (B := B_check_ledger K) (ae_cons (e_var rfl) ae_nil) fun sls es => ⟨rfl, d0, o0, h0, es, rfl⟩) hA (Nat.le_refl _) (fin_w fin (Nat.le_refl _))
  · refine q_drop (ck_ledger h0 o0 (e_var rfl)) hA fun Hk1 H1 g1 a1 => ?_
    exact q_dropR (rs_call (c := 0) (B := B_check_changes) (ae_cons (e_var rfl) ae_nil) fun sls es => ⟨rfl, d1, o1, h1, es, rfl⟩) a1 (Nat.le_refl _) (fin_w fin (Nat.le_refl _))
  · refine q_drop (ck_ledger h0 o0 (e_var rfl)) hA fun Hk1 H1 g1 a1 => ?_
    refine q_drop (ck_changes h1 o1 (e_var rfl)) a1 fun Hk2 H2 g2 a2 => ?_
    exact q_dropR (rs_call (c := 0) (B := B_check_number K) (ae_cons (e_var rfl) (ae_cons e_int ae_nil)) fun sls es => ⟨rfl, d2, 1, o2.kn, h2, es, rfl⟩) a2 (Nat.le_refl _) (fin_w fin (Nat.le_refl _))
/-! ### is_sums -/
def R_is_sums (K : PySem.W.Frag) : RelX := fun _ sls c Φ => c = 0 ∧ ∃ d, Odd K d ∧ sls = [.dat d] ∧ Φ = fun x => x = .bool (isSumsD d)
theorem ok_is_sums (T : Tx K mg) : FnOk P w K mg base CX0 2 T.a_is_sums T.fd_is_sums P_is_sums (spX (R_is_sums K)) := by
  have G_is_an_integer := ok_is_an_integer (P := P) (w := w) (base := base) T
  refine fn_ok T.F_is_sums sc_is_sums (by decide) (fun q sls c Φ h => by obtain ⟨_, d, _, rfl, _⟩ := h; rfl) fun cdv A outer s B0 Ew hr => ⟨_,
    (pss_one (ps_ret (pe_and (pe_callB (k_isi (K := K) rfl) (by rfl) T.z_isinstance (by decide +kernel) (pa_cons (pv 0) (pa_cons (pe_bltn (v := .ty "tuple") (by rfl) T.z_tuple (by decide +kernel) rfl) pa_nil))) (pe_and (pe_cmpR op_gt (pe_callB (k_len (K := K) rfl) (by rfl) T.z_len (by decide +kernel) (pa_cons (pv 0) pa_nil)) pe_int (nomark _)) (pe_one (pe_callB (k_all (K := K) rfl rfl) (by rfl) T.z_all (by decide +kernel) (pa_cons (pe_lc (own := [("number", 1)]) rfl sc_is_sums.nd (k_piTup (K := K) rfl (pv 0)) (blkOk_by (own := [("number", 1)]) (N := N_is_sums) (sc := defScope s_is_sums) (by decide +kernel)) (fun _ _ _ _ _ => (pg_name (i := 1) sc_is_sums.nd rfl (Or.inl rfl))) (fun _ _ _ _ _ => pts_nil) (fun _ _ _ _ _ => (pe_call G_is_an_integer (hr.mono (by decide)) (by rfl) T.m_is_an_integer T.F_is_an_integer.kp T.b_is_an_integer .nil pass0 (pa_cons (pv 1) pa_nil)))) pa_nil))))))), fun q sls n c Φ A0 σ Q hR hA fin => ?_⟩
  obtain ⟨rfl, d, od, rfl, rfl⟩ := hR
  refine s_retE (d := .bool (isSumsD d)) ?_ hA (Nat.le_refl _) fin rfl
  have nonT : isiTup d = false → isSumsD d = false := fun h => by cases d <;> first | rfl | cases h
  by_cases ht : isiTup d = true
  · obtain ⟨ds, rfl⟩ : ∃ ds, d = .tuple ds := by
      cases d with
      | tuple ds => exact ⟨ds, rfl⟩
      | _ => cases ht
    have hlen := od.sh ds rfl
    exact e_is (e_andV (a := true) (b := decide ((0 : Int) < (ds.length : Int)) && ds.all isIntD) (e_isi (e_var rfl) (kit_tuple _)) fun _ => e_andV (e_gtI (e_lenT (e_var rfl)) e_int) fun _ => e_is (e_all (bs := ds.map isIntD) (e_is (e_lc1 (vs := [1]) (emb := id) (xs := ds) (by rw [List.map_id]; exact ie_tup (e_var rfl)) (fun x => .bool (isIntD x)) (by omega) fun x hx => ⟨_, gb_name (by simp), j_call (R := R_is_an_integer K) (ae_cons (e_var rfl) ae_nil) fun sls e => ⟨rfl, x, kn_deep (od.dp ds rfl x hx), e, rfl⟩⟩) (by rw [bools_map]))) (by rw [all_id_map])) rfl
  · have hf : isiTup d = false := by simpa using ht
    rw [nonT hf]
    exact e_andNo (e_is (e_isiT (e_var rfl) od.kn) (by rw [hf]))
/-! ### check_rows -/
def R_check_rows : RelX := fun _ sls c Φ => c = 0 ∧ ∃ (rows : List (List Int)) (m : Nat), (rows ≠ [] ∧ rows.length ≤ 1000) ∧ (1 ≤ m ∧ m ≤ 400) ∧ (∀ r ∈ rows, r.length = m) ∧ sls = [.dat (.list (rows.map pol))] ∧ Φ = fun x => x = .none
theorem odd_pol {K : PySem.W.Frag} {f : List Int} (h : f.length ≤ 100000) : Odd K (pol f) := Odd.of (short_tup (by rw [List.length_map]; exact h)) (deep_pol 2 f)
theorem ok_check_rows (T : Tx K mg) : FnOk P w K mg base CX0 3 T.a_check_rows T.fd_check_rows P_check_rows (spX R_check_rows) := by
  have G_is_sums := ok_is_sums (P := P) (w := w) (base := base) T
  refine fn_ok T.F_check_rows sc_check_rows (by decide) (fun q sls c Φ h => by obtain ⟨_, rows, m, _, _, _, rfl, _⟩ := h; rfl) fun cdv A outer s B0 Ew hr => ⟨_,
    (pss_cons (ps_if (PW.pt (pw_or (pt_not (pt_val (pe_callB (k_isi (K := K) rfl) (by rfl) T.z_isinstance (by decide +kernel) (pa_cons (pv 0) (pa_cons (pe_bltn (v := .ty "list") (by rfl) T.z_list (by decide +kernel) rfl) pa_nil))))) (pw_or (pt_cmpR (k_eqD (K := K) rfl hr.units) (pe_callB (k_len (K := K) rfl) (by rfl) T.z_len (by decide +kernel) (pa_cons (pv 0) pa_nil)) pe_int (nomark _)) (pw_or1 (pt_not (pt_val (pe_callB (k_all (K := K) rfl rfl) (by rfl) T.z_all (by decide +kernel) (pa_cons (pe_lc (own := [("row", 1)]) rfl sc_check_rows.nd (k_piList (K := K) rfl (pv 0)) (blkOk_by (own := [("row", 1)]) (N := N_check_rows) (sc := defScope s_check_rows) (by decide +kernel)) (fun _ _ _ _ _ => (pg_name (i := 1) sc_check_rows.nd rfl (Or.inl rfl))) (fun _ _ _ _ _ => pts_nil) (fun _ _ _ _ _ => (pe_call G_is_sums (hr.mono (by decide)) (by rfl) T.m_is_sums T.F_is_sums.kp T.b_is_sums .nil pass0 (pa_cons (pv 1) pa_nil)))) pa_nil)))))))) (pss_one ps_never) pss_nil)
      (pss_one (ps_if (pt_val (pe_callB (k_any (K := K) rfl rfl) (by rfl) T.z_any (by decide +kernel) (pa_cons (pe_lc (own := [("row", 1)]) rfl sc_check_rows.nd (k_piList (K := K) rfl (pv 0)) (blkOk_by (own := [("row", 1)]) (N := N_check_rows) (sc := defScope s_check_rows) (by decide +kernel)) (fun _ _ _ _ _ => (pg_name (i := 1) sc_check_rows.nd rfl (Or.inl rfl))) (fun _ _ _ _ _ => pts_nil) (fun _ _ _ _ _ => (pe_cmpR (k_neD (K := K) rfl hr.units) (pe_callB (k_len (K := K) rfl) (by rfl) T.z_len (by decide +kernel) (pa_cons (pv 1) pa_nil)) (pe_callB (k_len (K := K) rfl) (by rfl) T.z_len (by decide +kernel) (pa_cons (pe_ix (k_ix (K := K) rfl) (pv 0) pe_int (fun _ _ => rfl)) pa_nil)) (nomark _)))) pa_nil))) (pss_one ps_never) pss_nil))), fun q sls n c Φ A0 σ Q hR hA fin => ?_⟩
  obtain ⟨rfl, rows, m, ⟨hne, hl⟩, hm, hr2, rfl, rfl⟩ := hR
  have hlen : 0 < rows.length := List.length_pos_iff.mpr hne
  refine q_ifNo (tb_is (tb_or (a := false) (tb_is (tb_not (tb_B (e_isi (e_var rfl) (kit_list _)))) rfl) fun _ => tb_is (tb_or (a := false) (tb_is (tb_test (e_eqDI (e_lenL (e_var rfl)) e_int)) (by rw [List.length_map]; simpa using hne)) fun _ => tb_is (tb_not (tb_B (e_is (e_all (bs := rows.map fun _ => true) (e_is (e_lc1 (vs := [1]) (emb := pol) (xs := rows) (ie_lst (e_var rfl)) (fun _ => .bool true) (by omega) fun x hx => ⟨_, gb_name (by simp), j_call (R := R_is_sums K) (c := 0) (Φ := fun d => d = .bool true) (ae_cons (e_var rfl) ae_nil) fun sls e => ⟨rfl, pol x, odd_pol (by have := hr2 x hx; omega), e, by rw [pol_isSums (fun z => by have := hr2 x hx; rw [z] at this; simp at this; omega)]⟩⟩) (by rw [List.map_map]; rfl))) (d1 := .bool true) (by rw [List.all_map]; exact congrArg PyData.bool (List.all_eq_true.mpr fun _ _ => rfl))))) rfl) rfl) rfl) hA fun Hk1 H1 g1 a1 => ?_
  have h0 : atI (rows.map pol) 0 = some (pol (rows[0]'hlen)) := by
    have z := atI_nat (xs := rows.map pol) (j := 0) (v := pol (rows[0]'hlen)) (by
      rw [List.getElem?_map, List.getElem?_eq_getElem hlen]
      rfl)
    exact z
  refine s_ifNo (tb_is (tb_B (e_any (bs := rows.map fun x => !((x.length : Int) == ((rows[0]'hlen).length : Int))) (e_is (e_lc1 (vs := [1]) (emb := pol) (xs := rows) (ie_lst (e_var rfl)) (fun x => .bool (!((x.length : Int) == ((rows[0]'hlen).length : Int)))) (by omega) fun x hx => ⟨_, gb_name (by simp), e_neDI (e_is (e_lenT (e_var rfl)) (d1 := .int ((x.length : Nat) : Int)) (by rw [pol_len])) (e_is (e_lenT (ds := (rows[0]'hlen).map .int) (e_iL (e_var rfl) e_int h0)) (d1 := .int (((rows[0]'hlen).length : Nat) : Int)) (by rw [pol_len]))⟩) (by rw [List.map_map]; rfl)))) ?_) a1 fun Hk2 H2 g2 a2 => s_end a2 (Nat.le_refl _) fin rfl
  rw [List.any_map]
  refine List.any_eq_false.mpr fun x hx => ?_
  have e1 := hr2 x hx
  have e2 := hr2 _ (List.getElem_mem hlen)
  show ¬ (!((x.length : Int) == ((rows[0]'hlen).length : Int))) = true
  rw [e1, e2]
  simp
/-! ### check_rows, where it raises -/
theorem rows_of : ∀ {ds : List PyData}, ds.all isSumsD = true → ∃ rows : List (List Int), (∀ r ∈ rows, r ≠ []) ∧ ds = rows.map pol
  | [], _ => ⟨[], by simp, rfl⟩
  | d :: ds, h => by
    rw [List.all_cons, Bool.and_eq_true] at h
    obtain ⟨rows, h1, rfl⟩ := rows_of h.2
    obtain ⟨f, hf, rfl⟩ := sums_pol h.1
    exact ⟨f :: rows, fun r hr => by
      rcases List.mem_cons.mp hr with e | e
      · rw [e]; exact hf
      · exact h1 r e, rfl⟩
/-- rows that pass the check -/
theorem rows_ok {K : PySem.W.Frag} {d : PyData} (h : isRowsD d = true) (o : OkR K d) : ∃ (rows : List (List Int)) (m : Nat), (rows ≠ [] ∧ rows.length ≤ 1000) ∧ (1 ≤ m ∧ m ≤ 400) ∧ (∀ r ∈ rows, r.length = m) ∧ d = .list (rows.map pol) := by
  obtain ⟨ds, rfl⟩ : ∃ ds, d = .list ds := by
    cases d with
    | list ds => exact ⟨ds, rfl⟩
    | _ => cases h
  have h' : (!ds.isEmpty && (ds.all isSumsD && ds.all fun r => lenD r == lenD (ds.headD .none))) = true := h
  rw [Bool.and_eq_true, Bool.and_eq_true] at h'
  obtain ⟨h1, h2, h3⟩ := h'
  obtain ⟨hl, hx⟩ := o.2 ds rfl
  obtain ⟨rows, hr, rfl⟩ := rows_of h2
  rw [List.length_map] at hl
  cases rows with
  | nil => cases h1
  | cons r rows =>
    have hm := hx (pol r) (by simp)
    rw [len_pol] at hm
    refine ⟨r :: rows, r.length, ⟨by simp, hl⟩, ⟨List.length_pos_iff.mpr (hr r (by simp)), hm.2⟩, fun s hs => ?_, rfl⟩
    have := List.all_eq_true.mp h3 (pol s) (List.mem_map_of_mem hs)
    have h4 : (lenD (pol s) == lenD (pol r)) = true := this
    rw [len_pol, len_pol] at h4
    simpa using h4
def B_check_rows (K : PySem.W.Frag) : RelE := fun _ sls c x => c = 0 ∧ ∃ d, OkR K d ∧ isRowsD d = false ∧ sls = [.dat d] ∧ x = "InvalidRows"
theorem ck_rows {K : PySem.W.Frag} {mg : Str → Option Value} {q : Option Addr} {δ : List Sl} {te : TE} {d : PyData} {E0 : XK} (h : isRowsD d = true) (o : OkR K d) (ed : E q δ te d) : E q δ (tCall (spU (spX R_check_rows) (spE mg (B_check_rows K))) [] E0 (tCons te tNil)) .none := by
  obtain ⟨rows, m, h1, h2, h3, rfl⟩ := rows_ok h o
  exact j_callU (R := R_check_rows) (c := 0) (ae_cons ed ae_nil) fun sls e => ⟨rfl, rows, m, h1, h2, h3, e, rfl⟩
theorem ox_check_rows (T : Tx K mg) : FnOk P w K mg base (L2.CX P w) 3 T.a_check_rows T.fd_check_rows P_check_rows (spE mg (B_check_rows K)) := by
  have G_is_sums := ok_is_sums (P := P) (w := w) (base := base) T
  refine fn_okE T.F_check_rows sc_check_rows (by decide) (fun q sls c x h => by obtain ⟨_, d, _, _, rfl, _⟩ := h; rfl) fun cdv A outer s B0 Ew hr => ⟨_,
    (pss_cons (ps_if (PW.pt (pw_or (pt_not (pt_val (pe_callB (k_isi (K := K) rfl) (by rfl) T.z_isinstance (by decide +kernel) (pa_cons (pv 0) (pa_cons (pe_bltn (v := .ty "list") (by rfl) T.z_list (by decide +kernel) rfl) pa_nil))))) (pw_or (pt_cmpR (k_eqD (K := K) rfl hr.units) (pe_callB (k_len (K := K) rfl) (by rfl) T.z_len (by decide +kernel) (pa_cons (pv 0) pa_nil)) pe_int (nomark _)) (pw_or1 (pt_not (pt_val (pe_callB (k_all (K := K) rfl rfl) (by rfl) T.z_all (by decide +kernel) (pa_cons (pe_lc (own := [("row", 1)]) rfl sc_check_rows.nd (k_piList (K := K) rfl (pv 0)) (blkOk_by (own := [("row", 1)]) (N := N_check_rows) (sc := defScope s_check_rows) (by decide +kernel)) (fun _ _ _ _ _ => (pg_name (i := 1) sc_check_rows.nd rfl (Or.inl rfl))) (fun _ _ _ _ _ => pts_nil) (fun _ _ _ _ _ => (pe_call G_is_sums (hr.mono (by decide)) (by rfl) T.m_is_sums T.F_is_sums.kp T.b_is_sums .nil pass0 (pa_cons (pv 1) pa_nil)))) pa_nil)))))))) (pss_one (ps_raise rfl (takes_of (E := Ew) rfl rfl rfl rfl) (pmk_own0 PySem.F.excBase_ValueError T.x_InvalidRows T.g_InvalidRows T.k_InvalidRows (raises_own T.u_InvalidRows T.t_InvalidRows) rfl))) pss_nil)
      (pss_one (ps_if (pt_val (pe_callB (k_any (K := K) rfl rfl) (by rfl) T.z_any (by decide +kernel) (pa_cons (pe_lc (own := [("row", 1)]) rfl sc_check_rows.nd (k_piList (K := K) rfl (pv 0)) (blkOk_by (own := [("row", 1)]) (N := N_check_rows) (sc := defScope s_check_rows) (by decide +kernel)) (fun _ _ _ _ _ => (pg_name (i := 1) sc_check_rows.nd rfl (Or.inl rfl))) (fun _ _ _ _ _ => pts_nil) (fun _ _ _ _ _ => (pe_cmpR (k_neD (K := K) rfl hr.units) (pe_callB (k_len (K := K) rfl) (by rfl) T.z_len (by decide +kernel) (pa_cons (pv 1) pa_nil)) (pe_callB (k_len (K := K) rfl) (by rfl) T.z_len (by decide +kernel) (pa_cons (pe_ix (k_ix (K := K) rfl) (pv 0) pe_int (fun _ _ => rfl)) pa_nil)) (nomark _)))) pa_nil))) (pss_one (ps_raise rfl (takes_of (E := Ew) rfl rfl rfl rfl) (pmk_own0 PySem.F.excBase_ValueError T.x_InvalidRows T.g_InvalidRows T.k_InvalidRows (raises_own T.u_InvalidRows T.t_InvalidRows) rfl))) pss_nil))), fun q sls n c x A0 σ Q hR hA fin => ?_⟩
  obtain ⟨rfl, d, ⟨htop, hlst⟩, hd, rfl, rfl⟩ := hR
  by_cases ht : isiLst d = true
  · obtain ⟨ds, rfl⟩ : ∃ ds, d = .list ds := by
      cases d with
      | list ds => exact ⟨ds, rfl⟩
      | _ => cases ht
    obtain ⟨hl, hx⟩ := hlst ds rfl
    have hd' : (!ds.isEmpty && (ds.all isSumsD && ds.all fun r => lenD r == lenD (ds.headD .none))) = false := hd
    refine q_whenB (b := ds.isEmpty || !(ds.all isSumsD)) (tb_is (tb_or (a := false) (b := ds.isEmpty || !(ds.all isSumsD)) (tb_is (tb_not (tb_B (e_isi (e_var rfl) (kit_list _)))) rfl) fun _ => tb_or (a := ds.isEmpty) (b := !(ds.all isSumsD)) (tb_is (tb_test (e_eqDI (e_lenL (ds := ds) (e_var rfl)) e_int)) (by cases ds with | nil => rfl | cons x t => (simp; omega))) fun _ => tb_not (tb_B (e_is (e_all (bs := ds.map isSumsD) (e_is (e_lc1 (vs := [1]) (emb := id) (xs := ds) (by rw [List.map_id]; exact ie_lst (e_var rfl)) (fun x => .bool (isSumsD x)) (by omega) fun x hm => ⟨_, gb_name (by simp), j_call (R := R_is_sums K) (ae_cons (e_var rfl) ae_nil) fun sls e => ⟨rfl, x, (hx x hm).1, e, rfl⟩⟩) (by rw [bools_map]))) (by rw [all_id_map])))) rfl) hA (fun _ Hk1 H1 g1 a1 => s_raise fin a1 (Nat.le_refl _) T.g_InvalidRows) (fun hb Hk1 H1 g1 a1 => ?_)
    rw [Bool.or_eq_false_iff] at hb
    have h2 : ds.all isSumsD = true := by simpa using hb.2
    rw [hb.1, h2] at hd'
    have h3 : (ds.all fun r => lenD r == lenD (ds.headD .none)) = false := hd'
    obtain ⟨rows, hr, rfl⟩ := rows_of h2
    cases rows with
    | nil => cases hb.1
    | cons r rows =>
      refine s_ifB (b := true) (tb_is (tb_B (e_any (bs := (r :: rows).map fun x => !((x.length : Int) == (r.length : Int))) (e_is (e_lc1 (vs := [1]) (emb := pol) (xs := r :: rows) (ie_lst (e_var rfl)) (fun x => .bool (!((x.length : Int) == (r.length : Int)))) (by rw [List.length_map] at hl; omega) fun x hm => ⟨_, gb_name (by simp), e_neDI (e_is (e_lenT (ds := x.map .int) (e_var rfl)) (d1 := .int ((x.length : Nat) : Int)) (by rw [pol_len])) (e_is (e_lenT (ds := r.map .int) (e_iL (ds := (r :: rows).map pol) (d := pol r) (e_var rfl) e_int (show atI ((r :: rows).map pol) ((0 : Nat) : Int) = some (pol r) from atI_nat rfl))) (d1 := .int ((r.length : Nat) : Int)) (by rw [pol_len]))⟩) (by rw [List.map_map]; rfl)))) ?_) a1 (fun _ Hk2 H2 g2 a2 => s_raise fin a2 (Nat.le_refl _) T.g_InvalidRows) (fun h => by cases h)
      refine Classical.byContradiction fun z => ?_
      have z2 := Bool.eq_false_iff.mpr z
      rw [List.any_map] at z2
      have hall : (((r :: rows).map pol).all fun s => lenD s == lenD (((r :: rows).map pol).headD .none)) = true := by
        refine List.all_eq_true.mpr fun s hs => ?_
        obtain ⟨x, hm, rfl⟩ := List.mem_map.mp hs
        have := List.any_eq_false.mp z2 x hm
        show (lenD (pol x) == lenD (pol r)) = true
        rw [len_pol, len_pol]
        have h5 : ((x.length : Int) == (r.length : Int)) = true := by simpa using this
        have h6 : (x.length : Int) = (r.length : Int) := by simpa using h5
        have h7 : x.length = r.length := by omega
        simp [h7]
      rw [hall] at h3
      cases h3
  · have hf : isiLst d = false := by simpa using ht
    exact q_whenB (b := true) (tb_is (tb_or (a := true) (b := true) (tb_is (tb_not (tb_B (e_isi (e_var rfl) (kit_list d) htop))) (by rw [hf]; rfl)) fun h => by cases h) rfl) hA (fun _ Hk1 H1 g1 a1 => s_raise fin a1 (Nat.le_refl _) T.g_InvalidRows) (fun h => by cases h)
/-! ### log_fault -/
def R_log_fault : RelX := fun _ sls c Φ => c = 0 ∧ ∃ (l cs : List (Int × Int)) (rows : List (List Int)) (m : Nat), (Led l ∧ l.length ≤ 1000 ∧ Kb 60 60 l) ∧ (cs.length < 1000 ∧ Kb 60 60 cs) ∧ rows.length = cs.length + 1 ∧ (1 ≤ m ∧ m ≤ 400) ∧ (∀ r ∈ rows, r.length = m) ∧ sls = [.dat (led l), .dat (.list (pd cs)), .dat (.list (rows.map pol))] ∧ Φ = fun x => x = faultD (psums l m) cs rows
theorem ok_log_fault (T : Tx K mg) : FnOk P w K mg base CX0 5 T.a_log_fault T.fd_log_fault P_log_fault (spX R_log_fault) := by
  have G_check_changes := ok_check_changes (P := P) (w := w) (base := base) T
  have G_check_ledger := ok_check_ledger (P := P) (w := w) (base := base) T
  have G_check_rows := ok_check_rows (P := P) (w := w) (base := base) T
  have G_first_sums := ok_first_sums (P := P) (w := w) (base := base) T
  have G_sums_behind := ok_sums_behind (P := P) (w := w) (base := base) T
  refine fn_ok T.F_log_fault sc_log_fault (by decide) (fun q sls c Φ h => by obtain ⟨_, l, cs, rows, m, _, _, _, _, _, rfl, _⟩ := h; rfl) fun cdv A outer s B0 Ew hr => ⟨_,
    (pss_cons (ps_expr (pe_call G_check_ledger (hr.mono (by decide)) (by rfl) T.m_check_ledger T.F_check_ledger.kp T.b_check_ledger .nil pass0 (pa_cons (pv 0) pa_nil)))
      (pss_cons (ps_expr (pe_call G_check_changes (hr.mono (by decide)) (by rfl) T.m_check_changes T.F_check_changes.kp T.b_check_changes .nil pass0 (pa_cons (pv 1) pa_nil)))
      (pss_cons (ps_expr (pe_call G_check_rows (hr.mono (by decide)) (by rfl) T.m_check_rows T.F_check_rows.kp T.b_check_rows .nil pass0 (pa_cons (pv 2) pa_nil)))
      (pss_cons (ps_if (pt_cmpR (k_neD (K := K) rfl hr.units) (pe_callB (k_len (K := K) rfl) (by rfl) T.z_len (by decide +kernel) (pa_cons (pv 2) pa_nil)) (pe_op (k_addU (K := K) rfl) (pe_callB (k_len (K := K) rfl) (by rfl) T.z_len (by decide +kernel) (pa_cons (pv 1) pa_nil)) pe_int) (nomark _)) (pss_one ps_never) pss_nil)
      (pss_cons (ps_set (i := 3) sc_log_fault.nd rfl (Or.inl rfl) (pe_call G_first_sums (hr.mono (by decide)) (by rfl) T.m_first_sums T.F_first_sums.kp T.b_first_sums .nil pass0 (pa_cons (pv 0) (pa_cons (pe_callB (k_len (K := K) rfl) (by rfl) T.z_len (by decide +kernel) (pa_cons (pe_ix (k_ix (K := K) rfl) (pv 2) pe_int (fun _ _ => rfl)) pa_nil)) pa_nil))))
      (pss_cons (ps_for PassesOwn.never rfl (k_enumL (K := K) rfl rfl T.z_enumerate (pa_cons (pv 1) pa_nil)) (k_pgTup (K := K) (n := 2) rfl rfl (pgs_cons (pg_name (i := 4) sc_log_fault.nd rfl (Or.inl rfl)) (pgs_cons (pg_name (i := 5) sc_log_fault.nd rfl (Or.inl rfl)) pgs_nil))) (pss_cons (ps_if (pt_cmpR (k_neD (K := K) rfl hr.units) (pe_ix (k_ix (K := K) rfl) (pv 2) (pv 4) (fun _ _ => rfl)) (pv 3) (nomark _)) (pss_one (ps_ret (pv 4))) pss_nil)
      (pss_one (ps_set (i := 3) sc_log_fault.nd rfl (Or.inl rfl) (pe_call G_sums_behind (hr.mono (by decide)) (by rfl) T.m_sums_behind T.F_sums_behind.kp T.b_sums_behind .nil pass0 (pa_cons (pv 3) (pa_cons (pv 5) pa_nil)))))))
      (pss_one (ps_ret (pe_ifExp (pt_cmpR (k_eqD (K := K) rfl hr.units) (pe_ix (k_ix (K := K) rfl) (pv 2) (pe_un un_neg pe_int) (fun _ _ => rfl)) (pv 3) (nomark _)) pe_non (pe_callB (k_len (K := K) rfl) (by rfl) T.z_len (by decide +kernel) (pa_cons (pv 1) pa_nil))))))))))), fun q sls n c Φ A0 σ Q hR hA fin => ?_⟩
  obtain ⟨rfl, l, cs, rows, m, ⟨hL, hl, hK⟩, ⟨hcl, hcK⟩, hrl, hm, hr2, rfl, rfl⟩ := hR
  have hlen : 0 < rows.length := by omega
  have hne : rows ≠ [] := fun e => by rw [e] at hlen; exact absurd hlen (by decide)
  obtain ⟨f, ef⟩ : ∃ f, f = psums l m := ⟨_, rfl⟩
  have hfl : f.length = m := by rw [ef, psums_len]
  have hat : ∀ k, k < rows.length → atI (rows.map pol) ((k : Nat) : Int) = some (pol (rows.getD k [])) := fun k hk => by
    refine atI_nat ?_
    rw [List.getElem?_map, List.getElem?_eq_getElem hk, List.getD_eq_getElem?_getD, List.getElem?_eq_getElem hk]
    rfl
  refine q_drop (j_call (R := R_check_ledger) (ae_cons (e_var rfl) ae_nil) fun sls e => ⟨rfl, l, hL, by omega, e, rfl⟩) hA fun Hk1 H1 g1 a1 => ?_
  refine q_drop (j_call (R := R_check_changes) (ae_cons (e_var rfl) ae_nil) fun sls e => ⟨rfl, cs, by omega, e, rfl⟩) a1 fun Hk2 H2 g2 a2 => ?_
  refine q_drop (j_call (R := R_check_rows) (ae_cons (e_var rfl) ae_nil) fun sls e => ⟨rfl, rows, m, ⟨hne, by omega⟩, hm, hr2, e, rfl⟩) a2 fun Hk3 H3 g3 a3 => ?_
  refine q_ifNo (tb_is (tb_test (e_neDI (e_lenL (e_var rfl)) (e_addI (e_lenL (e_var rfl)) e_int))) (by rw [List.length_map, pd_len, hrl]; simp)) a3 fun Hk4 H4 g4 a4 => ?_
  refine q_asgE (i := 3) (d := pol f) (e_is (j_call (R := R_first_sums) (c := 0) (Φ := fun d => d = pol (psums l ((m : Nat) : Int).toNat)) (ae_cons (e_var rfl) (ae_cons (e_is (e_lenT (ds := (rows.getD 0 []).map .int) (e_iL (e_var rfl) e_int (hat 0 hlen))) (d1 := .int ((m : Nat) : Int)) (by
    rw [List.length_map]
    have e0 : (rows.getD 0 []).length = m := by
      rw [List.getD_eq_getElem?_getD, List.getElem?_eq_getElem hlen]
      exact hr2 _ (List.getElem_mem hlen)
    rw [e0])) ae_nil)) fun sls e => ⟨rfl, l, (m : Nat), 60, 60, hK, by omega, by omega, by omega, by omega, by omega, by omega, by omega, e, rfl⟩) (by rw [ef, Int.toNat_natCast])) a4 fun σ5 Hk5 H5 g5 a5 => ?_
  refine q_for (n := n) (c := 0) (ie_enumL (e_var rfl)) a5 fun items HkW H6 ei g6 a6 => ?_
  subst ei
  refine ⟨fun i σ' Hk' H' => Same HkW Hk' ∧ (∀ k < i, (!decide (rows.getD k [] = rowA f cs k)) = false) ∧ At q n [.dat (led l), .dat (.list (pd cs)), .dat (.list (rows.map pol)), .dat (pol (rowA f cs i)), .any, .any] A0 B0 σ' Hk' H', ⟨Same.refl _, (fun k hk => absurd hk (Nat.not_lt_zero _)), a6⟩, fun i σ' Hk' H' h => ⟨h.1, h.2.2.ok.a⟩, ?_, ?_⟩
  · rintro i d σ' Hk' H' ed ⟨h2, hno, st⟩ v Hk7 H7 g7 dv
    have hil : i < cs.length := by
      have z := (List.getElem?_eq_some_iff.mp ed).1
      rw [enumD_len, pd_len] at z
      exact z
    have ex : cs[i]? = some (cs[i]'hil) := List.getElem?_eq_getElem hil
    have e2 := enumD_get (ds := pd cs) (i := i) (d := pr (cs[i]'hil)) (by unfold pd; rw [List.getElem?_map, ex]; rfl)
    rw [e2] at ed
    have ed2 := Option.some.inj ed
    subst ed2
    obtain ⟨x, exx⟩ : ∃ x, x = cs[i]'hil := ⟨_, rfl⟩
    rw [← exx] at ex dv
    have hx := hcK x (List.mem_of_getElem? ex)
    refine gb_tup2 (d1 := .int (i : Nat)) (d2 := pr x) (vs := [4, 5]) (by simp) (by simp) σ' Hk7 H7 v (st.sg.mono g7.k) g7.a dv _ fun σ8 sg8 _ _ => ?_
    have st8 : At q n [.dat (led l), .dat (.list (pd cs)), .dat (.list (rows.map pol)), .dat (pol (rowA f cs i)), .dat (.int (i : Nat)), .dat (pr x)] A0 B0 σ8 Hk7 H7 := ⟨st.ok.go g7, sg8, st.gr.trans g7.none_to⟩
    refine q_whenB (b := !decide (rows.getD i [] = rowA f cs i)) (tb_test (e_is (e_neD (e_iL (e_var rfl) (e_var rfl) (hat i (by omega))) (e_var rfl) (pol_shape _) (pol_shape _)) (by rw [eqv_pols]))) st8 (fun hb Hk9 H9 g9 a9 => ?_) (fun hb Hk9 H9 g9 a9 => ?_)
    · exact s_retE (e_var rfl) a9 (Nat.le_refl _) fin (by unfold faultD; rw [← ef, fst_hit (by omega) hno hb])
    · refine s_asgE (i := 3) (d := pol (rowA f cs (i + 1))) (j_call (R := R_sums_behind) (c := 0) (ae_cons (e_var rfl) (ae_cons (e_var rfl) ae_nil)) fun sls e => ⟨rfl, rowA f cs i, x, by rw [rowA_len, hfl]; omega, hx.1, hx.2, e, by rw [rowA_succ ex]⟩) a9 fun σ10 Hk10 H10 g10 a10 => ⟨Hk10, ((h2.trans g7.k).trans g9.k).trans g10.k, fun k hk => ?_, (a10.forget 4).forget 5⟩
      by_cases hki : k < i
      · exact hno k hki
      · rw [show k = i by omega]; exact hb
  · rintro σ' Hk' H' ⟨h2, hno, st⟩
    rw [enumD_len, pd_len] at hno st
    have hlast : atI (rows.map pol) (-1) = some (pol (rows.getD cs.length [])) := by
      have e9 : rows.map pol = (rows.map pol).take cs.length ++ [pol (rows.getD cs.length [])] := by
        have z : (rows.map pol).take (cs.length + 1) = rows.map pol := List.take_of_length_le (by rw [List.length_map]; omega)
        rw [List.take_add_one, List.getElem?_map, List.getElem?_eq_getElem (by omega)] at z
        rw [List.getD_eq_getElem?_getD, List.getElem?_eq_getElem (by omega)]
        exact z.symm
      rw [e9]
      exact atI_last _ _
    refine s_retE (d := faultD (psums l m) cs rows) (e_if (b := decide (rows.getD cs.length [] = rowA f cs cs.length)) (tb_test (e_is (e_eqD (e_iL (e_var rfl) (e_un e_int) hlast) (e_var rfl) (pol_shape _) (pol_shape _)) (by rw [eqv_pols]))) (fun hb => e_is e_non ?_) fun hb => e_is (e_lenL (e_var rfl)) ?_) st (Nat.le_refl _) fin rfl
    · unfold faultD
      rw [← ef, fst_none fun k hk => ?_]
      by_cases hki : k < cs.length
      · exact hno k hki
      · rw [show k = cs.length by omega, hb]; rfl
    · unfold faultD
      rw [← ef, fst_hit (i := cs.length) (by omega) hno (by rw [hb]; rfl), pd_len]
/-! ### log_fault, where it raises -/
def lenL : PyData → Nat
  | .list ds => ds.length
  | _ => 0
def B_log_fault (K : PySem.W.Frag) : RelE := fun _ sls c x => c = 0 ∧ ∃ d0 d1 d2, Odd K d0 ∧ OkL d1 ∧ OkR K d2 ∧ sls = [.dat d0, .dat d1, .dat d2] ∧ ((isLedD d0 = false ∧ x = "InvalidLedger") ∨ (isLedD d0 = true ∧ isChsD d1 = false ∧ x = "InvalidChanges") ∨ (isLedD d0 = true ∧ isChsD d1 = true ∧ isRowsD d2 = false ∧ x = "InvalidRows") ∨ (isLedD d0 = true ∧ isChsD d1 = true ∧ isRowsD d2 = true ∧ lenL d2 ≠ lenL d1 + 1 ∧ x = "OtherLength"))
theorem ox_log_fault (T : Tx K mg) : FnOk P w K mg base (L2.CX P w) 5 T.a_log_fault T.fd_log_fault P_log_fault (spE mg (B_log_fault K)) := by
  have U_check_changes := fn_or (fn_lift (ok_check_changes (P := P) (w := w) (base := base) T)) (ox_check_changes (P := P) (w := w) (base := base) T)
  have U_check_ledger := fn_or (fn_lift (ok_check_ledger (P := P) (w := w) (base := base) T)) (ox_check_ledger (P := P) (w := w) (base := base) T)
  have U_check_rows := fn_or (fn_lift (ok_check_rows (P := P) (w := w) (base := base) T)) (ox_check_rows (P := P) (w := w) (base := base) T)
  refine fn_okE T.F_log_fault sc_log_fault (by decide) (fun q sls c x h => by obtain ⟨_, d0, d1, d2, _, _, _, rfl, _⟩ := h; rfl) fun cdv A outer s B0 Ew hr => ⟨_,
    (pss_cons (ps_expr (pe_call U_check_ledger (hr.mono (by decide)) (by rfl) T.m_check_ledger T.F_check_ledger.kp T.b_check_ledger .nil (passes_call (W := fun cls d _ H => Ew cls d H) (E := Ew) (takes_of rfl rfl rfl rfl) fun _ _ _ _ h => h) (pa_cons (pv 0) pa_nil)))
      (pss_cons (ps_expr (pe_call U_check_changes (hr.mono (by decide)) (by rfl) T.m_check_changes T.F_check_changes.kp T.b_check_changes .nil (passes_call (W := fun cls d _ H => Ew cls d H) (E := Ew) (takes_of rfl rfl rfl rfl) fun _ _ _ _ h => h) (pa_cons (pv 1) pa_nil)))
      (pss_cons (ps_expr (pe_call U_check_rows (hr.mono (by decide)) (by rfl) T.m_check_rows T.F_check_rows.kp T.b_check_rows .nil (passes_call (W := fun cls d _ H => Ew cls d H) (E := Ew) (takes_of rfl rfl rfl rfl) fun _ _ _ _ h => h) (pa_cons (pv 2) pa_nil)))
      (pss_cons (ps_if (pt_cmpR (k_neD (K := K) rfl hr.units) (pe_callB (k_len (K := K) rfl) (by rfl) T.z_len (by decide +kernel) (pa_cons (pv 2) pa_nil)) (pe_op (k_addU (K := K) rfl) (pe_callB (k_len (K := K) rfl) (by rfl) T.z_len (by decide +kernel) (pa_cons (pv 1) pa_nil)) pe_int) (nomark _)) (pss_one (ps_raise rfl (takes_of (E := Ew) rfl rfl rfl rfl) (pmk_own0 PySem.F.excBase_ValueError T.x_OtherLength T.g_OtherLength T.k_OtherLength (raises_own T.u_OtherLength T.t_OtherLength) rfl))) pss_nil)
      (pss_cons ps_never
      (pss_cons ps_never
      (pss_one ps_never))))))), fun q sls n c x A0 σ Q hR hA fin => ?_⟩
  obtain ⟨rfl, d0, d1, d2, o0, o1, o2, rfl, h⟩ := hR
  rcases h with ⟨h0, rfl⟩ | ⟨h0, h1, rfl⟩ | ⟨h0, h1, h2, rfl⟩ | ⟨h0, h1, h2, hln, rfl⟩
  · exact q_dropR (rs_call (c := 0) (B := B_check_ledger K) (ae_cons (e_var rfl) ae_nil) fun sls es => ⟨rfl, d0, o0, h0, es, rfl⟩) hA (Nat.le_refl _) (fin_w fin (Nat.le_refl _))
  · refine q_drop (ck_ledger h0 o0 (e_var rfl)) hA fun Hk1 H1 g1 a1 => ?_
    exact q_dropR (rs_call (c := 0) (B := B_check_changes) (ae_cons (e_var rfl) ae_nil) fun sls es => ⟨rfl, d1, o1, h1, es, rfl⟩) a1 (Nat.le_refl _) (fin_w fin (Nat.le_refl _))
  · refine q_drop (ck_ledger h0 o0 (e_var rfl)) hA fun Hk1 H1 g1 a1 => ?_
    refine q_drop (ck_changes h1 o1 (e_var rfl)) a1 fun Hk2 H2 g2 a2 => ?_
    exact q_dropR (rs_call (c := 0) (B := B_check_rows K) (ae_cons (e_var rfl) ae_nil) fun sls es => ⟨rfl, d2, o2, h2, es, rfl⟩) a2 (Nat.le_refl _) (fin_w fin (Nat.le_refl _))
  · refine q_drop (ck_ledger h0 o0 (e_var rfl)) hA fun Hk1 H1 g1 a1 => ?_
    refine q_drop (ck_changes h1 o1 (e_var rfl)) a1 fun Hk2 H2 g2 a2 => ?_
    refine q_drop (ck_rows h2 o2 (e_var rfl)) a2 fun Hk3 H3 g3 a3 => ?_
    obtain ⟨rows, m, hr1, hr2, hr3, rfl⟩ := rows_ok h2 o2
    obtain ⟨ds, rfl⟩ : ∃ ds, d1 = .list ds := by
      cases d1 with
      | list ds => exact ⟨ds, rfl⟩
      | _ => cases h1
    have hln2 : (rows.map pol).length ≠ ds.length + 1 := hln
    exact q_whenB (b := true) (tb_is (tb_test (e_neDI (e_lenL (ds := rows.map pol) (e_var rfl)) (e_addI (e_lenL (ds := ds) (e_var rfl)) e_int))) (by simp only [Bool.not_eq_true', beq_eq_false_iff_ne]; omega)) a3 (fun _ Hk3 H3 g3 a9 => s_raise fin a9 (Nat.le_refl _) T.g_OtherLength) (fun h => by cases h)
/-! ### common_log -/
def R_common_log : RelN := fun sls es => ∃ a b : List (Int × Int), a.length ≤ 1000 ∧ b.length ≤ 1000 ∧ sls = [.dat (.list (pd a)), .dat (.list (pd b))] ∧ es = pd (a.take (comN a b))
theorem ok_common_log (T : Tx K mg) : FnOk P w K mg base CX0 4 T.a_common_log T.fd_common_log P_common_log (spN R_common_log) := by
  have G_check_changes := ok_check_changes (P := P) (w := w) (base := base) T
  refine fn_okN T.F_common_log sc_common_log (by decide) (fun sls es h => by obtain ⟨a, b, _, _, rfl, _⟩ := h; rfl) fun cdv A outer s B0 Ew hr => ⟨_,
    (pss_cons (ps_expr (pe_call G_check_changes (hr.mono (by decide)) (by rfl) T.m_check_changes T.F_check_changes.kp T.b_check_changes .nil pass0 (pa_cons (pv 0) pa_nil)))
      (pss_cons (ps_expr (pe_call G_check_changes (hr.mono (by decide)) (by rfl) T.m_check_changes T.F_check_changes.kp T.b_check_changes .nil pass0 (pa_cons (pv 1) pa_nil)))
      (pss_cons (ps_set (i := 2) sc_common_log.nd rfl (Or.inl rfl) pe_int)
      (pss_cons (ps_while PassesOwn.never (PW.pt (pw_and (pt_cmpR op_lt (pv 2) (pe_callB (call_minQ rfl) (by rfl) T.z_min (by decide +kernel) (pa_cons (pe_callB (k_len (K := K) rfl) (by rfl) T.z_len (by decide +kernel) (pa_cons (pv 0) pa_nil)) (pa_cons (pe_callB (k_len (K := K) rfl) (by rfl) T.z_len (by decide +kernel) (pa_cons (pv 1) pa_nil)) pa_nil))) (nomark _)) (pw_and1 (pt_cmpR (k_eqD (K := K) rfl hr.units) (pe_ix (k_ix (K := K) rfl) (pv 0) (pv 2) (fun _ _ => rfl)) (pe_ix (k_ix (K := K) rfl) (pv 1) (pv 2) (fun _ _ => rfl)) (nomark _))))) (pss_one (ps_set (i := 2) sc_common_log.nd rfl (Or.inl rfl) (pe_op (k_addU (K := K) rfl) (pv 2) pe_int))))
      (pss_one (ps_ret (pe_slice (k_sl (K := K) rfl) (pv 0) po_none (po_some (pv 2))))))))), fun q sls n es A0 σ Q hR hA fin => ?_⟩
  obtain ⟨a, b, hal, hbl, rfl, rfl⟩ := hR
  have hcl := comN_le a b
  refine q_drop (j_call (R := R_check_changes) (ae_cons (e_var rfl) ae_nil) fun sls e => ⟨rfl, a, by omega, e, rfl⟩) hA fun Hk1 H1 g1 a1 => ?_
  refine q_drop (j_call (R := R_check_changes) (ae_cons (e_var rfl) ae_nil) fun sls e => ⟨rfl, b, by omega, e, rfl⟩) a1 fun Hk2 H2 g2 a2 => ?_
  refine q_asgE (i := 2) (d := .int ((0 : Nat) : Int)) (e_is e_int rfl) a2 fun σ3 Hk3 H3 g3 a3 => ?_
  refine q_while (q := q) (A0 := A0) (B0 := B0) (fun m σ' Hk' H' => ∃ i : Nat, i + m = comN a b ∧ At q n [.dat (.list (pd a)), .dat (.list (pd b)), .dat (.int (i : Int))] A0 B0 σ' Hk' H') (comN a b) ⟨0, by omega, a3⟩ fun m σ' Hk' H' ⟨i, hi, st⟩ => ?_
  refine ⟨_, decide (i < comN a b), n, tb_is (tb_and (a := decide ((i : Int) < (if (b.length : Int) < (a.length : Int) then (b.length : Int) else (a.length : Int)))) (b := decide (i < comN a b)) (tb_test (e_ltI (e_var rfl) (e_min (e_is (e_lenL (e_var rfl)) (d1 := .int ((a.length : Nat) : Int)) (by rw [pd_len])) (e_is (e_lenL (e_var rfl)) (d1 := .int ((b.length : Nat) : Int)) (by rw [pd_len]))))) fun hlt => ?_) ?_, st, fun hb Hk4 H4 g4 a4 => ?_, fun hb Hk4 H4 g4 a4 => ?_⟩
  · have hlt2 := of_decide_eq_true hlt
    have h1 : i < a.length := by split at hlt2 <;> omega
    have h2 : i < b.length := by split at hlt2 <;> omega
    refine tb_test (e_is (e_eqD (e_iL (e_var rfl) (e_var rfl) (at_pdK (List.getElem?_eq_getElem h1))) (e_iL (e_var rfl) (e_var rfl) (at_pdK (List.getElem?_eq_getElem h2))) (shaped_pr _) (shaped_pr _)) ?_)
    rw [eqv_pr]
    have z := comN_end a b i (by omega) h1 h2
    rw [List.getElem?_eq_getElem h1, List.getElem?_eq_getElem h2] at z
    congr 1
    rw [decide_eq_decide]
    exact ⟨fun h => z.mp (congrArg some h), fun h => Option.some.inj (z.mpr h)⟩
  · by_cases h : i < comN a b
    · rw [decide_eq_true h, Bool.and_true]
      refine decide_eq_true ?_
      split <;> omega
    · rw [decide_eq_false h, Bool.and_false]
  · have h := of_decide_eq_true hb
    refine s_asgE (i := 2) (d := .int ((i + 1 : Nat) : Int)) (e_is (e_addI (e_var rfl) e_int) (by congr 1)) a4 fun σ5 Hk5 H5 g5 a5 => ⟨m - 1, Hk5, by omega, i + 1, by omega, a5⟩
  · have h := of_decide_eq_false hb
    have e : i = comN a b := by omega
    subst e
    exact s_retN (JN.is (slLN (e_var rfl) to_none (to_some (e_var rfl))) (by rw [cutD_to]; unfold pd; rw [List.map_take])) a4 (Nat.le_refl _) fin
/-! ### common_log, where it raises -/
def B_common_log : RelE := fun _ sls c x => c = 0 ∧ ∃ d0 d1, OkL d0 ∧ OkL d1 ∧ sls = [.dat d0, .dat d1] ∧ ((isChsD d0 = false ∧ x = "InvalidChanges") ∨ (isChsD d0 = true ∧ isChsD d1 = false ∧ x = "InvalidChanges"))
theorem ox_common_log (T : Tx K mg) : FnOk P w K mg base (L2.CX P w) 4 T.a_common_log T.fd_common_log P_common_log (spE mg B_common_log) := by
  have U_check_changes := fn_or (fn_lift (ok_check_changes (P := P) (w := w) (base := base) T)) (ox_check_changes (P := P) (w := w) (base := base) T)
  refine fn_okE T.F_common_log sc_common_log (by decide) (fun q sls c x h => by obtain ⟨_, d0, d1, _, _, rfl, _⟩ := h; rfl) fun cdv A outer s B0 Ew hr => ⟨_,
    (pss_cons (ps_expr (pe_call U_check_changes (hr.mono (by decide)) (by rfl) T.m_check_changes T.F_check_changes.kp T.b_check_changes .nil (passes_call (W := fun cls d _ H => Ew cls d H) (E := Ew) (takes_of rfl rfl rfl rfl) fun _ _ _ _ h => h) (pa_cons (pv 0) pa_nil)))
      (pss_cons (ps_expr (pe_call U_check_changes (hr.mono (by decide)) (by rfl) T.m_check_changes T.F_check_changes.kp T.b_check_changes .nil (passes_call (W := fun cls d _ H => Ew cls d H) (E := Ew) (takes_of rfl rfl rfl rfl) fun _ _ _ _ h => h) (pa_cons (pv 1) pa_nil)))
      (pss_cons ps_never
      (pss_cons ps_never
      (pss_one ps_never))))), fun q sls n c x A0 σ Q hR hA fin => ?_⟩
  obtain ⟨rfl, d0, d1, o0, o1, rfl, h⟩ := hR
  rcases h with ⟨h0, rfl⟩ | ⟨h0, h1, rfl⟩
  · exact q_dropR (rs_call (c := 0) (B := B_check_changes) (ae_cons (e_var rfl) ae_nil) fun sls es => ⟨rfl, d0, o0, h0, es, rfl⟩) hA (Nat.le_refl _) (fin_w fin (Nat.le_refl _))
  · refine q_drop (ck_changes h0 o0 (e_var rfl)) hA fun Hk1 H1 g1 a1 => ?_
    exact q_dropR (rs_call (c := 0) (B := B_check_changes) (ae_cons (e_var rfl) ae_nil) fun sls es => ⟨rfl, d1, o1, h1, es, rfl⟩) a1 (Nat.le_refl _) (fin_w fin (Nat.le_refl _))
/-! ### shortest_undo -/
def R_shortest_undo : RelN := fun sls es => ∃ cs : List (Int × Int), cs.length ≤ 1000 ∧ sls = [.dat (.list (pd cs))] ∧ es = pd ((gather cs).map fun x => (x.1, -x.2))
theorem ok_shortest_undo (T : Tx K mg) : FnOk P w K mg base CX0 4 T.a_shortest_undo T.fd_shortest_undo P_shortest_undo (spN R_shortest_undo) := by
  have G_check_changes := ok_check_changes (P := P) (w := w) (base := base) T
  have G_summed := ok_summed (P := P) (w := w) (base := base) T
  refine fn_okN T.F_shortest_undo sc_shortest_undo (by decide) (fun sls es h => by obtain ⟨cs, _, rfl, _⟩ := h; rfl) fun cdv A outer s B0 Ew hr => ⟨_,
    (pss_cons (ps_expr (pe_call G_check_changes (hr.mono (by decide)) (by rfl) T.m_check_changes T.F_check_changes.kp T.b_check_changes .nil pass0 (pa_cons (pv 0) pa_nil)))
      (pss_one (ps_ret (pe_lc (own := [("key", 1), ("amount", 2)]) rfl sc_shortest_undo.nd (k_piTup (K := K) rfl (pe_call G_summed (hr.mono (by decide)) (by rfl) T.m_summed T.F_summed.kp T.b_summed .nil pass0 (pa_cons (pv 0) pa_nil))) (blkOk_by (own := [("key", 1), ("amount", 2)]) (N := N_shortest_undo) (sc := defScope s_shortest_undo) (by decide +kernel)) (fun _ _ _ _ _ => (k_pgTup (K := K) (n := 2) rfl rfl (pgs_cons (pg_name (i := 1) sc_shortest_undo.nd rfl (Or.inl rfl)) (pgs_cons (pg_name (i := 2) sc_shortest_undo.nd rfl (Or.inl rfl)) pgs_nil)))) (fun _ _ _ _ _ => pts_nil) (fun _ _ _ _ _ => (Cr.pe_tup (pa_cons (pv 1) (pa_cons (pe_un un_neg (pv 2)) pa_nil)))))))), fun q sls n es A0 σ Q hR hA fin => ?_⟩
  obtain ⟨cs, hc, rfl, rfl⟩ := hR
  refine q_drop (j_call (R := R_check_changes) (ae_cons (e_var rfl) ae_nil) fun sls e => ⟨rfl, cs, by omega, e, rfl⟩) hA fun Hk2 H2 g2 a2 => ?_
  have hg := gather_len cs
  exact s_retN (JN.is (e_lcN (vs := [1, 2]) (emb := pr) (xs := gather cs) (ie_tup (j_call (R := R_summed) (c := 0) (Φ := fun d => d = led (gather cs)) (ae_cons (e_var rfl) ae_nil) fun sls e => ⟨rfl, cs, by omega, e, rfl⟩)) (fun x => pr (x.1, -x.2)) (by omega) fun x hx => ⟨_, gb_tup2 (by simp) (by simp), e_pr (e_var rfl) (e_un (e_var rfl))⟩) (by unfold pd; rw [List.map_map]; rfl)) a2 (Nat.le_refl _) fin
/-! ### shortest_undo, where it raises -/
def B_shortest_undo : RelE := fun _ sls c x => c = 0 ∧ ∃ d0, OkL d0 ∧ sls = [.dat d0] ∧ ((isChsD d0 = false ∧ x = "InvalidChanges"))
theorem ox_shortest_undo (T : Tx K mg) : FnOk P w K mg base (L2.CX P w) 4 T.a_shortest_undo T.fd_shortest_undo P_shortest_undo (spE mg B_shortest_undo) := by
  have U_check_changes := fn_or (fn_lift (ok_check_changes (P := P) (w := w) (base := base) T)) (ox_check_changes (P := P) (w := w) (base := base) T)
  refine fn_okE T.F_shortest_undo sc_shortest_undo (by decide) (fun q sls c x h => by obtain ⟨_, d0, _, rfl, _⟩ := h; rfl) fun cdv A outer s B0 Ew hr => ⟨_,
    (pss_cons (ps_expr (pe_call U_check_changes (hr.mono (by decide)) (by rfl) T.m_check_changes T.F_check_changes.kp T.b_check_changes .nil (passes_call (W := fun cls d _ H => Ew cls d H) (E := Ew) (takes_of rfl rfl rfl rfl) fun _ _ _ _ h => h) (pa_cons (pv 0) pa_nil)))
      (pss_one ps_never)), fun q sls n c x A0 σ Q hR hA fin => ?_⟩
  obtain ⟨rfl, d0, o0, rfl, h⟩ := hR
  obtain ⟨h0, rfl⟩ := h
  exact q_dropR (rs_call (c := 0) (B := B_check_changes) (ae_cons (e_var rfl) ae_nil) fun sls es => ⟨rfl, d0, o0, h0, es, rfl⟩) hA (Nat.le_refl _) (fin_w fin (Nat.le_refl _))
/-! ### changed_in -/

theorem ok_changed_in (T : Tx K mg) : FnOk P w K mg base CX0 1 T.a_changed_in T.fd_changed_in P_changed_in spChg := by
  refine T.F_changed_in.ok sc_changed_in (fun vs H Q Ew h => by obtain ⟨_, _, _, _, _, _, _, _, _, rfl, _⟩ := h; rfl) (fun cdv A outer s H vs Q Ew hr h => ?_)
  have hu := hu_of hr
  obtain ⟨q, Hk, r, mm, p, i, j, n, o, rfl, nk, nq, hm, hz, hl, kont⟩ := h
  refine ⟨_, (pss_cons (ps_set (i := 3) sc_changed_in.nd rfl (Or.inl rfl) (pe_op (k_addU (K := K) rfl) (pe_dget2 hu (pv 0) (pv 1) pe_int ⟨rfl, rfl, rfl, rfl⟩) (pv 2)))
      (pss_cons (ps_if (pt_cmpR (k_eqD (K := K) rfl hr.units) (pv 3) pe_int (nomark _)) (pss_one (ps_expr (pe_dpop2 (pv 0) (pv 1) pe_non ⟨rfl, rfl, rfl, rfl⟩))) (pss_one (ps_dput hu (pv 0) (pv 1) (pv 3) rfl)))
      (pss_one (ps_ret (pv 3))))), ?_⟩
  have hA : At q n [.adr r, .dat (.int i), .dat (.int j), .any] Hk (hole r H) (L2.start N_changed_in [.ref r, .int i, .int j]) Hk H := ⟨o, start_sg (N := N_changed_in) (VS.cons (s := .adr r) rfl (VS.cons (s := .dat (.int i)) (.int i) (VS.cons (s := .dat (.int j)) (.int j) VS.nil))) (by show 3 ≤ 4; decide), Gr.hole o.a⟩
  have hln := hz.len
  refine q_dgetA (i := 0) (ik := 1) (ib := 2) (l := 3) hA rfl rfl rfl hm fun σ1 a1 => ?_
  rw [hz.getD] at a1
  refine q_ifB (b := (tot p i + j == 0)) (tb_test (e_eqDI (e_var rfl) e_int)) a1 (fun hb Hk2 H2 g2 a2 => ?_) (fun hb Hk2 H2 g2 a2 => ?_)
  · have hm2 : H2 r = some (.dK (mdict mm)) := g2.s r _ nq hm
    have nk2 : Hk2 r = none := g2.f r nk (by rw [hm]; exact fun z => by cases z)
    refine s_dpop (i := 0) (ik := 1) a2 rfl rfl hm2 nk2 nq hole_at fun H3 a3 h3 => ?_
    obtain ⟨w3, hw, dw⟩ := a3.sg.get (i := 3) rfl
    have ew := dw.intOf
    subst ew
    exact ⟨_, hw, kont _ Hk2 H3 a3.gr a3.ok h3 nk2 (hz.drop (by simpa using hb))⟩
  · have hm2 : H2 r = some (.dK (mdict mm)) := g2.s r _ nq hm
    have nk2 : Hk2 r = none := g2.f r nk (by rw [hm]; exact fun z => by cases z)
    refine s_dput (i := 0) (n := n) (c1 := 0) (c2 := 0) (P1 := fun v => v = tot p i + j) (P2 := fun k => k = i) (e_var rfl).intP (e_var rfl).intP a2 rfl hm2 nk2 nq hole_at (by omega) fun v k Hk3 H3 hv hk s3 a3 h3 n3 => ?_
    subst hv; subst hk
    obtain ⟨w3, hw, dw⟩ := a3.sg.get (i := 3) rfl
    have ew := dw.intOf
    subst ew
    exact ⟨_, hw, kont _ Hk3 H3 a3.gr a3.ok h3 n3 (hz.set (by simpa using hb))⟩
/-! ### first_return -/
def R_first_return : RelX := fun _ sls c Φ => c = 0 ∧ ∃ cs : List (Int × Int), cs.length ≤ 1000 ∧ sls = [.dat (.list (pd cs))] ∧ Φ = fun d => d = retD cs
theorem ok_first_return (T : Tx K mg) : FnOk P w K mg base CX0 4 T.a_first_return T.fd_first_return P_first_return (spX R_first_return) := by
  have G_changed_in := ok_changed_in (P := P) (w := w) (base := base) T
  have G_check_changes := ok_check_changes (P := P) (w := w) (base := base) T
  refine fn_ok T.F_first_return sc_first_return (by decide) (fun q sls c Φ h => by obtain ⟨_, cs, _, rfl, _⟩ := h; rfl) fun cdv A outer s B0 Ew hr => ⟨_,
    (pss_cons (ps_expr (pe_call G_check_changes (hr.mono (by decide)) (by rfl) T.m_check_changes T.F_check_changes.kp T.b_check_changes .nil pass0 (pa_cons (pv 0) pa_nil)))
      (pss_cons (ps_set (i := 1) sc_first_return.nd rfl (Or.inl rfl) pe_dnewK)
      (pss_cons (ps_for PassesOwn.never rfl (k_enumL (K := K) rfl rfl T.z_enumerate (pa_cons (pv 0) pa_nil)) (k_pgTup (K := K) (n := 2) rfl rfl (pgs_cons (pg_name (i := 2) sc_first_return.nd rfl (Or.inl rfl)) (pgs_cons (k_pgTup (K := K) (n := 2) rfl rfl (pgs_cons (pg_name (i := 3) sc_first_return.nd rfl (Or.inl rfl)) (pgs_cons (pg_name (i := 4) sc_first_return.nd rfl (Or.inl rfl)) pgs_nil))) pgs_nil))) (pss_cons (ps_expr (pe_call G_changed_in (hr.mono (by decide)) (by rfl) T.m_changed_in T.F_changed_in.kp T.b_changed_in .nil pass0 (pa_cons (pv 1) (pa_cons (pv 3) (pa_cons (pv 4) pa_nil)))))
      (pss_one (ps_if (pt_cmpR (k_eqD (K := K) rfl hr.units) (pe_callB call_lenDk (by rfl) T.z_len (by decide +kernel) (pa_cons (pv 1) pa_nil)) pe_int (nomark _)) (pss_one (ps_ret (pe_op (k_addU (K := K) rfl) (pv 2) pe_int))) pss_nil))))
      (pss_one (ps_ret pe_non))))), fun q sls n c Φ A0 σ Q hR hA fin => ?_⟩
  obtain ⟨rfl, cs, hc, rfl, rfl⟩ := hR
  refine q_drop (j_call (R := R_check_changes) (ae_cons (e_var rfl) ae_nil) fun sls e => ⟨rfl, cs, by omega, e, rfl⟩) hA fun Hk1 H1 g1 a1 => ?_
  intro r hr'
  have hk : Hk1 r = none := a1.ok.a.free hr'
  have nb : B0 r = none := by
    cases e : B0 r with
    | none => rfl
    | some u => exact absurd hr' (a1.gr.t r (by rw [e]; exact fun z => by cases z))
  have nq : q ≠ some r := fun e => (a1.ok.j r e).ne hr'
  have s1 : At q n [.dat (.list (pd cs)), .adr r, .any, .any, .any] A0 B0 (σ.set 1 (some (.ref r))) Hk1 (upd H1 r (.dK (mdict []))) := ⟨a1.ok.cell hk nq, a1.sg.set 1 (s := .adr r) rfl, a1.gr.put nb hk⟩
  refine q_for (n := n) (c := 0) (ie_enumL (e_var rfl)) s1 fun items HkW H2 ei g0 s2 => ?_
  subst ei
  have hkw : HkW r = none := g0.f r hk (by rw [upd_same]; exact fun z => by cases z)
  have hpw : H2 r = some (.dK (mdict [])) := g0.s r _ nq upd_same
  refine ⟨fun i σ' Hk' H' => Same HkW Hk' ∧ ∃ m : List (Int × Int), NzOf (cs.take i) m ∧ (∀ k < i, (gather (cs.take (k + 1))).isEmpty = false) ∧ H' r = some (.dK (mdict m)) ∧ Hk' r = none ∧ At q n [.dat (.list (pd cs)), .adr r, .any, .any, .any] A0 B0 σ' Hk' H', ⟨Same.refl _, [], NzOf.nil, (fun k hk => absurd hk (Nat.not_lt_zero _)), hpw, hkw, s2⟩, ?_, ?_, ?_⟩
  · rintro i σ' Hk' H' ⟨h1, m, _, _, _, _, st⟩
    exact ⟨h1, st.ok.a⟩
  · rintro i d σ' Hk' H' ed ⟨h1, m, hz, hno, hm, hn, st⟩ v Hk3 H3 g3 dv
    have hil : i < cs.length := by
      have z := (List.getElem?_eq_some_iff.mp ed).1
      rw [enumD_len, pd_len] at z
      exact z
    have ex : cs[i]? = some (cs[i]'hil) := List.getElem?_eq_getElem hil
    have e2 := enumD_get (ds := pd cs) (i := i) (d := pr (cs[i]'hil)) (by unfold pd; rw [List.getElem?_map, ex]; rfl)
    rw [e2] at ed
    have ed2 := Option.some.inj ed
    subst ed2
    obtain ⟨x, exx⟩ : ∃ x, x = cs[i]'hil := ⟨_, rfl⟩
    rw [← exx] at ex dv
    have hn3 : Hk3 r = none := g3.f r hn (by rw [hm]; exact fun z => by cases z)
    have hm3 : H3 r = some (.dK (mdict m)) := g3.s r _ (fun z => by cases z) hm
    refine gb_tupN (d1 := .int (i : Nat)) (d2 := .int x.1) (d3 := .int x.2) (vs := [2, 3, 4]) (by simp) (by simp) (by simp) σ' Hk3 H3 v (st.sg.mono g3.k) g3.a dv _ fun σ4 sg4 _ _ => ?_
    have st4 : At q n [.dat (.list (pd cs)), .adr r, .dat (.int (i : Nat)), .dat (.int x.1), .dat (.int x.2)] A0 B0 σ4 Hk3 H3 := ⟨st.ok.go g3, sg4, st.gr.trans g3.none_to⟩
    have htk : cs.take (i + 1) = cs.take i ++ [(x.1, x.2)] := by rw [List.take_add_one, ex]; rfl
    refine q_chg (i := 1) (k := x.1) (v := x.2) st4 rfl (e_var rfl) (e_var rfl) hm3 hn3 nq nb hz (by rw [List.length_take]; omega) fun m' Hk5 H5 s5 a5 h5 n5 z5 => ?_
    rw [← htk] at z5
    refine s_ifLenD (i := 1) a5 rfl h5 (fun he => ?_) (fun he => ?_)
    · have hg : (gather (cs.take (i + 1))).isEmpty = true := by rw [z5.empty.mp he]; rfl
      exact s_retE (e_addI (e_var rfl) e_int) a5 (Nat.le_refl _) fin (by unfold retD; rw [fst_hit hil hno hg])
    · have hg : (gather (cs.take (i + 1))).isEmpty = false := by
        cases e : gather (cs.take (i + 1)) with
        | nil => exact absurd (z5.empty.mpr e) he
        | cons _ _ => rfl
      exact ⟨Hk5, (h1.trans g3.k).trans s5, m', z5, fun k hk => by
        by_cases hki : k < i
        · exact hno k hki
        · rw [show k = i by omega]; exact hg, h5, n5, ((a5.forget 2).forget 3).forget 4⟩
  · rintro σ' Hk' H' ⟨h1, m, hz, hno, hm, hn, st⟩
    rw [enumD_len, pd_len] at hno
    exact s_retE (d := .none) e_non st (Nat.le_refl _) fin (by unfold retD; rw [fst_none hno])
/-! ### first_return, where it raises -/
def B_first_return : RelE := fun _ sls c x => c = 0 ∧ ∃ d0, OkL d0 ∧ sls = [.dat d0] ∧ ((isChsD d0 = false ∧ x = "InvalidChanges"))
theorem ox_first_return (T : Tx K mg) : FnOk P w K mg base (L2.CX P w) 4 T.a_first_return T.fd_first_return P_first_return (spE mg B_first_return) := by
  have U_check_changes := fn_or (fn_lift (ok_check_changes (P := P) (w := w) (base := base) T)) (ox_check_changes (P := P) (w := w) (base := base) T)
  refine fn_okE T.F_first_return sc_first_return (by decide) (fun q sls c x h => by obtain ⟨_, d0, _, rfl, _⟩ := h; rfl) fun cdv A outer s B0 Ew hr => ⟨_,
    (pss_cons (ps_expr (pe_call U_check_changes (hr.mono (by decide)) (by rfl) T.m_check_changes T.F_check_changes.kp T.b_check_changes .nil (passes_call (W := fun cls d _ H => Ew cls d H) (E := Ew) (takes_of rfl rfl rfl rfl) fun _ _ _ _ h => h) (pa_cons (pv 0) pa_nil)))
      (pss_cons ps_never
      (pss_cons ps_never
      (pss_one ps_never)))), fun q sls n c x A0 σ Q hR hA fin => ?_⟩
  obtain ⟨rfl, d0, o0, rfl, h⟩ := hR
  obtain ⟨h0, rfl⟩ := h
  exact q_dropR (rs_call (c := 0) (B := B_check_changes) (ae_cons (e_var rfl) ae_nil) fun sls es => ⟨rfl, d0, o0, h0, es, rfl⟩) hA (Nat.le_refl _) (fin_w fin (Nat.le_refl _))
/-! ### _law_call -/
def GB (d : PyData) : Prop := ∃ l : List (Int × Int), Led l ∧ Kb 60 60 l ∧ l.length ≤ 400 ∧ d = led l
def GS (d : PyData) : Prop := ∃ cs : List (Int × Int), Kb 60 60 cs ∧ cs.length ≤ 400 ∧ d = .list (pd cs)
def GN (d : PyData) : Prop := ∃ i : Int, 1 ≤ i ∧ i ≤ 400 ∧ d = .int i
def GR (n : Nat) (d : PyData) : Prop := ∃ (rows : List (List Int)) (m : Nat), rows.length = n + 1 ∧ (1 ≤ m ∧ m ≤ 400) ∧ (∀ r ∈ rows, r.length = m) ∧ d = .list (rows.map pol)
def GoodC : Nat → List PyData → Prop
  | 0, [a, b, d, e, f, g] => GB a ∧ GS d
  | 1, [a, b, d, e, f, g] => GB a ∧ GS d
  | 2, [a, b, d, e, f, g] => GB a ∧ GB b
  | 3, [a, b, d, e, f, g] => GB a ∧ GB b
  | 4, [a, b, d, e, f, g] => GB a ∧ GS d ∧ GN f
  | 5, [a, b, d, e, f, g] => GB a ∧ GS d ∧ GN f
  | 6, [a, b, d, e, f, g] => GB a ∧ GS d ∧ GR (lenL d) g
  | 7, [a, b, d, e, f, g] => GB a ∧ GS d ∧ GR (lenL d) g
  | 8, [a, b, d, e, f, g] => GS d ∧ GS e
  | 9, [a, b, d, e, f, g] => GS d ∧ GS e
  | 10, [a, b, d, e, f, g] => GS d
  | 11, [a, b, d, e, f, g] => GS d
  | _, _ => False
def BadC (K : PySem.W.Frag) : Nat → List PyData → Str → Prop
  | 0, [a, b, d, e, f, g], x => B_ledger_after K none [.dat a, .dat d] 0 x
  | 1, [a, b, d, e, f, g], x => B_ledger_after K none [.dat a, .dat d] 0 x
  | 2, [a, b, d, e, f, g], x => B_short_log K none [.dat a, .dat b] 0 x
  | 3, [a, b, d, e, f, g], x => B_short_log K none [.dat a, .dat b] 0 x
  | 4, [a, b, d, e, f, g], x => B_sums_along K none [.dat a, .dat d, .dat f] 0 x
  | 5, [a, b, d, e, f, g], x => B_sums_along K none [.dat a, .dat d, .dat f] 0 x
  | 6, [a, b, d, e, f, g], x => B_log_fault K none [.dat a, .dat d, .dat g] 0 x
  | 7, [a, b, d, e, f, g], x => B_log_fault K none [.dat a, .dat d, .dat g] 0 x
  | 8, [a, b, d, e, f, g], x => B_common_log none [.dat d, .dat e] 0 x
  | 9, [a, b, d, e, f, g], x => B_common_log none [.dat d, .dat e] 0 x
  | 10, [a, b, d, e, f, g], x => B_shortest_undo none [.dat d] 0 x
  | 11, [a, b, d, e, f, g], x => B_first_return none [.dat d] 0 x
  | _, _, _ => False
def R__law_call : RelX := fun _ sls c Φ => c = 0 ∧ ∃ (w : Nat) (ds : List PyData), GoodC w ds ∧ sls = [.dat (.int (w : Int)), .dat (.list ds)] ∧ Φ = fun d => d = .none
theorem ok__law_call (T : Tx K mg) : FnOk P w K mg base CX0 7 T.a__law_call T.fd__law_call P__law_call (spX R__law_call) := by
  have G_common_log := ok_common_log (P := P) (w := w) (base := base) T
  have G_first_return := ok_first_return (P := P) (w := w) (base := base) T
  have G_ledger_after := ok_ledger_after (P := P) (w := w) (base := base) T
  have G_log_fault := ok_log_fault (P := P) (w := w) (base := base) T
  have G_short_log := ok_short_log (P := P) (w := w) (base := base) T
  have G_shortest_undo := ok_shortest_undo (P := P) (w := w) (base := base) T
  have G_sums_along := ok_sums_along (P := P) (w := w) (base := base) T
  refine fn_ok T.F__law_call sc__law_call (by decide) (fun q sls c Φ h => by obtain ⟨_, w, ds, _, rfl, _⟩ := h; rfl) fun cdv A outer s B0 Ew hr => ⟨_,
    (pss_cons (ps_asg (pv 1) (k_pgLst (K := K) (n := 6) rfl rfl (pgs_cons (pg_name (i := 2) sc__law_call.nd rfl (Or.inl rfl)) (pgs_cons (pg_name (i := 3) sc__law_call.nd rfl (Or.inl rfl)) (pgs_cons (pg_name (i := 4) sc__law_call.nd rfl (Or.inl rfl)) (pgs_cons (pg_name (i := 5) sc__law_call.nd rfl (Or.inl rfl)) (pgs_cons (pg_name (i := 6) sc__law_call.nd rfl (Or.inl rfl)) (pgs_cons (pg_name (i := 7) sc__law_call.nd rfl (Or.inl rfl)) pgs_nil))))))))
      (pss_one (ps_if (pt_cmpR (k_eqD (K := K) rfl hr.units) (pv 0) pe_int (nomark _)) (pss_one (ps_expr (pe_call G_ledger_after (hr.mono (by decide)) (by rfl) T.m_ledger_after T.F_ledger_after.kp T.b_ledger_after .nil pass0 (pa_cons (pv 2) (pa_cons (pv 4) pa_nil))))) (pss_one (ps_if (pt_cmpR (k_eqD (K := K) rfl hr.units) (pv 0) pe_int (nomark _)) (pss_one (ps_expr (pe_callK0 G_ledger_after (hr.mono (by decide)) (by rfl) T.m_ledger_after T.F_ledger_after.kp (kb_ledger_after_0_log_ledger T.F_ledger_after) pass0 (pk_cons (pv 4) (pk_cons (pv 2) pk_nil))))) (pss_one (ps_if (pt_cmpR (k_eqD (K := K) rfl hr.units) (pv 0) pe_int (nomark _)) (pss_one (ps_expr (pe_call G_short_log (hr.mono (by decide)) (by rfl) T.m_short_log T.F_short_log.kp T.b_short_log .nil pass0 (pa_cons (pv 2) (pa_cons (pv 3) pa_nil))))) (pss_one (ps_if (pt_cmpR (k_eqD (K := K) rfl hr.units) (pv 0) pe_int (nomark _)) (pss_one (ps_expr (pe_callK0 G_short_log (hr.mono (by decide)) (by rfl) T.m_short_log T.F_short_log.kp (kb_short_log_0_other_one T.F_short_log) pass0 (pk_cons (pv 3) (pk_cons (pv 2) pk_nil))))) (pss_one (ps_if (pt_cmpR (k_eqD (K := K) rfl hr.units) (pv 0) pe_int (nomark _)) (pss_one (ps_expr (pe_call G_sums_along (hr.mono (by decide)) (by rfl) T.m_sums_along T.F_sums_along.kp T.b_sums_along .nil pass0 (pa_cons (pv 2) (pa_cons (pv 4) (pa_cons (pv 6) pa_nil)))))) (pss_one (ps_if (pt_cmpR (k_eqD (K := K) rfl hr.units) (pv 0) pe_int (nomark _)) (pss_one (ps_expr (pe_callK0 G_sums_along (hr.mono (by decide)) (by rfl) T.m_sums_along T.F_sums_along.kp (kb_sums_along_0_number_log_ledger T.F_sums_along) pass0 (pk_cons (pv 6) (pk_cons (pv 4) (pk_cons (pv 2) pk_nil)))))) (pss_one (ps_if (pt_cmpR (k_eqD (K := K) rfl hr.units) (pv 0) pe_int (nomark _)) (pss_one (ps_expr (pe_call G_log_fault (hr.mono (by decide)) (by rfl) T.m_log_fault T.F_log_fault.kp T.b_log_fault .nil pass0 (pa_cons (pv 2) (pa_cons (pv 4) (pa_cons (pv 7) pa_nil)))))) (pss_one (ps_if (pt_cmpR (k_eqD (K := K) rfl hr.units) (pv 0) pe_int (nomark _)) (pss_one (ps_expr (pe_callK0 G_log_fault (hr.mono (by decide)) (by rfl) T.m_log_fault T.F_log_fault.kp (kb_log_fault_0_rows_log_ledger T.F_log_fault) pass0 (pk_cons (pv 7) (pk_cons (pv 4) (pk_cons (pv 2) pk_nil)))))) (pss_one (ps_if (pt_cmpR (k_eqD (K := K) rfl hr.units) (pv 0) pe_int (nomark _)) (pss_one (ps_expr (pe_call G_common_log (hr.mono (by decide)) (by rfl) T.m_common_log T.F_common_log.kp T.b_common_log .nil pass0 (pa_cons (pv 4) (pa_cons (pv 5) pa_nil))))) (pss_one (ps_if (pt_cmpR (k_eqD (K := K) rfl hr.units) (pv 0) pe_int (nomark _)) (pss_one (ps_expr (pe_callK0 G_common_log (hr.mono (by decide)) (by rfl) T.m_common_log T.F_common_log.kp (kb_common_log_0_other_one T.F_common_log) pass0 (pk_cons (pv 5) (pk_cons (pv 4) pk_nil))))) (pss_one (ps_if (pt_cmpR (k_eqD (K := K) rfl hr.units) (pv 0) pe_int (nomark _)) (pss_one (ps_expr (pe_call G_shortest_undo (hr.mono (by decide)) (by rfl) T.m_shortest_undo T.F_shortest_undo.kp T.b_shortest_undo .nil pass0 (pa_cons (pv 4) pa_nil)))) (pss_one (ps_expr (pe_callK0 G_first_return (hr.mono (by decide)) (by rfl) T.m_first_return T.F_first_return.kp (kb_first_return_0_log T.F_first_return) pass0 (pk_cons (pv 4) pk_nil))))))))))))))))))))))))))), fun q sls n c Φ A0 σ Q hR hA fin => ?_⟩
  obtain ⟨rfl, w, ds, h, rfl, rfl⟩ := hR
  match w, ds, h with
  | 0, [a, b, d, e, f, g], h =>
    obtain ⟨⟨la, hLa, hKa, hla, rfl⟩, ⟨cd, hKd, hld, rfl⟩⟩ := h
    refine q_asgL6 (d1 := led la) (d2 := b) (d3 := .list (pd cd)) (d4 := e) (d5 := f) (d6 := g) (e_var rfl) hA fun σ0 Hk0 H0 g0 a0 => ?_
    refine s_ifB (b := true) (tb_is (tb_test (e_eqDI (e_var rfl) e_int)) rfl) a0 (fun _ Hk1 H1 g1 a1 => ?_) (fun h => by cases h)
    exact s_drop (c := 0) (j_call (R := R_ledger_after) (c := 0) (ae_cons (e_var rfl) (ae_cons (e_var rfl) ae_nil)) fun sls es => ⟨rfl, la, cd, hLa, by omega, by omega, es, rfl⟩) a1 fun Hk' H2 g a => s_end a (Nat.le_refl _) fin rfl
  | 1, [a, b, d, e, f, g], h =>
    obtain ⟨⟨la, hLa, hKa, hla, rfl⟩, ⟨cd, hKd, hld, rfl⟩⟩ := h
    refine q_asgL6 (d1 := led la) (d2 := b) (d3 := .list (pd cd)) (d4 := e) (d5 := f) (d6 := g) (e_var rfl) hA fun σ0 Hk0 H0 g0 a0 => ?_
    refine s_ifB (b := false) (tb_is (tb_test (e_eqDI (e_var rfl) e_int)) rfl) a0 (fun h => by cases h) (fun _ Hk1 H1 g1 a1 => ?_)
    refine s_ifB (b := true) (tb_is (tb_test (e_eqDI (e_var rfl) e_int)) rfl) a1 (fun _ Hk2 H2 g2 a2 => ?_) (fun h => by cases h)
    exact s_drop (c := 0) (j_callK (R := R_ledger_after) (c := 0) (gS := fun _ _ => [.dat (led la), .dat (.list (pd cd))]) ae_nil (ae_cons (e_var rfl) (ae_cons (e_var rfl) ae_nil)) (fun H vs zs s u h1 h2 e1 e2 => by subst e1; subst e2; exact v_kb_ledger_after_0_log_ledger vs zs h1 h2) fun ss us _ _ => ⟨rfl, la, cd, hLa, by omega, by omega, rfl, rfl⟩) a2 fun Hk' H2 g a => s_end a (Nat.le_refl _) fin rfl
  | 2, [a, b, d, e, f, g], h =>
    obtain ⟨⟨la, hLa, hKa, hla, rfl⟩, ⟨lb, hLb, hKb, hlb, rfl⟩⟩ := h
    refine q_asgL6 (d1 := led la) (d2 := led lb) (d3 := d) (d4 := e) (d5 := f) (d6 := g) (e_var rfl) hA fun σ0 Hk0 H0 g0 a0 => ?_
    refine s_ifB (b := false) (tb_is (tb_test (e_eqDI (e_var rfl) e_int)) rfl) a0 (fun h => by cases h) (fun _ Hk1 H1 g1 a1 => ?_)
    refine s_ifB (b := false) (tb_is (tb_test (e_eqDI (e_var rfl) e_int)) rfl) a1 (fun h => by cases h) (fun _ Hk2 H2 g2 a2 => ?_)
    refine s_ifB (b := true) (tb_is (tb_test (e_eqDI (e_var rfl) e_int)) rfl) a2 (fun _ Hk3 H3 g3 a3 => ?_) (fun h => by cases h)
    exact s_drop (c := 0) (jn_call (R := R_short_log) (ae_cons (e_var rfl) (ae_cons (e_var rfl) ae_nil)) (⟨la, lb, ⟨hLa, by omega⟩, ⟨hLb, by omega⟩, rfl, rfl⟩)).e a3 fun Hk' H2 g a => s_end a (Nat.le_refl _) fin rfl
  | 3, [a, b, d, e, f, g], h =>
    obtain ⟨⟨la, hLa, hKa, hla, rfl⟩, ⟨lb, hLb, hKb, hlb, rfl⟩⟩ := h
    refine q_asgL6 (d1 := led la) (d2 := led lb) (d3 := d) (d4 := e) (d5 := f) (d6 := g) (e_var rfl) hA fun σ0 Hk0 H0 g0 a0 => ?_
    refine s_ifB (b := false) (tb_is (tb_test (e_eqDI (e_var rfl) e_int)) rfl) a0 (fun h => by cases h) (fun _ Hk1 H1 g1 a1 => ?_)
    refine s_ifB (b := false) (tb_is (tb_test (e_eqDI (e_var rfl) e_int)) rfl) a1 (fun h => by cases h) (fun _ Hk2 H2 g2 a2 => ?_)
    refine s_ifB (b := false) (tb_is (tb_test (e_eqDI (e_var rfl) e_int)) rfl) a2 (fun h => by cases h) (fun _ Hk3 H3 g3 a3 => ?_)
    refine s_ifB (b := true) (tb_is (tb_test (e_eqDI (e_var rfl) e_int)) rfl) a3 (fun _ Hk4 H4 g4 a4 => ?_) (fun h => by cases h)
    exact s_drop (c := 0) (jn_callK (R := R_short_log) (rs := [.dat (led la), .dat (led lb)]) ae_nil (ae_cons (e_var rfl) (ae_cons (e_var rfl) ae_nil)) (fun H vs zs h1 h2 => v_kb_short_log_0_other_one vs zs h1 h2) (⟨la, lb, ⟨hLa, by omega⟩, ⟨hLb, by omega⟩, rfl, rfl⟩)).e a4 fun Hk' H2 g a => s_end a (Nat.le_refl _) fin rfl
  | 4, [a, b, d, e, f, g], h =>
    obtain ⟨⟨la, hLa, hKa, hla, rfl⟩, ⟨cd, hKd, hld, rfl⟩, ⟨i, hi1, hi2, rfl⟩⟩ := h
    refine q_asgL6 (d1 := led la) (d2 := b) (d3 := .list (pd cd)) (d4 := e) (d5 := .int i) (d6 := g) (e_var rfl) hA fun σ0 Hk0 H0 g0 a0 => ?_
    refine s_ifB (b := false) (tb_is (tb_test (e_eqDI (e_var rfl) e_int)) rfl) a0 (fun h => by cases h) (fun _ Hk1 H1 g1 a1 => ?_)
    refine s_ifB (b := false) (tb_is (tb_test (e_eqDI (e_var rfl) e_int)) rfl) a1 (fun h => by cases h) (fun _ Hk2 H2 g2 a2 => ?_)
    refine s_ifB (b := false) (tb_is (tb_test (e_eqDI (e_var rfl) e_int)) rfl) a2 (fun h => by cases h) (fun _ Hk3 H3 g3 a3 => ?_)
    refine s_ifB (b := false) (tb_is (tb_test (e_eqDI (e_var rfl) e_int)) rfl) a3 (fun h => by cases h) (fun _ Hk4 H4 g4 a4 => ?_)
    refine s_ifB (b := true) (tb_is (tb_test (e_eqDI (e_var rfl) e_int)) rfl) a4 (fun _ Hk5 H5 g5 a5 => ?_) (fun h => by cases h)
    exact s_drop (c := 0) (jn_call (R := R_sums_along) (ae_cons (e_var rfl) (ae_cons (e_var rfl) (ae_cons (e_var rfl) ae_nil))) (⟨la, cd, i, ⟨hLa, by omega, hKa⟩, ⟨by omega, hKd⟩, ⟨hi1, hi2⟩, rfl, rfl⟩)).e a5 fun Hk' H2 g a => s_end a (Nat.le_refl _) fin rfl
  | 5, [a, b, d, e, f, g], h =>
    obtain ⟨⟨la, hLa, hKa, hla, rfl⟩, ⟨cd, hKd, hld, rfl⟩, ⟨i, hi1, hi2, rfl⟩⟩ := h
    refine q_asgL6 (d1 := led la) (d2 := b) (d3 := .list (pd cd)) (d4 := e) (d5 := .int i) (d6 := g) (e_var rfl) hA fun σ0 Hk0 H0 g0 a0 => ?_
    refine s_ifB (b := false) (tb_is (tb_test (e_eqDI (e_var rfl) e_int)) rfl) a0 (fun h => by cases h) (fun _ Hk1 H1 g1 a1 => ?_)
    refine s_ifB (b := false) (tb_is (tb_test (e_eqDI (e_var rfl) e_int)) rfl) a1 (fun h => by cases h) (fun _ Hk2 H2 g2 a2 => ?_)
    refine s_ifB (b := false) (tb_is (tb_test (e_eqDI (e_var rfl) e_int)) rfl) a2 (fun h => by cases h) (fun _ Hk3 H3 g3 a3 => ?_)
    refine s_ifB (b := false) (tb_is (tb_test (e_eqDI (e_var rfl) e_int)) rfl) a3 (fun h => by cases h) (fun _ Hk4 H4 g4 a4 => ?_)
    refine s_ifB (b := false) (tb_is (tb_test (e_eqDI (e_var rfl) e_int)) rfl) a4 (fun h => by cases h) (fun _ Hk5 H5 g5 a5 => ?_)
    refine s_ifB (b := true) (tb_is (tb_test (e_eqDI (e_var rfl) e_int)) rfl) a5 (fun _ Hk6 H6 g6 a6 => ?_) (fun h => by cases h)
    exact s_drop (c := 0) (jn_callK (R := R_sums_along) (rs := [.dat (led la), .dat (.list (pd cd)), .dat (.int i)]) ae_nil (ae_cons (e_var rfl) (ae_cons (e_var rfl) (ae_cons (e_var rfl) ae_nil))) (fun H vs zs h1 h2 => v_kb_sums_along_0_number_log_ledger vs zs h1 h2) (⟨la, cd, i, ⟨hLa, by omega, hKa⟩, ⟨by omega, hKd⟩, ⟨hi1, hi2⟩, rfl, rfl⟩)).e a6 fun Hk' H2 g a => s_end a (Nat.le_refl _) fin rfl
  | 6, [a, b, d, e, f, g], h =>
    obtain ⟨⟨la, hLa, hKa, hla, rfl⟩, ⟨cd, hKd, hld, rfl⟩, ⟨rows, m, hrl, hm, hrm, rfl⟩⟩ := h
    have hrl2 : rows.length = cd.length + 1 := by rw [hrl]; show (pd cd).length + 1 = _; rw [pd_len]
    refine q_asgL6 (d1 := led la) (d2 := b) (d3 := .list (pd cd)) (d4 := e) (d5 := f) (d6 := .list (rows.map pol)) (e_var rfl) hA fun σ0 Hk0 H0 g0 a0 => ?_
    refine s_ifB (b := false) (tb_is (tb_test (e_eqDI (e_var rfl) e_int)) rfl) a0 (fun h => by cases h) (fun _ Hk1 H1 g1 a1 => ?_)
    refine s_ifB (b := false) (tb_is (tb_test (e_eqDI (e_var rfl) e_int)) rfl) a1 (fun h => by cases h) (fun _ Hk2 H2 g2 a2 => ?_)
    refine s_ifB (b := false) (tb_is (tb_test (e_eqDI (e_var rfl) e_int)) rfl) a2 (fun h => by cases h) (fun _ Hk3 H3 g3 a3 => ?_)
    refine s_ifB (b := false) (tb_is (tb_test (e_eqDI (e_var rfl) e_int)) rfl) a3 (fun h => by cases h) (fun _ Hk4 H4 g4 a4 => ?_)
    refine s_ifB (b := false) (tb_is (tb_test (e_eqDI (e_var rfl) e_int)) rfl) a4 (fun h => by cases h) (fun _ Hk5 H5 g5 a5 => ?_)
    refine s_ifB (b := false) (tb_is (tb_test (e_eqDI (e_var rfl) e_int)) rfl) a5 (fun h => by cases h) (fun _ Hk6 H6 g6 a6 => ?_)
    refine s_ifB (b := true) (tb_is (tb_test (e_eqDI (e_var rfl) e_int)) rfl) a6 (fun _ Hk7 H7 g7 a7 => ?_) (fun h => by cases h)
    exact s_drop (c := 0) (j_call (R := R_log_fault) (c := 0) (ae_cons (e_var rfl) (ae_cons (e_var rfl) (ae_cons (e_var rfl) ae_nil))) fun sls es => ⟨rfl, la, cd, rows, m, ⟨hLa, by omega, hKa⟩, ⟨by omega, hKd⟩, hrl2, hm, hrm, es, rfl⟩) a7 fun Hk' H2 g a => s_end a (Nat.le_refl _) fin rfl
  | 7, [a, b, d, e, f, g], h =>
    obtain ⟨⟨la, hLa, hKa, hla, rfl⟩, ⟨cd, hKd, hld, rfl⟩, ⟨rows, m, hrl, hm, hrm, rfl⟩⟩ := h
    have hrl2 : rows.length = cd.length + 1 := by rw [hrl]; show (pd cd).length + 1 = _; rw [pd_len]
    refine q_asgL6 (d1 := led la) (d2 := b) (d3 := .list (pd cd)) (d4 := e) (d5 := f) (d6 := .list (rows.map pol)) (e_var rfl) hA fun σ0 Hk0 H0 g0 a0 => ?_
    refine s_ifB (b := false) (tb_is (tb_test (e_eqDI (e_var rfl) e_int)) rfl) a0 (fun h => by cases h) (fun _ Hk1 H1 g1 a1 => ?_)
    refine s_ifB (b := false) (tb_is (tb_test (e_eqDI (e_var rfl) e_int)) rfl) a1 (fun h => by cases h) (fun _ Hk2 H2 g2 a2 => ?_)
    refine s_ifB (b := false) (tb_is (tb_test (e_eqDI (e_var rfl) e_int)) rfl) a2 (fun h => by cases h) (fun _ Hk3 H3 g3 a3 => ?_)
    refine s_ifB (b := false) (tb_is (tb_test (e_eqDI (e_var rfl) e_int)) rfl) a3 (fun h => by cases h) (fun _ Hk4 H4 g4 a4 => ?_)
    refine s_ifB (b := false) (tb_is (tb_test (e_eqDI (e_var rfl) e_int)) rfl) a4 (fun h => by cases h) (fun _ Hk5 H5 g5 a5 => ?_)
    refine s_ifB (b := false) (tb_is (tb_test (e_eqDI (e_var rfl) e_int)) rfl) a5 (fun h => by cases h) (fun _ Hk6 H6 g6 a6 => ?_)
    refine s_ifB (b := false) (tb_is (tb_test (e_eqDI (e_var rfl) e_int)) rfl) a6 (fun h => by cases h) (fun _ Hk7 H7 g7 a7 => ?_)
    refine s_ifB (b := true) (tb_is (tb_test (e_eqDI (e_var rfl) e_int)) rfl) a7 (fun _ Hk8 H8 g8 a8 => ?_) (fun h => by cases h)
    exact s_drop (c := 0) (j_callK (R := R_log_fault) (c := 0) (gS := fun _ _ => [.dat (led la), .dat (.list (pd cd)), .dat (.list (rows.map pol))]) ae_nil (ae_cons (e_var rfl) (ae_cons (e_var rfl) (ae_cons (e_var rfl) ae_nil))) (fun H vs zs s u h1 h2 e1 e2 => by subst e1; subst e2; exact v_kb_log_fault_0_rows_log_ledger vs zs h1 h2) fun ss us _ _ => ⟨rfl, la, cd, rows, m, ⟨hLa, by omega, hKa⟩, ⟨by omega, hKd⟩, hrl2, hm, hrm, rfl, rfl⟩) a8 fun Hk' H2 g a => s_end a (Nat.le_refl _) fin rfl
  | 8, [a, b, d, e, f, g], h =>
    obtain ⟨⟨cd, hKd, hld, rfl⟩, ⟨ce, hKe, hle, rfl⟩⟩ := h
    refine q_asgL6 (d1 := a) (d2 := b) (d3 := .list (pd cd)) (d4 := .list (pd ce)) (d5 := f) (d6 := g) (e_var rfl) hA fun σ0 Hk0 H0 g0 a0 => ?_
    refine s_ifB (b := false) (tb_is (tb_test (e_eqDI (e_var rfl) e_int)) rfl) a0 (fun h => by cases h) (fun _ Hk1 H1 g1 a1 => ?_)
    refine s_ifB (b := false) (tb_is (tb_test (e_eqDI (e_var rfl) e_int)) rfl) a1 (fun h => by cases h) (fun _ Hk2 H2 g2 a2 => ?_)
    refine s_ifB (b := false) (tb_is (tb_test (e_eqDI (e_var rfl) e_int)) rfl) a2 (fun h => by cases h) (fun _ Hk3 H3 g3 a3 => ?_)
    refine s_ifB (b := false) (tb_is (tb_test (e_eqDI (e_var rfl) e_int)) rfl) a3 (fun h => by cases h) (fun _ Hk4 H4 g4 a4 => ?_)
    refine s_ifB (b := false) (tb_is (tb_test (e_eqDI (e_var rfl) e_int)) rfl) a4 (fun h => by cases h) (fun _ Hk5 H5 g5 a5 => ?_)
    refine s_ifB (b := false) (tb_is (tb_test (e_eqDI (e_var rfl) e_int)) rfl) a5 (fun h => by cases h) (fun _ Hk6 H6 g6 a6 => ?_)
    refine s_ifB (b := false) (tb_is (tb_test (e_eqDI (e_var rfl) e_int)) rfl) a6 (fun h => by cases h) (fun _ Hk7 H7 g7 a7 => ?_)
    refine s_ifB (b := false) (tb_is (tb_test (e_eqDI (e_var rfl) e_int)) rfl) a7 (fun h => by cases h) (fun _ Hk8 H8 g8 a8 => ?_)
    refine s_ifB (b := true) (tb_is (tb_test (e_eqDI (e_var rfl) e_int)) rfl) a8 (fun _ Hk9 H9 g9 a9 => ?_) (fun h => by cases h)
    exact s_drop (c := 0) (jn_call (R := R_common_log) (ae_cons (e_var rfl) (ae_cons (e_var rfl) ae_nil)) (⟨cd, ce, by omega, by omega, rfl, rfl⟩)).e a9 fun Hk' H2 g a => s_end a (Nat.le_refl _) fin rfl
  | 9, [a, b, d, e, f, g], h =>
    obtain ⟨⟨cd, hKd, hld, rfl⟩, ⟨ce, hKe, hle, rfl⟩⟩ := h
    refine q_asgL6 (d1 := a) (d2 := b) (d3 := .list (pd cd)) (d4 := .list (pd ce)) (d5 := f) (d6 := g) (e_var rfl) hA fun σ0 Hk0 H0 g0 a0 => ?_
    refine s_ifB (b := false) (tb_is (tb_test (e_eqDI (e_var rfl) e_int)) rfl) a0 (fun h => by cases h) (fun _ Hk1 H1 g1 a1 => ?_)
    refine s_ifB (b := false) (tb_is (tb_test (e_eqDI (e_var rfl) e_int)) rfl) a1 (fun h => by cases h) (fun _ Hk2 H2 g2 a2 => ?_)
    refine s_ifB (b := false) (tb_is (tb_test (e_eqDI (e_var rfl) e_int)) rfl) a2 (fun h => by cases h) (fun _ Hk3 H3 g3 a3 => ?_)
    refine s_ifB (b := false) (tb_is (tb_test (e_eqDI (e_var rfl) e_int)) rfl) a3 (fun h => by cases h) (fun _ Hk4 H4 g4 a4 => ?_)
    refine s_ifB (b := false) (tb_is (tb_test (e_eqDI (e_var rfl) e_int)) rfl) a4 (fun h => by cases h) (fun _ Hk5 H5 g5 a5 => ?_)
    refine s_ifB (b := false) (tb_is (tb_test (e_eqDI (e_var rfl) e_int)) rfl) a5 (fun h => by cases h) (fun _ Hk6 H6 g6 a6 => ?_)
    refine s_ifB (b := false) (tb_is (tb_test (e_eqDI (e_var rfl) e_int)) rfl) a6 (fun h => by cases h) (fun _ Hk7 H7 g7 a7 => ?_)
    refine s_ifB (b := false) (tb_is (tb_test (e_eqDI (e_var rfl) e_int)) rfl) a7 (fun h => by cases h) (fun _ Hk8 H8 g8 a8 => ?_)
    refine s_ifB (b := false) (tb_is (tb_test (e_eqDI (e_var rfl) e_int)) rfl) a8 (fun h => by cases h) (fun _ Hk9 H9 g9 a9 => ?_)
    refine s_ifB (b := true) (tb_is (tb_test (e_eqDI (e_var rfl) e_int)) rfl) a9 (fun _ Hk10 H10 g10 a10 => ?_) (fun h => by cases h)
    exact s_drop (c := 0) (jn_callK (R := R_common_log) (rs := [.dat (.list (pd cd)), .dat (.list (pd ce))]) ae_nil (ae_cons (e_var rfl) (ae_cons (e_var rfl) ae_nil)) (fun H vs zs h1 h2 => v_kb_common_log_0_other_one vs zs h1 h2) (⟨cd, ce, by omega, by omega, rfl, rfl⟩)).e a10 fun Hk' H2 g a => s_end a (Nat.le_refl _) fin rfl
  | 10, [a, b, d, e, f, g], h =>
    obtain ⟨cd, hKd, hld, rfl⟩ := h
    refine q_asgL6 (d1 := a) (d2 := b) (d3 := .list (pd cd)) (d4 := e) (d5 := f) (d6 := g) (e_var rfl) hA fun σ0 Hk0 H0 g0 a0 => ?_
    refine s_ifB (b := false) (tb_is (tb_test (e_eqDI (e_var rfl) e_int)) rfl) a0 (fun h => by cases h) (fun _ Hk1 H1 g1 a1 => ?_)
    refine s_ifB (b := false) (tb_is (tb_test (e_eqDI (e_var rfl) e_int)) rfl) a1 (fun h => by cases h) (fun _ Hk2 H2 g2 a2 => ?_)
    refine s_ifB (b := false) (tb_is (tb_test (e_eqDI (e_var rfl) e_int)) rfl) a2 (fun h => by cases h) (fun _ Hk3 H3 g3 a3 => ?_)
    refine s_ifB (b := false) (tb_is (tb_test (e_eqDI (e_var rfl) e_int)) rfl) a3 (fun h => by cases h) (fun _ Hk4 H4 g4 a4 => ?_)
    refine s_ifB (b := false) (tb_is (tb_test (e_eqDI (e_var rfl) e_int)) rfl) a4 (fun h => by cases h) (fun _ Hk5 H5 g5 a5 => ?_)
    refine s_ifB (b := false) (tb_is (tb_test (e_eqDI (e_var rfl) e_int)) rfl) a5 (fun h => by cases h) (fun _ Hk6 H6 g6 a6 => ?_)
    refine s_ifB (b := false) (tb_is (tb_test (e_eqDI (e_var rfl) e_int)) rfl) a6 (fun h => by cases h) (fun _ Hk7 H7 g7 a7 => ?_)
    refine s_ifB (b := false) (tb_is (tb_test (e_eqDI (e_var rfl) e_int)) rfl) a7 (fun h => by cases h) (fun _ Hk8 H8 g8 a8 => ?_)
    refine s_ifB (b := false) (tb_is (tb_test (e_eqDI (e_var rfl) e_int)) rfl) a8 (fun h => by cases h) (fun _ Hk9 H9 g9 a9 => ?_)
    refine s_ifB (b := false) (tb_is (tb_test (e_eqDI (e_var rfl) e_int)) rfl) a9 (fun h => by cases h) (fun _ Hk10 H10 g10 a10 => ?_)
    refine s_ifB (b := true) (tb_is (tb_test (e_eqDI (e_var rfl) e_int)) rfl) a10 (fun _ Hk11 H11 g11 a11 => ?_) (fun h => by cases h)
    exact s_drop (c := 0) (jn_call (R := R_shortest_undo) (ae_cons (e_var rfl) ae_nil) (⟨cd, by omega, rfl, rfl⟩)).e a11 fun Hk' H2 g a => s_end a (Nat.le_refl _) fin rfl
  | 11, [a, b, d, e, f, g], h =>
    obtain ⟨cd, hKd, hld, rfl⟩ := h
    refine q_asgL6 (d1 := a) (d2 := b) (d3 := .list (pd cd)) (d4 := e) (d5 := f) (d6 := g) (e_var rfl) hA fun σ0 Hk0 H0 g0 a0 => ?_
    refine s_ifB (b := false) (tb_is (tb_test (e_eqDI (e_var rfl) e_int)) rfl) a0 (fun h => by cases h) (fun _ Hk1 H1 g1 a1 => ?_)
    refine s_ifB (b := false) (tb_is (tb_test (e_eqDI (e_var rfl) e_int)) rfl) a1 (fun h => by cases h) (fun _ Hk2 H2 g2 a2 => ?_)
    refine s_ifB (b := false) (tb_is (tb_test (e_eqDI (e_var rfl) e_int)) rfl) a2 (fun h => by cases h) (fun _ Hk3 H3 g3 a3 => ?_)
    refine s_ifB (b := false) (tb_is (tb_test (e_eqDI (e_var rfl) e_int)) rfl) a3 (fun h => by cases h) (fun _ Hk4 H4 g4 a4 => ?_)
    refine s_ifB (b := false) (tb_is (tb_test (e_eqDI (e_var rfl) e_int)) rfl) a4 (fun h => by cases h) (fun _ Hk5 H5 g5 a5 => ?_)
    refine s_ifB (b := false) (tb_is (tb_test (e_eqDI (e_var rfl) e_int)) rfl) a5 (fun h => by cases h) (fun _ Hk6 H6 g6 a6 => ?_)
    refine s_ifB (b := false) (tb_is (tb_test (e_eqDI (e_var rfl) e_int)) rfl) a6 (fun h => by cases h) (fun _ Hk7 H7 g7 a7 => ?_)
    refine s_ifB (b := false) (tb_is (tb_test (e_eqDI (e_var rfl) e_int)) rfl) a7 (fun h => by cases h) (fun _ Hk8 H8 g8 a8 => ?_)
    refine s_ifB (b := false) (tb_is (tb_test (e_eqDI (e_var rfl) e_int)) rfl) a8 (fun h => by cases h) (fun _ Hk9 H9 g9 a9 => ?_)
    refine s_ifB (b := false) (tb_is (tb_test (e_eqDI (e_var rfl) e_int)) rfl) a9 (fun h => by cases h) (fun _ Hk10 H10 g10 a10 => ?_)
    refine s_ifB (b := false) (tb_is (tb_test (e_eqDI (e_var rfl) e_int)) rfl) a10 (fun h => by cases h) (fun _ Hk11 H11 g11 a11 => ?_)
    exact s_drop (c := 0) (j_callK (R := R_first_return) (c := 0) (gS := fun _ _ => [.dat (.list (pd cd))]) ae_nil (ae_cons (e_var rfl) ae_nil) (fun H vs zs s u h1 h2 e1 e2 => by subst e1; subst e2; exact v_kb_first_return_0_log vs zs h1 h2) fun ss us _ _ => ⟨rfl, cd, by omega, rfl, rfl⟩) a11 fun Hk' H2 g a => s_end a (Nat.le_refl _) fin rfl
/-! ### _law_call, where it raises -/
def B__law_call (K : PySem.W.Frag) : RelE := fun _ sls c x => c = 0 ∧ ∃ (w : Nat) (ds : List PyData), BadC K w ds x ∧ sls = [.dat (.int (w : Int)), .dat (.list ds)]
theorem ox__law_call (T : Tx K mg) : FnOk P w K mg base (L2.CX P w) 7 T.a__law_call T.fd__law_call P__law_call (spE mg (B__law_call K)) := by
  have U_common_log := fn_or (fn_lift (ok_common_log (P := P) (w := w) (base := base) T)) (ox_common_log (P := P) (w := w) (base := base) T)
  have U_first_return := fn_or (fn_lift (ok_first_return (P := P) (w := w) (base := base) T)) (ox_first_return (P := P) (w := w) (base := base) T)
  have U_ledger_after := fn_or (fn_lift (ok_ledger_after (P := P) (w := w) (base := base) T)) (ox_ledger_after (P := P) (w := w) (base := base) T)
  have U_log_fault := fn_or (fn_lift (ok_log_fault (P := P) (w := w) (base := base) T)) (ox_log_fault (P := P) (w := w) (base := base) T)
  have U_short_log := fn_or (fn_lift (ok_short_log (P := P) (w := w) (base := base) T)) (ox_short_log (P := P) (w := w) (base := base) T)
  have U_shortest_undo := fn_or (fn_lift (ok_shortest_undo (P := P) (w := w) (base := base) T)) (ox_shortest_undo (P := P) (w := w) (base := base) T)
  have U_sums_along := fn_or (fn_lift (ok_sums_along (P := P) (w := w) (base := base) T)) (ox_sums_along (P := P) (w := w) (base := base) T)
  refine fn_okE T.F__law_call sc__law_call (by decide) (fun q sls c x h => by obtain ⟨_, w, ds, _, rfl⟩ := h; rfl) fun cdv A outer s B0 Ew hr => ⟨_,
    (pss_cons (ps_asg (pv 1) (k_pgLst (K := K) (n := 6) rfl rfl (pgs_cons (pg_name (i := 2) sc__law_call.nd rfl (Or.inl rfl)) (pgs_cons (pg_name (i := 3) sc__law_call.nd rfl (Or.inl rfl)) (pgs_cons (pg_name (i := 4) sc__law_call.nd rfl (Or.inl rfl)) (pgs_cons (pg_name (i := 5) sc__law_call.nd rfl (Or.inl rfl)) (pgs_cons (pg_name (i := 6) sc__law_call.nd rfl (Or.inl rfl)) (pgs_cons (pg_name (i := 7) sc__law_call.nd rfl (Or.inl rfl)) pgs_nil))))))))
      (pss_one (ps_if (pt_cmpR (k_eqD (K := K) rfl hr.units) (pv 0) pe_int (nomark _)) (pss_one (ps_expr (pe_call U_ledger_after (hr.mono (by decide)) (by rfl) T.m_ledger_after T.F_ledger_after.kp T.b_ledger_after .nil (passes_call (W := fun cls d _ H => Ew cls d H) (E := Ew) (takes_of rfl rfl rfl rfl) fun _ _ _ _ h => h) (pa_cons (pv 2) (pa_cons (pv 4) pa_nil))))) (pss_one (ps_if (pt_cmpR (k_eqD (K := K) rfl hr.units) (pv 0) pe_int (nomark _)) (pss_one (ps_expr (pe_callK0 U_ledger_after (hr.mono (by decide)) (by rfl) T.m_ledger_after T.F_ledger_after.kp (kb_ledger_after_0_log_ledger T.F_ledger_after) (passes_call (W := fun cls d _ H => Ew cls d H) (E := Ew) (takes_of rfl rfl rfl rfl) fun _ _ _ _ h => h) (pk_cons (pv 4) (pk_cons (pv 2) pk_nil))))) (pss_one (ps_if (pt_cmpR (k_eqD (K := K) rfl hr.units) (pv 0) pe_int (nomark _)) (pss_one (ps_expr (pe_call U_short_log (hr.mono (by decide)) (by rfl) T.m_short_log T.F_short_log.kp T.b_short_log .nil (passes_call (W := fun cls d _ H => Ew cls d H) (E := Ew) (takes_of rfl rfl rfl rfl) fun _ _ _ _ h => h) (pa_cons (pv 2) (pa_cons (pv 3) pa_nil))))) (pss_one (ps_if (pt_cmpR (k_eqD (K := K) rfl hr.units) (pv 0) pe_int (nomark _)) (pss_one (ps_expr (pe_callK0 U_short_log (hr.mono (by decide)) (by rfl) T.m_short_log T.F_short_log.kp (kb_short_log_0_other_one T.F_short_log) (passes_call (W := fun cls d _ H => Ew cls d H) (E := Ew) (takes_of rfl rfl rfl rfl) fun _ _ _ _ h => h) (pk_cons (pv 3) (pk_cons (pv 2) pk_nil))))) (pss_one (ps_if (pt_cmpR (k_eqD (K := K) rfl hr.units) (pv 0) pe_int (nomark _)) (pss_one (ps_expr (pe_call U_sums_along (hr.mono (by decide)) (by rfl) T.m_sums_along T.F_sums_along.kp T.b_sums_along .nil (passes_call (W := fun cls d _ H => Ew cls d H) (E := Ew) (takes_of rfl rfl rfl rfl) fun _ _ _ _ h => h) (pa_cons (pv 2) (pa_cons (pv 4) (pa_cons (pv 6) pa_nil)))))) (pss_one (ps_if (pt_cmpR (k_eqD (K := K) rfl hr.units) (pv 0) pe_int (nomark _)) (pss_one (ps_expr (pe_callK0 U_sums_along (hr.mono (by decide)) (by rfl) T.m_sums_along T.F_sums_along.kp (kb_sums_along_0_number_log_ledger T.F_sums_along) (passes_call (W := fun cls d _ H => Ew cls d H) (E := Ew) (takes_of rfl rfl rfl rfl) fun _ _ _ _ h => h) (pk_cons (pv 6) (pk_cons (pv 4) (pk_cons (pv 2) pk_nil)))))) (pss_one (ps_if (pt_cmpR (k_eqD (K := K) rfl hr.units) (pv 0) pe_int (nomark _)) (pss_one (ps_expr (pe_call U_log_fault (hr.mono (by decide)) (by rfl) T.m_log_fault T.F_log_fault.kp T.b_log_fault .nil (passes_call (W := fun cls d _ H => Ew cls d H) (E := Ew) (takes_of rfl rfl rfl rfl) fun _ _ _ _ h => h) (pa_cons (pv 2) (pa_cons (pv 4) (pa_cons (pv 7) pa_nil)))))) (pss_one (ps_if (pt_cmpR (k_eqD (K := K) rfl hr.units) (pv 0) pe_int (nomark _)) (pss_one (ps_expr (pe_callK0 U_log_fault (hr.mono (by decide)) (by rfl) T.m_log_fault T.F_log_fault.kp (kb_log_fault_0_rows_log_ledger T.F_log_fault) (passes_call (W := fun cls d _ H => Ew cls d H) (E := Ew) (takes_of rfl rfl rfl rfl) fun _ _ _ _ h => h) (pk_cons (pv 7) (pk_cons (pv 4) (pk_cons (pv 2) pk_nil)))))) (pss_one (ps_if (pt_cmpR (k_eqD (K := K) rfl hr.units) (pv 0) pe_int (nomark _)) (pss_one (ps_expr (pe_call U_common_log (hr.mono (by decide)) (by rfl) T.m_common_log T.F_common_log.kp T.b_common_log .nil (passes_call (W := fun cls d _ H => Ew cls d H) (E := Ew) (takes_of rfl rfl rfl rfl) fun _ _ _ _ h => h) (pa_cons (pv 4) (pa_cons (pv 5) pa_nil))))) (pss_one (ps_if (pt_cmpR (k_eqD (K := K) rfl hr.units) (pv 0) pe_int (nomark _)) (pss_one (ps_expr (pe_callK0 U_common_log (hr.mono (by decide)) (by rfl) T.m_common_log T.F_common_log.kp (kb_common_log_0_other_one T.F_common_log) (passes_call (W := fun cls d _ H => Ew cls d H) (E := Ew) (takes_of rfl rfl rfl rfl) fun _ _ _ _ h => h) (pk_cons (pv 5) (pk_cons (pv 4) pk_nil))))) (pss_one (ps_if (pt_cmpR (k_eqD (K := K) rfl hr.units) (pv 0) pe_int (nomark _)) (pss_one (ps_expr (pe_call U_shortest_undo (hr.mono (by decide)) (by rfl) T.m_shortest_undo T.F_shortest_undo.kp T.b_shortest_undo .nil (passes_call (W := fun cls d _ H => Ew cls d H) (E := Ew) (takes_of rfl rfl rfl rfl) fun _ _ _ _ h => h) (pa_cons (pv 4) pa_nil)))) (pss_one (ps_expr (pe_callK0 U_first_return (hr.mono (by decide)) (by rfl) T.m_first_return T.F_first_return.kp (kb_first_return_0_log T.F_first_return) (passes_call (W := fun cls d _ H => Ew cls d H) (E := Ew) (takes_of rfl rfl rfl rfl) fun _ _ _ _ h => h) (pk_cons (pv 4) pk_nil))))))))))))))))))))))))))), fun q sls n c x A0 σ Q hR hA fin => ?_⟩
  obtain ⟨rfl, w, ds, h, rfl⟩ := hR
  match w, ds, h with
  | 0, [a, b, d, e, f, g], h =>
    refine q_asgL6 (d1 := a) (d2 := b) (d3 := d) (d4 := e) (d5 := f) (d6 := g) (e_var rfl) hA fun σ0 Hk0 H0 g0 a0 => ?_
    refine s_ifB (b := true) (tb_is (tb_test (e_eqDI (e_var rfl) e_int)) rfl) a0 (fun _ Hk1 H1 g1 a1 => ?_) (fun h => by cases h)
    exact s_dropR (rs_call (c := 0) (B := B_ledger_after K) (ae_cons (e_var rfl) (ae_cons (e_var rfl) ae_nil)) fun sls es => by subst es; exact h) a1 (Nat.le_refl _) (fin_w fin (Nat.le_refl _))
  | 1, [a, b, d, e, f, g], h =>
    refine q_asgL6 (d1 := a) (d2 := b) (d3 := d) (d4 := e) (d5 := f) (d6 := g) (e_var rfl) hA fun σ0 Hk0 H0 g0 a0 => ?_
    refine s_ifB (b := false) (tb_is (tb_test (e_eqDI (e_var rfl) e_int)) rfl) a0 (fun h => by cases h) (fun _ Hk1 H1 g1 a1 => ?_)
    refine s_ifB (b := true) (tb_is (tb_test (e_eqDI (e_var rfl) e_int)) rfl) a1 (fun _ Hk2 H2 g2 a2 => ?_) (fun h => by cases h)
    exact s_dropR (rs_callK (B := B_ledger_after K) (rs := [.dat (a), .dat (d)]) ae_nil (ae_cons (e_var rfl) (ae_cons (e_var rfl) ae_nil)) (fun H vs zs h1 h2 => v_kb_ledger_after_0_log_ledger vs zs h1 h2) (show B_ledger_after K q [.dat (a), .dat (d)] 0 x from h)) a2 (Nat.le_refl _) (fin_w fin (Nat.le_refl _))
  | 2, [a, b, d, e, f, g], h =>
    refine q_asgL6 (d1 := a) (d2 := b) (d3 := d) (d4 := e) (d5 := f) (d6 := g) (e_var rfl) hA fun σ0 Hk0 H0 g0 a0 => ?_
    refine s_ifB (b := false) (tb_is (tb_test (e_eqDI (e_var rfl) e_int)) rfl) a0 (fun h => by cases h) (fun _ Hk1 H1 g1 a1 => ?_)
    refine s_ifB (b := false) (tb_is (tb_test (e_eqDI (e_var rfl) e_int)) rfl) a1 (fun h => by cases h) (fun _ Hk2 H2 g2 a2 => ?_)
    refine s_ifB (b := true) (tb_is (tb_test (e_eqDI (e_var rfl) e_int)) rfl) a2 (fun _ Hk3 H3 g3 a3 => ?_) (fun h => by cases h)
    exact s_dropR (rs_call (c := 0) (B := B_short_log K) (ae_cons (e_var rfl) (ae_cons (e_var rfl) ae_nil)) fun sls es => by subst es; exact h) a3 (Nat.le_refl _) (fin_w fin (Nat.le_refl _))
  | 3, [a, b, d, e, f, g], h =>
    refine q_asgL6 (d1 := a) (d2 := b) (d3 := d) (d4 := e) (d5 := f) (d6 := g) (e_var rfl) hA fun σ0 Hk0 H0 g0 a0 => ?_
    refine s_ifB (b := false) (tb_is (tb_test (e_eqDI (e_var rfl) e_int)) rfl) a0 (fun h => by cases h) (fun _ Hk1 H1 g1 a1 => ?_)
    refine s_ifB (b := false) (tb_is (tb_test (e_eqDI (e_var rfl) e_int)) rfl) a1 (fun h => by cases h) (fun _ Hk2 H2 g2 a2 => ?_)
    refine s_ifB (b := false) (tb_is (tb_test (e_eqDI (e_var rfl) e_int)) rfl) a2 (fun h => by cases h) (fun _ Hk3 H3 g3 a3 => ?_)
    refine s_ifB (b := true) (tb_is (tb_test (e_eqDI (e_var rfl) e_int)) rfl) a3 (fun _ Hk4 H4 g4 a4 => ?_) (fun h => by cases h)
    exact s_dropR (rs_callK (B := B_short_log K) (rs := [.dat (a), .dat (b)]) ae_nil (ae_cons (e_var rfl) (ae_cons (e_var rfl) ae_nil)) (fun H vs zs h1 h2 => v_kb_short_log_0_other_one vs zs h1 h2) (show B_short_log K q [.dat (a), .dat (b)] 0 x from h)) a4 (Nat.le_refl _) (fin_w fin (Nat.le_refl _))
  | 4, [a, b, d, e, f, g], h =>
    refine q_asgL6 (d1 := a) (d2 := b) (d3 := d) (d4 := e) (d5 := f) (d6 := g) (e_var rfl) hA fun σ0 Hk0 H0 g0 a0 => ?_
    refine s_ifB (b := false) (tb_is (tb_test (e_eqDI (e_var rfl) e_int)) rfl) a0 (fun h => by cases h) (fun _ Hk1 H1 g1 a1 => ?_)
    refine s_ifB (b := false) (tb_is (tb_test (e_eqDI (e_var rfl) e_int)) rfl) a1 (fun h => by cases h) (fun _ Hk2 H2 g2 a2 => ?_)
    refine s_ifB (b := false) (tb_is (tb_test (e_eqDI (e_var rfl) e_int)) rfl) a2 (fun h => by cases h) (fun _ Hk3 H3 g3 a3 => ?_)
    refine s_ifB (b := false) (tb_is (tb_test (e_eqDI (e_var rfl) e_int)) rfl) a3 (fun h => by cases h) (fun _ Hk4 H4 g4 a4 => ?_)
    refine s_ifB (b := true) (tb_is (tb_test (e_eqDI (e_var rfl) e_int)) rfl) a4 (fun _ Hk5 H5 g5 a5 => ?_) (fun h => by cases h)
    exact s_dropR (rs_call (c := 0) (B := B_sums_along K) (ae_cons (e_var rfl) (ae_cons (e_var rfl) (ae_cons (e_var rfl) ae_nil))) fun sls es => by subst es; exact h) a5 (Nat.le_refl _) (fin_w fin (Nat.le_refl _))
  | 5, [a, b, d, e, f, g], h =>
    refine q_asgL6 (d1 := a) (d2 := b) (d3 := d) (d4 := e) (d5 := f) (d6 := g) (e_var rfl) hA fun σ0 Hk0 H0 g0 a0 => ?_
    refine s_ifB (b := false) (tb_is (tb_test (e_eqDI (e_var rfl) e_int)) rfl) a0 (fun h => by cases h) (fun _ Hk1 H1 g1 a1 => ?_)
    refine s_ifB (b := false) (tb_is (tb_test (e_eqDI (e_var rfl) e_int)) rfl) a1 (fun h => by cases h) (fun _ Hk2 H2 g2 a2 => ?_)
    refine s_ifB (b := false) (tb_is (tb_test (e_eqDI (e_var rfl) e_int)) rfl) a2 (fun h => by cases h) (fun _ Hk3 H3 g3 a3 => ?_)
    refine s_ifB (b := false) (tb_is (tb_test (e_eqDI (e_var rfl) e_int)) rfl) a3 (fun h => by cases h) (fun _ Hk4 H4 g4 a4 => ?_)
    refine s_ifB (b := false) (tb_is (tb_test (e_eqDI (e_var rfl) e_int)) rfl) a4 (fun h => by cases h) (fun _ Hk5 H5 g5 a5 => ?_)
    refine s_ifB (b := true) (tb_is (tb_test (e_eqDI (e_var rfl) e_int)) rfl) a5 (fun _ Hk6 H6 g6 a6 => ?_) (fun h => by cases h)
    exact s_dropR (rs_callK (B := B_sums_along K) (rs := [.dat (a), .dat (d), .dat (f)]) ae_nil (ae_cons (e_var rfl) (ae_cons (e_var rfl) (ae_cons (e_var rfl) ae_nil))) (fun H vs zs h1 h2 => v_kb_sums_along_0_number_log_ledger vs zs h1 h2) (show B_sums_along K q [.dat (a), .dat (d), .dat (f)] 0 x from h)) a6 (Nat.le_refl _) (fin_w fin (Nat.le_refl _))
  | 6, [a, b, d, e, f, g], h =>
    refine q_asgL6 (d1 := a) (d2 := b) (d3 := d) (d4 := e) (d5 := f) (d6 := g) (e_var rfl) hA fun σ0 Hk0 H0 g0 a0 => ?_
    refine s_ifB (b := false) (tb_is (tb_test (e_eqDI (e_var rfl) e_int)) rfl) a0 (fun h => by cases h) (fun _ Hk1 H1 g1 a1 => ?_)
    refine s_ifB (b := false) (tb_is (tb_test (e_eqDI (e_var rfl) e_int)) rfl) a1 (fun h => by cases h) (fun _ Hk2 H2 g2 a2 => ?_)
    refine s_ifB (b := false) (tb_is (tb_test (e_eqDI (e_var rfl) e_int)) rfl) a2 (fun h => by cases h) (fun _ Hk3 H3 g3 a3 => ?_)
    refine s_ifB (b := false) (tb_is (tb_test (e_eqDI (e_var rfl) e_int)) rfl) a3 (fun h => by cases h) (fun _ Hk4 H4 g4 a4 => ?_)
    refine s_ifB (b := false) (tb_is (tb_test (e_eqDI (e_var rfl) e_int)) rfl) a4 (fun h => by cases h) (fun _ Hk5 H5 g5 a5 => ?_)
    refine s_ifB (b := false) (tb_is (tb_test (e_eqDI (e_var rfl) e_int)) rfl) a5 (fun h => by cases h) (fun _ Hk6 H6 g6 a6 => ?_)
    refine s_ifB (b := true) (tb_is (tb_test (e_eqDI (e_var rfl) e_int)) rfl) a6 (fun _ Hk7 H7 g7 a7 => ?_) (fun h => by cases h)
    exact s_dropR (rs_call (c := 0) (B := B_log_fault K) (ae_cons (e_var rfl) (ae_cons (e_var rfl) (ae_cons (e_var rfl) ae_nil))) fun sls es => by subst es; exact h) a7 (Nat.le_refl _) (fin_w fin (Nat.le_refl _))
  | 7, [a, b, d, e, f, g], h =>
    refine q_asgL6 (d1 := a) (d2 := b) (d3 := d) (d4 := e) (d5 := f) (d6 := g) (e_var rfl) hA fun σ0 Hk0 H0 g0 a0 => ?_
    refine s_ifB (b := false) (tb_is (tb_test (e_eqDI (e_var rfl) e_int)) rfl) a0 (fun h => by cases h) (fun _ Hk1 H1 g1 a1 => ?_)
    refine s_ifB (b := false) (tb_is (tb_test (e_eqDI (e_var rfl) e_int)) rfl) a1 (fun h => by cases h) (fun _ Hk2 H2 g2 a2 => ?_)
    refine s_ifB (b := false) (tb_is (tb_test (e_eqDI (e_var rfl) e_int)) rfl) a2 (fun h => by cases h) (fun _ Hk3 H3 g3 a3 => ?_)
    refine s_ifB (b := false) (tb_is (tb_test (e_eqDI (e_var rfl) e_int)) rfl) a3 (fun h => by cases h) (fun _ Hk4 H4 g4 a4 => ?_)
    refine s_ifB (b := false) (tb_is (tb_test (e_eqDI (e_var rfl) e_int)) rfl) a4 (fun h => by cases h) (fun _ Hk5 H5 g5 a5 => ?_)
    refine s_ifB (b := false) (tb_is (tb_test (e_eqDI (e_var rfl) e_int)) rfl) a5 (fun h => by cases h) (fun _ Hk6 H6 g6 a6 => ?_)
    refine s_ifB (b := false) (tb_is (tb_test (e_eqDI (e_var rfl) e_int)) rfl) a6 (fun h => by cases h) (fun _ Hk7 H7 g7 a7 => ?_)
    refine s_ifB (b := true) (tb_is (tb_test (e_eqDI (e_var rfl) e_int)) rfl) a7 (fun _ Hk8 H8 g8 a8 => ?_) (fun h => by cases h)
    exact s_dropR (rs_callK (B := B_log_fault K) (rs := [.dat (a), .dat (d), .dat (g)]) ae_nil (ae_cons (e_var rfl) (ae_cons (e_var rfl) (ae_cons (e_var rfl) ae_nil))) (fun H vs zs h1 h2 => v_kb_log_fault_0_rows_log_ledger vs zs h1 h2) (show B_log_fault K q [.dat (a), .dat (d), .dat (g)] 0 x from h)) a8 (Nat.le_refl _) (fin_w fin (Nat.le_refl _))
  | 8, [a, b, d, e, f, g], h =>
    refine q_asgL6 (d1 := a) (d2 := b) (d3 := d) (d4 := e) (d5 := f) (d6 := g) (e_var rfl) hA fun σ0 Hk0 H0 g0 a0 => ?_
    refine s_ifB (b := false) (tb_is (tb_test (e_eqDI (e_var rfl) e_int)) rfl) a0 (fun h => by cases h) (fun _ Hk1 H1 g1 a1 => ?_)
    refine s_ifB (b := false) (tb_is (tb_test (e_eqDI (e_var rfl) e_int)) rfl) a1 (fun h => by cases h) (fun _ Hk2 H2 g2 a2 => ?_)
    refine s_ifB (b := false) (tb_is (tb_test (e_eqDI (e_var rfl) e_int)) rfl) a2 (fun h => by cases h) (fun _ Hk3 H3 g3 a3 => ?_)
    refine s_ifB (b := false) (tb_is (tb_test (e_eqDI (e_var rfl) e_int)) rfl) a3 (fun h => by cases h) (fun _ Hk4 H4 g4 a4 => ?_)
    refine s_ifB (b := false) (tb_is (tb_test (e_eqDI (e_var rfl) e_int)) rfl) a4 (fun h => by cases h) (fun _ Hk5 H5 g5 a5 => ?_)
    refine s_ifB (b := false) (tb_is (tb_test (e_eqDI (e_var rfl) e_int)) rfl) a5 (fun h => by cases h) (fun _ Hk6 H6 g6 a6 => ?_)
    refine s_ifB (b := false) (tb_is (tb_test (e_eqDI (e_var rfl) e_int)) rfl) a6 (fun h => by cases h) (fun _ Hk7 H7 g7 a7 => ?_)
    refine s_ifB (b := false) (tb_is (tb_test (e_eqDI (e_var rfl) e_int)) rfl) a7 (fun h => by cases h) (fun _ Hk8 H8 g8 a8 => ?_)
    refine s_ifB (b := true) (tb_is (tb_test (e_eqDI (e_var rfl) e_int)) rfl) a8 (fun _ Hk9 H9 g9 a9 => ?_) (fun h => by cases h)
    exact s_dropR (rs_call (c := 0) (B := B_common_log) (ae_cons (e_var rfl) (ae_cons (e_var rfl) ae_nil)) fun sls es => by subst es; exact h) a9 (Nat.le_refl _) (fin_w fin (Nat.le_refl _))
  | 9, [a, b, d, e, f, g], h =>
    refine q_asgL6 (d1 := a) (d2 := b) (d3 := d) (d4 := e) (d5 := f) (d6 := g) (e_var rfl) hA fun σ0 Hk0 H0 g0 a0 => ?_
    refine s_ifB (b := false) (tb_is (tb_test (e_eqDI (e_var rfl) e_int)) rfl) a0 (fun h => by cases h) (fun _ Hk1 H1 g1 a1 => ?_)
    refine s_ifB (b := false) (tb_is (tb_test (e_eqDI (e_var rfl) e_int)) rfl) a1 (fun h => by cases h) (fun _ Hk2 H2 g2 a2 => ?_)
    refine s_ifB (b := false) (tb_is (tb_test (e_eqDI (e_var rfl) e_int)) rfl) a2 (fun h => by cases h) (fun _ Hk3 H3 g3 a3 => ?_)
    refine s_ifB (b := false) (tb_is (tb_test (e_eqDI (e_var rfl) e_int)) rfl) a3 (fun h => by cases h) (fun _ Hk4 H4 g4 a4 => ?_)
    refine s_ifB (b := false) (tb_is (tb_test (e_eqDI (e_var rfl) e_int)) rfl) a4 (fun h => by cases h) (fun _ Hk5 H5 g5 a5 => ?_)
    refine s_ifB (b := false) (tb_is (tb_test (e_eqDI (e_var rfl) e_int)) rfl) a5 (fun h => by cases h) (fun _ Hk6 H6 g6 a6 => ?_)
    refine s_ifB (b := false) (tb_is (tb_test (e_eqDI (e_var rfl) e_int)) rfl) a6 (fun h => by cases h) (fun _ Hk7 H7 g7 a7 => ?_)
    refine s_ifB (b := false) (tb_is (tb_test (e_eqDI (e_var rfl) e_int)) rfl) a7 (fun h => by cases h) (fun _ Hk8 H8 g8 a8 => ?_)
    refine s_ifB (b := false) (tb_is (tb_test (e_eqDI (e_var rfl) e_int)) rfl) a8 (fun h => by cases h) (fun _ Hk9 H9 g9 a9 => ?_)
    refine s_ifB (b := true) (tb_is (tb_test (e_eqDI (e_var rfl) e_int)) rfl) a9 (fun _ Hk10 H10 g10 a10 => ?_) (fun h => by cases h)
    exact s_dropR (rs_callK (B := B_common_log) (rs := [.dat (d), .dat (e)]) ae_nil (ae_cons (e_var rfl) (ae_cons (e_var rfl) ae_nil)) (fun H vs zs h1 h2 => v_kb_common_log_0_other_one vs zs h1 h2) (show B_common_log q [.dat (d), .dat (e)] 0 x from h)) a10 (Nat.le_refl _) (fin_w fin (Nat.le_refl _))
  | 10, [a, b, d, e, f, g], h =>
    refine q_asgL6 (d1 := a) (d2 := b) (d3 := d) (d4 := e) (d5 := f) (d6 := g) (e_var rfl) hA fun σ0 Hk0 H0 g0 a0 => ?_
    refine s_ifB (b := false) (tb_is (tb_test (e_eqDI (e_var rfl) e_int)) rfl) a0 (fun h => by cases h) (fun _ Hk1 H1 g1 a1 => ?_)
    refine s_ifB (b := false) (tb_is (tb_test (e_eqDI (e_var rfl) e_int)) rfl) a1 (fun h => by cases h) (fun _ Hk2 H2 g2 a2 => ?_)
    refine s_ifB (b := false) (tb_is (tb_test (e_eqDI (e_var rfl) e_int)) rfl) a2 (fun h => by cases h) (fun _ Hk3 H3 g3 a3 => ?_)
    refine s_ifB (b := false) (tb_is (tb_test (e_eqDI (e_var rfl) e_int)) rfl) a3 (fun h => by cases h) (fun _ Hk4 H4 g4 a4 => ?_)
    refine s_ifB (b := false) (tb_is (tb_test (e_eqDI (e_var rfl) e_int)) rfl) a4 (fun h => by cases h) (fun _ Hk5 H5 g5 a5 => ?_)
    refine s_ifB (b := false) (tb_is (tb_test (e_eqDI (e_var rfl) e_int)) rfl) a5 (fun h => by cases h) (fun _ Hk6 H6 g6 a6 => ?_)
    refine s_ifB (b := false) (tb_is (tb_test (e_eqDI (e_var rfl) e_int)) rfl) a6 (fun h => by cases h) (fun _ Hk7 H7 g7 a7 => ?_)
    refine s_ifB (b := false) (tb_is (tb_test (e_eqDI (e_var rfl) e_int)) rfl) a7 (fun h => by cases h) (fun _ Hk8 H8 g8 a8 => ?_)
    refine s_ifB (b := false) (tb_is (tb_test (e_eqDI (e_var rfl) e_int)) rfl) a8 (fun h => by cases h) (fun _ Hk9 H9 g9 a9 => ?_)
    refine s_ifB (b := false) (tb_is (tb_test (e_eqDI (e_var rfl) e_int)) rfl) a9 (fun h => by cases h) (fun _ Hk10 H10 g10 a10 => ?_)
    refine s_ifB (b := true) (tb_is (tb_test (e_eqDI (e_var rfl) e_int)) rfl) a10 (fun _ Hk11 H11 g11 a11 => ?_) (fun h => by cases h)
    exact s_dropR (rs_call (c := 0) (B := B_shortest_undo) (ae_cons (e_var rfl) ae_nil) fun sls es => by subst es; exact h) a11 (Nat.le_refl _) (fin_w fin (Nat.le_refl _))
  | 11, [a, b, d, e, f, g], h =>
    refine q_asgL6 (d1 := a) (d2 := b) (d3 := d) (d4 := e) (d5 := f) (d6 := g) (e_var rfl) hA fun σ0 Hk0 H0 g0 a0 => ?_
    refine s_ifB (b := false) (tb_is (tb_test (e_eqDI (e_var rfl) e_int)) rfl) a0 (fun h => by cases h) (fun _ Hk1 H1 g1 a1 => ?_)
    refine s_ifB (b := false) (tb_is (tb_test (e_eqDI (e_var rfl) e_int)) rfl) a1 (fun h => by cases h) (fun _ Hk2 H2 g2 a2 => ?_)
    refine s_ifB (b := false) (tb_is (tb_test (e_eqDI (e_var rfl) e_int)) rfl) a2 (fun h => by cases h) (fun _ Hk3 H3 g3 a3 => ?_)
    refine s_ifB (b := false) (tb_is (tb_test (e_eqDI (e_var rfl) e_int)) rfl) a3 (fun h => by cases h) (fun _ Hk4 H4 g4 a4 => ?_)
    refine s_ifB (b := false) (tb_is (tb_test (e_eqDI (e_var rfl) e_int)) rfl) a4 (fun h => by cases h) (fun _ Hk5 H5 g5 a5 => ?_)
    refine s_ifB (b := false) (tb_is (tb_test (e_eqDI (e_var rfl) e_int)) rfl) a5 (fun h => by cases h) (fun _ Hk6 H6 g6 a6 => ?_)
    refine s_ifB (b := false) (tb_is (tb_test (e_eqDI (e_var rfl) e_int)) rfl) a6 (fun h => by cases h) (fun _ Hk7 H7 g7 a7 => ?_)
    refine s_ifB (b := false) (tb_is (tb_test (e_eqDI (e_var rfl) e_int)) rfl) a7 (fun h => by cases h) (fun _ Hk8 H8 g8 a8 => ?_)
    refine s_ifB (b := false) (tb_is (tb_test (e_eqDI (e_var rfl) e_int)) rfl) a8 (fun h => by cases h) (fun _ Hk9 H9 g9 a9 => ?_)
    refine s_ifB (b := false) (tb_is (tb_test (e_eqDI (e_var rfl) e_int)) rfl) a9 (fun h => by cases h) (fun _ Hk10 H10 g10 a10 => ?_)
    refine s_ifB (b := false) (tb_is (tb_test (e_eqDI (e_var rfl) e_int)) rfl) a10 (fun h => by cases h) (fun _ Hk11 H11 g11 a11 => ?_)
    exact s_dropR (rs_callK (B := B_first_return) (rs := [.dat (d)]) ae_nil (ae_cons (e_var rfl) ae_nil) (fun H vs zs h1 h2 => v_kb_first_return_0_log vs zs h1 h2) (show B_first_return q [.dat (d)] 0 x from h)) a11 (Nat.le_refl _) (fin_w fin (Nat.le_refl _))
/-! ### _law_told -/
def xN : Nat → Str
  | 0 => "InvalidLedger"
  | 1 => "InvalidChanges"
  | 2 => "InvalidNumber"
  | 3 => "InvalidRows"
  | _ => "OtherLength"
def wN : Option Nat → Str
  | none => "fine"
  | some 0 => "ledger"
  | some 1 => "changes"
  | some 2 => "number"
  | some 3 => "rows"
  | some _ => "length"
def OutC (K : PySem.W.Frag) (w : Nat) (ds : List PyData) : Option Nat → Prop
  | none => GoodC w ds
  | some k => k < 5 ∧ BadC K w ds (xN k)
def R__law_told (K : PySem.W.Frag) : RelX := fun _ sls c Φ => c = 0 ∧ ∃ (w : Nat) (ds : List PyData) (o : Option Nat), OutC K w ds o ∧ sls = [.dat (.int (w : Int)), .dat (.list ds)] ∧ Φ = fun d => d = .str (wN o)
theorem ok__law_told (T : Tx K mg) : FnOk P w K mg base CX0 8 T.a__law_told T.fd__law_told P__law_told (spX (R__law_told K)) := by
  have G__law_call := ok__law_call (P := P) (w := w) (base := base) T
  have U__law_call := fn_or (fn_lift (ok__law_call (P := P) (w := w) (base := base) T)) (ox__law_call (P := P) (w := w) (base := base) T)
  refine fn_ok T.F__law_told sc__law_told (by decide) (fun q sls c Φ h => by obtain ⟨_, w, ds, o, _, rfl, _⟩ := h; rfl) fun cdv A outer s B0 Ew hr => ⟨_,
    (pss_cons (ps_set (i := 2) sc__law_told.nd rfl (Or.inl rfl) (pe_lst pa_nil))
      (pss_cons (ps_try_as (i := 3) rfl rfl sc__law_told.nd rfl rfl ⟨rfl, by decide, .inl T.g_SumsError⟩ takes0 (fun W pn xe tk _ => (pss_one (ps_expr (pe_callS U__law_call (hr.mono (by decide)) (by rfl) T.m__law_call T.F__law_call.kp T.b__law_call (fun σ => passAt tk σ) (pa_cons (pv 0) (pa_cons (pv 1) pa_nil)))))) (fun a oe cls d pn hz hf => (pss_cons (ps_set (i := 2) sc__law_told.nd rfl (Or.inl rfl) (pe_lst (pa_cons (pe_callB (call_isEG hz hf) (by rfl) T.z_isinstance (by decide +kernel) (pa_cons (pv 3) (pa_cons (pe_glob (v := .ref T.e_InvalidLedger) (by rfl) T.g_InvalidLedger rfl) pa_nil))) (pa_cons (pe_callB (call_isEG hz hf) (by rfl) T.z_isinstance (by decide +kernel) (pa_cons (pv 3) (pa_cons (pe_glob (v := .ref T.e_InvalidChanges) (by rfl) T.g_InvalidChanges rfl) pa_nil))) (pa_cons (pe_callB (call_isEG hz hf) (by rfl) T.z_isinstance (by decide +kernel) (pa_cons (pv 3) (pa_cons (pe_glob (v := .ref T.e_InvalidNumber) (by rfl) T.g_InvalidNumber rfl) pa_nil))) pa_nil)))))
      (pss_one (ps_set (i := 2) sc__law_told.nd rfl (Or.inl rfl) (pe_op (k_addU (K := K) rfl) (pv 2) (pe_lst (pa_cons (pe_callB (call_isEG hz hf) (by rfl) T.z_isinstance (by decide +kernel) (pa_cons (pv 3) (pa_cons (pe_glob (v := .ref T.e_InvalidRows) (by rfl) T.g_InvalidRows rfl) pa_nil))) (pa_cons (pe_callB (call_isEG hz hf) (by rfl) T.z_isinstance (by decide +kernel) (pa_cons (pv 3) (pa_cons (pe_glob (v := .ref T.e_OtherLength) (by rfl) T.g_OtherLength rfl) pa_nil))) (pa_cons (pe_callB (call_isEG hz hf) (by rfl) T.z_isinstance (by decide +kernel) (pa_cons (pv 3) (pa_cons (pe_bltn (v := .ty "ValueError") (by rfl) T.z_ValueError (by decide +kernel) rfl) pa_nil))) pa_nil))))))))))
      (pss_cons (ps_if (pt_cmpR (k_eqD (K := K) rfl hr.units) (pv 2) (pe_lst pa_nil) (nomark _)) (pss_one (ps_ret pe_str)) pss_nil)
      (pss_cons (ps_if (PW.pt (pw_or (pt_cmpR (k_neD (K := K) rfl hr.units) (pe_bm PySem.F.plainAttrs_list PySem.F.slot_list_count PySem.F.type_list_count (k_lcnt (K := K) rfl) (pv 2) (pa_cons pe_bl pa_nil)) pe_int (nomark _)) (pw_or1 (pt_not (pt_val (pe_ix (k_ix (K := K) rfl) (pv 2) pe_int (fun _ _ => rfl))))))) (pss_one (ps_ret pe_str)) pss_nil)
      (pss_one (ps_ret (pe_ix (k_ix (K := K) rfl) (pe_lst (pa_cons pe_str (pa_cons pe_str (pa_cons pe_str (pa_cons pe_str (pa_cons pe_str pa_nil)))))) (pe_bm PySem.F.plainAttrs_list PySem.F.slot_list_index PySem.F.type_list_index (k_index (K := K) rfl) (pv 2) (pa_cons pe_bl pa_nil)) (fun _ _ => rfl)))))))), fun q sls n c Φ A0 σ Q hR hA fin => ?_⟩
  obtain ⟨rfl, w, ds, o, h, rfl, rfl⟩ := hR
  refine q_asgE (d := .list []) (e_lst (ds := []) ae_nil) hA fun σ1 Hk1 H1 g1 a1 => ?_
  refine s_seq ?_
  match o, h with
  | none, h =>
    refine s_drop (j_callUS (R := R__law_call) (c := 0) (Φ := fun d => d = .none) (ae_cons (e_var rfl) (ae_cons (e_var rfl) ae_nil)) fun sls es => ⟨rfl, w, ds, h, es, rfl⟩) a1 fun Hk3 H3 g3 a3 => ?_
    refine q_whenB (b := true) (tb_is (tb_test (e_eqD (d1 := .list []) (d2 := .list []) (e_var rfl) (e_lst (ds := []) ae_nil) rfl rfl)) rfl) a3 (fun _ Hk4 H4 g4 a4 => s_retE e_str a4 (Nat.le_refl _) fin rfl) (fun h => by cases h)
  | some k, ⟨hk, h⟩ =>
    refine s_dropR (rs_callS (c := 0) (B := B__law_call K) (ae_cons (e_var rfl) (ae_cons (e_var rfl) ae_nil)) fun sls es => ⟨rfl, w, ds, h, es⟩) a1 (Nat.le_refl _) fun C hC Hk3 H3 g3 a3 => ?_
    match k, hk with
    | 0, _ =>
      obtain rfl := ref_inj T.g_InvalidLedger hC
      refine w_as (PySem.W.exm_ref T.u_SumsError T.h_SumsError T.t_SumsError T.s_InvalidLedger_SumsError) fun a ha => ?_
      refine q_asgE (i := 2) (d := .list [.bool true, .bool false, .bool false]) (e_lst (ds := [.bool true, .bool false, .bool false]) (ae_cons (e_isX rfl T.E_InvalidLedger (kit_ownT T.h_InvalidLedger T.t_InvalidLedger T.s_InvalidLedger_InvalidLedger)) (ae_cons (e_isX rfl T.E_InvalidLedger (kit_ownF T.h_InvalidChanges T.t_InvalidChanges T.s_InvalidChanges_InvalidChanges T.s_InvalidLedger_InvalidChanges)) (ae_cons (e_isX rfl T.E_InvalidLedger (kit_ownF T.h_InvalidNumber T.t_InvalidNumber T.s_InvalidNumber_InvalidNumber T.s_InvalidLedger_InvalidNumber)) ae_nil)))) (a3.bound (i := 3) (a := a)) fun σ4 Hk4 H4 g4 a4 => ?_
      refine s_asgE (i := 2) (d := .list [.bool true, .bool false, .bool false, .bool false, .bool false, .bool true]) (e_catL (ds := [.bool true, .bool false, .bool false]) (es := [.bool false, .bool false, .bool true]) (e_var rfl) (e_lst (ds := [.bool false, .bool false, .bool true]) (ae_cons (e_isX rfl T.E_InvalidLedger (kit_ownF T.h_InvalidRows T.t_InvalidRows T.s_InvalidRows_InvalidRows T.s_InvalidLedger_InvalidRows)) (ae_cons (e_isX rfl T.E_InvalidLedger (kit_ownF T.h_OtherLength T.t_OtherLength T.s_OtherLength_OtherLength T.s_InvalidLedger_OtherLength)) (ae_cons (e_isE rfl T.E_InvalidLedger T.v_InvalidLedger) ae_nil)))) (by simp)) a4 fun σ6 Hk6 H6 g6 a6 => ?_
      have a7 := a6.unbound (i := 3)
      refine q_whenB (b := false) (tb_is (tb_test (e_eqD (d1 := .list [.bool true, .bool false, .bool false, .bool false, .bool false, .bool true]) (d2 := .list []) (e_var rfl) (e_lst (ds := []) ae_nil) rfl rfl)) rfl) a7 (fun h => by cases h) (fun _ Hk8 H8 g8 a8 => ?_)
      refine q_whenB (b := false) (tb_is (tb_or (a := false) (b := false) (tb_is (tb_test (e_neDI (e_is (e_countB (bs := [true, false, false, false, false, true]) (b := true) (e_var rfl) e_bl) (d1 := .int 2) rfl) e_int)) rfl) fun _ => tb_is (tb_not (tb_B (e_iL (ds := [.bool true, .bool false, .bool false, .bool false, .bool false, .bool true]) (d := .bool true) (e_var rfl) e_int rfl))) rfl) rfl) a8 (fun h => by cases h) (fun _ Hk9 H9 g9 a9 => ?_)
      exact s_retE (e_iL (ds := [.str "ledger", .str "changes", .str "number", .str "rows", .str "length"]) (d := .str "ledger") (e_lst (ds := [.str "ledger", .str "changes", .str "number", .str "rows", .str "length"]) (ae_cons e_str (ae_cons e_str (ae_cons e_str (ae_cons e_str (ae_cons e_str ae_nil)))))) (e_indexB (bs := [true, false, false, false, false, true]) (b := true) (j := 0) (e_var rfl) e_bl rfl (by decide)) rfl) a9 (Nat.le_refl _) fin rfl
    | 1, _ =>
      obtain rfl := ref_inj T.g_InvalidChanges hC
      refine w_as (PySem.W.exm_ref T.u_SumsError T.h_SumsError T.t_SumsError T.s_InvalidChanges_SumsError) fun a ha => ?_
      refine q_asgE (i := 2) (d := .list [.bool false, .bool true, .bool false]) (e_lst (ds := [.bool false, .bool true, .bool false]) (ae_cons (e_isX rfl T.E_InvalidChanges (kit_ownF T.h_InvalidLedger T.t_InvalidLedger T.s_InvalidLedger_InvalidLedger T.s_InvalidChanges_InvalidLedger)) (ae_cons (e_isX rfl T.E_InvalidChanges (kit_ownT T.h_InvalidChanges T.t_InvalidChanges T.s_InvalidChanges_InvalidChanges)) (ae_cons (e_isX rfl T.E_InvalidChanges (kit_ownF T.h_InvalidNumber T.t_InvalidNumber T.s_InvalidNumber_InvalidNumber T.s_InvalidChanges_InvalidNumber)) ae_nil)))) (a3.bound (i := 3) (a := a)) fun σ4 Hk4 H4 g4 a4 => ?_
      refine s_asgE (i := 2) (d := .list [.bool false, .bool true, .bool false, .bool false, .bool false, .bool true]) (e_catL (ds := [.bool false, .bool true, .bool false]) (es := [.bool false, .bool false, .bool true]) (e_var rfl) (e_lst (ds := [.bool false, .bool false, .bool true]) (ae_cons (e_isX rfl T.E_InvalidChanges (kit_ownF T.h_InvalidRows T.t_InvalidRows T.s_InvalidRows_InvalidRows T.s_InvalidChanges_InvalidRows)) (ae_cons (e_isX rfl T.E_InvalidChanges (kit_ownF T.h_OtherLength T.t_OtherLength T.s_OtherLength_OtherLength T.s_InvalidChanges_OtherLength)) (ae_cons (e_isE rfl T.E_InvalidChanges T.v_InvalidChanges) ae_nil)))) (by simp)) a4 fun σ6 Hk6 H6 g6 a6 => ?_
      have a7 := a6.unbound (i := 3)
      refine q_whenB (b := false) (tb_is (tb_test (e_eqD (d1 := .list [.bool false, .bool true, .bool false, .bool false, .bool false, .bool true]) (d2 := .list []) (e_var rfl) (e_lst (ds := []) ae_nil) rfl rfl)) rfl) a7 (fun h => by cases h) (fun _ Hk8 H8 g8 a8 => ?_)
      refine q_whenB (b := false) (tb_is (tb_or (a := false) (b := false) (tb_is (tb_test (e_neDI (e_is (e_countB (bs := [false, true, false, false, false, true]) (b := true) (e_var rfl) e_bl) (d1 := .int 2) rfl) e_int)) rfl) fun _ => tb_is (tb_not (tb_B (e_iL (ds := [.bool false, .bool true, .bool false, .bool false, .bool false, .bool true]) (d := .bool true) (e_var rfl) e_int rfl))) rfl) rfl) a8 (fun h => by cases h) (fun _ Hk9 H9 g9 a9 => ?_)
      exact s_retE (e_iL (ds := [.str "ledger", .str "changes", .str "number", .str "rows", .str "length"]) (d := .str "changes") (e_lst (ds := [.str "ledger", .str "changes", .str "number", .str "rows", .str "length"]) (ae_cons e_str (ae_cons e_str (ae_cons e_str (ae_cons e_str (ae_cons e_str ae_nil)))))) (e_indexB (bs := [false, true, false, false, false, true]) (b := true) (j := 1) (e_var rfl) e_bl rfl (by decide)) rfl) a9 (Nat.le_refl _) fin rfl
    | 2, _ =>
      obtain rfl := ref_inj T.g_InvalidNumber hC
      refine w_as (PySem.W.exm_ref T.u_SumsError T.h_SumsError T.t_SumsError T.s_InvalidNumber_SumsError) fun a ha => ?_
      refine q_asgE (i := 2) (d := .list [.bool false, .bool false, .bool true]) (e_lst (ds := [.bool false, .bool false, .bool true]) (ae_cons (e_isX rfl T.E_InvalidNumber (kit_ownF T.h_InvalidLedger T.t_InvalidLedger T.s_InvalidLedger_InvalidLedger T.s_InvalidNumber_InvalidLedger)) (ae_cons (e_isX rfl T.E_InvalidNumber (kit_ownF T.h_InvalidChanges T.t_InvalidChanges T.s_InvalidChanges_InvalidChanges T.s_InvalidNumber_InvalidChanges)) (ae_cons (e_isX rfl T.E_InvalidNumber (kit_ownT T.h_InvalidNumber T.t_InvalidNumber T.s_InvalidNumber_InvalidNumber)) ae_nil)))) (a3.bound (i := 3) (a := a)) fun σ4 Hk4 H4 g4 a4 => ?_
      refine s_asgE (i := 2) (d := .list [.bool false, .bool false, .bool true, .bool false, .bool false, .bool true]) (e_catL (ds := [.bool false, .bool false, .bool true]) (es := [.bool false, .bool false, .bool true]) (e_var rfl) (e_lst (ds := [.bool false, .bool false, .bool true]) (ae_cons (e_isX rfl T.E_InvalidNumber (kit_ownF T.h_InvalidRows T.t_InvalidRows T.s_InvalidRows_InvalidRows T.s_InvalidNumber_InvalidRows)) (ae_cons (e_isX rfl T.E_InvalidNumber (kit_ownF T.h_OtherLength T.t_OtherLength T.s_OtherLength_OtherLength T.s_InvalidNumber_OtherLength)) (ae_cons (e_isE rfl T.E_InvalidNumber T.v_InvalidNumber) ae_nil)))) (by simp)) a4 fun σ6 Hk6 H6 g6 a6 => ?_
      have a7 := a6.unbound (i := 3)
      refine q_whenB (b := false) (tb_is (tb_test (e_eqD (d1 := .list [.bool false, .bool false, .bool true, .bool false, .bool false, .bool true]) (d2 := .list []) (e_var rfl) (e_lst (ds := []) ae_nil) rfl rfl)) rfl) a7 (fun h => by cases h) (fun _ Hk8 H8 g8 a8 => ?_)
      refine q_whenB (b := false) (tb_is (tb_or (a := false) (b := false) (tb_is (tb_test (e_neDI (e_is (e_countB (bs := [false, false, true, false, false, true]) (b := true) (e_var rfl) e_bl) (d1 := .int 2) rfl) e_int)) rfl) fun _ => tb_is (tb_not (tb_B (e_iL (ds := [.bool false, .bool false, .bool true, .bool false, .bool false, .bool true]) (d := .bool true) (e_var rfl) e_int rfl))) rfl) rfl) a8 (fun h => by cases h) (fun _ Hk9 H9 g9 a9 => ?_)
      exact s_retE (e_iL (ds := [.str "ledger", .str "changes", .str "number", .str "rows", .str "length"]) (d := .str "number") (e_lst (ds := [.str "ledger", .str "changes", .str "number", .str "rows", .str "length"]) (ae_cons e_str (ae_cons e_str (ae_cons e_str (ae_cons e_str (ae_cons e_str ae_nil)))))) (e_indexB (bs := [false, false, true, false, false, true]) (b := true) (j := 2) (e_var rfl) e_bl rfl (by decide)) rfl) a9 (Nat.le_refl _) fin rfl
    | 3, _ =>
      obtain rfl := ref_inj T.g_InvalidRows hC
      refine w_as (PySem.W.exm_ref T.u_SumsError T.h_SumsError T.t_SumsError T.s_InvalidRows_SumsError) fun a ha => ?_
      refine q_asgE (i := 2) (d := .list [.bool false, .bool false, .bool false]) (e_lst (ds := [.bool false, .bool false, .bool false]) (ae_cons (e_isX rfl T.E_InvalidRows (kit_ownF T.h_InvalidLedger T.t_InvalidLedger T.s_InvalidLedger_InvalidLedger T.s_InvalidRows_InvalidLedger)) (ae_cons (e_isX rfl T.E_InvalidRows (kit_ownF T.h_InvalidChanges T.t_InvalidChanges T.s_InvalidChanges_InvalidChanges T.s_InvalidRows_InvalidChanges)) (ae_cons (e_isX rfl T.E_InvalidRows (kit_ownF T.h_InvalidNumber T.t_InvalidNumber T.s_InvalidNumber_InvalidNumber T.s_InvalidRows_InvalidNumber)) ae_nil)))) (a3.bound (i := 3) (a := a)) fun σ4 Hk4 H4 g4 a4 => ?_
      refine s_asgE (i := 2) (d := .list [.bool false, .bool false, .bool false, .bool true, .bool false, .bool true]) (e_catL (ds := [.bool false, .bool false, .bool false]) (es := [.bool true, .bool false, .bool true]) (e_var rfl) (e_lst (ds := [.bool true, .bool false, .bool true]) (ae_cons (e_isX rfl T.E_InvalidRows (kit_ownT T.h_InvalidRows T.t_InvalidRows T.s_InvalidRows_InvalidRows)) (ae_cons (e_isX rfl T.E_InvalidRows (kit_ownF T.h_OtherLength T.t_OtherLength T.s_OtherLength_OtherLength T.s_InvalidRows_OtherLength)) (ae_cons (e_isE rfl T.E_InvalidRows T.v_InvalidRows) ae_nil)))) (by simp)) a4 fun σ6 Hk6 H6 g6 a6 => ?_
      have a7 := a6.unbound (i := 3)
      refine q_whenB (b := false) (tb_is (tb_test (e_eqD (d1 := .list [.bool false, .bool false, .bool false, .bool true, .bool false, .bool true]) (d2 := .list []) (e_var rfl) (e_lst (ds := []) ae_nil) rfl rfl)) rfl) a7 (fun h => by cases h) (fun _ Hk8 H8 g8 a8 => ?_)
      refine q_whenB (b := false) (tb_is (tb_or (a := false) (b := false) (tb_is (tb_test (e_neDI (e_is (e_countB (bs := [false, false, false, true, false, true]) (b := true) (e_var rfl) e_bl) (d1 := .int 2) rfl) e_int)) rfl) fun _ => tb_is (tb_not (tb_B (e_iL (ds := [.bool false, .bool false, .bool false, .bool true, .bool false, .bool true]) (d := .bool true) (e_var rfl) e_int rfl))) rfl) rfl) a8 (fun h => by cases h) (fun _ Hk9 H9 g9 a9 => ?_)
      exact s_retE (e_iL (ds := [.str "ledger", .str "changes", .str "number", .str "rows", .str "length"]) (d := .str "rows") (e_lst (ds := [.str "ledger", .str "changes", .str "number", .str "rows", .str "length"]) (ae_cons e_str (ae_cons e_str (ae_cons e_str (ae_cons e_str (ae_cons e_str ae_nil)))))) (e_indexB (bs := [false, false, false, true, false, true]) (b := true) (j := 3) (e_var rfl) e_bl rfl (by decide)) rfl) a9 (Nat.le_refl _) fin rfl
    | 4, _ =>
      obtain rfl := ref_inj T.g_OtherLength hC
      refine w_as (PySem.W.exm_ref T.u_SumsError T.h_SumsError T.t_SumsError T.s_OtherLength_SumsError) fun a ha => ?_
      refine q_asgE (i := 2) (d := .list [.bool false, .bool false, .bool false]) (e_lst (ds := [.bool false, .bool false, .bool false]) (ae_cons (e_isX rfl T.E_OtherLength (kit_ownF T.h_InvalidLedger T.t_InvalidLedger T.s_InvalidLedger_InvalidLedger T.s_OtherLength_InvalidLedger)) (ae_cons (e_isX rfl T.E_OtherLength (kit_ownF T.h_InvalidChanges T.t_InvalidChanges T.s_InvalidChanges_InvalidChanges T.s_OtherLength_InvalidChanges)) (ae_cons (e_isX rfl T.E_OtherLength (kit_ownF T.h_InvalidNumber T.t_InvalidNumber T.s_InvalidNumber_InvalidNumber T.s_OtherLength_InvalidNumber)) ae_nil)))) (a3.bound (i := 3) (a := a)) fun σ4 Hk4 H4 g4 a4 => ?_
      refine s_asgE (i := 2) (d := .list [.bool false, .bool false, .bool false, .bool false, .bool true, .bool true]) (e_catL (ds := [.bool false, .bool false, .bool false]) (es := [.bool false, .bool true, .bool true]) (e_var rfl) (e_lst (ds := [.bool false, .bool true, .bool true]) (ae_cons (e_isX rfl T.E_OtherLength (kit_ownF T.h_InvalidRows T.t_InvalidRows T.s_InvalidRows_InvalidRows T.s_OtherLength_InvalidRows)) (ae_cons (e_isX rfl T.E_OtherLength (kit_ownT T.h_OtherLength T.t_OtherLength T.s_OtherLength_OtherLength)) (ae_cons (e_isE rfl T.E_OtherLength T.v_OtherLength) ae_nil)))) (by simp)) a4 fun σ6 Hk6 H6 g6 a6 => ?_
      have a7 := a6.unbound (i := 3)
      refine q_whenB (b := false) (tb_is (tb_test (e_eqD (d1 := .list [.bool false, .bool false, .bool false, .bool false, .bool true, .bool true]) (d2 := .list []) (e_var rfl) (e_lst (ds := []) ae_nil) rfl rfl)) rfl) a7 (fun h => by cases h) (fun _ Hk8 H8 g8 a8 => ?_)
      refine q_whenB (b := false) (tb_is (tb_or (a := false) (b := false) (tb_is (tb_test (e_neDI (e_is (e_countB (bs := [false, false, false, false, true, true]) (b := true) (e_var rfl) e_bl) (d1 := .int 2) rfl) e_int)) rfl) fun _ => tb_is (tb_not (tb_B (e_iL (ds := [.bool false, .bool false, .bool false, .bool false, .bool true, .bool true]) (d := .bool true) (e_var rfl) e_int rfl))) rfl) rfl) a8 (fun h => by cases h) (fun _ Hk9 H9 g9 a9 => ?_)
      exact s_retE (e_iL (ds := [.str "ledger", .str "changes", .str "number", .str "rows", .str "length"]) (d := .str "length") (e_lst (ds := [.str "ledger", .str "changes", .str "number", .str "rows", .str "length"]) (ae_cons e_str (ae_cons e_str (ae_cons e_str (ae_cons e_str (ae_cons e_str ae_nil)))))) (e_indexB (bs := [false, false, false, false, true, true]) (b := true) (j := 4) (e_var rfl) e_bl rfl (by decide)) rfl) a9 (Nat.le_refl _) fin rfl
/-! ### _law_no_whole -/
def R__law_no_whole (K : PySem.W.Frag) : RelX := fun q sls c Φ => c = 2 ∧ ∃ (p : Addr) (j : Int), q = some p ∧ sls = [.adr p, .dat (.int j)] ∧ Φ = fun d => isFromD j d = false ∧ Odd K d
theorem ok__law_no_whole (T : Tx K mg) : FnOk P w K mg base CX0 2 T.a__law_no_whole T.fd__law_no_whole P__law_no_whole (spX (R__law_no_whole K)) := by
  have G__law_pick := ok__law_pick (P := P) (w := w) (base := base) T
  refine fn_ok T.F__law_no_whole sc__law_no_whole (by decide) (fun q sls c Φ h => by obtain ⟨_, p, j, _, rfl, _⟩ := h; rfl) fun cdv A outer s B0 Ew hr => ⟨_,
    (pss_cons (ps_set (i := 2) sc__law_no_whole.nd rfl (Or.inl rfl) (pe_lst (pa_cons pe_non (pa_cons pe_bl (pa_cons pe_bl (pa_cons pe_str (pa_cons (Cr.pe_tup (pa_cons pe_int pa_nil)) (pa_cons (pe_lst (pa_cons pe_int pa_nil)) (pa_cons pe_dnewK (pa_cons (pe_op op_sub (pv 1) pe_int) (pa_cons (pe_op op_sub (pe_op op_sub (pv 1) pe_int) (pe_call G__law_pick (hr.mono (by decide)) (by rfl) T.m__law_pick T.F__law_pick.kp T.b__law_pick .nil pass0 (pa_cons (pv 0) (pa_cons (pe_op op_powW pe_int pe_int) pa_nil)))) pa_nil)))))))))))
      (pss_one (ps_ret (pe_ix (k_ix (K := K) rfl) (pv 2) (pe_call G__law_pick (hr.mono (by decide)) (by rfl) T.m__law_pick T.F__law_pick.kp T.b__law_pick .nil pass0 (pa_cons (pv 0) (pa_cons pe_int pa_nil))) (fun _ _ => rfl))))), fun q sls n c Φ A0 σ Q hR hA fin => ?_⟩
  obtain ⟨rfl, p, j, rfl, rfl, rfl⟩ := hR
  have lit : ∀ {δ : List Sl} {te : TE} {d : PyData}, E (some p) δ te d → isFromD j d = false ∧ deep 2 d = true ∧ ShortT d → J (some p) δ te 0 (fun d => isFromD j d = false ∧ Odd K d) := fun h hd => h.imp fun d' e => by rw [e]; exact ⟨hd.1, Odd.of hd.2.2 hd.2.1⟩
  have big : ∀ {δ : List Sl}, δ[0]? = some (.adr p) → J (some p) δ (tCall (spX R_pick) [] Ew (tCons (tVar 0) (tCons (tOp (rI CPowW fun i j => .int (i ^ j.toNat)) (tC (.int 10)) (tC (.int 14))) tNil))) 1 (IntP fun x => 0 ≤ x) := fun h => (j_pick (b := 100000000000000) h (e_ten (v := 100000000000000) (by omega) (by omega) (by decide)) (by omega) (by omega)).intImp (c1 := 1) (by omega) fun x hx => hx.1
  refine q_asg (i := 2) (n := n + 1) (c := 1) (Φ := fun d => ∃ ds : List PyData, (ds.length = 9 ∧ ∀ x ∈ ds, isFromD j x = false ∧ Odd K x) ∧ d = .list ds) (j_lst (Ψ := fun ds => ds.length = 9 ∧ ∀ x ∈ ds, isFromD j x = false ∧ Odd K x) (AJ.imp (ajq_cons (c1 := 0) (c2 := 1) (lit e_non ⟨rfl, rfl, fun ds e => by cases e⟩) (ajq_cons (c1 := 0) (c2 := 1) (lit e_bl ⟨rfl, rfl, fun ds e => by cases e⟩) (ajq_cons (c1 := 0) (c2 := 1) (lit e_bl ⟨rfl, rfl, fun ds e => by cases e⟩) (ajq_cons (c1 := 0) (c2 := 1) (lit e_str ⟨rfl, rfl, fun ds e => by cases e⟩) (ajq_cons (c1 := 0) (c2 := 1) (lit (e_tup (ds := [.int 1]) (ae_cons e_int ae_nil)) ⟨rfl, rfl, short_tup (by simp)⟩) (ajq_cons (c1 := 0) (c2 := 1) (lit (e_lst (ds := [.int 1]) (ae_cons e_int ae_nil)) ⟨rfl, rfl, fun ds e => by cases e⟩) (ajq_cons (c1 := 0) (c2 := 1) (lit e_dnew ⟨rfl, rfl, fun ds e => by cases e⟩) (ajq_cons (c1 := 0) (c2 := 1) (lit (e_subI (e_var rfl) e_int) ⟨decide_eq_false (by omega), rfl, fun ds e => by cases e⟩) (ajq_cons (c1 := 1) (c2 := 0) ((j_subI (c1 := 0) (c2 := 1) (P1 := fun x => x = j - 1) (P2 := fun x => 0 ≤ x) (Φ := IntP fun x => x < j) (e_subI (e_var rfl) e_int).intP (big rfl) fun i k hi hk => ⟨i - k, by have h1 : i = j - 1 := hi; have h2 : 0 ≤ k := hk; omega, rfl⟩).imp fun d ⟨x, hx, e⟩ => by rw [e]; exact ⟨decide_eq_false (by omega), Odd.of (fun ds e => by cases e) rfl⟩) ajq_nil))))))))) fun sls ⟨ds, e, hl, hp⟩ => ⟨ds, e, by omega, hl, hp⟩)) hA fun d σ1 Hk1 H1 ⟨ds, ⟨hl, hp⟩, ed⟩ g1 a1 => ?_
  subst ed
  exact s_ret (n := n) (c := 1) (Φ := fun d => isFromD j d = false ∧ Odd K d) (j_ixOf (ds := ds) (e_var rfl) ((j_pick (b := 9) rfl e_int (by omega) (by omega)).intImp (by omega) fun x hx => ⟨hx.1, by have := hx.2; omega⟩) hp) a1 (by omega) fin fun d h => h
/-! ### _law_no_lines -/
theorem no_rows {K : PySem.W.Frag} {ds : List PyData} {b : PyData} (hm : b ∈ ds) (hb : isSumsD b = false) (hl : ds.length ≤ 1000) (ho : ∀ x ∈ ds, Odd K x ∧ lenD x ≤ 400) : isRowsD (.list ds) = false ∧ OkR K (.list ds) := by
  refine ⟨?_, rfl, fun es e => by cases e; exact ⟨hl, ho⟩⟩
  show (!ds.isEmpty && (ds.all isSumsD && _)) = false
  rw [show ds.all isSumsD = false from Bool.eq_false_iff.mpr fun z => by have := List.all_eq_true.mp z b hm; rw [hb] at this; cases this]
  simp
theorem no_rows2 {K : PySem.W.Frag} {ds : List PyData} {a b : PyData} {t : List PyData} (e : ds = a :: b :: t) (hb : lenD b ≠ lenD a) (hl : ds.length ≤ 1000) (ho : ∀ x ∈ ds, Odd K x ∧ lenD x ≤ 400) : isRowsD (.list ds) = false ∧ OkR K (.list ds) := by
  refine ⟨?_, rfl, fun es e => by cases e; exact ⟨hl, ho⟩⟩
  subst e
  show (!(a :: b :: t).isEmpty && ((a :: b :: t).all isSumsD && (a :: b :: t).all fun r => lenD r == lenD a)) = false
  have : ((a :: b :: t).all fun r => lenD r == lenD a) = false := Bool.eq_false_iff.mpr fun z => by
    have z2 := List.all_eq_true.mp z b (by simp)
    exact hb (by simpa using z2)
  rw [this]
  simp
def isLst2 : PyData → Bool
  | .list _ => true
  | _ => false
theorem no_rowsO {K : PySem.W.Frag} {d : PyData} (h : isLst2 d = false) (ht : top d = true) : isRowsD d = false ∧ OkR K d := by
  refine ⟨?_, ht, fun ds e => ?_⟩
  · cases d <;> first | rfl | cases h
  · subst e; cases h
def badR (r : List Int) (j : Nat) : List PyData := [.none, .int 5, .tuple [], .list (r.map .int), .str "1"] ++ [PyData.none, .bool true, .str "0", .tuple [.int 0], .list [.int 0]].map fun b => .tuple ((r.map PyData.int).take j ++ [b] ++ (r.map PyData.int).drop (j + 1))
theorem badR_no {K : PySem.W.Frag} {r : List Int} {j : Nat} (hl : r.length ≤ 300) {d : PyData} (h : d ∈ badR r j) : isSumsD d = false ∧ Odd K d ∧ lenD d ≤ 400 := by
  rcases List.mem_append.mp h with h | h
  · simp only [List.mem_cons, List.not_mem_nil, or_false] at h
    rcases h with rfl | rfl | rfl | rfl | rfl
    · exact ⟨rfl, Odd.of (fun ds e => by cases e) rfl, by decide⟩
    · exact ⟨rfl, Odd.of (fun ds e => by cases e) rfl, by decide⟩
    · exact ⟨rfl, Odd.of (short_tup (by simp)) rfl, by decide⟩
    · exact ⟨rfl, Odd.of (fun ds e => by cases e) rfl, Nat.zero_le _⟩
    · exact ⟨rfl, Odd.of (fun ds e => by cases e) rfl, by decide⟩
  · obtain ⟨b, hb, rfl⟩ := List.mem_map.mp h
    have hb2 : isIntD b = false ∧ deep 1 b = true := by
      simp only [List.mem_cons, List.not_mem_nil, or_false] at hb
      rcases hb with rfl | rfl | rfl | rfl | rfl <;> exact ⟨rfl, rfl⟩
    refine ⟨no_sums (d := b) (by simp) hb2.1, Odd.of (short_cut (by rw [List.length_map]; omega)) (deep_cut (deep_ints 1 r) hb2.2), ?_⟩
    show ((r.map PyData.int).take j ++ [b] ++ (r.map PyData.int).drop (j + 1)).length ≤ 400
    rw [List.length_append, List.length_append, List.length_take, List.length_drop, List.length_map]
    simp; omega
def R__law_no_lines (K : PySem.W.Frag) : RelX := fun q sls c Φ => c = 6 ∧ ∃ (p : Addr) (rows : List (List Int)) (m : Nat), q = some p ∧ (rows ≠ [] ∧ rows.length ≤ 450) ∧ (1 ≤ m ∧ m ≤ 300) ∧ (∀ r ∈ rows, r.length = m) ∧ sls = [.adr p, .dat (.list (rows.map pol))] ∧ Φ = fun d => isRowsD d = false ∧ OkR K d
theorem ok__law_no_lines (T : Tx K mg) : FnOk P w K mg base CX0 2 T.a__law_no_lines T.fd__law_no_lines P__law_no_lines (spX (R__law_no_lines K)) := by
  have G__law_pick := ok__law_pick (P := P) (w := w) (base := base) T
  refine fn_ok T.F__law_no_lines sc__law_no_lines (by decide) (fun q sls c Φ h => by obtain ⟨_, p, rows, m, _, _, _, _, rfl, _⟩ := h; rfl) fun cdv A outer s B0 Ew hr => ⟨_,
    (pss_cons (ps_asg (Cr.pe_tup (pa_cons (pe_call G__law_pick (hr.mono (by decide)) (by rfl) T.m__law_pick T.F__law_pick.kp T.b__law_pick .nil pass0 (pa_cons (pv 0) (pa_cons (pe_callB (k_len (K := K) rfl) (by rfl) T.z_len (by decide +kernel) (pa_cons (pv 1) pa_nil)) pa_nil))) (pa_cons (pe_ix (k_ix (K := K) rfl) (pv 1) (pe_call G__law_pick (hr.mono (by decide)) (by rfl) T.m__law_pick T.F__law_pick.kp T.b__law_pick .nil pass0 (pa_cons (pv 0) (pa_cons (pe_callB (k_len (K := K) rfl) (by rfl) T.z_len (by decide +kernel) (pa_cons (pv 1) pa_nil)) pa_nil))) (fun _ _ => rfl)) pa_nil))) (k_pgTup (K := K) (n := 2) rfl rfl (pgs_cons (pg_name (i := 2) sc__law_no_lines.nd rfl (Or.inl rfl)) (pgs_cons (pg_name (i := 3) sc__law_no_lines.nd rfl (Or.inr rfl)) pgs_nil))))
      (pss_cons (ps_set (i := 4) sc__law_no_lines.nd rfl (Or.inl rfl) (pe_lst (pa_cons pe_non (pa_cons (Cr.pe_tup pa_nil) (pa_cons (pe_lst pa_nil) (pa_cons (pe_callTy (k_tup (K := K) rfl) (by rfl) T.z_tuple (by decide +kernel) (pa_cons (pv 1) pa_nil)) (pa_cons pe_dnewK (pa_cons pe_str (pa_cons pe_int (pa_cons pe_bl (pa_cons (pe_op (k_addU (K := K) rfl) (pe_slice (k_sl (K := K) rfl) (pv 1) po_none (po_some pe_int)) (pe_lst (pa_cons (pe_op (k_addU (K := K) rfl) (pv 3) (Cr.pe_tup (pa_cons pe_int pa_nil))) pa_nil))) (pa_cons (pe_lst (pa_cons (Cr.pe_tup pa_nil) pa_nil)) (pa_cons (pe_op (k_addU (K := K) rfl) (pe_lst (pa_cons (pe_op (k_addU (K := K) rfl) (pv 3) (Cr.pe_tup (pa_cons pe_int pa_nil))) pa_nil)) (pv 1)) pa_nil)))))))))))))
      (pss_cons (ps_set (i := 5) sc__law_no_lines.nd rfl (Or.inr rfl) (pe_call G__law_pick (hr.mono (by decide)) (by rfl) T.m__law_pick T.F__law_pick.kp T.b__law_pick .nil pass0 (pa_cons (pv 0) (pa_cons (pe_callB (k_len (K := K) rfl) (by rfl) T.z_len (by decide +kernel) (pa_cons (pv 3) pa_nil)) pa_nil))))
      (pss_cons (ps_set (i := 6) sc__law_no_lines.nd rfl (Or.inl rfl) (pe_op (k_addU (K := K) rfl) (pe_lst (pa_cons pe_non (pa_cons pe_int (pa_cons (Cr.pe_tup pa_nil) (pa_cons (pe_callTy (k_lst (K := K) rfl) (by rfl) T.z_list (by decide +kernel) (pa_cons (pv 3) pa_nil)) (pa_cons pe_str pa_nil)))))) (pe_lc (own := [("bad", 7)]) rfl sc__law_no_lines.nd (k_piTup (K := K) rfl (Cr.pe_tup (pa_cons pe_non (pa_cons pe_bl (pa_cons pe_str (pa_cons (Cr.pe_tup (pa_cons pe_int pa_nil)) (pa_cons (pe_lst (pa_cons pe_int pa_nil)) pa_nil))))))) (blkOk_by (own := [("bad", 7)]) (N := N__law_no_lines) (sc := defScope s__law_no_lines) (by decide +kernel)) (fun _ _ _ _ _ => (pg_name (i := 7) sc__law_no_lines.nd rfl (Or.inl rfl))) (fun _ _ _ _ _ => pts_nil) (fun _ _ _ _ _ => (pe_op (k_addU (K := K) rfl) (pe_op (k_addU (K := K) rfl) (pe_slice (k_sl (K := K) rfl) (pv 3) po_none (po_some (pv 5))) (Cr.pe_tup (pa_cons (pv 7) pa_nil))) (pe_slice (k_sl (K := K) rfl) (pv 3) (po_some (pe_op (k_addU (K := K) rfl) (pv 5) pe_int)) po_none))))))
      (pss_cons (ps_if (pt_cmpR (k_eqD (K := K) rfl hr.units) (pe_call G__law_pick (hr.mono (by decide)) (by rfl) T.m__law_pick T.F__law_pick.kp T.b__law_pick .nil pass0 (pa_cons (pv 0) (pa_cons pe_int pa_nil))) pe_int (nomark _)) (pss_one (ps_ret (pe_ix (k_ix (K := K) rfl) (pv 4) (pe_call G__law_pick (hr.mono (by decide)) (by rfl) T.m__law_pick T.F__law_pick.kp T.b__law_pick .nil pass0 (pa_cons (pv 0) (pa_cons pe_int pa_nil))) (fun _ _ => rfl)))) pss_nil)
      (pss_one (ps_ret (pe_op (k_addU (K := K) rfl) (pe_op (k_addU (K := K) rfl) (pe_slice (k_sl (K := K) rfl) (pv 1) po_none (po_some (pv 2))) (pe_lst (pa_cons (pe_ix (k_ix (K := K) rfl) (pv 6) (pe_call G__law_pick (hr.mono (by decide)) (by rfl) T.m__law_pick T.F__law_pick.kp T.b__law_pick .nil pass0 (pa_cons (pv 0) (pa_cons pe_int pa_nil))) (fun _ _ => rfl)) pa_nil))) (pe_slice (k_sl (K := K) rfl) (pv 1) (po_some (pe_op (k_addU (K := K) rfl) (pv 2) (pe_call G__law_pick (hr.mono (by decide)) (by rfl) T.m__law_pick T.F__law_pick.kp T.b__law_pick .nil pass0 (pa_cons (pv 0) (pa_cons pe_int pa_nil))))) po_none))))))))), fun q sls n c Φ A0 σ Q hR hA fin => ?_⟩
  obtain ⟨rfl, p, rows, m, rfl, ⟨hne, hl⟩, hm, hr, rfl, rfl⟩ := hR
  have h0 : 0 < rows.length := List.length_pos_iff.mpr hne
  have elen : ∀ {δ : List Sl}, δ[1]? = some (.dat (.list (rows.map pol))) → E (some p) δ (tCB (rLenQ K) (tCons (tVar 1) tNil)) (.int (rows.length : Int)) := fun h => e_is (e_lenL (ds := rows.map pol) (e_var h)) (by rw [List.length_map])
  have good : ∀ x ∈ rows.map pol, Odd K x ∧ lenD x ≤ 400 := fun x hx => by
    obtain ⟨r, hm2, rfl⟩ := List.mem_map.mp hx
    have := hr r hm2
    exact ⟨odd_pol (by omega), by rw [len_pol]; omega⟩
  refine q_asgT2 (i := 2) (j := 3) (n := n + 4) (c := 2) (Ψ := fun a b => ∃ (s : Nat) (r : List Int), s < rows.length ∧ r ∈ rows ∧ a = .int (s : Int) ∧ b = pol r) (((aj_pair (Ψ1 := IntP fun x => 0 ≤ x ∧ x < (rows.length : Int)) (Ψ2 := fun d => ∃ r : List Int, r ∈ rows ∧ d = pol r) (j_pick rfl (elen rfl) (by omega) (by omega)) (j_ixOf (ds := rows.map pol) (e_var rfl) ((j_pick rfl (elen rfl) (by omega) (by omega)).intImp (c1 := 1) (by omega) fun x hx => ⟨hx.1, by rw [List.length_map]; exact hx.2⟩) fun d hd => by (obtain ⟨r, h1, rfl⟩ := List.mem_map.mp hd; exact ⟨r, h1, rfl⟩))).imp fun sls ⟨a, b, e, ⟨x, hx, ea⟩, ⟨r, hr2, eb⟩⟩ => ⟨a, b, e, x.toNat, r, by omega, hr2, by rw [ea, Int.toNat_of_nonneg hx.1], eb⟩).cost (by omega)) hA fun a b σ1 Hk1 H1 ⟨s, r, hs, hrm, ea, eb⟩ g1 a1 => ?_
  subst ea; subst eb
  have hrl := hr r hrm
  have wide : ∀ z : Int, Odd K (.tuple (r.map PyData.int ++ [PyData.int z])) ∧ lenD (.tuple (r.map PyData.int ++ [PyData.int z])) = m + 1 := fun z => ⟨Odd.of (short_tup (by rw [List.length_append, List.length_map]; simp; omega)) (by show (r.map PyData.int ++ [PyData.int z]).all (deep 1) = true; rw [List.all_append, deep_ints]; rfl), by show (r.map PyData.int ++ [PyData.int z]).length = m + 1; rw [List.length_append, List.length_map, hrl]; rfl⟩
  have ew : ∀ {δ : List Sl} (z : Int), δ[3]? = some (.dat (pol r)) → E (some p) δ (tOp (rAddU K) (tVar 3) (Cr.tTup (tCons (tC (.int z)) tNil))) (.tuple (r.map PyData.int ++ [PyData.int z])) := fun z h => e_catT (ds := r.map .int) (es := [.int z]) (e_var h) (e_tup (ds := [.int z]) (ae_cons e_int ae_nil)) (by rw [List.length_map]; simp; omega)
  refine q_asgE (i := 4) (d := .list [.none, .tuple [], .list [], .tuple (rows.map pol), .dict [], .str "rows", .int 5, .bool true, .list ((rows.map pol).take 1 ++ [.tuple (r.map PyData.int ++ [.int 0])]), .list [.tuple []], .list ([.tuple (r.map PyData.int ++ [.int 1])] ++ rows.map pol)]) (e_lst (ds := [.none, .tuple [], .list [], .tuple (rows.map pol), .dict [], .str "rows", .int 5, .bool true, .list ((rows.map pol).take 1 ++ [.tuple (r.map PyData.int ++ [.int 0])]), .list [.tuple []], .list ([.tuple (r.map PyData.int ++ [.int 1])] ++ rows.map pol)]) (ae_cons e_non (ae_cons (e_tup (ds := []) ae_nil) (ae_cons (e_lst (ds := []) ae_nil) (ae_cons (e_tupL (ds := rows.map pol) (e_var rfl)) (ae_cons e_dnew (ae_cons e_str (ae_cons e_int (ae_cons e_bl (ae_cons (e_catL (ds := (rows.map pol).take 1) (es := [.tuple (r.map PyData.int ++ [.int 0])]) (e_is (e_slL (ds := rows.map pol) (e_var rfl) to_none (to_some (i := ((1 : Nat) : Int)) e_int)) (by rw [cutD_to])) (e_lst (ds := [.tuple (r.map PyData.int ++ [.int 0])]) (ae_cons (ew 0 rfl) ae_nil)) (by rw [List.length_take]; simp; omega)) (ae_cons (e_lst (ds := [.tuple []]) (ae_cons (e_tup (ds := []) ae_nil) ae_nil)) (ae_cons (e_catL (ds := [.tuple (r.map PyData.int ++ [.int 1])]) (es := rows.map pol) (e_lst (ds := [.tuple (r.map PyData.int ++ [.int 1])]) (ae_cons (ew 1 rfl) ae_nil)) (e_var rfl) (by rw [List.length_map]; simp; omega)) ae_nil)))))))))))) a1 fun σ2 Hk2 H2 g2 a2 => ?_
  refine q_asg (i := 5) (n := n + 3) (c := 1) (Φ := IntP fun x => 0 ≤ x ∧ x < (r.length : Int)) (j_pick rfl (e_is (e_lenT (ds := r.map .int) (e_var rfl)) (d1 := .int (r.length : Int)) (by rw [pol_len])) (by omega) (by omega)) a2 fun d σ3 Hk3 H3 ⟨x, hx, ed⟩ g3 a3 => ?_
  subst ed
  obtain ⟨j, rfl⟩ : ∃ j : Nat, x = (j : Int) := ⟨x.toNat, by omega⟩
  have nx1 : ∀ {δ : List Sl}, δ[5]? = some (.dat (.int (j : Int))) → E (some p) δ (tOp (rAddU K) (tVar 5) (tC (.int 1))) (.int ((j + 1 : Nat) : Int)) := fun h => e_is (e_addI (e_var h) e_int) (by congr 1)
  refine q_asgE (i := 6) (d := .list (badR r j)) (e_catL (ds := [.none, .int 5, .tuple [], .list (r.map .int), .str "1"]) (es := [PyData.none, .bool true, .str "0", .tuple [.int 0], .list [.int 0]].map fun b => .tuple ((r.map PyData.int).take j ++ [b] ++ (r.map PyData.int).drop (j + 1))) (e_lst (ds := [.none, .int 5, .tuple [], .list (r.map .int), .str "1"]) (ae_cons e_non (ae_cons e_int (ae_cons (e_tup (ds := []) ae_nil) (ae_cons (e_lstT (ds := r.map .int) (e_var rfl)) (ae_cons e_str ae_nil)))))) (e_lc1 (vs := [7]) (emb := id) (xs := [PyData.none, .bool true, .str "0", .tuple [.int 0], .list [.int 0]]) (by rw [List.map_id]; exact ie_tup (e_tup (ds := [.none, .bool true, .str "0", .tuple [.int 0], .list [.int 0]]) (ae_cons e_non (ae_cons e_bl (ae_cons e_str (ae_cons (e_tup (ds := [.int 0]) (ae_cons e_int ae_nil)) (ae_cons (e_lst (ds := [.int 0]) (ae_cons e_int ae_nil)) ae_nil))))))) (fun b => .tuple ((r.map PyData.int).take j ++ [b] ++ (r.map PyData.int).drop (j + 1))) (by simp) fun b hb => ⟨_, gb_name (by simp), e_putT (ds := r.map .int) (a := j) (b := j + 1) (e_var rfl) (e_var rfl) (nx1 rfl) (e_var rfl) (by rw [List.length_map]; omega)⟩) (by simp)) a3 fun σ4 Hk4 H4 g4 a4 => ?_
  refine q_when (n := n + 2) (c := 1) (P := fun _ => True) (tj_test (j_eqDI (Φ := BoolP fun _ => True) (j_pick rfl e_int (by omega) (by omega)) e_int.intP fun i j _ _ => ⟨i == j, trivial, rfl⟩)) a4 (fun _ Hk5 H5 g5 a5 => ?_) (fun _ Hk5 H5 g5 a5 => ?_)
  · refine s_ret (n := n) (c := 1) (Φ := fun d => isRowsD d = false ∧ OkR K d) (j_ixOf (ds := [.none, .tuple [], .list [], .tuple (rows.map pol), .dict [], .str "rows", .int 5, .bool true, .list ((rows.map pol).take 1 ++ [.tuple (r.map PyData.int ++ [.int 0])]), .list [.tuple []], .list ([.tuple (r.map PyData.int ++ [.int 1])] ++ rows.map pol)]) (e_var rfl) ((j_pick (b := 11) rfl e_int (by omega) (by omega)).intImp (by omega) fun x hx => ⟨hx.1, by show x < ((11 : Nat) : Int); have := hx.2; omega⟩) fun d hd => ?_) a5 (by omega) fin fun d h => h
    simp only [List.mem_cons, List.not_mem_nil, or_false] at hd
    rcases hd with rfl | rfl | rfl | rfl | rfl | rfl | rfl | rfl | rfl | rfl | rfl
    · exact no_rowsO rfl rfl
    · exact no_rowsO rfl rfl
    · exact ⟨rfl, rfl, fun ds e => by cases e; exact ⟨by simp, by simp⟩⟩
    · exact no_rowsO rfl rfl
    · exact no_rowsO rfl rfl
    · exact no_rowsO rfl rfl
    · exact no_rowsO rfl rfl
    · exact no_rowsO rfl rfl
    · obtain ⟨f, t, ef⟩ : ∃ f t, rows = f :: t := by
        cases rows with
        | nil => exact absurd rfl hne
        | cons f t => exact ⟨f, t, rfl⟩
      have hf : f.length = m := hr f (by rw [ef]; simp)
      refine no_rows2 (a := pol f) (b := .tuple (r.map PyData.int ++ [.int 0])) (t := []) (by rw [ef]; rfl) (by rw [(wide 0).2, len_pol, hf]; omega) (by rw [List.length_append, List.length_take]; simp; omega) fun x hx => ?_
      rcases List.mem_append.mp hx with z | z
      · exact good x (List.mem_of_mem_take z)
      · rw [List.mem_singleton.mp z]; exact ⟨(wide 0).1, by rw [(wide 0).2]; omega⟩
    · exact no_rows (b := .tuple []) (by simp) rfl (by simp) fun x hx => by rw [List.mem_singleton.mp hx]; exact ⟨Odd.of (short_tup (by simp)) rfl, by decide⟩
    · obtain ⟨f, t, ef⟩ : ∃ f t, rows = f :: t := by
        cases rows with
        | nil => exact absurd rfl hne
        | cons f t => exact ⟨f, t, rfl⟩
      have hf : f.length = m := hr f (by rw [ef]; simp)
      refine no_rows2 (a := .tuple (r.map PyData.int ++ [.int 1])) (b := pol f) (t := t.map pol) (by rw [ef]; rfl) (by rw [(wide 1).2, len_pol, hf]; omega) (by rw [List.length_append, List.length_map]; simp; omega) fun x hx => ?_
      rcases List.mem_append.mp hx with z | z
      · rw [List.mem_singleton.mp z]; exact ⟨(wide 1).1, by rw [(wide 1).2]; omega⟩
      · exact good x z
  · refine s_ret (n := n) (c := 2) (Φ := fun d => ∃ ds, (∃ b k u, b ∈ badR r j ∧ ds = (rows.map pol).take s ++ [b] ++ ((rows.map pol).drop k).take u) ∧ d = .list ds) (j_catLL (c1 := 1) (c2 := 1) (P1 := fun ds => ∃ b, b ∈ badR r j ∧ ds = (rows.map pol).take s ++ [b]) (P2 := fun ds => ∃ k u, ds = ((rows.map pol).drop k).take u) (j_catLL (c1 := 0) (c2 := 1) (P1 := fun ds => ds = (rows.map pol).take s) (P2 := fun ds => ∃ b, b ∈ badR r j ∧ ds = [b]) ((e_slL (ds := rows.map pol) (e_var rfl) to_none (to_some (e_var rfl))).imp fun d e => ⟨_, rfl, by rw [e, cutD_to]⟩) (j_lst (Ψ := fun ds => ∃ b, b ∈ badR r j ∧ ds = [b]) (aj_cons (c1 := 1) (c2 := 0) (Φ1 := fun d => d ∈ badR r j) (Φr := fun sls => sls = []) (j_ixOf (ds := badR r j) (e_var rfl) ((j_pick (b := 10) rfl e_int (by omega) (by omega)).intImp (by omega) fun x hx => ⟨hx.1, by show x < ((10 : Nat) : Int); have := hx.2; omega⟩) fun d hd => hd) ae_nil fun d sls hd e => ⟨[d], by rw [e]; rfl, by simp, d, hd, rfl⟩)) fun f g h1 ⟨b, hb, h2⟩ => ⟨by rw [h1, h2, List.length_take, List.length_map]; simp; omega, b, hb, by rw [h1, h2]⟩) (j_slLF (P := fun _ => True) (e_var rfl) (((j_addI (c1 := 0) (c2 := 1) (P1 := fun x => x = (s : Int)) (P2 := fun x => 0 ≤ x ∧ x < 2) (Φ := IntP fun _ => True) ((e_var rfl : E (some p) _ (tVar 2) (.int (s : Int))).intP) (j_pick rfl e_int (by omega) (by omega)) fun i k _ _ => ⟨i + k, trivial, rfl⟩)))) fun f g ⟨b, hb, h1⟩ ⟨k, u, h2⟩ => ⟨by rw [h1, h2, List.length_append, List.length_take, List.length_take, List.length_drop, List.length_map]; simp; omega, b, k, u, hb, by rw [h1, h2]⟩) a5 (by omega) fin fun d ⟨ds, ⟨b, k, u, hb, eds⟩, e⟩ => ?_
    subst e; subst eds
    have hbr := badR_no (K := K) (j := j) (by omega : r.length ≤ 300) hb
    refine no_rows (b := b) (by simp) hbr.1 (by rw [List.length_append, List.length_append, List.length_take, List.length_take, List.length_drop, List.length_map]; simp; omega) fun x hx => ?_
    rcases List.mem_append.mp hx with z | z
    · rcases List.mem_append.mp z with y | y
      · exact good x (List.mem_of_mem_take y)
      · rw [List.mem_singleton.mp y]; exact hbr.2
    · exact good x (List.mem_of_mem_drop (List.mem_of_mem_take z))
/-! ### law -/
def kw : Nat → List Nat
  | 0 => [0, 2]
  | 1 => [0, 1]
  | 2 => [0, 2, 4]
  | 3 => [0, 2, 5]
  | 4 => [2, 3]
  | _ => [2]
def nmS : Nat → Str
  | 0 => "ledger"
  | 1 => "ledger"
  | 2 => "changes"
  | 3 => "changes"
  | 4 => "number"
  | _ => "rows"
def eI : Nat → Nat
  | 0 => 0
  | 1 => 0
  | 2 => 1
  | 3 => 1
  | 4 => 2
  | _ => 3
theorem kw_lt (u k : Nat) (h : k ∈ kw u) : k < 6 := by
  have : (kw u).all (fun k => decide (k < 6)) = true := by
    unfold kw
    split <;> rfl
  exact of_decide_eq_true (List.all_eq_true.mp this k h)
theorem kw_len (u : Nat) : (kw u).length ≤ 3 := by
  unfold kw
  split <;> decide
def fstB (u : Nat) (bs : List Bool) : Option Nat :=
  match (kw u).filter (fun k => bs.getD k false) with
  | k :: _ => some k
  | [] => none
theorem fstB_lt {u : Nat} {bs : List Bool} {k : Nat} (h : fstB u bs = some k) : k < 6 := by
  unfold fstB at h
  cases e : (kw u).filter (fun k => bs.getD k false) with
  | nil => rw [e] at h; cases h
  | cons x t =>
    rw [e] at h
    cases h
    exact kw_lt u _ (List.mem_filter.mp (show k ∈ (kw u).filter (fun k => bs.getD k false) by rw [e]; exact List.mem_cons_self)).1
def outO (u : Nat) (bs : List Bool) (lg : Bool) : Option Nat :=
  match fstB u bs with
  | some k => some (eI k)
  | none => if (lg && (u == 3)) = true then some 4 else none
def dS : Option Nat → Str
  | none => "fine"
  | some k => nmS k
theorem dS_ok : ∀ o : Option Nat, (∀ k, o = some k → k < 6) → SeqAt.shaped (.str (dS o)) = true ∧ PyData.eqv (.str (dS o)) (.str "fine") = o.isNone ∧ (∀ k, o = some k → wN (some (eI k)) = nmS k)
  | none, _ => ⟨by decide +kernel, by decide +kernel, fun k h => by cases h⟩
  | some 0, _ => ⟨by decide +kernel, by decide +kernel, fun k h => by cases h; rfl⟩
  | some 1, _ => ⟨by decide +kernel, by decide +kernel, fun k h => by cases h; rfl⟩
  | some 2, _ => ⟨by decide +kernel, by decide +kernel, fun k h => by cases h; rfl⟩
  | some 3, _ => ⟨by decide +kernel, by decide +kernel, fun k h => by cases h; rfl⟩
  | some 4, _ => ⟨by decide +kernel, by decide +kernel, fun k h => by cases h; rfl⟩
  | some 5, _ => ⟨by decide +kernel, by decide +kernel, fun k h => by cases h; rfl⟩
  | some (k + 6), h => absurd (h (k + 6) rfl) (by omega)
theorem wN_shaped : ∀ o : Option Nat, SeqAt.shaped (.str (wN o)) = true
  | none => by decide +kernel
  | some 0 => by decide +kernel
  | some 1 => by decide +kernel
  | some 2 => by decide +kernel
  | some 3 => by decide +kernel
  | some (_ + 4) => by
    show SeqAt.shaped (.str "length") = true
    decide +kernel
theorem wN_self : ∀ o : Option Nat, (!PyData.eqv (.str (wN o)) (.str (wN o))) = false
  | none => by decide +kernel
  | some 0 => by decide +kernel
  | some 1 => by decide +kernel
  | some 2 => by decide +kernel
  | some 3 => by decide +kernel
  | some (_ + 4) => by
    show (!PyData.eqv (.str "length") (.str "length")) = false
    decide +kernel
theorem due_str (u : Nat) (bs : List Bool) : atI ((((kw u).filter fun k => bs.getD k false).map fun k => PyData.str (nmS k)) ++ [.str "fine"]) 0 = some (.str (dS (fstB u bs))) := by
  unfold fstB
  cases e : (kw u).filter (fun k => bs.getD k false) with
  | nil => rfl
  | cons x t =>
    have h0 : atI (((x :: t).map fun k => PyData.str (nmS k)) ++ [.str "fine"]) ((0 : Nat) : Int) = some (.str (nmS x)) := atI_nat rfl
    exact h0
theorem gb_ok {K : PySem.W.Frag} {d : PyData} (h : GB d) : isLedD d = true ∧ Odd K d := by
  obtain ⟨l, h1, h2, h3, rfl⟩ := h
  exact ⟨led_isLed h1, Odd.of (short_tup (by rw [pd_len]; omega)) (deep_led 2 l)⟩
theorem gs_ok {d : PyData} (h : GS d) : isChsD d = true ∧ OkL d := by
  obtain ⟨cs, h2, h3, rfl⟩ := h
  refine ⟨List.all_eq_true.mpr fun x hx => by (obtain ⟨y, _, rfl⟩ := List.mem_map.mp hx; rfl), rfl, fun ds e => ?_⟩
  cases e
  exact ⟨by rw [pd_len]; omega, fun x hx => List.all_eq_true.mp (deep_pd 1 cs) x hx⟩
theorem gn_ok {K : PySem.W.Frag} {d : PyData} (h : GN d) : isFromD 1 d = true ∧ Odd K d := by
  obtain ⟨i, h1, h2, rfl⟩ := h
  exact ⟨decide_eq_true h1, Odd.of (fun ds e => by cases e) rfl⟩
/-- rows of one length -/
def RowsM (mm : Nat) (P : Nat → Prop) (d : PyData) : Prop := ∃ rs : List (List Int), d = .list (rs.map pol) ∧ rs ≠ [] ∧ rs.length ≤ 1000 ∧ (∀ r ∈ rs, r.length = mm) ∧ P rs.length
theorem rows_good {K : PySem.W.Frag} {mm : Nat} {P : Nat → Prop} {d : PyData} (h1 : 1 ≤ mm) (h2 : mm ≤ 400) (h : RowsM mm P d) : isRowsD d = true ∧ OkR K d ∧ P (lenL d) := by
  obtain ⟨rs, rfl, hne, hl, hr, hp⟩ := h
  cases rs with
  | nil => exact absurd rfl hne
  | cons r rs =>
    refine ⟨?_, ⟨rfl, fun ds e => ?_⟩, ?_⟩
    · show (!((r :: rs).map pol).isEmpty && (((r :: rs).map pol).all isSumsD && ((r :: rs).map pol).all fun s => lenD s == lenD (pol r))) = true
      have a1 : ((r :: rs).map pol).all isSumsD = true := List.all_eq_true.mpr fun x hx => by
        obtain ⟨f, hf, rfl⟩ := List.mem_map.mp hx
        exact pol_isSums (List.length_pos_iff.mp (by have := hr f hf; omega))
      have a2 : (((r :: rs).map pol).all fun s => lenD s == lenD (pol r)) = true := List.all_eq_true.mpr fun x hx => by
        obtain ⟨f, hf, rfl⟩ := List.mem_map.mp hx
        have e1 := hr f hf
        have e2 := hr r (by simp)
        rw [len_pol, len_pol, e1, e2]
        simp
      rw [a1, a2]
      rfl
    · cases e
      refine ⟨by rw [List.length_map]; exact hl, fun x hx => ?_⟩
      obtain ⟨f, hf, rfl⟩ := List.mem_map.mp hx
      have e1 := hr f hf
      exact ⟨odd_pol (by omega), by rw [len_pol]; omega⟩
    · show P ((r :: rs).map pol).length
      rw [List.length_map]
      exact hp
theorem rep_one {α : Type} (m : Nat) (x : α) : (List.replicate m [x]).flatten = List.replicate m x := by
  induction m with
  | zero => rfl
  | succ m ih => rw [List.replicate_succ, List.flatten_cons, ih]; rfl
/-- what is asked of a call: which parts are bad, whether the rows are too many or too few -/
theorem out_ok {K : PySem.W.Frag} (w : Nat) (hw : w < 12) {a b d e f g : PyData} {b0 b1 b2 b3 b4 b5 lg : Bool} (j0 : isLedD a = !b0) (j1 : isLedD b = !b1) (j2 : isChsD d = !b2) (j3 : isChsD e = !b3) (j4 : isFromD 1 f = !b4) (j5 : isRowsD g = !b5)
    (o0 : Odd K a) (o1 : Odd K b) (o2 : OkL d) (o3 : OkL e) (o4 : Odd K f) (o5 : OkR K g) (g0 : b0 = false → GB a) (g1 : b1 = false → GB b) (g2 : b2 = false → GS d) (g3 : b3 = false → GS e) (g4 : b4 = false → GN f)
    (g5 : b2 = false → b5 = false → lg = false → GR (lenL d) g) (l5 : lg = true → b5 = false ∧ (b2 = false → lenL g ≠ lenL d + 1)) : OutC K w [a, b, d, e, f, g] (outO (w / 2) [b0, b1, b2, b3, b4, b5] lg) := by
  match w, hw with
  | 0, _ =>
    cases b0 with
    | true => exact (show OutC K 0 [a, b, d, e, f, g] (some 0) from ⟨by decide, (show B_ledger_after K none [.dat a, .dat d] 0 (xN 0) from ⟨rfl, a, d, o0, o2, rfl, .inl ⟨j0, rfl⟩⟩)⟩)
    | false =>
      cases b2 with
      | true => exact (show OutC K 0 [a, b, d, e, f, g] (some 1) from ⟨by decide, (show B_ledger_after K none [.dat a, .dat d] 0 (xN 1) from ⟨rfl, a, d, o0, o2, rfl, .inr (⟨j0, j2, rfl⟩)⟩)⟩)
      | false =>
        cases lg <;> exact (show GoodC 0 [a, b, d, e, f, g] from ⟨g0 rfl, g2 rfl⟩)
  | 1, _ =>
    cases b0 with
    | true => exact (show OutC K 1 [a, b, d, e, f, g] (some 0) from ⟨by decide, (show B_ledger_after K none [.dat a, .dat d] 0 (xN 0) from ⟨rfl, a, d, o0, o2, rfl, .inl ⟨j0, rfl⟩⟩)⟩)
    | false =>
      cases b2 with
      | true => exact (show OutC K 1 [a, b, d, e, f, g] (some 1) from ⟨by decide, (show B_ledger_after K none [.dat a, .dat d] 0 (xN 1) from ⟨rfl, a, d, o0, o2, rfl, .inr (⟨j0, j2, rfl⟩)⟩)⟩)
      | false =>
        cases lg <;> exact (show GoodC 1 [a, b, d, e, f, g] from ⟨g0 rfl, g2 rfl⟩)
  | 2, _ =>
    cases b0 with
    | true =>
      cases b1 with
      | true => exact (show OutC K 2 [a, b, d, e, f, g] (some 0) from ⟨by decide, (show B_short_log K none [.dat a, .dat b] 0 (xN 0) from ⟨a, b, rfl, rfl, b, a, o1, o0, rfl, .inl ⟨j1, rfl⟩⟩)⟩)
      | false => exact (show OutC K 2 [a, b, d, e, f, g] (some 0) from ⟨by decide, (show B_short_log K none [.dat a, .dat b] 0 (xN 0) from ⟨a, b, rfl, rfl, b, a, o1, o0, rfl, .inr ⟨j1, j0, rfl⟩⟩)⟩)
    | false =>
      cases b1 with
      | true =>
        exact (show OutC K 2 [a, b, d, e, f, g] (some 0) from ⟨by decide, (show B_short_log K none [.dat a, .dat b] 0 (xN 0) from ⟨a, b, rfl, rfl, b, a, o1, o0, rfl, .inl ⟨j1, rfl⟩⟩)⟩)
      | false =>
        cases lg <;> exact (show GoodC 2 [a, b, d, e, f, g] from ⟨g0 rfl, g1 rfl⟩)
  | 3, _ =>
    cases b0 with
    | true =>
      cases b1 with
      | true => exact (show OutC K 3 [a, b, d, e, f, g] (some 0) from ⟨by decide, (show B_short_log K none [.dat a, .dat b] 0 (xN 0) from ⟨a, b, rfl, rfl, b, a, o1, o0, rfl, .inl ⟨j1, rfl⟩⟩)⟩)
      | false => exact (show OutC K 3 [a, b, d, e, f, g] (some 0) from ⟨by decide, (show B_short_log K none [.dat a, .dat b] 0 (xN 0) from ⟨a, b, rfl, rfl, b, a, o1, o0, rfl, .inr ⟨j1, j0, rfl⟩⟩)⟩)
    | false =>
      cases b1 with
      | true =>
        exact (show OutC K 3 [a, b, d, e, f, g] (some 0) from ⟨by decide, (show B_short_log K none [.dat a, .dat b] 0 (xN 0) from ⟨a, b, rfl, rfl, b, a, o1, o0, rfl, .inl ⟨j1, rfl⟩⟩)⟩)
      | false =>
        cases lg <;> exact (show GoodC 3 [a, b, d, e, f, g] from ⟨g0 rfl, g1 rfl⟩)
  | 4, _ =>
    cases b0 with
    | true => exact (show OutC K 4 [a, b, d, e, f, g] (some 0) from ⟨by decide, (show B_sums_along K none [.dat a, .dat d, .dat f] 0 (xN 0) from ⟨rfl, a, d, f, o0, o2, o4, rfl, .inl ⟨j0, rfl⟩⟩)⟩)
    | false =>
      cases b2 with
      | true => exact (show OutC K 4 [a, b, d, e, f, g] (some 1) from ⟨by decide, (show B_sums_along K none [.dat a, .dat d, .dat f] 0 (xN 1) from ⟨rfl, a, d, f, o0, o2, o4, rfl, .inr (.inl ⟨j0, j2, rfl⟩)⟩)⟩)
      | false =>
        cases b4 with
        | true => exact (show OutC K 4 [a, b, d, e, f, g] (some 2) from ⟨by decide, (show B_sums_along K none [.dat a, .dat d, .dat f] 0 (xN 2) from ⟨rfl, a, d, f, o0, o2, o4, rfl, .inr (.inr (⟨j0, j2, j4, rfl⟩))⟩)⟩)
        | false =>
          cases lg <;> exact (show GoodC 4 [a, b, d, e, f, g] from ⟨g0 rfl, g2 rfl, g4 rfl⟩)
  | 5, _ =>
    cases b0 with
    | true => exact (show OutC K 5 [a, b, d, e, f, g] (some 0) from ⟨by decide, (show B_sums_along K none [.dat a, .dat d, .dat f] 0 (xN 0) from ⟨rfl, a, d, f, o0, o2, o4, rfl, .inl ⟨j0, rfl⟩⟩)⟩)
    | false =>
      cases b2 with
      | true => exact (show OutC K 5 [a, b, d, e, f, g] (some 1) from ⟨by decide, (show B_sums_along K none [.dat a, .dat d, .dat f] 0 (xN 1) from ⟨rfl, a, d, f, o0, o2, o4, rfl, .inr (.inl ⟨j0, j2, rfl⟩)⟩)⟩)
      | false =>
        cases b4 with
        | true => exact (show OutC K 5 [a, b, d, e, f, g] (some 2) from ⟨by decide, (show B_sums_along K none [.dat a, .dat d, .dat f] 0 (xN 2) from ⟨rfl, a, d, f, o0, o2, o4, rfl, .inr (.inr (⟨j0, j2, j4, rfl⟩))⟩)⟩)
        | false =>
          cases lg <;> exact (show GoodC 5 [a, b, d, e, f, g] from ⟨g0 rfl, g2 rfl, g4 rfl⟩)
  | 6, _ =>
    cases b0 with
    | true => exact (show OutC K 6 [a, b, d, e, f, g] (some 0) from ⟨by decide, (show B_log_fault K none [.dat a, .dat d, .dat g] 0 (xN 0) from ⟨rfl, a, d, g, o0, o2, o5, rfl, .inl ⟨j0, rfl⟩⟩)⟩)
    | false =>
      cases b2 with
      | true => exact (show OutC K 6 [a, b, d, e, f, g] (some 1) from ⟨by decide, (show B_log_fault K none [.dat a, .dat d, .dat g] 0 (xN 1) from ⟨rfl, a, d, g, o0, o2, o5, rfl, .inr (.inl ⟨j0, j2, rfl⟩)⟩)⟩)
      | false =>
        cases b5 with
        | true => exact (show OutC K 6 [a, b, d, e, f, g] (some 3) from ⟨by decide, (show B_log_fault K none [.dat a, .dat d, .dat g] 0 (xN 3) from ⟨rfl, a, d, g, o0, o2, o5, rfl, .inr (.inr (.inl ⟨j0, j2, j5, rfl⟩))⟩)⟩)
        | false =>
          cases lg with
          | true => exact (show OutC K 6 [a, b, d, e, f, g] (some 4) from ⟨by decide, (show B_log_fault K none [.dat a, .dat d, .dat g] 0 (xN 4) from ⟨rfl, a, d, g, o0, o2, o5, rfl, .inr (.inr (.inr ⟨j0, j2, j5, (l5 rfl).2 rfl, rfl⟩))⟩)⟩)
          | false => exact (show GoodC 6 [a, b, d, e, f, g] from ⟨g0 rfl, g2 rfl, g5 rfl rfl rfl⟩)
  | 7, _ =>
    cases b0 with
    | true => exact (show OutC K 7 [a, b, d, e, f, g] (some 0) from ⟨by decide, (show B_log_fault K none [.dat a, .dat d, .dat g] 0 (xN 0) from ⟨rfl, a, d, g, o0, o2, o5, rfl, .inl ⟨j0, rfl⟩⟩)⟩)
    | false =>
      cases b2 with
      | true => exact (show OutC K 7 [a, b, d, e, f, g] (some 1) from ⟨by decide, (show B_log_fault K none [.dat a, .dat d, .dat g] 0 (xN 1) from ⟨rfl, a, d, g, o0, o2, o5, rfl, .inr (.inl ⟨j0, j2, rfl⟩)⟩)⟩)
      | false =>
        cases b5 with
        | true => exact (show OutC K 7 [a, b, d, e, f, g] (some 3) from ⟨by decide, (show B_log_fault K none [.dat a, .dat d, .dat g] 0 (xN 3) from ⟨rfl, a, d, g, o0, o2, o5, rfl, .inr (.inr (.inl ⟨j0, j2, j5, rfl⟩))⟩)⟩)
        | false =>
          cases lg with
          | true => exact (show OutC K 7 [a, b, d, e, f, g] (some 4) from ⟨by decide, (show B_log_fault K none [.dat a, .dat d, .dat g] 0 (xN 4) from ⟨rfl, a, d, g, o0, o2, o5, rfl, .inr (.inr (.inr ⟨j0, j2, j5, (l5 rfl).2 rfl, rfl⟩))⟩)⟩)
          | false => exact (show GoodC 7 [a, b, d, e, f, g] from ⟨g0 rfl, g2 rfl, g5 rfl rfl rfl⟩)
  | 8, _ =>
    cases b2 with
    | true => exact (show OutC K 8 [a, b, d, e, f, g] (some 1) from ⟨by decide, (show B_common_log none [.dat d, .dat e] 0 (xN 1) from ⟨rfl, d, e, o2, o3, rfl, .inl ⟨j2, rfl⟩⟩)⟩)
    | false =>
      cases b3 with
      | true => exact (show OutC K 8 [a, b, d, e, f, g] (some 1) from ⟨by decide, (show B_common_log none [.dat d, .dat e] 0 (xN 1) from ⟨rfl, d, e, o2, o3, rfl, .inr (⟨j2, j3, rfl⟩)⟩)⟩)
      | false =>
        cases lg <;> exact (show GoodC 8 [a, b, d, e, f, g] from ⟨g2 rfl, g3 rfl⟩)
  | 9, _ =>
    cases b2 with
    | true => exact (show OutC K 9 [a, b, d, e, f, g] (some 1) from ⟨by decide, (show B_common_log none [.dat d, .dat e] 0 (xN 1) from ⟨rfl, d, e, o2, o3, rfl, .inl ⟨j2, rfl⟩⟩)⟩)
    | false =>
      cases b3 with
      | true => exact (show OutC K 9 [a, b, d, e, f, g] (some 1) from ⟨by decide, (show B_common_log none [.dat d, .dat e] 0 (xN 1) from ⟨rfl, d, e, o2, o3, rfl, .inr (⟨j2, j3, rfl⟩)⟩)⟩)
      | false =>
        cases lg <;> exact (show GoodC 9 [a, b, d, e, f, g] from ⟨g2 rfl, g3 rfl⟩)
  | 10, _ =>
    cases b2 with
    | true => exact (show OutC K 10 [a, b, d, e, f, g] (some 1) from ⟨by decide, (show B_shortest_undo none [.dat d] 0 (xN 1) from ⟨rfl, d, o2, rfl, ⟨j2, rfl⟩⟩)⟩)
    | false =>
      cases lg <;> exact (show GoodC 10 [a, b, d, e, f, g] from g2 rfl)
  | 11, _ =>
    cases b2 with
    | true => exact (show OutC K 11 [a, b, d, e, f, g] (some 1) from ⟨by decide, (show B_first_return none [.dat d] 0 (xN 1) from ⟨rfl, d, o2, rfl, ⟨j2, rfl⟩⟩)⟩)
    | false =>
      cases lg <;> exact (show GoodC 11 [a, b, d, e, f, g] from g2 rfl)
  | w + 12, hw => exact absurd hw (by omega)
set_option maxHeartbeats 8000000 in
theorem ok_law (T : Tx K mg) : FnOk P w K mg base CX0 9 T.a_law T.fd_law P_law (spLaw K) := by
  have G__law_along := ok__law_along (P := P) (w := w) (base := base) T
  have G__law_book := ok__law_book (P := P) (w := w) (base := base) T
  have G__law_jar := ok__law_jar (P := P) (w := w) (base := base) T
  have G__law_log := ok__law_log (P := P) (w := w) (base := base) T
  have G__law_no_book := ok__law_no_book (P := P) (w := w) (base := base) T
  have G__law_no_lines := ok__law_no_lines (P := P) (w := w) (base := base) T
  have G__law_no_log := ok__law_no_log (P := P) (w := w) (base := base) T
  have G__law_no_whole := ok__law_no_whole (P := P) (w := w) (base := base) T
  have G__law_pick := ok__law_pick (P := P) (w := w) (base := base) T
  have G__law_told := ok__law_told (P := P) (w := w) (base := base) T
  refine T.F_law.ok sc_law (fun vs H Q Ew h => by obtain ⟨a, ns, rfl, _⟩ := h; rfl) (fun cdv A outer s H vs Q Ew hr h => ?_)
  obtain ⟨a, ns, rfl, hS, hlen, kk⟩ := h
  refine ⟨_, (pss_cons (ps_for PassesOwn.never rfl (pi_range1 rfl T.z_range (pa_cons (pe_callB (call_maxQ rfl) (by rfl) T.z_max (by decide +kernel) (pa_cons pe_int (pa_cons (pe_callB (call_minQ rfl) (by rfl) T.z_min (by decide +kernel) (pa_cons pe_int (pa_cons (pe_callB (k_len (K := K) rfl) (by rfl) T.z_len (by decide +kernel) (pa_cons (pv 0) pa_nil)) pa_nil))) pa_nil))) pa_nil)) (pg_name (i := 1) sc_law.nd rfl (Or.inl rfl)) (pss_cons (ps_set (i := 2) sc_law.nd rfl (Or.inr rfl) (pe_call G__law_jar (hr.mono (by decide)) (by rfl) T.m__law_jar T.F__law_jar.kp T.b__law_jar .nil pass0 (pa_cons (pv 0) (pa_cons (pv 1) pa_nil))))
      (pss_one (ps_for PassesOwn.never rfl (pi_range1 rfl T.z_range (pa_cons pe_int pa_nil)) (pg_name (i := 3) sc_law.nd rfl (Or.inl rfl)) (pss_cons (ps_par (i := 4) (j := 5) (by rfl) sc_law.nd rfl rfl (by decide) rfl rfl (pa_cons (pe_call G__law_book (hr.mono (by decide)) (by rfl) T.m__law_book T.F__law_book.kp T.b__law_book .nil pass0 (pa_cons (pv 2) (pa_cons pe_int (pa_cons pe_int (pa_cons pe_int pa_nil))))) (pa_cons (pe_call G__law_book (hr.mono (by decide)) (by rfl) T.m__law_book T.F__law_book.kp T.b__law_book .nil pass0 (pa_cons (pv 2) (pa_cons pe_int (pa_cons pe_int (pa_cons pe_int pa_nil))))) pa_nil)) (by rfl))
      (pss_cons (ps_par (i := 6) (j := 7) (by rfl) sc_law.nd rfl rfl (by decide) rfl rfl (pa_cons (pe_call G__law_log (hr.mono (by decide)) (by rfl) T.m__law_log T.F__law_log.kp T.b__law_log .nil pass0 (pa_cons (pv 2) (pa_cons (pv 4) (pa_cons pe_int pa_nil)))) (pa_cons (pe_call G__law_log (hr.mono (by decide)) (by rfl) T.m__law_log T.F__law_log.kp T.b__law_log .nil pass0 (pa_cons (pv 2) (pa_cons (pv 4) (pa_cons pe_int pa_nil)))) pa_nil)) (by rfl))
      (pss_cons (ps_set (i := 8) sc_law.nd rfl (Or.inl rfl) (pe_call G__law_along (hr.mono (by decide)) (by rfl) T.m__law_along T.F__law_along.kp T.b__law_along .nil pass0 (pa_cons (pv 4) (pa_cons (pv 6) (pa_cons (pe_op (k_addU (K := K) rfl) pe_int (pe_call G__law_pick (hr.mono (by decide)) (by rfl) T.m__law_pick T.F__law_pick.kp T.b__law_pick .nil pass0 (pa_cons (pv 2) (pa_cons pe_int pa_nil)))) pa_nil)))))
      (pss_cons (ps_set (i := 9) sc_law.nd rfl (Or.inr rfl) (pe_lst (pa_cons (pv 4) (pa_cons (pv 5) (pa_cons (pv 6) (pa_cons (pv 7) (pa_cons (pe_op (k_addU (K := K) rfl) pe_int (pe_call G__law_pick (hr.mono (by decide)) (by rfl) T.m__law_pick T.F__law_pick.kp T.b__law_pick .nil pass0 (pa_cons (pv 2) (pa_cons pe_int pa_nil)))) (pa_cons (pv 8) pa_nil))))))))
      (pss_cons (ps_set (i := 10) sc_law.nd rfl (Or.inr rfl) (pe_lst (pa_cons (pe_call G__law_no_book (hr.mono (by decide)) (by rfl) T.m__law_no_book T.F__law_no_book.kp T.b__law_no_book .nil pass0 (pa_cons (pv 2) (pa_cons (pv 4) pa_nil))) (pa_cons (pe_call G__law_no_book (hr.mono (by decide)) (by rfl) T.m__law_no_book T.F__law_no_book.kp T.b__law_no_book .nil pass0 (pa_cons (pv 2) (pa_cons (pv 5) pa_nil))) (pa_cons (pe_call G__law_no_log (hr.mono (by decide)) (by rfl) T.m__law_no_log T.F__law_no_log.kp T.b__law_no_log .nil pass0 (pa_cons (pv 2) (pa_cons (pv 6) pa_nil))) (pa_cons (pe_call G__law_no_log (hr.mono (by decide)) (by rfl) T.m__law_no_log T.F__law_no_log.kp T.b__law_no_log .nil pass0 (pa_cons (pv 2) (pa_cons (pv 7) pa_nil))) pa_nil))))))
      (pss_cons (ps_set (i := 10) sc_law.nd rfl (Or.inr rfl) (pe_op (k_addU (K := K) rfl) (pv 10) (pe_lst (pa_cons (pe_call G__law_no_whole (hr.mono (by decide)) (by rfl) T.m__law_no_whole T.F__law_no_whole.kp T.b__law_no_whole .nil pass0 (pa_cons (pv 2) (pa_cons pe_int pa_nil))) (pa_cons (pe_call G__law_no_lines (hr.mono (by decide)) (by rfl) T.m__law_no_lines T.F__law_no_lines.kp T.b__law_no_lines .nil pass0 (pa_cons (pv 2) (pa_cons (pv 8) pa_nil))) pa_nil)))))
      (pss_cons (ps_set (i := 11) sc_law.nd rfl (Or.inr rfl) (pe_lc (own := [("k", 18)]) rfl sc_law.nd (pi_range1 rfl T.z_range (pa_cons pe_int pa_nil)) (blkOk_by (own := [("k", 18)]) (N := N_law) (sc := defScope s_law) (by decide +kernel)) (fun _ _ _ _ _ => (pg_name (i := 18) sc_law.nd rfl (Or.inl rfl))) (fun _ _ _ _ _ => pts_nil) (fun _ _ _ _ _ => (pe_cmpR (k_eqD (K := K) rfl hr.units) (pe_call G__law_pick (hr.mono (by decide)) (by rfl) T.m__law_pick T.F__law_pick.kp T.b__law_pick .nil pass0 (pa_cons (pv 2) (pa_cons pe_int pa_nil))) pe_int (nomark _)))))
      (pss_cons (ps_setLc (i := 12) (own := [("k", 18)]) rfl sc_law.nd rfl rfl (sw_true rfl rfl rfl (by decide +kernel)) (pi_range1 rfl T.z_range (pa_cons pe_int pa_nil)) (blkOk_by (own := [("k", 18)]) (N := N_law) (sc := defScope s_law) (by decide +kernel)) (fun _ _ _ _ _ => (pg_name (i := 18) sc_law.nd rfl (Or.inl rfl))) (fun _ _ _ _ _ => pts_nil) (fun _ _ _ _ _ => (pe_ifExp (pt_val (pe_ix (k_ix (K := K) rfl) (pv 11) (pv 18) (fun _ _ => rfl))) (pe_ix (k_ix (K := K) rfl) (pv 10) (pv 18) (fun _ _ => rfl)) (pe_ix (k_ix (K := K) rfl) (pv 9) (pv 18) (fun _ _ => rfl)))))
      (pss_cons (ps_set (i := 13) sc_law.nd rfl (Or.inl rfl) (pe_and (pe_not (pe_ix (k_ix (K := K) rfl) (pv 11) pe_int (fun _ _ => rfl))) (pe_one (pe_cmpR (k_eqD (K := K) rfl hr.units) (pe_call G__law_pick (hr.mono (by decide)) (by rfl) T.m__law_pick T.F__law_pick.kp T.b__law_pick .nil pass0 (pa_cons (pv 2) (pa_cons pe_int pa_nil))) pe_int (nomark _)))))
      (pss_cons (ps_if (pt_val (pv 13)) (pss_cons (ps_set (i := 14) sc_law.nd rfl (Or.inl rfl) (pe_slice (k_sl (K := K) rfl) (pv 8) po_none (po_some pe_int)))
      (pss_cons (ps_asg (pe_ix (k_ix (K := K) rfl) (pe_lst (pa_cons (pe_op (k_addU (K := K) rfl) (pv 8) (pv 14)) (pa_cons (pe_op (k_addU (K := K) rfl) (pe_slice (k_sl (K := K) rfl) (pv 8) (po_some pe_int) po_none) (pe_op op_mulU (pv 14) pe_int)) (pa_cons (pe_op op_mulU (pv 14) (pe_op (k_addU (K := K) rfl) (pe_callB (k_len (K := K) rfl) (by rfl) T.z_len (by decide +kernel) (pa_cons (pv 8) pa_nil)) pe_int)) pa_nil)))) (pe_call G__law_pick (hr.mono (by decide)) (by rfl) T.m__law_pick T.F__law_pick.kp T.b__law_pick .nil pass0 (pa_cons (pv 2) (pa_cons pe_int pa_nil))) (fun _ _ => rfl)) (pg_sub (pv 12) pe_int set_list))
      (pss_one (ps_if (pt_cmpR op_gt (pe_callB (k_len (K := K) rfl) (by rfl) T.z_len (by decide +kernel) (pa_cons (pv 8) pa_nil)) pe_int (nomark _)) (pss_one (ps_asg (pe_ix (k_ix (K := K) rfl) (pe_lst (pa_cons (pe_slice (k_sl (K := K) rfl) (pv 8) (po_some pe_int) po_none) (pa_cons (pe_slice (k_sl (K := K) rfl) (pv 8) po_none (po_some (pe_un un_neg pe_int))) (pa_cons (pe_ix (k_ix (K := K) rfl) (pv 12) pe_int (fun _ _ => rfl)) pa_nil)))) (pe_call G__law_pick (hr.mono (by decide)) (by rfl) T.m__law_pick T.F__law_pick.kp T.b__law_pick .nil pass0 (pa_cons (pv 2) (pa_cons pe_int pa_nil))) (fun _ _ => rfl)) (pg_sub (pv 12) pe_int set_list))) pss_nil)))) pss_nil)
      (pss_cons (ps_set (i := 15) sc_law.nd rfl (Or.inr rfl) (pe_lst (pa_cons pe_str (pa_cons pe_str (pa_cons pe_str (pa_cons pe_str (pa_cons pe_str (pa_cons pe_str pa_nil))))))))
      (pss_cons (ps_set (i := 16) sc_law.nd rfl (Or.inl rfl) (pe_ix (k_ix (K := K) rfl) (pe_lst (pa_cons (pe_lst (pa_cons pe_int (pa_cons pe_int pa_nil))) (pa_cons (pe_lst (pa_cons pe_int (pa_cons pe_int pa_nil))) (pa_cons (pe_lst (pa_cons pe_int (pa_cons pe_int (pa_cons pe_int pa_nil)))) (pa_cons (pe_lst (pa_cons pe_int (pa_cons pe_int (pa_cons pe_int pa_nil)))) (pa_cons (pe_lst (pa_cons pe_int (pa_cons pe_int pa_nil))) (pa_cons (pe_lst (pa_cons pe_int pa_nil)) pa_nil))))))) (pe_op op_fdivW (pv 3) pe_int) (fun _ _ => rfl)))
      (pss_cons (ps_set (i := 17) sc_law.nd rfl (Or.inl rfl) (pe_ix (k_ix (K := K) rfl) (pe_op (k_addU (K := K) rfl) (pe_lc (own := [("k", 18)]) rfl sc_law.nd (k_piList (K := K) rfl (pv 16)) (blkOk_by (own := [("k", 18)]) (N := N_law) (sc := defScope s_law) (by decide +kernel)) (fun _ _ _ _ _ => (pg_name (i := 18) sc_law.nd rfl (Or.inl rfl))) (fun _ _ _ _ _ => (pts_one (pt_val (pe_ix (k_ix (K := K) rfl) (pv 11) (pv 18) (fun _ _ => rfl))))) (fun _ _ _ _ _ => (pe_ix (k_ix (K := K) rfl) (pv 15) (pv 18) (fun _ _ => rfl)))) (pe_lst (pa_cons pe_str pa_nil))) pe_int (fun _ _ => rfl)))
      (pss_cons (ps_if (PW.pt (pw_and (pt_cmpR (k_eqD (K := K) rfl hr.units) (pv 17) pe_str (nomark _)) (pw_and (pt_val (pv 13)) (pw_and1 (pt_cmpR (k_eqD (K := K) rfl hr.units) (pe_op op_fdivW (pv 3) pe_int) pe_int (nomark _)))))) (pss_one (ps_set (i := 17) sc_law.nd rfl (Or.inl rfl) pe_str)) pss_nil)
      (pss_one (ps_if (pt_cmpR (k_neD (K := K) rfl hr.units) (pe_call G__law_told (hr.mono (by decide)) (by rfl) T.m__law_told T.F__law_told.kp T.b__law_told .nil pass0 (pa_cons (pv 3) (pa_cons (pv 12) pa_nil))) (pv 17) (nomark _)) (pss_one (ps_ret pe_bl)) pss_nil))))))))))))))))))))
      (pss_one (ps_ret pe_bl))), ?_⟩
  have hA : At none 0 [.scr K ns, .any, .any, .any, .any, .any, .any, .any, .any, .any, .any, .any, .any, .any, .any, .any, .any, .any, .any] H H (L2.start N_law [.ref a]) H H := ⟨⟨Same.refl _, fun p e => (by cases e), fun p e => (by cases e)⟩, start_sg (N := N_law) (VS.cons (s := .scr K ns) ⟨a, rfl, hS⟩ VS.nil) (by show 1 ≤ 19; decide), Gr.refl (Same.refl _)⟩
  obtain ⟨tab, etab⟩ : ∃ tab : List PyData, tab = (List.range 6).map fun u => PyData.list ((kw u).map fun k : Nat => .int (k : Int)) := ⟨_, rfl⟩
  obtain ⟨nms, enms⟩ : ∃ nms : List PyData, nms = (List.range 6).map fun k => PyData.str (nmS k) := ⟨_, rfl⟩
  have i2 : ∀ {q : Option Addr} {δ : List Sl} (x y : Int), E q δ (tLst (tCons (tC (.int x)) (tCons (tC (.int y)) tNil))) (.list [.int x, .int y]) := fun x y => e_lst (ds := [.int x, .int y]) (ae_cons e_int (ae_cons e_int ae_nil))
  have i3 : ∀ {q : Option Addr} {δ : List Sl} (x y z : Int), E q δ (tLst (tCons (tC (.int x)) (tCons (tC (.int y)) (tCons (tC (.int z)) tNil)))) (.list [.int x, .int y, .int z]) := fun x y z => e_lst (ds := [.int x, .int y, .int z]) (ae_cons e_int (ae_cons e_int (ae_cons e_int ae_nil)))
  refine q_for (n := 0) (c := 0) (e_ats rfl (by omega) (by omega)) hA fun items HkW H10 ⟨m9, hm9, ei⟩ g10 a10 => ?_
  subst ei
  refine ⟨fun i σ' Hk' H' => Same HkW Hk' ∧ At none 0 [.scr K ns, .any, .any, .any, .any, .any, .any, .any, .any, .any, .any, .any, .any, .any, .any, .any, .any, .any, .any] Hk' H' σ' Hk' H', ⟨Same.refl _, a10.reset⟩, fun i σ' Hk' H' h => ⟨h.1, h.2.ok.a⟩, ?_, ?_⟩
  · rintro i d σ' Hk' H' ed ⟨h2, st⟩ v Hk11 H11 g11 dv
    obtain ⟨hi, rfl⟩ := rng_get' ed
    refine gb_name (vs := [1]) (by simp) σ' Hk11 H11 v (st.sg.mono g11.k) g11.a dv _ fun σ2 sg2 _ _ => ?_
    have st2 : At none 0 [.scr K ns, .dat (.int (0 + (i : Int))), .any, .any, .any, .any, .any, .any, .any, .any, .any, .any, .any, .any, .any, .any, .any, .any, .any] Hk11 H11 σ2 Hk11 H11 := ⟨st.ok.go g11, sg2, Gr.refl g11.a⟩
    refine q_mkJarE st2 rfl (e_var rfl) (by omega) (by omega) fun p σ12 Hk12 H12 sm12 a12 => ?_
    refine s_for (n := 200000) (c := 0) (ie_rng1 e_int (by omega) (by omega)) (a12.mono (by omega)) fun items HkU H20 ei g20 a20 => ?_
    subst ei
    refine ⟨fun t σ' Hk' H' => ∃ e, e + 9000 * t = 200000 ∧ At (some p) e [.scr K ns, .dat (.int (0 + (i : Int))), .adr p, .any, .any, .any, .any, .any, .any, .any, .any, .any, .any, .any, .any, .any, .any, .any, .any] HkU H20 σ' Hk' H', ⟨200000, by omega, ⟨a20.ok, a20.sg, Gr.refl a20.ok.a⟩⟩, fun t σ' Hk' H' ⟨e, he, h⟩ => ⟨h.gr.k, h.ok.a⟩, ?_, ?_⟩
    · rintro w d σ' Hk' H' ed ⟨e, he, st⟩ v Hk21 H21 g21 dv
      obtain ⟨hw', rfl⟩ := rng_get' ed
      have hw : w < 12 := hw'
      refine gb_name (vs := [3]) (by simp) σ' Hk21 H21 v (st.sg.mono g21.k) g21.a dv _ fun σ3 sg3 _ _ => ?_
      have st3' : At (some p) e [.scr K ns, .dat (.int (0 + (i : Int))), .adr p, .dat (.int (0 + (w : Int))), .any, .any, .any, .any, .any, .any, .any, .any, .any, .any, .any, .any, .any, .any, .any] HkU H20 σ3 Hk21 H21 := ⟨st.ok.go g21, sg3, st.gr.trans g21.none_to⟩
      have st3 : At (some p) e [.scr K ns, .dat (.int (0 + (i : Int))), .adr p, .dat (.int (w : Int)), .any, .any, .any, .any, .any, .any, .any, .any, .any, .any, .any, .any, .any, .any, .any] HkU H20 σ3 Hk21 H21 := by
        have h9 := st3'
        rw [Int.zero_add (w : Int)] at h9
        exact h9
      obtain ⟨f', rfl⟩ : ∃ f', e = f' + 9000 := ⟨e - 9000, by omega⟩
      have bookJ : ∀ {δ : List Sl}, δ[2]? = some (.adr p) → J (some p) δ (tCall (spX R__law_book) [] Ew (tCons (tVar 2) (tCons (tC (.int 6)) (tCons (tC (.int 40)) (tCons (tC (.int 9)) tNil))))) 1000 (fun d => ∃ l, Led l ∧ Kb 60 60 l ∧ l.length ≤ 6 ∧ d = led l) := fun h => (j_call (R := R__law_book) (c := 1000) (c1 := 0) (Φ := fun d => ∃ l, Led l ∧ (l.length : Int) ≤ 6 ∧ (∀ x ∈ l, -40 ≤ x.1 ∧ x.1 ≤ 40) ∧ Bd 60 l ∧ d = led l) (ae_adr h (ae_cons e_int (ae_cons e_int (ae_cons e_int ae_nil)))) fun sls e => ⟨rfl, p, 6, 40, 9, rfl, by omega, by omega, by omega, by omega, by omega, by omega, e, rfl⟩).imp fun d ⟨l, h1, h2, _, h4, ed⟩ => ⟨l, h1, h4.kb, by omega, ed⟩
      refine q_par (i := 4) (j := 5) (n := f' + 7000) (c := 2000) (Ψ := fun x y => ∃ l m, (Led l ∧ Kb 60 60 l ∧ l.length ≤ 6) ∧ (Led m ∧ Kb 60 60 m ∧ m.length ≤ 6) ∧ x = led l ∧ y = led m) ((aj_pair (bookJ rfl) (bookJ rfl)).imp fun sls ⟨x, y, e, ⟨l, h1, h2, h3, ex⟩, ⟨m, h4, h5, h6, ey⟩⟩ => ⟨x, y, e, l, m, ⟨h1, h2, h3⟩, ⟨h4, h5, h6⟩, ex, ey⟩) (st3.mono (by omega)) fun x y σ30 Hk30 H30 ⟨bk, mt, ⟨hbL, hbK, hbl⟩, ⟨hmL, hmK, hml⟩, ex, ey⟩ g30 a30 => ?_
      subst ex; subst ey
      have logJ : ∀ {δ : List Sl}, δ[2]? = some (.adr p) → δ[4]? = some (.dat (led bk)) → J (some p) δ (tCall (spX R__law_log) [] Ew (tCons (tVar 2) (tCons (tVar 4) (tCons (tC (.int 9)) tNil)))) 3000 (fun d => ∃ cs : List (Int × Int), (cs.length ≤ 400 ∧ Kb 60 60 cs) ∧ d = .list (pd cs)) := fun h h4 => j_call (R := R__law_log) (c := 3000) (c1 := 0) (ae_adr h (ae_cons (e_var h4) (ae_cons e_int ae_nil))) fun sls e => ⟨rfl, p, bk, 9, rfl, ⟨by omega, hbK⟩, ⟨by omega, by omega⟩, e, rfl⟩
      refine q_par (i := 6) (j := 7) (n := f' + 1000) (c := 6000) (Ψ := fun x y => ∃ l m : List (Int × Int), (l.length ≤ 400 ∧ Kb 60 60 l) ∧ (m.length ≤ 400 ∧ Kb 60 60 m) ∧ x = .list (pd l) ∧ y = .list (pd m)) ((aj_pair (logJ rfl rfl) (logJ rfl rfl)).imp fun sls ⟨x, y, e, ⟨l, h1, ex⟩, ⟨m, h4, ey⟩⟩ => ⟨x, y, e, l, m, h1, h4, ex, ey⟩) a30 fun x y σ31 Hk31 H31 ⟨sp, mo, ⟨hsl, hsK⟩, ⟨hol, hoK⟩, ex, ey⟩ g31 a31 => ?_
      subst ex; subst ey
      have oneJ : ∀ {δ : List Sl}, δ[2]? = some (.adr p) → J (some p) δ (tOp (rAddU K) (tC (.int 1)) (tCall (spX R_pick) [] Ew (tCons (tVar 2) (tCons (tC (.int 12)) tNil)))) 1 (IntP fun x => 1 ≤ x ∧ x ≤ 12) := fun h => j_addI (c1 := 0) (c2 := 1) (P1 := fun x => x = 1) (P2 := fun x => 0 ≤ x ∧ x < 12) (Φ := IntP fun x => 1 ≤ x ∧ x ≤ 12) e_int.intP (j_pick h e_int (by omega) (by omega)) fun i j hi hj => ⟨i + j, by have h1 : i = 1 := hi; have h2 : 0 ≤ j ∧ j < 12 := hj; omega, rfl⟩
      refine q_asg (i := 8) (n := f' + 900) (c := 1) (Φ := fun d => ∃ (rows : List (List Int)) (mm : Nat), rows.length = sp.length + 1 ∧ (1 ≤ mm ∧ mm ≤ 12) ∧ (∀ r ∈ rows, r.length = mm) ∧ d = .list (rows.map pol)) ((j_callD (R := R__law_along) (c := 0) (c1 := 1) (Φa := fun sls => ∃ m : Int, (1 ≤ m ∧ m ≤ 12) ∧ sls = [.dat (led bk), .dat (.list (pd sp)), .dat (.int m)]) (aj_cons (c1 := 0) (c2 := 1) (Φ1 := fun d => d = led bk) (Φr := fun sls => ∃ m : Int, (1 ≤ m ∧ m ≤ 12) ∧ sls = [.dat (.list (pd sp)), .dat (.int m)]) (e_var rfl) (aj_cons (c1 := 0) (c2 := 1) (Φ1 := fun d => d = .list (pd sp)) (Φr := fun sls => ∃ m : Int, (1 ≤ m ∧ m ≤ 12) ∧ sls = [.dat (.int m)]) (e_var rfl) (aj_int (c1 := 1) (c2 := 0) (P := fun x => 1 ≤ x ∧ x ≤ 12) (Φr := fun sls => sls = []) (oneJ rfl) ae_nil fun i sls hi e => ⟨i, hi, by rw [e]⟩) fun d sls ed ⟨m, hm, e⟩ => ⟨m, hm, by rw [ed, e]⟩) fun d sls ed ⟨m, hm, e⟩ => ⟨m, hm, by rw [ed, e]⟩) fun sls ⟨m, hm, e⟩ => ⟨_, ⟨rfl, bk, sp, m, ⟨by omega, hbK⟩, ⟨by omega, hsK⟩, ⟨by omega, by omega⟩, e, rfl⟩, fun d ed => ⟨(List.range (sp.length + 1)).map (rowA (psums bk m.toNat) sp), m.toNat, by rw [List.length_map, List.length_range], ⟨by omega, by omega⟩, (fun r hr2 => by obtain ⟨j, _, rfl⟩ := List.mem_map.mp hr2; rw [rowA_len, psums_len]), by rw [ed, List.map_map]; rfl⟩⟩).cost (by omega)) (a31.mono (by omega)) fun d σ32 Hk32 H32 ⟨rows, mm, hrl, hmm, hrm, ed⟩ g32 a32 => ?_
      subst ed
      have hrne : rows ≠ [] := fun z => by rw [z] at hrl; simp at hrl
      refine q_asg (i := 9) (n := f' + 800) (c := 1) (Φ := fun d => ∃ z : Int, (1 ≤ z ∧ z ≤ 12) ∧ d = .list [led bk, led mt, .list (pd sp), .list (pd mo), .int z, .list (rows.map pol)]) ((j_lst (Ψ := fun ds => ∃ z : Int, (1 ≤ z ∧ z ≤ 12) ∧ ds = [led bk, led mt, .list (pd sp), .list (pd mo), .int z, .list (rows.map pol)]) ((aj_kn (c := 1) (d := led bk) (e_var rfl) (aj_kn (c := 1) (d := led mt) (e_var rfl) (aj_kn (c := 1) (d := .list (pd sp)) (e_var rfl) (aj_kn (c := 1) (d := .list (pd mo)) (e_var rfl) (aj_dr (c1 := 1) (c2 := 0) (oneJ rfl) (aj_kn (c := 0) (d := .list (rows.map pol)) (e_var rfl) ae_nil)))))).imp fun sls ⟨s1, ⟨s2, ⟨s3, ⟨s4, ⟨x, s5, ⟨z, hz, ex⟩, ⟨s6, e6, e5⟩, e4⟩, e3⟩, e2⟩, e1⟩, e0⟩ => ⟨[led bk, led mt, .list (pd sp), .list (pd mo), .int z, .list (rows.map pol)], by rw [e0, e1, e2, e3, e4, e5, e6, ex]; rfl, by simp, z, hz, rfl⟩)).imp fun d ⟨ds, ⟨z, hz, e1⟩, e2⟩ => ⟨z, hz, by rw [e2, e1]⟩) (a32.mono (by omega)) fun d σ33 Hk33 H33 ⟨z, hz, ed⟩ g33 a33 => ?_
      subst ed
      have nbJ : ∀ {δ : List Sl} {j : Nat} {l : List (Int × Int)}, Led l → l.length ≤ 6 → δ[2]? = some (.adr p) → δ[j]? = some (.dat (led l)) → J (some p) δ (tCall (spX (R__law_no_book K)) [] Ew (tCons (tVar 2) (tCons (tVar j) tNil))) 3 (NoB K) := fun {δ j l} hL hl h h4 => j_call (R := R__law_no_book K) (c := 3) (c1 := 0) (ae_adr h (ae_cons (e_var h4) ae_nil)) fun sls e => ⟨rfl, p, l, rfl, hL, by omega, e, rfl⟩
      have nlJ : ∀ {δ : List Sl} {j : Nat} {cs : List (Int × Int)}, cs.length ≤ 400 → δ[2]? = some (.adr p) → δ[j]? = some (.dat (.list (pd cs))) → J (some p) δ (tCall (spX R__law_no_log) [] Ew (tCons (tVar 2) (tCons (tVar j) tNil))) 3 (fun d => isChsD d = false ∧ OkL d) := fun {δ j cs} hl h h4 => j_call (R := R__law_no_log) (c := 3) (c1 := 0) (ae_adr h (ae_cons (e_var h4) ae_nil)) fun sls e => ⟨rfl, p, cs, rfl, hl, e, rfl⟩
      refine q_asg (i := 10) (n := f' + 700) (c := 12) (Φ := fun d => ∃ x0 x1 x2 x3, NoB K x0 ∧ NoB K x1 ∧ (isChsD x2 = false ∧ OkL x2) ∧ (isChsD x3 = false ∧ OkL x3) ∧ d = .list [x0, x1, x2, x3]) ((j_lst (Ψ := fun ds => ∃ x0 x1 x2 x3, NoB K x0 ∧ NoB K x1 ∧ (isChsD x2 = false ∧ OkL x2) ∧ (isChsD x3 = false ∧ OkL x3) ∧ ds = [x0, x1, x2, x3]) ((aj_dr (c1 := 3) (c2 := 9) (nbJ hbL hbl rfl rfl) (aj_dr (c1 := 3) (c2 := 6) (nbJ hmL hml rfl rfl) (aj_dr (c1 := 3) (c2 := 3) (nlJ hsl rfl rfl) (aj_dr (c1 := 3) (c2 := 0) (nlJ hol rfl rfl) ae_nil)))).imp fun sls ⟨x0, s1, h0, ⟨x1, s2, h1, ⟨x2, s3, h2, ⟨x3, s4, h3, e4, e3⟩, e2⟩, e1⟩, e0⟩ => ⟨[x0, x1, x2, x3], by rw [e0, e1, e2, e3, e4]; rfl, by simp, x0, x1, x2, x3, h0, h1, h2, h3, rfl⟩)).imp fun d ⟨ds, ⟨x0, x1, x2, x3, h0, h1, h2, h3, e1⟩, e2⟩ => ⟨x0, x1, x2, x3, h0, h1, h2, h3, by rw [e2, e1]⟩) (a33.mono (by omega)) fun d σ34 Hk34 H34 ⟨x0, x1, x2, x3, hx0, hx1, hx2, hx3, ed⟩ g34 a34 => ?_
      subst ed
      refine q_asg (i := 10) (n := f' + 600) (c := 8) (Φ := fun d => ∃ x4 x5, (isFromD 1 x4 = false ∧ Odd K x4) ∧ (isRowsD x5 = false ∧ OkR K x5) ∧ d = .list [x0, x1, x2, x3, x4, x5]) ((j_catLL (c1 := 0) (c2 := 8) (P1 := fun ds => ds = [x0, x1, x2, x3]) (P2 := fun ds => ∃ x4 x5, (isFromD 1 x4 = false ∧ Odd K x4) ∧ (isRowsD x5 = false ∧ OkR K x5) ∧ ds = [x4, x5]) (P := fun ds => ∃ x4 x5, (isFromD 1 x4 = false ∧ Odd K x4) ∧ (isRowsD x5 = false ∧ OkR K x5) ∧ ds = [x0, x1, x2, x3, x4, x5]) ((e_var rfl).imp fun d e => ⟨_, rfl, e⟩) (j_lst (Ψ := fun ds => ∃ x4 x5, (isFromD 1 x4 = false ∧ Odd K x4) ∧ (isRowsD x5 = false ∧ OkR K x5) ∧ ds = [x4, x5]) ((aj_dr (c1 := 2) (c2 := 6) (j_call (R := R__law_no_whole K) (c := 2) (c1 := 0) (Φ := fun d => isFromD 1 d = false ∧ Odd K d) (ae_adr rfl (ae_cons e_int ae_nil)) fun sls e => ⟨rfl, p, 1, rfl, e, rfl⟩) (aj_dr (c1 := 6) (c2 := 0) (j_call (R := R__law_no_lines K) (c := 6) (c1 := 0) (Φ := fun d => isRowsD d = false ∧ OkR K d) (ae_adr rfl (ae_cons (e_var rfl) ae_nil)) fun sls e => ⟨rfl, p, rows, mm, rfl, ⟨hrne, by omega⟩, ⟨by omega, by omega⟩, hrm, e, rfl⟩) ae_nil)).imp fun sls ⟨x4, s1, h4, ⟨x5, s2, h5, e2, e1⟩, e0⟩ => ⟨[x4, x5], by rw [e0, e1, e2]; rfl, by simp, x4, x5, h4, h5, rfl⟩)) fun f g e1 ⟨x4, x5, h4, h5, e2⟩ => ⟨by rw [e1, e2]; simp, x4, x5, h4, h5, by rw [e1, e2]; rfl⟩).imp fun d ⟨ds, ⟨x4, x5, h4, h5, e1⟩, e2⟩ => ⟨x4, x5, h4, h5, by rw [e2, e1]⟩) (a34.mono (by omega)) fun d σ35 Hk35 H35 ⟨x4, x5, hx4, hx5, ed⟩ g35 a35 => ?_
      subst ed
      obtain ⟨rs, ers⟩ : ∃ rs : List PyData, rs = [led bk, led mt, .list (pd sp), .list (pd mo), .int z, .list (rows.map pol)] := ⟨_, rfl⟩
      obtain ⟨ws, ews⟩ : ∃ ws : List PyData, ws = [x0, x1, x2, x3, x4, x5] := ⟨_, rfl⟩
      rw [← ers, ← ews] at a35
      have hrs : rs.length = 6 := by rw [ers]; rfl
      have hws : ws.length = 6 := by rw [ews]; rfl
      refine q_asg (i := 11) (n := f' + 500) (c := 6) (Φ := fun d => ∃ bs : List Bool, bs.length = 6 ∧ d = .list (bs.map .bool)) ((j_lcD (c := 0) (c1 := 1) (N := 6) (vs := [18]) (α := PyData) (emb := id) (Ψ := fun xs => xs = rng 0 (6 : Int).toNat) (Φ := BoolP fun _ => True) (ie_rng1 (j := 6) e_int (by omega) (by omega)).lcd (fun xs e => by rw [e, rng_len]; decide) (by omega) fun xs e x hx => ⟨_, gb_name (by simp), (j_eqDI (Φ := BoolP fun _ => True) (j_pick rfl e_int (by omega) (by omega)) e_int.intP fun i j _ _ => ⟨i == j, trivial, rfl⟩)⟩).to (by omega) fun r ⟨xs, qs, e1, e2, e3, e4⟩ => ?_) (a35.mono (by omega)) fun d σ36 Hk36 H36 ⟨bs, hbs, ed⟩ g36 a36 => ?_
      · obtain ⟨bs, ebs⟩ := bools_of e3
        exact ⟨bs, by rw [← List.length_map (f := PyData.bool), ← ebs, e2, e1, rng_len]; rfl, by rw [e4, ebs]⟩
      subst ed
      refine q_newLcI (i0 := 12) (vs := [18]) (N := 6) (c1 := 0) (n := f' + 400) (emb := fun k : Nat => PyData.int (0 + (k : Int))) (xs := List.range 6) (Φi := fun j d => d = if bs.getD j false = true then ws.getD j .none else rs.getD j .none) ((ie_rng1 (j := 6) e_int (by omega) (by omega)).is rfl) (by simp) (by omega) (fun j x hx => ?_) (a36.mono (by omega)) fun c0 ds Hk37 H37 hdl hds g37 a37 cl37 => ?_
      · obtain ⟨hj, ex⟩ := List.getElem?_eq_some_iff.mp hx
        rw [List.length_range] at hj
        rw [List.getElem_range] at ex
        subst ex
        have ix : ∀ {δ : List Sl}, δ[18]? = some (.dat (.int (0 + (j : Int)))) → E (some p) δ (tVar 18) (.int (j : Int)) := fun h => e_is (e_var h) (by rw [Int.zero_add])
        obtain ⟨b, eb⟩ : ∃ b, bs[j]? = some b := ⟨bs[j]'(by omega), List.getElem?_eq_getElem _⟩
        obtain ⟨dw, edw⟩ : ∃ dw, ws[j]? = some dw := ⟨ws[j]'(by omega), List.getElem?_eq_getElem _⟩
        obtain ⟨dr, edr⟩ : ∃ dr, rs[j]? = some dr := ⟨rs[j]'(by omega), List.getElem?_eq_getElem _⟩
        have v1 : bs.getD j false = b := by rw [List.getD_eq_getElem?_getD, eb]; rfl
        have v2 : ws.getD j .none = dw := by rw [List.getD_eq_getElem?_getD, edw]; rfl
        have v3 : rs.getD j .none = dr := by rw [List.getD_eq_getElem?_getD, edr]; rfl
        refine ⟨_, gb_name (by simp), ?_⟩
        rw [v1, v2, v3]
        exact j_if (c := 0) (c1 := 0) (P := fun z => z = b) (tb_B (e_iL (ds := bs.map .bool) (e_var rfl) (ix rfl) (atI_nat (by rw [List.getElem?_map, eb]; rfl)))) (fun h => (e_iL (ds := ws) (e_var rfl) (ix rfl) (atI_nat edw)).imp fun d e => by rw [e, ← h]; rfl) (fun h => (e_iL (ds := rs) (e_var rfl) (ix rfl) (atI_nat edr)).imp fun d e => by rw [e, ← h]; rfl)
      obtain ⟨b0, b1, b2, b3, b4, b5, rfl⟩ : ∃ b0 b1 b2 b3 b4 b5, bs = [b0, b1, b2, b3, b4, b5] := by
        match bs, hbs with
        | [b0, b1, b2, b3, b4, b5], _ => exact ⟨_, _, _, _, _, _, rfl⟩
      obtain ⟨q0, q1, q2, q3, q4, q5, rfl⟩ : ∃ q0 q1 q2 q3 q4 q5, ds = [q0, q1, q2, q3, q4, q5] := by
        match ds, hdl with
        | [q0, q1, q2, q3, q4, q5], _ => exact ⟨_, _, _, _, _, _, rfl⟩
      have f0 : q0 = if b0 = true then x0 else led bk := by have := hds 0 q0 rfl; rw [ers, ews] at this; exact this
      have f1 : q1 = if b1 = true then x1 else led mt := by have := hds 1 q1 rfl; rw [ers, ews] at this; exact this
      have f2 : q2 = if b2 = true then x2 else .list (pd sp) := by have := hds 2 q2 rfl; rw [ers, ews] at this; exact this
      have f3 : q3 = if b3 = true then x3 else .list (pd mo) := by have := hds 3 q3 rfl; rw [ers, ews] at this; exact this
      have f4 : q4 = if b4 = true then x4 else .int z := by have := hds 4 q4 rfl; rw [ers, ews] at this; exact this
      have f5 : q5 = if b5 = true then x5 else .list (rows.map pol) := by have := hds 5 q5 rfl; rw [ers, ews] at this; exact this
      have G0 : isLedD q0 = (!b0) ∧ Odd K q0 ∧ (b0 = false → GB q0) := by
        cases b0 with
        | true => rw [f0]; exact ⟨hx0.1, hx0.2, fun h => by cases h⟩
        | false => have hg : GB q0 := ⟨bk, hbL, hbK, by omega, by rw [f0]; rfl⟩
                   exact ⟨(gb_ok (K := K) hg).1, (gb_ok hg).2, fun _ => hg⟩
      have G1 : isLedD q1 = (!b1) ∧ Odd K q1 ∧ (b1 = false → GB q1) := by
        cases b1 with
        | true => rw [f1]; exact ⟨hx1.1, hx1.2, fun h => by cases h⟩
        | false => have hg : GB q1 := ⟨mt, hmL, hmK, by omega, by rw [f1]; rfl⟩
                   exact ⟨(gb_ok (K := K) hg).1, (gb_ok hg).2, fun _ => hg⟩
      have G2 : isChsD q2 = (!b2) ∧ OkL q2 ∧ (b2 = false → GS q2) := by
        cases b2 with
        | true => rw [f2]; exact ⟨hx2.1, hx2.2, fun h => by cases h⟩
        | false => have hg : GS q2 := ⟨sp, hsK, hsl, by rw [f2]; rfl⟩
                   exact ⟨(gs_ok hg).1, (gs_ok hg).2, fun _ => hg⟩
      have G3 : isChsD q3 = (!b3) ∧ OkL q3 ∧ (b3 = false → GS q3) := by
        cases b3 with
        | true => rw [f3]; exact ⟨hx3.1, hx3.2, fun h => by cases h⟩
        | false => have hg : GS q3 := ⟨mo, hoK, hol, by rw [f3]; rfl⟩
                   exact ⟨(gs_ok hg).1, (gs_ok hg).2, fun _ => hg⟩
      have G4 : isFromD 1 q4 = (!b4) ∧ Odd K q4 ∧ (b4 = false → GN q4) := by
        cases b4 with
        | true => rw [f4]; exact ⟨hx4.1, hx4.2, fun h => by cases h⟩
        | false => have hg : GN q4 := ⟨z, hz.1, by omega, by rw [f4]; rfl⟩
                   exact ⟨(gn_ok (K := K) hg).1, (gn_ok hg).2, fun _ => hg⟩
      have hrows : RowsM mm (fun k => k = sp.length + 1) (.list (rows.map pol)) := ⟨rows, rfl, hrne, by omega, hrm, hrl⟩
      have G5 : isRowsD q5 = (!b5) ∧ OkR K q5 ∧ (b2 = false → b5 = false → GR (lenL q2) q5) := by
        cases b5 with
        | true => rw [f5]; exact ⟨hx5.1, hx5.2, fun _ h => by cases h⟩
        | false =>
          have e5 : q5 = .list (rows.map pol) := by rw [f5]; rfl
          have hg := rows_good (K := K) (by omega) (by omega) hrows
          rw [e5]
          refine ⟨hg.1, hg.2.1, fun h2 _ => ⟨rows, mm, ?_, by omega, hrm, rfl⟩⟩
          rw [hrl, f2, h2]
          show sp.length + 1 = (pd sp).length + 1
          rw [pd_len]
      have hq2 : b2 = false → lenL q2 = sp.length := fun h => by
        rw [f2, h]
        show (pd sp).length = _
        rw [pd_len]
      refine q_asg (i := 13) (n := f' + 300) (c := 1) (Φ := BoolP fun lg => lg = true → (!b5) = true) (j_andV (e_notV (e_iL (ds := [b0, b1, b2, b3, b4, b5].map .bool) (d := .bool b5) (e_var rfl) e_int rfl)) (j_eqDI (Φ := BoolP fun _ => True) (j_pick rfl e_int (by omega) (by omega)) e_int.intP fun i j _ _ => ⟨i == j, trivial, rfl⟩)) (a37.mono (by omega)) fun d σ38 Hk38 H38 ⟨lg, hlg, ed⟩ g38 a38 => ?_
      subst ed
      have cl38 := cl37.go g38
      refine q_cut (I := fun σ' H' => ∃ (Hk' : Hp) (q5' : PyData) (s14 : Sl), At (some p) (f' + 200) [.scr K ns, .dat (.int (0 + (i : Int))), .adr p, .dat (.int (w : Int)), .dat (led bk), .dat (led mt), .dat (.list (pd sp)), .dat (.list (pd mo)), .dat (.list (rows.map pol)), .dat (.list rs), .dat (.list ws), .dat (.list ([b0, b1, b2, b3, b4, b5].map .bool)), .adr c0, .dat (.bool lg), .any, .any, .any, .any, .any] HkU H20 σ' Hk' H' ∧ Cell (some p) H20 Hk' H' c0 [q0, q1, q2, q3, q4, q5'] ∧ isRowsD q5' = (!b5) ∧ OkR K q5' ∧ (b2 = false → b5 = false → lg = false → GR (lenL q2) q5') ∧ (lg = true → b5 = false ∧ (b2 = false → lenL q5' ≠ lenL q2 + 1))) (fun D' kn => ?_) fun σ40 H40 ⟨Hk40, q5', _, a40, cl40, j5, o5, g5, l5⟩ => ?_
      · refine s_ifB (b := lg) (tb_B (e_var rfl)) a38 (fun hl Hk39 H39 g39 a39 => ?_) (fun hl Hk39 H39 g39 a39 => kn _ _ ⟨Hk39, q5, .any, a39.mono (by omega), cl38.go g39, G5.1, G5.2.1, fun h2 h5 _ => G5.2.2 h2 h5, fun h => by rw [hl] at h; cases h⟩)
        have hb5 : b5 = false := by have := hlg hl; simpa using this
        have cl39 := cl38.go g39
        obtain ⟨r0, rt, ert⟩ : ∃ r0 rt, rows = r0 :: rt := by
          cases rows with
          | nil => exact absurd rfl hrne
          | cons r0 rt => exact ⟨r0, rt, rfl⟩
        have hr0 : r0.length = mm := hrm r0 (by rw [ert]; simp)
        have hlen : rows.length = rt.length + 1 := by rw [ert]; rfl
        refine q_asgE (i := 14) (d := .list [pol r0]) (e_is (e_slL (ds := rows.map pol) (e_var rfl) to_none (to_some (i := ((1 : Nat) : Int)) e_int)) (by rw [cutD_to, ert]; rfl)) a39 fun σ41 Hk41 H41 g41 a41 => ?_
        have cl41 := cl39.go g41
        have elen : ∀ {δ : List Sl}, δ[8]? = some (.dat (.list (rows.map pol))) → E (some p) δ (tCB (rLenQ K) (tCons (tVar 8) tNil)) (.int (rows.length : Int)) := fun h => e_is (e_lenL (ds := rows.map pol) (e_var h)) (by rw [List.length_map])
        have A1 : RowsM mm (fun k => k ≠ sp.length + 1) (.list (rows.map pol ++ [pol r0])) := ⟨rows ++ [r0], by rw [List.map_append]; rfl, by simp, by rw [List.length_append, List.length_singleton]; omega, fun r hr => by
          rcases List.mem_append.mp hr with h | h
          · exact hrm r h
          · rw [List.mem_singleton.mp h]; exact hr0, by rw [List.length_append, List.length_singleton]; omega⟩
        have A2 : RowsM mm (fun k => k ≠ sp.length + 1) (.list ((rows.map pol).drop 1 ++ List.replicate 3 (pol r0))) := ⟨rt ++ List.replicate 3 r0, by rw [List.map_append, List.map_replicate, ert]; rfl, by simp, by rw [List.length_append, List.length_replicate]; omega, fun r hr => by
          rcases List.mem_append.mp hr with h | h
          · exact hrm r (by rw [ert]; simp [h])
          · rw [(List.mem_replicate.mp h).2]; exact hr0, by rw [List.length_append, List.length_replicate]; omega⟩
        have A3 : RowsM mm (fun k => k ≠ sp.length + 1) (.list (List.replicate (rows.length + 5) (pol r0))) := ⟨List.replicate (rows.length + 5) r0, by rw [List.map_replicate], by simp, by rw [List.length_replicate]; omega, fun r hr => by rw [(List.mem_replicate.mp hr).2]; exact hr0, by rw [List.length_replicate]; omega⟩
        refine s_seq ?_
        refine s_putC (i := 12) (j := 5) (n := f' + 250) (c := 1) (Φ := RowsM mm fun k => k ≠ sp.length + 1) (j_ixOf (ds := [.list (rows.map pol ++ [pol r0]), .list ((rows.map pol).drop 1 ++ List.replicate 3 (pol r0)), .list (List.replicate (rows.length + 5) (pol r0))]) (e_lst (ds := [.list (rows.map pol ++ [pol r0]), .list ((rows.map pol).drop 1 ++ List.replicate 3 (pol r0)), .list (List.replicate (rows.length + 5) (pol r0))]) (ae_cons (e_catL (ds := rows.map pol) (es := [pol r0]) (e_var rfl) (e_var rfl) (by rw [List.length_map]; simp; omega)) (ae_cons (e_catL (ds := (rows.map pol).drop 1) (es := List.replicate 3 (pol r0)) (e_is (e_slL (ds := rows.map pol) (e_var rfl) (to_some (i := ((1 : Nat) : Int)) e_int) to_none) (by rw [cutD_from])) (e_is (e_rep (ds := [pol r0]) (n := 3) (e_var rfl) e_int (by omega) (by omega) (by simp)) (by rw [rep_one]; rfl)) (by rw [List.length_drop, List.length_map, List.length_replicate]; omega)) (ae_cons (e_is (e_rep (ds := [pol r0]) (n := (rows.length : Int) + 5) (e_var rfl) (e_addI (elen rfl) e_int) (by omega) (by omega) (by simp; omega)) (by rw [rep_one]; congr 1)) ae_nil)))) ((j_pick (b := 3) rfl e_int (by omega) (by omega)).intImp (by omega) fun x hx => ⟨hx.1, by show x < ((3 : Nat) : Int); have := hx.2; omega⟩) fun d hd => ?_) (a41.mono (by omega)) cl41 rfl (by simp) fun d5 Hk42 H42 hd5 s42 a42 cl42 => ?_
        · simp only [List.mem_cons, List.not_mem_nil, or_false] at hd
          rcases hd with rfl | rfl | rfl
          · exact A1
          · exact A2
          · exact A3
        have fin5 : ∀ {d : PyData}, RowsM mm (fun k => k ≠ sp.length + 1) d → isRowsD d = (!b5) ∧ OkR K d ∧ (b2 = false → b5 = false → lg = false → GR (lenL q2) d) ∧ (lg = true → b5 = false ∧ (b2 = false → lenL d ≠ lenL q2 + 1)) := fun h => by
          have hg := rows_good (K := K) (by omega) (by omega) h
          exact ⟨by rw [hb5]; exact hg.1, hg.2.1, (fun _ _ h => by rw [hl] at h; cases h), fun _ => ⟨hb5, fun h2 => by rw [hq2 h2]; exact hg.2.2⟩⟩
        refine s_ifB (b := decide ((1 : Int) < (rows.length : Int))) (tb_test (e_gtI (elen rfl) e_int)) a42 (fun hb Hk43 H43 g43 a43 => ?_) (fun hb Hk43 H43 g43 a43 => kn _ _ ⟨Hk43, d5, .any, (a43.mono (by omega)).forget 14, cl42.go g43, fin5 hd5⟩)
        have h1 : (1 : Int) < (rows.length : Int) := of_decide_eq_true hb
        have A4 : RowsM mm (fun k => k ≠ sp.length + 1) (.list ((rows.map pol).drop 1)) := ⟨rt, by rw [ert]; rfl, List.length_pos_iff.mp (by omega), by omega, fun r hr => hrm r (by rw [ert]; simp [hr]), by omega⟩
        have A5 : RowsM mm (fun k => k ≠ sp.length + 1) (.list ((rows.map pol).dropLast)) := ⟨rows.dropLast, by rw [List.map_dropLast], List.length_pos_iff.mp (by rw [List.length_dropLast]; omega), by rw [List.length_dropLast]; omega, fun r hr => hrm r (List.dropLast_subset _ hr), by rw [List.length_dropLast]; omega⟩
        refine s_put3 (i := 12) (j := 5) (n := f' + 249) (c := 1) (d1 := .list ((rows.map pol).drop 1)) (d2 := .list ((rows.map pol).dropLast)) (d0 := d5) (e_is (e_slL (ds := rows.map pol) (e_var rfl) (to_some (i := ((1 : Nat) : Int)) e_int) to_none) (by rw [cutD_from])) (e_is (e_slL (ds := rows.map pol) (e_var rfl) to_none (to_some (i := -1) (e_is (e_un e_int) rfl))) (by rw [cutD_m1])) (j_pick rfl e_int (by omega) (by omega)) (a43.mono (by omega)) (cl42.go g43) rfl rfl fun d Hk44 H44 hd s44 a44 cl44 => kn _ _ ⟨Hk44, d, .any, (a44.mono (by omega)).forget 14, cl44, fin5 ?_⟩
        rcases hd with rfl | rfl | rfl
        · exact A4
        · exact A5
        · exact hd5
      obtain ⟨Hk45, s45, a45⟩ := a40.freeze (i := 12) cl40 rfl
      have hu : w / 2 < 6 := by omega
      refine q_asgE (i := 15) (d := .list nms) (e_is (e_lst (ds := [.str "ledger", .str "ledger", .str "changes", .str "changes", .str "number", .str "rows"]) (ae_cons e_str (ae_cons e_str (ae_cons e_str (ae_cons e_str (ae_cons e_str (ae_cons e_str ae_nil))))))) (by rw [enms]; rfl)) a45 fun σ46 Hk46 H46 g46 a46 => ?_
      refine q_asgE (i := 16) (d := .list ((kw (w / 2)).map fun k : Nat => .int (k : Int))) (e_iL (ds := tab) (e_is (e_lst (ds := [.list [.int 0, .int 2], .list [.int 0, .int 1], .list [.int 0, .int 2, .int 4], .list [.int 0, .int 2, .int 5], .list [.int 2, .int 3], .list [.int 2]]) (ae_cons (i2 0 2) (ae_cons (i2 0 1) (ae_cons (i3 0 2 4) (ae_cons (i3 0 2 5) (ae_cons (i2 2 3) (ae_cons (e_lst (ds := [.int 2]) (ae_cons e_int ae_nil)) ae_nil))))))) (by rw [etab]; rfl)) (e_is (e_fdiv (i := (w : Int)) (j := 2) (e_var rfl) e_int divW2) (d1 := .int ((w / 2 : Nat) : Int)) (congrArg PyData.int (by omega))) (atI_nat (by rw [etab, List.getElem?_map, List.getElem?_range hu]; rfl))) a46 fun σ47 Hk47 H47 g47 a47 => ?_
      obtain ⟨bs, ebs⟩ : ∃ bs : List Bool, bs = [b0, b1, b2, b3, b4, b5] := ⟨_, rfl⟩
      have hbs6 : bs.length = 6 := by rw [ebs]; rfl
      rw [← ebs] at a47
      have hkl := kw_len (w / 2)
      refine q_asgE (i := 17) (d := .str (dS (fstB (w / 2) bs))) (e_iL (ds := (((kw (w / 2)).filter fun k => bs.getD k false).map fun k => PyData.str (nmS k)) ++ [.str "fine"]) (e_catL (ds := ((kw (w / 2)).filter fun k => bs.getD k false).map fun k => PyData.str (nmS k)) (es := [.str "fine"]) (e_lc (vs := [18]) (emb := fun k : Nat => PyData.int (k : Int)) (xs := kw (w / 2)) (ie_lst (e_var rfl)) (fun k => bs.getD k false) (fun k => .str (nmS k)) (by omega) fun x hx => ?_) (e_lst (ds := [.str "fine"]) (ae_cons e_str ae_nil)) (by
          have h1 := List.length_filter_le (fun k => bs.getD k false) (kw (w / 2))
          rw [List.length_map, List.length_singleton]; omega)) e_int (due_str (w / 2) bs)) a47 fun σ48 Hk48 H48 g48 a48 => ?_
      · have hx6 := kw_lt _ _ hx
        obtain ⟨b, eb⟩ : ∃ b, bs[x]? = some b := ⟨bs[x]'(by omega), List.getElem?_eq_getElem _⟩
        exact ⟨_, gb_name (by simp), tb_is (tb_B (e_iL (ds := bs.map .bool) (e_var rfl) (e_var rfl) (atI_nat (v := PyData.bool b) (by rw [List.getElem?_map, eb]; rfl)))) (by simp [List.getD_eq_getElem?_getD, eb]), fun _ => e_iL (ds := nms) (e_var rfl) (e_var rfl) (atI_nat (by rw [enms, List.getElem?_map, List.getElem?_range hx6]; rfl))⟩
      have hok := dS_ok (fstB (w / 2) bs) fun k h => fstB_lt h
      refine q_ifAsg (i := 17) (n := f' + 200) (c := 0) (c1 := 0) (P0 := fun t => t = ((fstB (w / 2) bs).isNone && (lg && (w / 2 == 3)))) (d0 := .str (dS (fstB (w / 2) bs))) (Φ := fun d => d = .str (wN (outO (w / 2) bs lg))) (tb_and (tb_test (e_is (e_eqD (d1 := .str (dS (fstB (w / 2) bs))) (d2 := .str "fine") (e_var rfl) e_str hok.1 (by decide +kernel)) (by rw [hok.2.1]))) fun _ => tb_and (tb_B (e_var rfl)) fun _ => tb_test (e_is (e_eqDI (e_is (e_fdiv (i := (w : Int)) (j := 2) (e_var rfl) e_int divW2) (d1 := .int ((w / 2 : Nat) : Int)) (congrArg PyData.int (by omega))) e_int) (d1 := .bool (w / 2 == 3)) (congrArg PyData.bool (beq_cast (w / 2) 3)))) a48 (fun h => e_str.imp fun d e => ?_) rfl (fun h => ?_) fun d σ49 Hk49 H49 ed a49 => ?_
      · have h0 := h.symm
        rw [Bool.and_eq_true] at h0
        rw [e]
        unfold outO
        cases e0 : fstB (w / 2) bs with
        | some k => rw [e0] at h0; cases h0.1
        | none => rw [show (if (lg && (w / 2 == 3)) = true then some 4 else none : Option Nat) = some 4 from if_pos h0.2]; rfl
      · unfold outO
        cases e0 : fstB (w / 2) bs with
        | some k => exact congrArg PyData.str (hok.2.2 k e0).symm
        | none =>
          rw [e0] at h
          have h0 : (lg && (w / 2 == 3)) = false := h.symm
          rw [h0]
          rfl
      subst ed
      have hout : OutC K w [q0, q1, q2, q3, q4, q5'] (outO (w / 2) bs lg) := by
        rw [ebs]
        exact out_ok w hw G0.1 G1.1 G2.1 G3.1 G4.1 j5 G0.2.1 G1.2.1 G2.2.1 G3.2.1 G4.2.1 o5 G0.2.2 G1.2.2 G2.2.2 G3.2.2 G4.2.2 g5 l5
      refine s_ifNo (tb_is (tb_test (e_neD (d1 := .str (wN (outO (w / 2) bs lg))) (d2 := .str (wN (outO (w / 2) bs lg))) (j_call (R := R__law_told K) (c := 0) (Φ := fun d => d = .str (wN (outO (w / 2) bs lg))) (ae_cons (e_var rfl) (ae_cons (e_var rfl) ae_nil)) fun sls e => ⟨rfl, w, _, outO (w / 2) bs lg, hout, e, rfl⟩) (e_var rfl) (wN_shaped _) (wN_shaped _))) (by rw [wN_self])) a49 fun Hk50 H50 g50 a50 => ?_
      exact ⟨Hk50, f', by omega, ((((((((((((((a50.mono (by omega)).forget 3).forget 4).forget 5).forget 6).forget 7).forget 8).forget 9).forget 10).forget 11).forget 12).forget 13).forget 15).forget 16).forget 17⟩
    · rintro σ' Hk' H' ⟨e, he, st⟩
      exact ⟨Hk', h2.trans (g11.k.trans (sm12.trans (g20.k.trans st.gr.k))), ((st.forget 1).forget 2).reset⟩
  · rintro σ' Hk' H' ⟨h2, st⟩
    refine s_retE (d := .bool true) (n := 0) (Φ1 := fun d => d = .bool true) e_bl st (Nat.le_refl _) (fun d v Hk2 H2 g o ed dv => ?_) rfl
    subst ed
    have ev := dv.blOf
    subst ev
    exact kk H2
end
/-! ### what the top has left, told -/
theorem facts2 {l : PySem.W.OpenLaw} {w : World} {K : PySem.W.Frag} {h : Heap} {mg : Str → Option Value} {fa : Addr} (X : K.In h) (G : h.Ns mainGlobals mg) (hfa : mg "law" = some (.ref fa)) (c : He.SaysB faL fnL exL K) :
    ∃ fd : FuncData, (∀ (s : Shared) (v : Value), BindsTo s fd ⟨[v], []⟩ [("script", v)]) ∧ ∀ base : Heap, K.In base → base.Ns mainGlobals mg → FnOk l.prog w K mg base CX0 9 fa fd P_law (spLaw K) := by
  obtain ⟨fd0, F0⟩ : ∃ fd, FunD K "_law_jar" "_law_jar" (defArgs s__law_jar) (defBody s__law_jar) (defScope s__law_jar) [] [] (He.ga K "_law_jar") fd := c.d.def_ 0 (d := ⟨("_law_jar", none), "_law_jar", "_law_jar", defArgs s__law_jar, defBody s__law_jar, defScope s__law_jar, [], []⟩) rfl
  obtain ⟨fd1, F1⟩ : ∃ fd, FunD K "_law_sums" "_law_sums" (defArgs s__law_sums) (defBody s__law_sums) (defScope s__law_sums) [] [] (He.ga K "_law_sums") fd := c.d.def_ 1 (d := ⟨("_law_sums", none), "_law_sums", "_law_sums", defArgs s__law_sums, defBody s__law_sums, defScope s__law_sums, [], []⟩) rfl
  obtain ⟨fd2, F2⟩ : ∃ fd, FunD K "_law_along" "_law_along" (defArgs s__law_along) (defBody s__law_along) (defScope s__law_along) [] [] (He.ga K "_law_along") fd := c.d.def_ 2 (d := ⟨("_law_along", none), "_law_along", "_law_along", defArgs s__law_along, defBody s__law_along, defScope s__law_along, [], []⟩) rfl
  obtain ⟨fd3, F3⟩ : ∃ fd, FunD K "_law_gather" "_law_gather" (defArgs s__law_gather) (defBody s__law_gather) (defScope s__law_gather) [] [] (He.ga K "_law_gather") fd := c.d.def_ 3 (d := ⟨("_law_gather", none), "_law_gather", "_law_gather", defArgs s__law_gather, defBody s__law_gather, defScope s__law_gather, [], []⟩) rfl
  obtain ⟨fd4, F4⟩ : ∃ fd, FunD K "_law_pick" "_law_pick" (defArgs s__law_pick) (defBody s__law_pick) (defScope s__law_pick) [] [] (He.ga K "_law_pick") fd := c.d.def_ 4 (d := ⟨("_law_pick", none), "_law_pick", "_law_pick", defArgs s__law_pick, defBody s__law_pick, defScope s__law_pick, [], []⟩) rfl
  obtain ⟨fd5, F5⟩ : ∃ fd, FunD K "_law_amount" "_law_amount" (defArgs s__law_amount) (defBody s__law_amount) (defScope s__law_amount) [] [] (He.ga K "_law_amount") fd := c.d.def_ 5 (d := ⟨("_law_amount", none), "_law_amount", "_law_amount", defArgs s__law_amount, defBody s__law_amount, defScope s__law_amount, [], []⟩) rfl
  obtain ⟨fd6, F6⟩ : ∃ fd, FunD K "_law_book" "_law_book" (defArgs s__law_book) (defBody s__law_book) (defScope s__law_book) [] [] (He.ga K "_law_book") fd := c.d.def_ 6 (d := ⟨("_law_book", none), "_law_book", "_law_book", defArgs s__law_book, defBody s__law_book, defScope s__law_book, [], []⟩) rfl
  obtain ⟨fd7, F7⟩ : ∃ fd, FunD K "_law_log" "_law_log" (defArgs s__law_log) (defBody s__law_log) (defScope s__law_log) [] [] (He.ga K "_law_log") fd := c.d.def_ 7 (d := ⟨("_law_log", none), "_law_log", "_law_log", defArgs s__law_log, defBody s__law_log, defScope s__law_log, [], []⟩) rfl
  obtain ⟨fd8, F8⟩ : ∃ fd, FunD K "is_an_integer" "is_an_integer" (defArgs s_is_an_integer) (defBody s_is_an_integer) (defScope s_is_an_integer) [] [] (He.ga K "is_an_integer") fd := c.d.def_ 8 (d := ⟨("is_an_integer", none), "is_an_integer", "is_an_integer", defArgs s_is_an_integer, defBody s_is_an_integer, defScope s_is_an_integer, [], []⟩) rfl
  obtain ⟨fd9, F9⟩ : ∃ fd, FunD K "is_change" "is_change" (defArgs s_is_change) (defBody s_is_change) (defScope s_is_change) [] [] (He.ga K "is_change") fd := c.d.def_ 9 (d := ⟨("is_change", none), "is_change", "is_change", defArgs s_is_change, defBody s_is_change, defScope s_is_change, [], []⟩) rfl
  obtain ⟨fd10, F10⟩ : ∃ fd, FunD K "is_ledger" "is_ledger" (defArgs s_is_ledger) (defBody s_is_ledger) (defScope s_is_ledger) [] [] (He.ga K "is_ledger") fd := c.d.def_ 10 (d := ⟨("is_ledger", none), "is_ledger", "is_ledger", defArgs s_is_ledger, defBody s_is_ledger, defScope s_is_ledger, [], []⟩) rfl
  obtain ⟨fd11, F11⟩ : ∃ fd, FunD K "check_ledger" "check_ledger" (defArgs s_check_ledger) (defBody s_check_ledger) (defScope s_check_ledger) [] [] (He.ga K "check_ledger") fd := c.d.def_ 11 (d := ⟨("check_ledger", none), "check_ledger", "check_ledger", defArgs s_check_ledger, defBody s_check_ledger, defScope s_check_ledger, [], []⟩) rfl
  obtain ⟨fd12, F12⟩ : ∃ fd, FunD K "__init__" "Ledger.__init__" (defArgs s_Ledger__init__) (defBody s_Ledger__init__) (defScope s_Ledger__init__) [.ref (He.dflAt ("Ledger", some "__init__") 0 K)] [] (He.ma K (He.ga K "Ledger") "__init__") fd := c.d.def_ 12 (d := ⟨("Ledger", some "__init__"), "__init__", "Ledger.__init__", defArgs s_Ledger__init__, defBody s_Ledger__init__, defScope s_Ledger__init__, [.adr (He.dflAt ("Ledger", some "__init__") 0)], []⟩) rfl
  obtain ⟨fd13, F13⟩ : ∃ fd, FunD K "_law_no_book" "_law_no_book" (defArgs s__law_no_book) (defBody s__law_no_book) (defScope s__law_no_book) [] [] (He.ga K "_law_no_book") fd := c.d.def_ 13 (d := ⟨("_law_no_book", none), "_law_no_book", "_law_no_book", defArgs s__law_no_book, defBody s__law_no_book, defScope s__law_no_book, [], []⟩) rfl
  obtain ⟨fd14, F14⟩ : ∃ fd, FunD K "_law_no_log" "_law_no_log" (defArgs s__law_no_log) (defBody s__law_no_log) (defScope s__law_no_log) [] [] (He.ga K "_law_no_log") fd := c.d.def_ 14 (d := ⟨("_law_no_log", none), "_law_no_log", "_law_no_log", defArgs s__law_no_log, defBody s__law_no_log, defScope s__law_no_log, [], []⟩) rfl
  obtain ⟨fd15, F15⟩ : ∃ fd, FunD K "check_changes" "check_changes" (defArgs s_check_changes) (defBody s_check_changes) (defScope s_check_changes) [] [] (He.ga K "check_changes") fd := c.d.def_ 15 (d := ⟨("check_changes", none), "check_changes", "check_changes", defArgs s_check_changes, defBody s_check_changes, defScope s_check_changes, [], []⟩) rfl
  obtain ⟨fd16, F16⟩ : ∃ fd, FunD K "summed" "summed" (defArgs s_summed) (defBody s_summed) (defScope s_summed) [] [] (He.ga K "summed") fd := c.d.def_ 16 (d := ⟨("summed", none), "summed", "summed", defArgs s_summed, defBody s_summed, defScope s_summed, [], []⟩) rfl
  obtain ⟨fd17, F17⟩ : ∃ fd, FunD K "ledger_after" "ledger_after" (defArgs s_ledger_after) (defBody s_ledger_after) (defScope s_ledger_after) [] [] (He.ga K "ledger_after") fd := c.d.def_ 17 (d := ⟨("ledger_after", none), "ledger_after", "ledger_after", defArgs s_ledger_after, defBody s_ledger_after, defScope s_ledger_after, [], []⟩) rfl
  obtain ⟨fd18, F18⟩ : ∃ fd, FunD K "less" "less" (defArgs s_less) (defBody s_less) (defScope s_less) [] [] (He.ga K "less") fd := c.d.def_ 18 (d := ⟨("less", none), "less", "less", defArgs s_less, defBody s_less, defScope s_less, [], []⟩) rfl
  obtain ⟨fd19, F19⟩ : ∃ fd, FunD K "short_log" "short_log" (defArgs s_short_log) (defBody s_short_log) (defScope s_short_log) [] [] (He.ga K "short_log") fd := c.d.def_ 19 (d := ⟨("short_log", none), "short_log", "short_log", defArgs s_short_log, defBody s_short_log, defScope s_short_log, [], []⟩) rfl
  obtain ⟨fd20, F20⟩ : ∃ fd, FunD K "is_from" "is_from" (defArgs s_is_from) (defBody s_is_from) (defScope s_is_from) [] [] (He.ga K "is_from") fd := c.d.def_ 20 (d := ⟨("is_from", none), "is_from", "is_from", defArgs s_is_from, defBody s_is_from, defScope s_is_from, [], []⟩) rfl
  obtain ⟨fd21, F21⟩ : ∃ fd, FunD K "check_number" "check_number" (defArgs s_check_number) (defBody s_check_number) (defScope s_check_number) [] [] (He.ga K "check_number") fd := c.d.def_ 21 (d := ⟨("check_number", none), "check_number", "check_number", defArgs s_check_number, defBody s_check_number, defScope s_check_number, [], []⟩) rfl
  obtain ⟨fd22, F22⟩ : ∃ fd, FunD K "first_sums" "first_sums" (defArgs s_first_sums) (defBody s_first_sums) (defScope s_first_sums) [] [] (He.ga K "first_sums") fd := c.d.def_ 22 (d := ⟨("first_sums", none), "first_sums", "first_sums", defArgs s_first_sums, defBody s_first_sums, defScope s_first_sums, [], []⟩) rfl
  obtain ⟨fd23, F23⟩ : ∃ fd, FunD K "sums_behind" "sums_behind" (defArgs s_sums_behind) (defBody s_sums_behind) (defScope s_sums_behind) [] [] (He.ga K "sums_behind") fd := c.d.def_ 23 (d := ⟨("sums_behind", none), "sums_behind", "sums_behind", defArgs s_sums_behind, defBody s_sums_behind, defScope s_sums_behind, [], []⟩) rfl
  obtain ⟨fd24, F24⟩ : ∃ fd, FunD K "sums_along" "sums_along" (defArgs s_sums_along) (defBody s_sums_along) (defScope s_sums_along) [] [] (He.ga K "sums_along") fd := c.d.def_ 24 (d := ⟨("sums_along", none), "sums_along", "sums_along", defArgs s_sums_along, defBody s_sums_along, defScope s_sums_along, [], []⟩) rfl
  obtain ⟨fd25, F25⟩ : ∃ fd, FunD K "is_sums" "is_sums" (defArgs s_is_sums) (defBody s_is_sums) (defScope s_is_sums) [] [] (He.ga K "is_sums") fd := c.d.def_ 25 (d := ⟨("is_sums", none), "is_sums", "is_sums", defArgs s_is_sums, defBody s_is_sums, defScope s_is_sums, [], []⟩) rfl
  obtain ⟨fd26, F26⟩ : ∃ fd, FunD K "check_rows" "check_rows" (defArgs s_check_rows) (defBody s_check_rows) (defScope s_check_rows) [] [] (He.ga K "check_rows") fd := c.d.def_ 26 (d := ⟨("check_rows", none), "check_rows", "check_rows", defArgs s_check_rows, defBody s_check_rows, defScope s_check_rows, [], []⟩) rfl
  obtain ⟨fd27, F27⟩ : ∃ fd, FunD K "log_fault" "log_fault" (defArgs s_log_fault) (defBody s_log_fault) (defScope s_log_fault) [] [] (He.ga K "log_fault") fd := c.d.def_ 27 (d := ⟨("log_fault", none), "log_fault", "log_fault", defArgs s_log_fault, defBody s_log_fault, defScope s_log_fault, [], []⟩) rfl
  obtain ⟨fd28, F28⟩ : ∃ fd, FunD K "common_log" "common_log" (defArgs s_common_log) (defBody s_common_log) (defScope s_common_log) [] [] (He.ga K "common_log") fd := c.d.def_ 28 (d := ⟨("common_log", none), "common_log", "common_log", defArgs s_common_log, defBody s_common_log, defScope s_common_log, [], []⟩) rfl
  obtain ⟨fd29, F29⟩ : ∃ fd, FunD K "shortest_undo" "shortest_undo" (defArgs s_shortest_undo) (defBody s_shortest_undo) (defScope s_shortest_undo) [] [] (He.ga K "shortest_undo") fd := c.d.def_ 29 (d := ⟨("shortest_undo", none), "shortest_undo", "shortest_undo", defArgs s_shortest_undo, defBody s_shortest_undo, defScope s_shortest_undo, [], []⟩) rfl
  obtain ⟨fd30, F30⟩ : ∃ fd, FunD K "changed_in" "changed_in" (defArgs s_changed_in) (defBody s_changed_in) (defScope s_changed_in) [] [] (He.ga K "changed_in") fd := c.d.def_ 30 (d := ⟨("changed_in", none), "changed_in", "changed_in", defArgs s_changed_in, defBody s_changed_in, defScope s_changed_in, [], []⟩) rfl
  obtain ⟨fd31, F31⟩ : ∃ fd, FunD K "first_return" "first_return" (defArgs s_first_return) (defBody s_first_return) (defScope s_first_return) [] [] (He.ga K "first_return") fd := c.d.def_ 31 (d := ⟨("first_return", none), "first_return", "first_return", defArgs s_first_return, defBody s_first_return, defScope s_first_return, [], []⟩) rfl
  obtain ⟨fd32, F32⟩ : ∃ fd, FunD K "_law_call" "_law_call" (defArgs s__law_call) (defBody s__law_call) (defScope s__law_call) [] [] (He.ga K "_law_call") fd := c.d.def_ 32 (d := ⟨("_law_call", none), "_law_call", "_law_call", defArgs s__law_call, defBody s__law_call, defScope s__law_call, [], []⟩) rfl
  obtain ⟨fd33, F33⟩ : ∃ fd, FunD K "_law_told" "_law_told" (defArgs s__law_told) (defBody s__law_told) (defScope s__law_told) [] [] (He.ga K "_law_told") fd := c.d.def_ 33 (d := ⟨("_law_told", none), "_law_told", "_law_told", defArgs s__law_told, defBody s__law_told, defScope s__law_told, [], []⟩) rfl
  obtain ⟨fd34, F34⟩ : ∃ fd, FunD K "_law_no_whole" "_law_no_whole" (defArgs s__law_no_whole) (defBody s__law_no_whole) (defScope s__law_no_whole) [] [] (He.ga K "_law_no_whole") fd := c.d.def_ 34 (d := ⟨("_law_no_whole", none), "_law_no_whole", "_law_no_whole", defArgs s__law_no_whole, defBody s__law_no_whole, defScope s__law_no_whole, [], []⟩) rfl
  obtain ⟨fd35, F35⟩ : ∃ fd, FunD K "_law_no_lines" "_law_no_lines" (defArgs s__law_no_lines) (defBody s__law_no_lines) (defScope s__law_no_lines) [] [] (He.ga K "_law_no_lines") fd := c.d.def_ 35 (d := ⟨("_law_no_lines", none), "_law_no_lines", "_law_no_lines", defArgs s__law_no_lines, defBody s__law_no_lines, defScope s__law_no_lines, [], []⟩) rfl
  obtain ⟨fd36, F36⟩ : ∃ fd, FunD K "law" "law" (defArgs s_law) (defBody s_law) (defScope s_law) [] [] (He.ga K "law") fd := c.d.def_ 36 (d := ⟨("law", none), "law", "law", defArgs s_law, defBody s_law, defScope s_law, [], []⟩) rfl
  have e := hfa.symm.trans (He.glo_ok X G (c.d.fact 39 (f := .glo "law") rfl))
  cases e
  have bl := FunD.bindsA (ps := ["script"]) F36 fun _ _ _ _ _ _ us hl => match us, hl with | [_], _ => rfl
  exact ⟨_, fun s v => bl s [v] rfl, fun base _ _ => ok_law (T := {
    a__law_jar := He.ga K "_law_jar", fd__law_jar := _, F__law_jar := fun_of F0, b__law_jar := (fun_of F0).binds (ps := P__law_jar) fun _ _ _ _ _ _ us hl => match us, hl with | [_, _], _ => rfl, m__law_jar := He.glo_ok X G (c.d.fact 0 (f := .glo "_law_jar") rfl),
    a__law_sums := He.ga K "_law_sums", fd__law_sums := _, F__law_sums := fun_of F1, b__law_sums := (fun_of F1).binds (ps := P__law_sums) fun _ _ _ _ _ _ us hl => match us, hl with | [_, _], _ => rfl, m__law_sums := He.glo_ok X G (c.d.fact 1 (f := .glo "_law_sums") rfl),
    a__law_along := He.ga K "_law_along", fd__law_along := _, F__law_along := fun_of F2, b__law_along := (fun_of F2).binds (ps := P__law_along) fun _ _ _ _ _ _ us hl => match us, hl with | [_, _, _], _ => rfl, m__law_along := He.glo_ok X G (c.d.fact 2 (f := .glo "_law_along") rfl),
    a__law_gather := He.ga K "_law_gather", fd__law_gather := _, F__law_gather := fun_of F3, b__law_gather := (fun_of F3).binds (ps := P__law_gather) fun _ _ _ _ _ _ us hl => match us, hl with | [_], _ => rfl, m__law_gather := He.glo_ok X G (c.d.fact 3 (f := .glo "_law_gather") rfl),
    a__law_pick := He.ga K "_law_pick", fd__law_pick := _, F__law_pick := fun_of F4, b__law_pick := (fun_of F4).binds (ps := P__law_pick) fun _ _ _ _ _ _ us hl => match us, hl with | [_, _], _ => rfl, m__law_pick := He.glo_ok X G (c.d.fact 4 (f := .glo "_law_pick") rfl),
    a__law_amount := He.ga K "_law_amount", fd__law_amount := _, F__law_amount := fun_of F5, b__law_amount := (fun_of F5).binds (ps := P__law_amount) fun _ _ _ _ _ _ us hl => match us, hl with | [_, _], _ => rfl, m__law_amount := He.glo_ok X G (c.d.fact 5 (f := .glo "_law_amount") rfl),
    a__law_book := He.ga K "_law_book", fd__law_book := _, F__law_book := fun_of F6, b__law_book := (fun_of F6).binds (ps := P__law_book) fun _ _ _ _ _ _ us hl => match us, hl with | [_, _, _, _], _ => rfl, m__law_book := He.glo_ok X G (c.d.fact 6 (f := .glo "_law_book") rfl),
    a__law_log := He.ga K "_law_log", fd__law_log := _, F__law_log := fun_of F7, b__law_log := (fun_of F7).binds (ps := P__law_log) fun _ _ _ _ _ _ us hl => match us, hl with | [_, _, _], _ => rfl, m__law_log := He.glo_ok X G (c.d.fact 7 (f := .glo "_law_log") rfl),
    a_is_an_integer := He.ga K "is_an_integer", fd_is_an_integer := _, F_is_an_integer := fun_of F8, b_is_an_integer := (fun_of F8).binds (ps := P_is_an_integer) fun _ _ _ _ _ _ us hl => match us, hl with | [_], _ => rfl, m_is_an_integer := He.glo_ok X G (c.d.fact 8 (f := .glo "is_an_integer") rfl),
    a_is_change := He.ga K "is_change", fd_is_change := _, F_is_change := fun_of F9, b_is_change := (fun_of F9).binds (ps := P_is_change) fun _ _ _ _ _ _ us hl => match us, hl with | [_], _ => rfl, m_is_change := He.glo_ok X G (c.d.fact 9 (f := .glo "is_change") rfl),
    a_is_ledger := He.ga K "is_ledger", fd_is_ledger := _, F_is_ledger := fun_of F10, b_is_ledger := (fun_of F10).binds (ps := P_is_ledger) fun _ _ _ _ _ _ us hl => match us, hl with | [_], _ => rfl, m_is_ledger := He.glo_ok X G (c.d.fact 10 (f := .glo "is_ledger") rfl),
    a_check_ledger := He.ga K "check_ledger", fd_check_ledger := _, F_check_ledger := fun_of F11, b_check_ledger := (fun_of F11).binds (ps := P_check_ledger) fun _ _ _ _ _ _ us hl => match us, hl with | [_], _ => rfl, m_check_ledger := He.glo_ok X G (c.d.fact 11 (f := .glo "check_ledger") rfl),
    a_Ledger__init__ := _, fd_Ledger__init__ := _, F_Ledger__init__ := funV_of F12, b_Ledger__init__ := binds_of1 F12 fun _ _ _ _ _ _ _ us its hl hi => match us, hl, its, hi with | [_, _], _, [_], _ => ⟨_, rfl, rfl⟩,
    C_Ledger := He.ga K "Ledger", M_Ledger := He.mkr_ok (c.d.fact 13 (f := .mkr "Ledger") rfl), m_Ledger := He.glo_ok X G (c.d.fact 12 (f := .glo "Ledger") rfl), cl_Ledger := He.cls_ok (c.d.fact 14 (f := .cls "Ledger") rfl), n_Ledger := He.noat_ok (c.d.fact 15 (f := .noat "Ledger" "_pairs") rfl), I_Ledger := ⟨(He.eqO_ok (c.ex 0 rfl)), (He.eqO_ok (c.ex 4 rfl)), (of_decide_eq_true (c.ex 5 rfl)), (of_decide_eq_true (c.ex 1 rfl)), kit_no (of_decide_eq_true (c.ex 2 rfl)), kit_noI (of_decide_eq_true (c.ex 3 rfl))⟩,
    a__law_no_book := He.ga K "_law_no_book", fd__law_no_book := _, F__law_no_book := fun_of F13, b__law_no_book := (fun_of F13).binds (ps := P__law_no_book) fun _ _ _ _ _ _ us hl => match us, hl with | [_, _], _ => rfl, m__law_no_book := He.glo_ok X G (c.d.fact 16 (f := .glo "_law_no_book") rfl),
    a__law_no_log := He.ga K "_law_no_log", fd__law_no_log := _, F__law_no_log := fun_of F14, b__law_no_log := (fun_of F14).binds (ps := P__law_no_log) fun _ _ _ _ _ _ us hl => match us, hl with | [_, _], _ => rfl, m__law_no_log := He.glo_ok X G (c.d.fact 17 (f := .glo "_law_no_log") rfl),
    a_check_changes := He.ga K "check_changes", fd_check_changes := _, F_check_changes := fun_of F15, b_check_changes := (fun_of F15).binds (ps := P_check_changes) fun _ _ _ _ _ _ us hl => match us, hl with | [_], _ => rfl, m_check_changes := He.glo_ok X G (c.d.fact 18 (f := .glo "check_changes") rfl),
    a_summed := He.ga K "summed", fd_summed := _, F_summed := fun_of F16, b_summed := (fun_of F16).binds (ps := P_summed) fun _ _ _ _ _ _ us hl => match us, hl with | [_], _ => rfl, m_summed := He.glo_ok X G (c.d.fact 19 (f := .glo "summed") rfl),
    a_ledger_after := He.ga K "ledger_after", fd_ledger_after := _, F_ledger_after := fun_of F17, b_ledger_after := (fun_of F17).binds (ps := P_ledger_after) fun _ _ _ _ _ _ us hl => match us, hl with | [_, _], _ => rfl, m_ledger_after := He.glo_ok X G (c.d.fact 20 (f := .glo "ledger_after") rfl),
    a_less := He.ga K "less", fd_less := _, F_less := fun_of F18, b_less := (fun_of F18).binds (ps := P_less) fun _ _ _ _ _ _ us hl => match us, hl with | [_, _], _ => rfl, m_less := He.glo_ok X G (c.d.fact 21 (f := .glo "less") rfl),
    a_short_log := He.ga K "short_log", fd_short_log := _, F_short_log := fun_of F19, b_short_log := (fun_of F19).binds (ps := P_short_log) fun _ _ _ _ _ _ us hl => match us, hl with | [_, _], _ => rfl, m_short_log := He.glo_ok X G (c.d.fact 22 (f := .glo "short_log") rfl),
    a_is_from := He.ga K "is_from", fd_is_from := _, F_is_from := fun_of F20, b_is_from := (fun_of F20).binds (ps := P_is_from) fun _ _ _ _ _ _ us hl => match us, hl with | [_, _], _ => rfl, m_is_from := He.glo_ok X G (c.d.fact 23 (f := .glo "is_from") rfl),
    a_check_number := He.ga K "check_number", fd_check_number := _, F_check_number := fun_of F21, b_check_number := (fun_of F21).binds (ps := P_check_number) fun _ _ _ _ _ _ us hl => match us, hl with | [_, _], _ => rfl, m_check_number := He.glo_ok X G (c.d.fact 24 (f := .glo "check_number") rfl),
    a_first_sums := He.ga K "first_sums", fd_first_sums := _, F_first_sums := fun_of F22, b_first_sums := (fun_of F22).binds (ps := P_first_sums) fun _ _ _ _ _ _ us hl => match us, hl with | [_, _], _ => rfl, m_first_sums := He.glo_ok X G (c.d.fact 25 (f := .glo "first_sums") rfl),
    a_sums_behind := He.ga K "sums_behind", fd_sums_behind := _, F_sums_behind := fun_of F23, b_sums_behind := (fun_of F23).binds (ps := P_sums_behind) fun _ _ _ _ _ _ us hl => match us, hl with | [_, _], _ => rfl, m_sums_behind := He.glo_ok X G (c.d.fact 26 (f := .glo "sums_behind") rfl),
    a_sums_along := He.ga K "sums_along", fd_sums_along := _, F_sums_along := fun_of F24, b_sums_along := (fun_of F24).binds (ps := P_sums_along) fun _ _ _ _ _ _ us hl => match us, hl with | [_, _, _], _ => rfl, m_sums_along := He.glo_ok X G (c.d.fact 27 (f := .glo "sums_along") rfl),
    a_is_sums := He.ga K "is_sums", fd_is_sums := _, F_is_sums := fun_of F25, b_is_sums := (fun_of F25).binds (ps := P_is_sums) fun _ _ _ _ _ _ us hl => match us, hl with | [_], _ => rfl, m_is_sums := He.glo_ok X G (c.d.fact 28 (f := .glo "is_sums") rfl),
    a_check_rows := He.ga K "check_rows", fd_check_rows := _, F_check_rows := fun_of F26, b_check_rows := (fun_of F26).binds (ps := P_check_rows) fun _ _ _ _ _ _ us hl => match us, hl with | [_], _ => rfl, m_check_rows := He.glo_ok X G (c.d.fact 29 (f := .glo "check_rows") rfl),
    a_log_fault := He.ga K "log_fault", fd_log_fault := _, F_log_fault := fun_of F27, b_log_fault := (fun_of F27).binds (ps := P_log_fault) fun _ _ _ _ _ _ us hl => match us, hl with | [_, _, _], _ => rfl, m_log_fault := He.glo_ok X G (c.d.fact 30 (f := .glo "log_fault") rfl),
    a_common_log := He.ga K "common_log", fd_common_log := _, F_common_log := fun_of F28, b_common_log := (fun_of F28).binds (ps := P_common_log) fun _ _ _ _ _ _ us hl => match us, hl with | [_, _], _ => rfl, m_common_log := He.glo_ok X G (c.d.fact 31 (f := .glo "common_log") rfl),
    a_shortest_undo := He.ga K "shortest_undo", fd_shortest_undo := _, F_shortest_undo := fun_of F29, b_shortest_undo := (fun_of F29).binds (ps := P_shortest_undo) fun _ _ _ _ _ _ us hl => match us, hl with | [_], _ => rfl, m_shortest_undo := He.glo_ok X G (c.d.fact 32 (f := .glo "shortest_undo") rfl),
    a_changed_in := He.ga K "changed_in", fd_changed_in := _, F_changed_in := fun_of F30, b_changed_in := (fun_of F30).binds (ps := P_changed_in) fun _ _ _ _ _ _ us hl => match us, hl with | [_, _, _], _ => rfl, m_changed_in := He.glo_ok X G (c.d.fact 33 (f := .glo "changed_in") rfl),
    a_first_return := He.ga K "first_return", fd_first_return := _, F_first_return := fun_of F31, b_first_return := (fun_of F31).binds (ps := P_first_return) fun _ _ _ _ _ _ us hl => match us, hl with | [_], _ => rfl, m_first_return := He.glo_ok X G (c.d.fact 34 (f := .glo "first_return") rfl),
    a__law_call := He.ga K "_law_call", fd__law_call := _, F__law_call := fun_of F32, b__law_call := (fun_of F32).binds (ps := P__law_call) fun _ _ _ _ _ _ us hl => match us, hl with | [_, _], _ => rfl, m__law_call := He.glo_ok X G (c.d.fact 35 (f := .glo "_law_call") rfl),
    a__law_told := He.ga K "_law_told", fd__law_told := _, F__law_told := fun_of F33, b__law_told := (fun_of F33).binds (ps := P__law_told) fun _ _ _ _ _ _ us hl => match us, hl with | [_, _], _ => rfl, m__law_told := He.glo_ok X G (c.d.fact 36 (f := .glo "_law_told") rfl),
    a__law_no_whole := He.ga K "_law_no_whole", fd__law_no_whole := _, F__law_no_whole := fun_of F34, b__law_no_whole := (fun_of F34).binds (ps := P__law_no_whole) fun _ _ _ _ _ _ us hl => match us, hl with | [_, _], _ => rfl, m__law_no_whole := He.glo_ok X G (c.d.fact 37 (f := .glo "_law_no_whole") rfl),
    a__law_no_lines := He.ga K "_law_no_lines", fd__law_no_lines := _, F__law_no_lines := fun_of F35, b__law_no_lines := (fun_of F35).binds (ps := P__law_no_lines) fun _ _ _ _ _ _ us hl => match us, hl with | [_, _], _ => rfl, m__law_no_lines := He.glo_ok X G (c.d.fact 38 (f := .glo "_law_no_lines") rfl),
    a_law := He.ga K "law", fd_law := _, F_law := fun_of F36, b_law := (fun_of F36).binds (ps := P_law) fun _ _ _ _ _ _ us hl => match us, hl with | [_], _ => rfl, m_law := He.glo_ok X G (c.d.fact 39 (f := .glo "law") rfl),
    e_InvalidChanges := He.ga K "InvalidChanges", g_InvalidChanges := He.glo_ok X G (c.d.fact 40 (f := .glo "InvalidChanges") rfl), u_InvalidChanges := (He.exc_ok (c.d.fact 41 (f := .exc "InvalidChanges") rfl)).2.2.1, t_InvalidChanges := (He.exc_ok (c.d.fact 41 (f := .exc "InvalidChanges") rfl)).2.2.2, h_InvalidChanges := (c.ex 6 rfl),
    x_InvalidChanges := (He.exc_ok (c.d.fact 41 (f := .exc "InvalidChanges") rfl)).1, k_InvalidChanges := (He.exc_ok (c.d.fact 41 (f := .exc "InvalidChanges") rfl)).2.1, v_InvalidChanges := kit_yesV (of_decide_eq_true (c.ex 16 rfl)), E_InvalidChanges := ⟨(He.eqO_ok (c.ex 12 rfl)), (He.eqO_ok (c.ex 13 rfl)), (He.exc_ok (c.d.fact 41 (f := .exc "InvalidChanges") rfl)).2.2.1, (c.ex 6 rfl), (He.eqO_ok (c.ex 14 rfl)), (He.eqO_ok (c.ex 4 rfl)), (of_decide_eq_true (c.ex 5 rfl)), (of_decide_eq_true (c.ex 15 rfl))⟩,
    e_InvalidLedger := He.ga K "InvalidLedger", g_InvalidLedger := He.glo_ok X G (c.d.fact 42 (f := .glo "InvalidLedger") rfl), u_InvalidLedger := (He.exc_ok (c.d.fact 43 (f := .exc "InvalidLedger") rfl)).2.2.1, t_InvalidLedger := (He.exc_ok (c.d.fact 43 (f := .exc "InvalidLedger") rfl)).2.2.2, h_InvalidLedger := (c.ex 7 rfl),
    x_InvalidLedger := (He.exc_ok (c.d.fact 43 (f := .exc "InvalidLedger") rfl)).1, k_InvalidLedger := (He.exc_ok (c.d.fact 43 (f := .exc "InvalidLedger") rfl)).2.1, v_InvalidLedger := kit_yesV (of_decide_eq_true (c.ex 21 rfl)), E_InvalidLedger := ⟨(He.eqO_ok (c.ex 17 rfl)), (He.eqO_ok (c.ex 18 rfl)), (He.exc_ok (c.d.fact 43 (f := .exc "InvalidLedger") rfl)).2.2.1, (c.ex 7 rfl), (He.eqO_ok (c.ex 19 rfl)), (He.eqO_ok (c.ex 4 rfl)), (of_decide_eq_true (c.ex 5 rfl)), (of_decide_eq_true (c.ex 20 rfl))⟩,
    e_InvalidNumber := He.ga K "InvalidNumber", g_InvalidNumber := He.glo_ok X G (c.d.fact 44 (f := .glo "InvalidNumber") rfl), u_InvalidNumber := (He.exc_ok (c.d.fact 45 (f := .exc "InvalidNumber") rfl)).2.2.1, t_InvalidNumber := (He.exc_ok (c.d.fact 45 (f := .exc "InvalidNumber") rfl)).2.2.2, h_InvalidNumber := (c.ex 8 rfl),
    x_InvalidNumber := (He.exc_ok (c.d.fact 45 (f := .exc "InvalidNumber") rfl)).1, k_InvalidNumber := (He.exc_ok (c.d.fact 45 (f := .exc "InvalidNumber") rfl)).2.1, v_InvalidNumber := kit_yesV (of_decide_eq_true (c.ex 26 rfl)), E_InvalidNumber := ⟨(He.eqO_ok (c.ex 22 rfl)), (He.eqO_ok (c.ex 23 rfl)), (He.exc_ok (c.d.fact 45 (f := .exc "InvalidNumber") rfl)).2.2.1, (c.ex 8 rfl), (He.eqO_ok (c.ex 24 rfl)), (He.eqO_ok (c.ex 4 rfl)), (of_decide_eq_true (c.ex 5 rfl)), (of_decide_eq_true (c.ex 25 rfl))⟩,
    e_InvalidRows := He.ga K "InvalidRows", g_InvalidRows := He.glo_ok X G (c.d.fact 46 (f := .glo "InvalidRows") rfl), u_InvalidRows := (He.exc_ok (c.d.fact 47 (f := .exc "InvalidRows") rfl)).2.2.1, t_InvalidRows := (He.exc_ok (c.d.fact 47 (f := .exc "InvalidRows") rfl)).2.2.2, h_InvalidRows := (c.ex 9 rfl),
    x_InvalidRows := (He.exc_ok (c.d.fact 47 (f := .exc "InvalidRows") rfl)).1, k_InvalidRows := (He.exc_ok (c.d.fact 47 (f := .exc "InvalidRows") rfl)).2.1, v_InvalidRows := kit_yesV (of_decide_eq_true (c.ex 31 rfl)), E_InvalidRows := ⟨(He.eqO_ok (c.ex 27 rfl)), (He.eqO_ok (c.ex 28 rfl)), (He.exc_ok (c.d.fact 47 (f := .exc "InvalidRows") rfl)).2.2.1, (c.ex 9 rfl), (He.eqO_ok (c.ex 29 rfl)), (He.eqO_ok (c.ex 4 rfl)), (of_decide_eq_true (c.ex 5 rfl)), (of_decide_eq_true (c.ex 30 rfl))⟩,
    e_OtherLength := He.ga K "OtherLength", g_OtherLength := He.glo_ok X G (c.d.fact 48 (f := .glo "OtherLength") rfl), u_OtherLength := (He.exc_ok (c.d.fact 49 (f := .exc "OtherLength") rfl)).2.2.1, t_OtherLength := (He.exc_ok (c.d.fact 49 (f := .exc "OtherLength") rfl)).2.2.2, h_OtherLength := (c.ex 10 rfl),
    x_OtherLength := (He.exc_ok (c.d.fact 49 (f := .exc "OtherLength") rfl)).1, k_OtherLength := (He.exc_ok (c.d.fact 49 (f := .exc "OtherLength") rfl)).2.1, v_OtherLength := kit_yesV (of_decide_eq_true (c.ex 36 rfl)), E_OtherLength := ⟨(He.eqO_ok (c.ex 32 rfl)), (He.eqO_ok (c.ex 33 rfl)), (He.exc_ok (c.d.fact 49 (f := .exc "OtherLength") rfl)).2.2.1, (c.ex 10 rfl), (He.eqO_ok (c.ex 34 rfl)), (He.eqO_ok (c.ex 4 rfl)), (of_decide_eq_true (c.ex 5 rfl)), (of_decide_eq_true (c.ex 35 rfl))⟩,
    e_SumsError := He.ga K "SumsError", g_SumsError := He.glo_ok X G (c.d.fact 50 (f := .glo "SumsError") rfl), u_SumsError := (He.exc_ok (c.d.fact 51 (f := .exc "SumsError") rfl)).2.2.1, t_SumsError := (He.exc_ok (c.d.fact 51 (f := .exc "SumsError") rfl)).2.2.2, h_SumsError := (c.ex 11 rfl),
    s_InvalidChanges_InvalidChanges := (of_decide_eq_true (c.ex 37 rfl)),
    s_InvalidChanges_InvalidLedger := (of_decide_eq_true (c.ex 38 rfl)),
    s_InvalidChanges_InvalidNumber := (of_decide_eq_true (c.ex 39 rfl)),
    s_InvalidChanges_InvalidRows := (of_decide_eq_true (c.ex 40 rfl)),
    s_InvalidChanges_OtherLength := (of_decide_eq_true (c.ex 41 rfl)),
    s_InvalidChanges_SumsError := (of_decide_eq_true (c.ex 42 rfl)),
    s_InvalidLedger_InvalidChanges := (of_decide_eq_true (c.ex 43 rfl)),
    s_InvalidLedger_InvalidLedger := (of_decide_eq_true (c.ex 44 rfl)),
    s_InvalidLedger_InvalidNumber := (of_decide_eq_true (c.ex 45 rfl)),
    s_InvalidLedger_InvalidRows := (of_decide_eq_true (c.ex 46 rfl)),
    s_InvalidLedger_OtherLength := (of_decide_eq_true (c.ex 47 rfl)),
    s_InvalidLedger_SumsError := (of_decide_eq_true (c.ex 48 rfl)),
    s_InvalidNumber_InvalidChanges := (of_decide_eq_true (c.ex 49 rfl)),
    s_InvalidNumber_InvalidLedger := (of_decide_eq_true (c.ex 50 rfl)),
    s_InvalidNumber_InvalidNumber := (of_decide_eq_true (c.ex 51 rfl)),
    s_InvalidNumber_InvalidRows := (of_decide_eq_true (c.ex 52 rfl)),
    s_InvalidNumber_OtherLength := (of_decide_eq_true (c.ex 53 rfl)),
    s_InvalidNumber_SumsError := (of_decide_eq_true (c.ex 54 rfl)),
    s_InvalidRows_InvalidChanges := (of_decide_eq_true (c.ex 55 rfl)),
    s_InvalidRows_InvalidLedger := (of_decide_eq_true (c.ex 56 rfl)),
    s_InvalidRows_InvalidNumber := (of_decide_eq_true (c.ex 57 rfl)),
    s_InvalidRows_InvalidRows := (of_decide_eq_true (c.ex 58 rfl)),
    s_InvalidRows_OtherLength := (of_decide_eq_true (c.ex 59 rfl)),
    s_InvalidRows_SumsError := (of_decide_eq_true (c.ex 60 rfl)),
    s_OtherLength_InvalidChanges := (of_decide_eq_true (c.ex 61 rfl)),
    s_OtherLength_InvalidLedger := (of_decide_eq_true (c.ex 62 rfl)),
    s_OtherLength_InvalidNumber := (of_decide_eq_true (c.ex 63 rfl)),
    s_OtherLength_InvalidRows := (of_decide_eq_true (c.ex 64 rfl)),
    s_OtherLength_OtherLength := (of_decide_eq_true (c.ex 65 rfl)),
    s_OtherLength_SumsError := (of_decide_eq_true (c.ex 66 rfl)),
    z_ValueError := He.free_ok X G (c.d.fact 52 (f := .free "ValueError") rfl),
    z_abs := He.free_ok X G (c.d.fact 53 (f := .free "abs") rfl),
    z_all := He.free_ok X G (c.d.fact 54 (f := .free "all") rfl),
    z_any := He.free_ok X G (c.d.fact 55 (f := .free "any") rfl),
    z_bool := He.free_ok X G (c.d.fact 56 (f := .free "bool") rfl),
    z_enumerate := He.free_ok X G (c.d.fact 57 (f := .free "enumerate") rfl),
    z_int := He.free_ok X G (c.d.fact 58 (f := .free "int") rfl),
    z_isinstance := He.free_ok X G (c.d.fact 59 (f := .free "isinstance") rfl),
    z_len := He.free_ok X G (c.d.fact 60 (f := .free "len") rfl),
    z_list := He.free_ok X G (c.d.fact 61 (f := .free "list") rfl),
    z_max := He.free_ok X G (c.d.fact 62 (f := .free "max") rfl),
    z_min := He.free_ok X G (c.d.fact 63 (f := .free "min") rfl),
    z_range := He.free_ok X G (c.d.fact 64 (f := .free "range") rfl),
    z_sorted := He.free_ok X G (c.d.fact 65 (f := .free "sorted") rfl),
    z_sum := He.free_ok X G (c.d.fact 66 (f := .free "sum") rfl),
    z_tuple := He.free_ok X G (c.d.fact 67 (f := .free "tuple") rfl),
    z_zip := He.free_ok X G (c.d.fact 68 (f := .free "zip") rfl) })⟩
end Lw
open PySem PySem.W PySem.Calls PyProof.Rows
set_option maxHeartbeats 0 in
theorem PySem.Challenge.cw_changesums_k59_errors_of_logs_holds : PySem.Challenge.rw_changesums_k59_errors_of_logs.Holds := by
  w_on; o_law
  refine HandSHeadRun.head_any (r := PySem.W.OpenLaw.row PySem.Challenge.rw_changesums_k59_errors_of_logs) (q := view (PySem.W.OpenLaw.row PySem.Challenge.rw_changesums_k59_errors_of_logs).prog [70]) (H := Lw.hkB) (ob := Lw.obB) (M := 20000) (loose := Lw.nmL) (d := HandSHeadRun.topDef (PySem.W.OpenLaw.row PySem.Challenge.rw_changesums_k59_errors_of_logs).prog 70) (kwd := []) Lw.obB_eq
    (by kernel_rfl) (fun s => by kernel_rfl) Lw.runB (by kernel_rfl) (by kernel_rfl) (by kernel_rfl) (by rfl) (by first | assumption | decide +kernel) (by decide +kernel) ⟨rfl, rfl, rfl, rfl, rfl, by decide +kernel⟩ ?hw ?hc
  case hw => w_witness2
  case hc =>
    refine L2.walk_ofE (l := PySem.Challenge.rw_changesums_k59_errors_of_logs) (n := 63) (k := 9) (x := "script") (CX := L2.CX0) rfl (by decide) (by kernel_rfl) ⟨rfl, by decide, by decide⟩ ?F (fun _ _ _ _ z => z)
    intro w mg fa h Y G hmg0
    obtain ⟨K, KX, c⟩ := Y
    have hmg : mg ("law" : PySem.Str) = some (.ref fa) := by
      have e : (HandSHeadRun.topDef (PySem.W.OpenLaw.row PySem.Challenge.rw_changesums_k59_errors_of_logs).prog 70).name = ("law" : PySem.Str) := by kernel_rfl
      rw [← e]
      exact hmg0
    obtain ⟨fd, hb, hF⟩ := Lw.facts2 (l := PySem.Challenge.rw_changesums_k59_errors_of_logs) (w := w) KX G hmg c
    exact ⟨K, fd, Cr.spLaw K, KX, hb, fun H a ns hl _ hS => ⟨a, ns, rfl, hS, hl, fun _ => rfl⟩, hF⟩