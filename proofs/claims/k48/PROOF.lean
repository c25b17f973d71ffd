import PyProof.Rows.All
import PyProof.ReprReads
import HandS.ForMost
import HandS.IsInst
import HandS.Wide
import HandS.Zip
import HandS.SortInts
import HandS.More
import HandS.TupAny
import HandS.Defaults
import HandS.Star
import HandS.Conv
import PyProof.Rows.RuleB_pow
import HandS.Steps
import PyProof.ReprLen
import PyProof.Rows.ReprR
import HandS.Ends
import KE.GoesEnum
import HandS.Iter
import HandS.Style
import KE.KMathGC
import HandS.Gcd
import HandS.SetFor
import HandS.Strs
import HandS.TupMul
import HandS.WordsDict
import KE.KDictPairs
import HandS.ListItems
import HandS.Small
import KE.DataMinMax
import KE.SortData
import PyProof.Rows.RowBridgeK
import HandS.ExcOwn
import HandS.WordsExc
import HandS.TryOnly
import HandS.TryMany
import HandS.ExcIs
import KE.KStateDown
import HandS.Head0
import HandS.Head1
import HandS.Head2
import HandS.Head3
import HandS.HeadEnd
import HandS.HeadHook1
import HandS.HeadHook2
import PySem.Challenge.RW_changesums_k48_errors_modulo_a_prime
set_option Elab.async false
set_option linter.all false
set_option maxRecDepth 100000
set_option maxHeartbeats 800000
namespace He
open PySem PySem.Spec PyProof.Rows L2
abbrev AlB : Type := AlD × Bool
def obsB (as : List Addr) (fa : List Fa) (fn : List DefD) (ex : PySem.W.Frag → List Bool) (g : Addr → Option Obj) : AlB := (obsD fa fn (frG g as), (ex (frG g as)).all id)
structure SaysB (fa : List Fa) (fn : List DefD) (ex : PySem.W.Frag → List Bool) (K : PySem.W.Frag) : Prop where
  d : SaysD fa fn K
  more : (ex K).all id = true
def hookB (as : List Addr) (fa : List Fa) (fn : List DefD) (ex : PySem.W.Frag → List Bool) : PySem.W.Hook where
  α := AlB
  obs := fun s => obsB as fa fn ex s.heap.get?
  val := fun _ => (valD fn, true)
  says := fun _ h => ∃ K : PySem.W.Frag, K.In h ∧ SaysB fa fn ex K
  of := fun _ _ e => ⟨_, frG_in, ⟨congrArg (fun z : AlB => z.1) e, congrArg (fun z : AlB => z.2) e⟩⟩
  keeps := fun _ _ _ ⟨K, hK, c⟩ k => ⟨K, PySem.W.Frag.In.keeps hK k, c⟩
theorem obsB_eq {as : List Addr} {fa : List Fa} {fn : List DefD} {ex : PySem.W.Frag → List Bool} {g : Addr → Option Obj} {s : Shared} (h : ∀ a, g a = s.heap.get? a) : obsB as fa fn ex g = (hookB as fa fn ex).obs s := by
  have e : g = s.heap.get? := funext h
  rw [e] <;> rfl
theorem SaysB.ex {fa : List Fa} {fn : List DefD} {ex : PySem.W.Frag → List Bool} {K : PySem.W.Frag} (c : SaysB fa fn ex K) (i : Nat) {b : Bool} (h : (ex K)[i]? = some b := by rfl) : b = true :=
  List.all_eq_true.mp c.more b (List.mem_of_getElem? h)
end He
namespace Lw
open PySem PySem.Spec PyProof.Rows L2
def topS (i : Nat) : Stmt := PySem.Challenge.pw_changesums_k48_errors_modulo_a_prime.main.body.getD i (.Pass ⟨0, 0, 0, 0⟩)
abbrev s__law_primes : Stmt := topS 83
abbrev s__law_jar : Stmt := topS 84
abbrev s__law_gather : Stmt := topS 86
abbrev s__law_pick : Stmt := topS 82
abbrev s__law_amount : Stmt := topS 85
abbrev s__law_book : Stmt := topS 87
abbrev s_is_an_integer : Stmt := topS 18
abbrev s_is_change : Stmt := topS 25
abbrev s_is_ledger : Stmt := topS 26
abbrev s_check_ledger : Stmt := topS 27
abbrev s_is_from : Stmt := topS 19
abbrev s_is_prime : Stmt := topS 49
abbrev s_check_prime : Stmt := topS 50
abbrev s_summed : Stmt := topS 28
abbrev s_remaining : Stmt := topS 52
abbrev s_reduced : Stmt := topS 53
abbrev s_sums_modulo : Stmt := topS 54
abbrev s_check_residues : Stmt := topS 51
abbrev s_in_row : Stmt := topS 45
abbrev s_rule_modulo : Stmt := topS 46
abbrev s_inverse_modulo : Stmt := topS 47
abbrev s_value_of : Stmt := topS 42
abbrev s_amount_modulo : Stmt := topS 55
abbrev s_divided : Stmt := topS 43
abbrev s_told_modulo : Stmt := topS 56
abbrev s_rule_length_modulo : Stmt := topS 57
abbrev s_all_told : Stmt := topS 58
abbrev s__law_call : Stmt := topS 89
abbrev s__law_told : Stmt := topS 90
abbrev s__law_small_right : Stmt := topS 93
abbrev s_Ledger__init__ : Stmt := inClass (topS 75) 0
abbrev s__law_no_book : Stmt := topS 88
abbrev s__law_no_prime : Stmt := topS 91
abbrev s_is_sums : Stmt := topS 60
abbrev s_check_sums : Stmt := topS 61
abbrev s_Sums__init__ : Stmt := inClass (topS 79) 0
abbrev s__law_no_rests : Stmt := topS 92
abbrev s_law : Stmt := topS 94
/-! ### what the top has left -/
def fnL0 : List He.DefD := [⟨("_law_primes", none), "_law_primes", "_law_primes", defArgs s__law_primes, defBody s__law_primes, defScope s__law_primes, [], []⟩,
    ⟨("_law_jar", none), "_law_jar", "_law_jar", defArgs s__law_jar, defBody s__law_jar, defScope s__law_jar, [], []⟩,
    ⟨("_law_gather", none), "_law_gather", "_law_gather", defArgs s__law_gather, defBody s__law_gather, defScope s__law_gather, [], []⟩,
    ⟨("_law_pick", none), "_law_pick", "_law_pick", defArgs s__law_pick, defBody s__law_pick, defScope s__law_pick, [], []⟩,
    ⟨("_law_amount", none), "_law_amount", "_law_amount", defArgs s__law_amount, defBody s__law_amount, defScope s__law_amount, [], []⟩,
    ⟨("_law_book", none), "_law_book", "_law_book", defArgs s__law_book, defBody s__law_book, defScope s__law_book, [], []⟩,
    ⟨("is_an_integer", none), "is_an_integer", "is_an_integer", defArgs s_is_an_integer, defBody s_is_an_integer, defScope s_is_an_integer, [], []⟩,
    ⟨("is_change", none), "is_change", "is_change", defArgs s_is_change, defBody s_is_change, defScope s_is_change, [], []⟩,
    ⟨("is_ledger", none), "is_ledger", "is_ledger", defArgs s_is_ledger, defBody s_is_ledger, defScope s_is_ledger, [], []⟩,
    ⟨("check_ledger", none), "check_ledger", "check_ledger", defArgs s_check_ledger, defBody s_check_ledger, defScope s_check_ledger, [], []⟩,
    ⟨("is_from", none), "is_from", "is_from", defArgs s_is_from, defBody s_is_from, defScope s_is_from, [], []⟩,
    ⟨("is_prime", none), "is_prime", "is_prime", defArgs s_is_prime, defBody s_is_prime, defScope s_is_prime, [], []⟩,
    ⟨("check_prime", none), "check_prime", "check_prime", defArgs s_check_prime, defBody s_check_prime, defScope s_check_prime, [], []⟩,
    ⟨("summed", none), "summed", "summed", defArgs s_summed, defBody s_summed, defScope s_summed, [], []⟩,
    ⟨("remaining", none), "remaining", "remaining", defArgs s_remaining, defBody s_remaining, defScope s_remaining, [], []⟩,
    ⟨("reduced", none), "reduced", "reduced", defArgs s_reduced, defBody s_reduced, defScope s_reduced, [], []⟩,
    ⟨("sums_modulo", none), "sums_modulo", "sums_modulo", defArgs s_sums_modulo, defBody s_sums_modulo, defScope s_sums_modulo, [], []⟩,
    ⟨("check_residues", none), "check_residues", "check_residues", defArgs s_check_residues, defBody s_check_residues, defScope s_check_residues, [], []⟩,
    ⟨("in_row", none), "in_row", "in_row", defArgs s_in_row, defBody s_in_row, defScope s_in_row, [], []⟩,
    ⟨("rule_modulo", none), "rule_modulo", "rule_modulo", defArgs s_rule_modulo, defBody s_rule_modulo, defScope s_rule_modulo, [], []⟩,
    ⟨("inverse_modulo", none), "inverse_modulo", "inverse_modulo", defArgs s_inverse_modulo, defBody s_inverse_modulo, defScope s_inverse_modulo, [], []⟩,
    ⟨("value_of", none), "value_of", "value_of", defArgs s_value_of, defBody s_value_of, defScope s_value_of, [], []⟩,
    ⟨("amount_modulo", none), "amount_modulo", "amount_modulo", defArgs s_amount_modulo, defBody s_amount_modulo, defScope s_amount_modulo, [], []⟩,
    ⟨("divided", none), "divided", "divided", defArgs s_divided, defBody s_divided, defScope s_divided, [], []⟩,
    ⟨("told_modulo", none), "told_modulo", "told_modulo", defArgs s_told_modulo, defBody s_told_modulo, defScope s_told_modulo, [], []⟩]
def fnL1 : List He.DefD := [⟨("rule_length_modulo", none), "rule_length_modulo", "rule_length_modulo", defArgs s_rule_length_modulo, defBody s_rule_length_modulo, defScope s_rule_length_modulo, [], []⟩,
    ⟨("all_told", none), "all_told", "all_told", defArgs s_all_told, defBody s_all_told, defScope s_all_told, [], []⟩,
    ⟨("_law_call", none), "_law_call", "_law_call", defArgs s__law_call, defBody s__law_call, defScope s__law_call, [], []⟩,
    ⟨("_law_told", none), "_law_told", "_law_told", defArgs s__law_told, defBody s__law_told, defScope s__law_told, [], []⟩,
    ⟨("_law_small_right", none), "_law_small_right", "_law_small_right", defArgs s__law_small_right, defBody s__law_small_right, defScope s__law_small_right, [], []⟩,
    ⟨("Ledger", some "__init__"), "__init__", "Ledger.__init__", defArgs s_Ledger__init__, defBody s_Ledger__init__, defScope s_Ledger__init__, [.adr (He.dflAt ("Ledger", some "__init__") 0)], []⟩,
    ⟨("_law_no_book", none), "_law_no_book", "_law_no_book", defArgs s__law_no_book, defBody s__law_no_book, defScope s__law_no_book, [], []⟩,
    ⟨("_law_no_prime", none), "_law_no_prime", "_law_no_prime", defArgs s__law_no_prime, defBody s__law_no_prime, defScope s__law_no_prime, [], []⟩,
    ⟨("is_sums", none), "is_sums", "is_sums", defArgs s_is_sums, defBody s_is_sums, defScope s_is_sums, [], []⟩,
    ⟨("check_sums", none), "check_sums", "check_sums", defArgs s_check_sums, defBody s_check_sums, defScope s_check_sums, [], []⟩,
    ⟨("Sums", some "__init__"), "__init__", "Sums.__init__", defArgs s_Sums__init__, defBody s_Sums__init__, defScope s_Sums__init__, [], []⟩,
    ⟨("_law_no_rests", none), "_law_no_rests", "_law_no_rests", defArgs s__law_no_rests, defBody s__law_no_rests, defScope s__law_no_rests, [], []⟩,
    ⟨("law", none), "law", "law", defArgs s_law, defBody s_law, defScope s_law, [], []⟩]
def fnL : List He.DefD := fnL0 ++ (fnL1)
def faL0 : List He.Fa := [.glo "_law_primes",
    .glo "_law_jar",
    .glo "_law_gather",
    .glo "_law_pick",
    .glo "_law_amount",
    .glo "_law_book",
    .glo "is_an_integer",
    .glo "is_change",
    .glo "is_ledger",
    .glo "check_ledger",
    .glo "is_from",
    .glo "is_prime",
    .glo "check_prime",
    .glo "summed",
    .glo "remaining",
    .glo "reduced",
    .glo "sums_modulo",
    .glo "check_residues",
    .glo "in_row",
    .glo "rule_modulo",
    .glo "inverse_modulo",
    .glo "value_of",
    .glo "amount_modulo",
    .glo "divided",
    .glo "told_modulo"]
def faL1 : List He.Fa := [.glo "rule_length_modulo",
    .glo "all_told",
    .glo "_law_call",
    .glo "_law_told",
    .glo "_law_small_right",
    .glo "Ledger",
    .mkr "Ledger",
    .cls "Ledger",
    .noat "Ledger" "_pairs",
    .glo "_law_no_book",
    .glo "_law_no_prime",
    .glo "is_sums",
    .glo "check_sums",
    .glo "Sums",
    .mkr "Sums",
    .cls "Sums",
    .noat "Sums" "_numbers",
    .glo "_law_no_rests",
    .glo "law",
    .glo "InvalidLedger",
    .exc "InvalidLedger",
    .glo "InvalidNumber",
    .exc "InvalidNumber",
    .glo "InvalidPrime",
    .exc "InvalidPrime"]
def faL2 : List He.Fa := [.glo "InvalidResidues",
    .exc "InvalidResidues",
    .glo "OtherLength",
    .exc "OtherLength",
    .glo "SumsError",
    .exc "SumsError",
    .free "ValueError",
    .free "abs",
    .free "all",
    .free "bool",
    .free "enumerate",
    .free "int",
    .free "isinstance",
    .free "len",
    .free "list",
    .free "max",
    .free "min",
    .free "range",
    .free "sorted",
    .free "sum",
    .free "tuple",
    .free "zip"]
def faL : List He.Fa := faL0 ++ (faL1 ++ (faL2))
def exL0 (K : PySem.W.Frag) : List Bool := [He.eqO (PySem.W.findIn K (.ref (He.ga K "Ledger")) "__class__") (some (some (.builtin "object.__class__"))),
    decide (PySem.W.mroIn K (He.ga K "Ledger") (.type "object") = some true),
    decide (PySem.W.subIn K (.ref (He.ga K "Ledger")) (.type "tuple") = some false),
    decide (PySem.W.subIn K (.ref (He.ga K "Ledger")) (.type "int") = some false),
    He.eqO (PySem.W.findIn K (.ref (He.ga K "Sums")) "__class__") (some (some (.builtin "object.__class__"))),
    decide (PySem.W.mroIn K (He.ga K "Sums") (.type "object") = some true),
    decide (PySem.W.subIn K (.ref (He.ga K "Sums")) (.type "tuple") = some false),
    decide (PySem.W.subIn K (.ref (He.ga K "Sums")) (.type "int") = some false),
    He.eqO (PySem.W.specialIn K (.builtin "object.__class__") "__get__") (some (some (.builtin "getset_descriptor.__get__"))),
    decide (PySem.W.takesIn K (.builtin "object.__class__") = some true),
    PySem.W.hasDictIn K (He.ga K "InvalidLedger"),
    PySem.W.hasDictIn K (He.ga K "InvalidNumber"),
    PySem.W.hasDictIn K (He.ga K "InvalidPrime"),
    PySem.W.hasDictIn K (He.ga K "InvalidResidues"),
    PySem.W.hasDictIn K (He.ga K "OtherLength"),
    PySem.W.hasDictIn K (He.ga K "SumsError"),
    He.eqO (PySem.W.findIn K (.ref (He.ga K "InvalidLedger")) "__getattribute__") (some (some (.builtin "BaseException.__getattribute__"))),
    He.eqO (PySem.W.findIn K (.ref (He.ga K "InvalidLedger")) "__getattr__") (some none),
    He.eqO (PySem.W.findIn K (.ref (He.ga K "InvalidLedger")) "__class__") (some (some (.builtin "object.__class__"))),
    decide (PySem.W.mroIn K (He.ga K "InvalidLedger") (.type "object") = some true),
    decide (PySem.W.subIn K (.ref (He.ga K "InvalidLedger")) (.type "ValueError") = some true),
    He.eqO (PySem.W.findIn K (.ref (He.ga K "InvalidNumber")) "__getattribute__") (some (some (.builtin "BaseException.__getattribute__"))),
    He.eqO (PySem.W.findIn K (.ref (He.ga K "InvalidNumber")) "__getattr__") (some none),
    He.eqO (PySem.W.findIn K (.ref (He.ga K "InvalidNumber")) "__class__") (some (some (.builtin "object.__class__"))),
    decide (PySem.W.mroIn K (He.ga K "InvalidNumber") (.type "object") = some true)]
def exL1 (K : PySem.W.Frag) : List Bool := [decide (PySem.W.subIn K (.ref (He.ga K "InvalidNumber")) (.type "ValueError") = some true),
    He.eqO (PySem.W.findIn K (.ref (He.ga K "InvalidPrime")) "__getattribute__") (some (some (.builtin "BaseException.__getattribute__"))),
    He.eqO (PySem.W.findIn K (.ref (He.ga K "InvalidPrime")) "__getattr__") (some none),
    He.eqO (PySem.W.findIn K (.ref (He.ga K "InvalidPrime")) "__class__") (some (some (.builtin "object.__class__"))),
    decide (PySem.W.mroIn K (He.ga K "InvalidPrime") (.type "object") = some true),
    decide (PySem.W.subIn K (.ref (He.ga K "InvalidPrime")) (.type "ValueError") = some true),
    He.eqO (PySem.W.findIn K (.ref (He.ga K "InvalidResidues")) "__getattribute__") (some (some (.builtin "BaseException.__getattribute__"))),
    He.eqO (PySem.W.findIn K (.ref (He.ga K "InvalidResidues")) "__getattr__") (some none),
    He.eqO (PySem.W.findIn K (.ref (He.ga K "InvalidResidues")) "__class__") (some (some (.builtin "object.__class__"))),
    decide (PySem.W.mroIn K (He.ga K "InvalidResidues") (.type "object") = some true),
    decide (PySem.W.subIn K (.ref (He.ga K "InvalidResidues")) (.type "ValueError") = some true),
    He.eqO (PySem.W.findIn K (.ref (He.ga K "OtherLength")) "__getattribute__") (some (some (.builtin "BaseException.__getattribute__"))),
    He.eqO (PySem.W.findIn K (.ref (He.ga K "OtherLength")) "__getattr__") (some none),
    He.eqO (PySem.W.findIn K (.ref (He.ga K "OtherLength")) "__class__") (some (some (.builtin "object.__class__"))),
    decide (PySem.W.mroIn K (He.ga K "OtherLength") (.type "object") = some true),
    decide (PySem.W.subIn K (.ref (He.ga K "OtherLength")) (.type "ValueError") = some true),
    decide (PySem.W.subIn K (.ref (He.ga K "InvalidLedger")) (.ref (He.ga K "InvalidLedger")) = some true),
    decide (PySem.W.subIn K (.ref (He.ga K "InvalidLedger")) (.ref (He.ga K "InvalidNumber")) = some false),
    decide (PySem.W.subIn K (.ref (He.ga K "InvalidLedger")) (.ref (He.ga K "InvalidPrime")) = some false),
    decide (PySem.W.subIn K (.ref (He.ga K "InvalidLedger")) (.ref (He.ga K "InvalidResidues")) = some false),
    decide (PySem.W.subIn K (.ref (He.ga K "InvalidLedger")) (.ref (He.ga K "OtherLength")) = some false),
    decide (PySem.W.subIn K (.ref (He.ga K "InvalidLedger")) (.ref (He.ga K "SumsError")) = some true),
    decide (PySem.W.subIn K (.ref (He.ga K "InvalidNumber")) (.ref (He.ga K "InvalidLedger")) = some false),
    decide (PySem.W.subIn K (.ref (He.ga K "InvalidNumber")) (.ref (He.ga K "InvalidNumber")) = some true),
    decide (PySem.W.subIn K (.ref (He.ga K "InvalidNumber")) (.ref (He.ga K "InvalidPrime")) = some false)]
def exL2 (K : PySem.W.Frag) : List Bool := [decide (PySem.W.subIn K (.ref (He.ga K "InvalidNumber")) (.ref (He.ga K "InvalidResidues")) = some false),
    decide (PySem.W.subIn K (.ref (He.ga K "InvalidNumber")) (.ref (He.ga K "OtherLength")) = some false),
    decide (PySem.W.subIn K (.ref (He.ga K "InvalidNumber")) (.ref (He.ga K "SumsError")) = some true),
    decide (PySem.W.subIn K (.ref (He.ga K "InvalidPrime")) (.ref (He.ga K "InvalidLedger")) = some false),
    decide (PySem.W.subIn K (.ref (He.ga K "InvalidPrime")) (.ref (He.ga K "InvalidNumber")) = some false),
    decide (PySem.W.subIn K (.ref (He.ga K "InvalidPrime")) (.ref (He.ga K "InvalidPrime")) = some true),
    decide (PySem.W.subIn K (.ref (He.ga K "InvalidPrime")) (.ref (He.ga K "InvalidResidues")) = some false),
    decide (PySem.W.subIn K (.ref (He.ga K "InvalidPrime")) (.ref (He.ga K "OtherLength")) = some false),
    decide (PySem.W.subIn K (.ref (He.ga K "InvalidPrime")) (.ref (He.ga K "SumsError")) = some true),
    decide (PySem.W.subIn K (.ref (He.ga K "InvalidResidues")) (.ref (He.ga K "InvalidLedger")) = some false),
    decide (PySem.W.subIn K (.ref (He.ga K "InvalidResidues")) (.ref (He.ga K "InvalidNumber")) = some false),
    decide (PySem.W.subIn K (.ref (He.ga K "InvalidResidues")) (.ref (He.ga K "InvalidPrime")) = some false),
    decide (PySem.W.subIn K (.ref (He.ga K "InvalidResidues")) (.ref (He.ga K "InvalidResidues")) = some true),
    decide (PySem.W.subIn K (.ref (He.ga K "InvalidResidues")) (.ref (He.ga K "OtherLength")) = some false),
    decide (PySem.W.subIn K (.ref (He.ga K "InvalidResidues")) (.ref (He.ga K "SumsError")) = some true),
    decide (PySem.W.subIn K (.ref (He.ga K "OtherLength")) (.ref (He.ga K "InvalidLedger")) = some false),
    decide (PySem.W.subIn K (.ref (He.ga K "OtherLength")) (.ref (He.ga K "InvalidNumber")) = some false),
    decide (PySem.W.subIn K (.ref (He.ga K "OtherLength")) (.ref (He.ga K "InvalidPrime")) = some false),
    decide (PySem.W.subIn K (.ref (He.ga K "OtherLength")) (.ref (He.ga K "InvalidResidues")) = some false),
    decide (PySem.W.subIn K (.ref (He.ga K "OtherLength")) (.ref (He.ga K "OtherLength")) = some true),
    decide (PySem.W.subIn K (.ref (He.ga K "OtherLength")) (.ref (He.ga K "SumsError")) = some true)]
def exL (K : PySem.W.Frag) : List Bool := exL0 K ++ (exL1 K ++ (exL2 K))
def asL0 : List Addr := [3,
    6,
    4,
    49,
    59,
    72,
    84,
    96,
    108,
    120,
    132,
    144,
    156,
    168,
    180,
    192,
    204,
    216,
    225,
    232,
    239,
    246,
    253,
    260,
    267,
    272,
    279,
    284,
    291,
    296,
    301,
    306,
    311,
    316,
    321]
def asL1 : List Addr := [328,
    335,
    340,
    345,
    350,
    357,
    364,
    369,
    374,
    381,
    388,
    395,
    400,
    405,
    412,
    417,
    422,
    427,
    434,
    439,
    444,
    451,
    458,
    463,
    470,
    475,
    482,
    487,
    492,
    497,
    502,
    509,
    516,
    521,
    714]
def asL2 : List Addr := [725,
    732,
    739,
    872,
    883,
    890,
    895,
    902,
    909,
    914,
    921,
    926,
    933,
    940,
    947,
    952,
    959,
    964,
    0,
    48,
    58,
    71,
    83,
    95,
    107,
    119,
    131,
    143,
    155,
    167,
    179,
    191,
    203,
    215,
    224]
def asL3 : List Addr := [231,
    238,
    245,
    252,
    259,
    266,
    271,
    278,
    283,
    290,
    295,
    300,
    305,
    310,
    315,
    320,
    327,
    334,
    339,
    344,
    349,
    356,
    363,
    368,
    373,
    380,
    387,
    394,
    399,
    404,
    411,
    416,
    421,
    426,
    433]
def asL4 : List Addr := [438,
    443,
    450,
    457,
    462,
    469,
    474,
    481,
    486,
    491,
    496,
    501,
    508,
    515,
    520,
    713,
    724,
    731,
    738,
    871,
    882,
    889,
    894,
    901,
    908,
    913,
    920,
    925,
    932,
    939,
    946,
    951,
    958,
    963,
    43]
def asL5 : List Addr := [44,
    45,
    46,
    47,
    57,
    60,
    70,
    82,
    94,
    106,
    118,
    130,
    142,
    154,
    166,
    178,
    190,
    202,
    214,
    219,
    220,
    221,
    222,
    223,
    226,
    227,
    228,
    229,
    230,
    233,
    234,
    235,
    236,
    237,
    240]
def asL6 : List Addr := [241,
    242,
    243,
    244,
    247,
    248,
    249,
    250,
    251,
    254,
    255,
    256,
    257,
    258,
    261,
    262,
    263,
    264,
    265,
    268,
    269,
    270,
    273,
    274,
    275,
    276,
    277,
    280,
    281,
    282,
    285,
    286,
    287,
    288,
    289]
def asL7 : List Addr := [292,
    293,
    294,
    297,
    298,
    299,
    302,
    303,
    304,
    307,
    308,
    309,
    312,
    313,
    314,
    317,
    318,
    319,
    322,
    323,
    324,
    325,
    326,
    329,
    330,
    331,
    332,
    333,
    336,
    337,
    338,
    341,
    342,
    343,
    346]
def asL8 : List Addr := [347,
    348,
    351,
    352,
    353,
    354,
    355,
    358,
    359,
    360,
    361,
    362,
    365,
    366,
    367,
    370,
    371,
    372,
    375,
    376,
    377,
    378,
    379,
    382,
    383,
    384,
    385,
    386,
    389,
    390,
    391,
    392,
    393,
    396,
    397]
def asL9 : List Addr := [398,
    401,
    402,
    403,
    406,
    407,
    408,
    409,
    410,
    413,
    414,
    415,
    418,
    419,
    420,
    423,
    424,
    425,
    428,
    429,
    430,
    431,
    432,
    435,
    436,
    437,
    440,
    441,
    442,
    445,
    446,
    447,
    448,
    449,
    452]
def asL10 : List Addr := [453,
    454,
    455,
    456,
    459,
    460,
    461,
    464,
    465,
    466,
    467,
    468,
    471,
    472,
    473,
    476,
    477,
    478,
    479,
    480,
    483,
    484,
    485,
    488,
    489,
    490,
    493,
    494,
    495,
    498,
    499,
    500,
    503,
    504,
    505]
def asL11 : List Addr := [506,
    507,
    510,
    511,
    512,
    513,
    514,
    517,
    518,
    519,
    537,
    545,
    552,
    559,
    566,
    573,
    578,
    585,
    592,
    599,
    606,
    613,
    620,
    627,
    634,
    641,
    648,
    655,
    662,
    669,
    676,
    683,
    690,
    697,
    704]
def asL12 : List Addr := [711,
    712,
    715,
    716,
    719,
    720,
    721,
    722,
    723,
    726,
    727,
    728,
    729,
    730,
    733,
    734,
    735,
    736,
    737,
    753,
    762,
    771,
    778,
    785,
    792,
    799,
    806,
    813,
    820,
    827,
    834,
    841,
    848,
    855,
    862]
def asL13 : List Addr := [869,
    870,
    873,
    874,
    877,
    878,
    879,
    880,
    881,
    884,
    885,
    886,
    887,
    888,
    891,
    892,
    893,
    896,
    897,
    898,
    899,
    900,
    903,
    904,
    905,
    906,
    907,
    910,
    911,
    912,
    915,
    916,
    917,
    918,
    919]
def asL14 : List Addr := [922,
    923,
    924,
    927,
    928,
    929,
    930,
    931,
    934,
    935,
    936,
    937,
    938,
    941,
    942,
    943,
    944,
    945,
    948,
    949,
    950,
    953,
    954,
    955,
    956,
    957,
    960,
    961,
    962,
    536,
    530,
    544,
    551,
    558,
    565]
def asL15 : List Addr := [572,
    577,
    584,
    591,
    598,
    605,
    612,
    619,
    626,
    633,
    640,
    647,
    654,
    661,
    668,
    675,
    682,
    689,
    696,
    703,
    710,
    752,
    760,
    761,
    770,
    777,
    784,
    791,
    798,
    805,
    812,
    819,
    826,
    833,
    840]
def asL16 : List Addr := [847,
    854,
    861,
    868,
    531,
    532,
    533,
    534,
    535,
    529,
    543,
    546,
    547,
    548,
    549,
    550,
    553,
    554,
    555,
    556,
    557,
    560,
    561,
    562,
    563,
    564,
    567,
    568,
    569,
    570,
    571,
    574,
    575,
    576,
    579]
def asL17 : List Addr := [580,
    581,
    582,
    583,
    586,
    587,
    588,
    589,
    590,
    593,
    594,
    595,
    596,
    597,
    600,
    601,
    602,
    603,
    604,
    607,
    608,
    609,
    610,
    611,
    614,
    615,
    616,
    617,
    618,
    621,
    622,
    623,
    624,
    625,
    628]
def asL18 : List Addr := [629,
    630,
    631,
    632,
    635,
    636,
    637,
    638,
    639,
    642,
    643,
    644,
    645,
    646,
    649,
    650,
    651,
    652,
    653,
    656,
    657,
    658,
    659,
    660,
    663,
    664,
    665,
    666,
    667,
    670,
    671,
    672,
    673,
    674,
    677]
def asL19 : List Addr := [678,
    679,
    680,
    681,
    684,
    685,
    686,
    687,
    688,
    691,
    692,
    693,
    694,
    695,
    698,
    699,
    700,
    701,
    702,
    705,
    706,
    707,
    708,
    709,
    747,
    748,
    749,
    750,
    751,
    759,
    763,
    769,
    772,
    773,
    774]
def asL20 : List Addr := [775,
    776,
    779,
    780,
    781,
    782,
    783,
    786,
    787,
    788,
    789,
    790,
    793,
    794,
    795,
    796,
    797,
    800,
    801,
    802,
    803,
    804,
    807,
    808,
    809,
    810,
    811,
    814,
    815,
    816,
    817,
    818,
    821,
    822,
    823]
def asL21 : List Addr := [824,
    825,
    828,
    829,
    830,
    831,
    832,
    835,
    836,
    837,
    838,
    839,
    842,
    843,
    844,
    845,
    846,
    849,
    850,
    851,
    852,
    853,
    856,
    857,
    858,
    859,
    860,
    863,
    864,
    865,
    866,
    867]
def asL : List Addr := asL0 ++ (asL1 ++ (asL2 ++ (asL3 ++ (asL4 ++ (asL5 ++ (asL6 ++ (asL7 ++ (asL8 ++ (asL9 ++ (asL10 ++ (asL11 ++ (asL12 ++ (asL13 ++ (asL14 ++ (asL15 ++ (asL16 ++ (asL17 ++ (asL18 ++ (asL19 ++ (asL20 ++ (asL21)))))))))))))))))))))
def nmL0 : List PySem.Str := ["_wall",
    "SumsError",
    "InvalidLedger",
    "InvalidKey",
    "InvalidAmount",
    "InvalidNumber",
    "InvalidStep",
    "InvalidSums",
    "InvalidIndex",
    "InvalidPrime",
    "InvalidResidues",
    "OtherLength",
    "NotMade",
    "NotALedger",
    "NotSums",
    "is_an_integer",
    "is_from",
    "check_key",
    "check_amount",
    "check_number",
    "check_step",
    "is_change",
    "is_ledger",
    "check_ledger",
    "summed"]
def nmL1 : List PySem.Str := ["amount_at",
    "with_amount",
    "weight",
    "added",
    "less",
    "scaled",
    "multiplied",
    "product",
    "power",
    "moved",
    "folded",
    "cut",
    "value_of",
    "divided",
    "in_row",
    "rule_modulo",
    "inverse_modulo",
    "is_prime",
    "check_prime",
    "check_residues",
    "remaining",
    "reduced",
    "sums_modulo",
    "amount_modulo",
    "told_modulo"]
def nmL2 : List PySem.Str := ["rule_length_modulo",
    "all_told",
    "is_sums",
    "check_sums",
    "check_two",
    "first_sums",
    "first_powers",
    "multiplied_sums",
    "sums_of",
    "with_change",
    "sums_added",
    "sums_less",
    "sums_scaled",
    "sums_product",
    "sums_moved",
    "sums_quotient",
    "Ledger",
    "pairs_of",
    "times_operand",
    "moved_back",
    "Sums",
    "numbers_of",
    "_law_pick",
    "_law_primes",
    "_law_jar"]
def nmL3 : List PySem.Str := ["_law_amount",
    "_law_gather",
    "_law_book",
    "_law_no_book",
    "_law_call",
    "_law_told",
    "_law_no_prime",
    "_law_no_rests",
    "_law_small_right"]
def nmL : List PySem.Str := nmL0 ++ (nmL1 ++ (nmL2 ++ (nmL3)))
abbrev RWo : PySem.W.OpenRow := PySem.W.OpenLaw.row PySem.Challenge.rw_changesums_k48_errors_modulo_a_prime
abbrev hkB : PySem.W.Hook := He.hookB asL faL fnL exL
def obB (s : PySem.W.SharedT) : He.AlB := He.obsB asL faL fnL exL (HandSHeadRun.getT s)
theorem obB_eq (s : PySem.W.SharedT) : obB s = hkB.obs s.abs := He.obsB_eq (HandSHeadRun.getT_eq s)
set_option maxHeartbeats 0 in
theorem runB (w : World) : HandSHeadRun.RunEqI RWo (PySem.W.view RWo.prog [0, 94]) hkB obB 20000 nmL w := by
  unfold HandSHeadRun.RunEqI
  kernel_rfl
end Lw
set_option Elab.async false
set_option linter.all false
set_option maxRecDepth 100000
set_option maxHeartbeats 4000000
namespace Cr
open PySem PySem.Spec PyProof.Rows L2 L2

/-! ### data in the heap -/
def notPair : PyData → Bool
  | .tuple [.int _, .int _] => false
  | _ => true
/-- no ledger: its first item is no pair of ints -/
def lax : List PyData → Bool
  | [] => true
  | d :: _ => notPair d
/-- a tuple at a: its object is known to have no dict of its own, but where no ledger is told -/
def Tp (H : Hp) (a : Addr) (xs : List V) (ds : List PyData) : Prop := (∃ o : Obj, o.dict = none ∧ H a = some (.frz o (.tup xs))) ∨ (lax ds = true ∧ H a = some (.tup xs))
theorem Tp.rd {H : Hp} {a : Addr} {xs : List V} {ds : List PyData} (h : Tp H a xs ds) : Rd H a (.tup xs) := by
  rcases h with ⟨o, _, e⟩ | ⟨_, e⟩
  · exact .inr ⟨o, e⟩
  · exact .inl e
theorem Tp.mono {H H' : Hp} {a : Addr} {xs : List V} {ds : List PyData} (s : Same H H') (h : Tp H a xs ds) : Tp H' a xs ds := by
  rcases h with ⟨o, d, e⟩ | ⟨d, e⟩
  · exact .inl ⟨o, d, s _ _ e⟩
  · exact .inr ⟨d, s _ _ e⟩
theorem Tp.new {H : Hp} {a : Addr} {xs : List V} {ds : List PyData} {o : Obj} (h : o.dict = none) : Tp (upd H a (.frz o (.tup xs))) a xs ds := .inl ⟨o, h, upd_same⟩
/-- a tuple of written items -/
def tTup (t : TA) : TE := fun σ H Q => t σ H fun xs H1 => xs.length ≤ sizeLine ∧ ∀ (p : Addr) (o : Obj), o.dict = none → H1 p = none → Q (.ref p) (upd H1 p (.frz o (.tup xs)))
theorem pe_tup {X : Cx} {es : List Expr} {t : TA} {k : Nat} {pos : Pos} (h : PA X es t) : PE X (.Tuple es k pos) (tTup t) := by
  constructor
  intro pins s σ H Q I hq
  refine wpAny_Tuple_spliced (thn (h.run pos pins s σ H _ I hq) fun us t1 ⟨xs, G, I1, r, z, q⟩ => ⟨by rw [← r.length]; exact z, ?_⟩)
  have nf : G t1.heap.objs.size = none := I1.hok.fresh (Nat.le_refl _)
  have eq : (t1.heap.push { cls := .type "tuple", data := .seq us.toArray }).get? t1.heap.objs.size = some { cls := .type "tuple", data := .seq us.toArray } := Heap.get?_push_size _ rfl
  refine ⟨.ref t1.heap.objs.size, _, I1.laid (t' := t1.toks) (o := .frz { cls := .type "tuple", data := .seq us.toArray } (.tup xs)) (fun b u e => Heap.get?_push_of_some _ e) (Nat.le_refl _) ?_, rfl, q _ _ rfl nf⟩
  exact ⟨eq, z, us, r, _, eq, rfl, _, rfl⟩
/-- an own instance of the class at C, as data -/
abbrev insD (C : Addr) : PyData := .dict [(.int (C : Int), .none)]
mutual
inductive Dq (H : Hp) : V → PyData → Prop
  | non : Dq H .non .none
  | bl (b : Bool) : Dq H (.bl b) (.bool b)
  | int (i : Int) : Dq H (.int i) (.int i)
  | str (x : Str) : Dq H (.str x) (.str x)
  | lst {a : Addr} {xs : List V} {ds : List PyData} : H a = some (.lst xs) → DqAll H xs ds → Dq H (.ref a) (.list ds)
  | tup {a : Addr} {xs : List V} {ds : List PyData} : Tp H a xs ds → DqAll H xs ds → Dq H (.ref a) (.tuple ds)
  | dic {a : Addr} : H a = some (.dK []) → Dq H (.ref a) (.dict [])
  | ins {a C dx : Addr} {fs : List (Str × V)} : H a = some (.ins C dx fs) → Dq H (.ref a) (insD C)
inductive DqAll (H : Hp) : List V → List PyData → Prop
  | nil : DqAll H [] []
  | cons {v : V} {vs : List V} {d : PyData} {ds : List PyData} : Dq H v d → DqAll H vs ds → DqAll H (v :: vs) (d :: ds)
end
section
variable {K : PySem.W.Frag} {H H' : Hp}
mutual
theorem Dq.mono (e : Same H H') : ∀ (d : PyData) (v : V), Dq H v d → Dq H' v d
  | .none, _, h => by cases h; exact .non
  | .bool b, _, h => by cases h; exact .bl b
  | .int i, _, h => by cases h; exact .int i
  | .str x, _, h => by cases h; exact .str x
  | .list ds, _, h => by
    cases h with
    | lst hs ha => exact .lst (e _ _ hs) (DqAll.mono e ds _ ha)
  | .tuple ds, _, h => by
    cases h with
    | tup hs ha => exact .tup (hs.mono e) (DqAll.mono e ds _ ha)
  | .dict _, _, h => by
    cases h with
    | dic hs => exact .dic (e _ _ hs)
    | ins hs => exact .ins (e _ _ hs)
theorem DqAll.mono (e : Same H H') : ∀ (ds : List PyData) (vs : List V), DqAll H vs ds → DqAll H' vs ds
  | [], _, h => by cases h; exact .nil
  | d :: ds, _, h => by
    cases h with
    | cons h1 h2 => exact .cons (Dq.mono e d _ h1) (DqAll.mono e ds _ h2)
end
mutual
theorem Dq.dp (K : PySem.W.Frag) : ∀ (d : PyData) (v : V), d.hasDict = false → Dq H v d → Dp K H v d
  | .none, _, _, h => by cases h; exact .non
  | .bool b, _, _, h => by cases h; exact .bl b
  | .int i, _, _, h => by cases h; exact .int i
  | .str x, _, _, h => by cases h; exact .str x
  | .list ds, _, n, h => by
    cases h with
    | lst hs ha => exact .lst (.inl (.inl hs)) (DqAll.dp K ds _ (by simpa [PyData.hasDict] using n) ha)
  | .tuple ds, _, n, h => by
    cases h with
    | tup hs ha => exact .tup (.inl hs.rd) (DqAll.dp K ds _ (by simpa [PyData.hasDict] using n) ha)
  | .dict _, _, n, h => by simp [PyData.hasDict] at n
theorem DqAll.dp (K : PySem.W.Frag) : ∀ (ds : List PyData) (vs : List V), PyData.hasDictAll ds = false → DqAll H vs ds → DpAll K H vs ds
  | [], _, _, h => by cases h; exact .nil
  | d :: ds, _, n, h => by
    cases h with
    | cons h1 h2 =>
      simp only [PyData.hasDictAll, Bool.or_eq_false_iff] at n
      exact .cons (Dq.dp K d _ n.1 h1) (DqAll.dp K ds _ n.2 h2)
end
theorem no_dict {d : PyData} (s : SeqAt.shaped d = true) : d.hasDict = false := PyData.hasDict_of_canLay d (by unfold SeqAt.shaped at s; rw [Bool.and_eq_true] at s; exact s.1)
theorem DqAll.length : ∀ {vs : List V} {ds : List PyData}, DqAll H vs ds → vs.length = ds.length
  | [], _, h => by cases h; rfl
  | v :: vs, _, h => by
    cases h with
    | cons h1 h2 => exact congrArg (· + 1) (DqAll.length h2)
theorem DqAll.get : ∀ {vs : List V} {ds : List PyData} {i : Nat} {d : PyData}, DqAll H vs ds → ds[i]? = some d → ∃ v, vs[i]? = some v ∧ Dq H v d
  | [], _, i, d, h, e => by cases h; simp at e
  | v :: vs, _, 0, d, h, e => by
    cases h with
    | cons h1 h2 => simp at e; subst e; exact ⟨v, rfl, h1⟩
  | v :: vs, _, i + 1, d, h, e => by
    cases h with
    | cons h1 h2 => obtain ⟨w, a, b⟩ := DqAll.get (i := i) h2 (by simpa using e); exact ⟨w, by simpa using a, b⟩
theorem DqAll.get' : ∀ {vs : List V} {ds : List PyData} {i : Nat} {v : V}, DqAll H vs ds → vs[i]? = some v → ∃ d, ds[i]? = some d ∧ Dq H v d
  | [], _, i, d, h, e => by cases h; simp at e
  | v :: vs, _, 0, d, h, e => by
    cases h with
    | cons h1 h2 => simp at e; subst e; exact ⟨_, rfl, h1⟩
  | v :: vs, _, i + 1, d, h, e => by
    cases h with
    | cons h1 h2 => obtain ⟨w, a, b⟩ := DqAll.get' (i := i) h2 (by simpa using e); exact ⟨w, by simpa using a, b⟩
theorem DqAll.append : ∀ {vs : List V} {ds : List PyData} {ws : List V} {es : List PyData}, DqAll H vs ds → DqAll H ws es → DqAll H (vs ++ ws) (ds ++ es)
  | [], _, _, _, h, g => by cases h; exact g
  | v :: vs, _, _, _, h, g => by
    cases h with
    | cons h1 h2 => exact .cons h1 (DqAll.append h2 g)
theorem DqAll.drop : ∀ {vs : List V} {ds : List PyData} (n : Nat), DqAll H vs ds → DqAll H (vs.drop n) (ds.drop n)
  | _, _, 0, h => h
  | [], _, _ + 1, h => by cases h; exact .nil
  | v :: vs, _, n + 1, h => by
    cases h with
    | cons h1 h2 => exact DqAll.drop n h2
theorem DqAll.take : ∀ {vs : List V} {ds : List PyData} (n : Nat), DqAll H vs ds → DqAll H (vs.take n) (ds.take n)
  | _, _, 0, h => .nil
  | [], _, _ + 1, h => by cases h; exact .nil
  | v :: vs, _, n + 1, h => by
    cases h with
    | cons h1 h2 => exact .cons h1 (DqAll.take n h2)
theorem DqAll.ints : ∀ {vs : List V} {ns : List Int}, DqAll H vs (ns.map PyData.int) → vs = ns.map V.int
  | [], [], _ => rfl
  | [], _ :: _, h => by cases h
  | _ :: _, [], h => by cases h
  | v :: vs, n :: ns, h => by
    cases h with
    | cons h1 h2 => cases h1; rw [DqAll.ints h2]; rfl
theorem DqAll.bls : ∀ {vs : List V} {ns : List Bool}, DqAll H vs (ns.map PyData.bool) → vs = ns.map V.bl
  | [], [], _ => rfl
  | [], _ :: _, h => by cases h
  | _ :: _, [], h => by cases h
  | v :: vs, n :: ns, h => by
    cases h with
    | cons h1 h2 => cases h1; rw [DqAll.bls h2]; rfl
theorem DqAll.ofInts : ∀ ns : List Int, DqAll H (ns.map V.int) (ns.map PyData.int)
  | [] => .nil
  | n :: ns => .cons (.int n) (DqAll.ofInts ns)
theorem Dq.intOf {v : V} {i : Int} (h : Dq H v (.int i)) : v = .int i := by cases h; rfl
theorem Dq.blOf {v : V} {i : Bool} (h : Dq H v (.bool i)) : v = .bl i := by cases h; rfl
theorem Dq.tupOf {v : V} {ds : List PyData} (h : Dq H v (.tuple ds)) : ∃ a xs, v = .ref a ∧ Tp H a xs ds ∧ DqAll H xs ds := by
  cases h with
  | tup h1 h2 => exact ⟨_, _, rfl, h1, h2⟩
theorem Dq.lstOf {v : V} {ds : List PyData} (h : Dq H v (.list ds)) : ∃ a xs, v = .ref a ∧ H a = some (.lst xs) ∧ DqAll H xs ds := by
  cases h with
  | lst h1 h2 => exact ⟨_, _, rfl, h1, h2⟩
end

theorem same_upd {H : Hp} {p : Addr} {o : HO} (h : H p = none) : Same H (upd H p o) := fun b x e => by
  rw [upd_ne (ne_of_none e h)]
  exact e
theorem _root_.L2.Same.upd2 {H H' : Hp} {p : Addr} {o : HO} (e : Same H H') : Same (upd H p o) (upd H' p o) := fun b x q => by
  by_cases hb : b = p
  · subst hb; rw [upd_same] at q ⊢; exact q
  · rw [upd_ne hb] at q ⊢; exact e b x q
/-- an untracked place may change -/
theorem _root_.L2.Same.out {H H' : Hp} {p : Addr} {o : HO} (e : Same H H') (h : H p = none) : Same H (upd H' p o) := fun b x q => by
  rw [upd_ne (ne_of_none q h)]
  exact e b x q

/-! ### slots, the jar, the state -/
inductive Sl where
  | any
  | dat (d : PyData)
  | adr (p : Addr)
  | dic (m : List (Int × Int))
  | scr (K : PySem.W.Frag) (ns : List Int)
/-- a dict of ints -/
def mdict (m : List (Int × Int)) : List (Key × V) := m.map fun x => (Sum.inl x.1, V.int x.2)
def SlOk (H : Hp) : V → Sl → Prop
  | _, .any => True
  | v, .dat d => Dq H v d
  | v, .adr p => v = .ref p
  | v, .dic m => ∃ p, v = .ref p ∧ H p = some (.dK (mdict m))
  | v, .scr K ns => ∃ p, v = .ref p ∧ SqL K H p (ns.map V.int)
theorem SlOk.mono {H H' : Hp} (e : Same H H') : ∀ {v : V} {s : Sl}, SlOk H v s → SlOk H' v s
  | _, .any, _ => trivial
  | _, .dat d, h => Dq.mono e d _ h
  | _, .adr _, h => h
  | _, .dic _, h => by
    obtain ⟨p, a, b⟩ := h
    exact ⟨p, a, e _ _ b⟩
  | _, .scr K ns, h => by
    obtain ⟨p, a, b⟩ := h
    exact ⟨p, a, Same.seq e b⟩
def Sg (H : Hp) (σ : L2.St) (δ : List Sl) : Prop := σ.length = δ.length ∧ ∀ (i : Nat) (s : Sl), δ[i]? = some s → s ≠ .any → ∃ v, σ[i]? = some (some v) ∧ SlOk H v s
theorem Sg.mono {H H' : Hp} {σ : L2.St} {δ : List Sl} (e : Same H H') (h : Sg H σ δ) : Sg H' σ δ := ⟨h.1, fun i s a b => by
  obtain ⟨v, p, q⟩ := h.2 i s a b
  exact ⟨v, p, q.mono e⟩⟩
theorem Sg.set {H : Hp} {σ : L2.St} {δ : List Sl} {v : V} {s : Sl} (h : Sg H σ δ) (i : Nat) (r : SlOk H v s) : Sg H (σ.set i (some v)) (δ.set i s) := by
  refine ⟨by rw [List.length_set, List.length_set]; exact h.1, fun j t a b => ?_⟩
  by_cases hj : i = j
  · subst hj
    by_cases hl : i < δ.length
    · rw [List.getElem?_set_self hl] at a
      cases a
      exact ⟨v, by rw [List.getElem?_set_self (by rw [h.1]; exact hl)], r⟩
    · rw [List.getElem?_eq_none (by rw [List.length_set]; omega)] at a; cases a
  · rw [List.getElem?_set_ne hj] at a ⊢
    exact h.2 j t a b
theorem Sg.get {H : Hp} {σ : L2.St} {δ : List Sl} {i : Nat} {d : PyData} (h : Sg H σ δ) (e : δ[i]? = some (.dat d)) : ∃ v, σ[i]? = some (some v) ∧ Dq H v d := h.2 i _ e (fun z => by cases z)
theorem Sg.getA {H : Hp} {σ : L2.St} {δ : List Sl} {i : Nat} {p : Addr} (h : Sg H σ δ) (e : δ[i]? = some (.adr p)) : σ[i]? = some (some (.ref p)) := by
  obtain ⟨v, a, b⟩ := h.2 i _ e (fun z => by cases z)
  rw [a]; rw [show v = .ref p from b]
/-- less is known -/
theorem Sg.weak {H : Hp} {σ : L2.St} {δ δ' : List Sl} (h : Sg H σ δ) (hl : δ'.length = δ.length) (hw : ∀ (i : Nat) (s : Sl), δ'[i]? = some s → s = Sl.any ∨ δ[i]? = some s) : Sg H σ δ' := ⟨by rw [h.1, hl], fun i s a b => by
  rcases hw i s a with e | e
  · exact absurd e b
  · exact h.2 i s e b⟩

def Jar (n : Nat) (H : Hp) (p : Addr) : Prop := ∃ x y z : Int, H p = some (.lst [.int x, .int y, .int z]) ∧ 0 ≤ y ∧ y < 2 ^ 140 ∧ 0 ≤ z ∧ z + n ≤ 1000000000
theorem Jar.mono {n m : Nat} {H : Hp} {p : Addr} (h : Jar n H p) (l : m ≤ n) : Jar m H p := by
  obtain ⟨x, y, z, a, b, c, d, e⟩ := h
  exact ⟨x, y, z, a, b, c, d, by omega⟩
theorem Jar.ne {n : Nat} {H : Hp} {p : Addr} (h : Jar n H p) : H p ≠ none := by
  obtain ⟨x, y, z, a, _⟩ := h
  rw [a]; exact fun z => by cases z
theorem Jar.same {n : Nat} {H H' : Hp} {p : Addr} (h : Jar n H p) (e : ∀ o, H p = some o → H' p = some o) : Jar n H' p := by
  obtain ⟨x, y, z, a, r⟩ := h
  exact ⟨x, y, z, e _ a, r⟩

structure Gr (q : Option Addr) (H H1 Hk H2 : Hp) : Prop where
  k : Same H Hk
  a : Same Hk H2
  s : ∀ b o, q ≠ some b → H1 b = some o → H2 b = some o
  f : ∀ b, H b = none → H1 b ≠ none → Hk b = none
  t : ∀ b, H1 b ≠ none → H2 b ≠ none
theorem Gr.refl {q : Option Addr} {H H1 : Hp} (e : Same H H1) : Gr q H H1 H H1 := ⟨Same.refl H, e, fun _ _ _ h => h, fun _ h _ => h, fun _ h => h⟩
theorem Gr.trans {q : Option Addr} {H H1 Hk H2 Hk' H3 : Hp} (x : Gr q H H1 Hk H2) (y : Gr q Hk H2 Hk' H3) : Gr q H H1 Hk' H3 :=
  ⟨x.k.trans y.k, y.a, fun b o n h => y.s b o n (x.s b o n h), fun b h h1 => y.f b (x.f b h h1) (x.t b h1), fun b h => y.t b (x.t b h)⟩
theorem Gr.none_to {q : Option Addr} {H H1 Hk H2 : Hp} (x : Gr none H H1 Hk H2) : Gr q H H1 Hk H2 := ⟨x.k, x.a, fun b o _ h => x.s b o (fun z => by cases z) h, x.f, x.t⟩
/-- a new object, known at once -/
theorem Gr.new {q : Option Addr} {H H1 : Hp} {p : Addr} {o : HO} (e : Same H H1) (h : H1 p = none) : Gr q H H1 (upd H p o) (upd H1 p o) := by
  have hn : H p = none := e.free h
  refine ⟨same_upd hn, e.upd2, fun b u _ q => by rw [upd_ne (ne_of_none q h)]; exact q, fun b q z => ?_, fun b z => ?_⟩
  · rw [upd_ne (fun w => z (by rw [w]; exact h))]; exact q
  · rw [upd_ne (fun w => z (by rw [w]; exact h))]; exact z
/-- a new object, not known -/
theorem Gr.cell {q : Option Addr} {H H1 : Hp} {p : Addr} {o : HO} (e : Same H H1) (h : H1 p = none) : Gr q H H1 H (upd H1 p o) := by
  have hn : H p = none := e.free h
  refine ⟨Same.refl H, e.out hn, fun b u _ q => by rw [upd_ne (ne_of_none q h)]; exact q, fun b q z => q, fun b z => ?_⟩
  rw [upd_ne (fun w => z (by rw [w]; exact h))]; exact z
/-- a cell of ours changes -/
theorem Gr.put {q : Option Addr} {H H1 Hk H2 : Hp} {p : Addr} {o : HO} (x : Gr q H H1 Hk H2) (h : H1 p = none) (hk : Hk p = none) : Gr q H H1 Hk (upd H2 p o) := by
  refine ⟨x.k, x.a.out hk, fun b u n z => ?_, x.f, fun b z => ?_⟩
  · rw [upd_ne (ne_of_none z h)]; exact x.s b u n z
  · rw [upd_ne (fun w => z (by rw [w]; exact h))]; exact x.t b z
/-- a cell of ours becomes known -/
theorem Gr.freeze {q : Option Addr} {H H1 Hk H2 : Hp} {p : Addr} {o : HO} (x : Gr q H H1 Hk H2) (h : H1 p = none) (hk : Hk p = none) (e : H2 p = some o) : Gr q H H1 (upd Hk p o) H2 := by
  refine ⟨x.k.trans (same_upd hk), fun b u z => ?_, x.s, fun b z w => ?_, x.t⟩
  · by_cases hb : b = p
    · subst hb; rw [upd_same] at z; rw [← z]; exact e
    · rw [upd_ne hb] at z; exact x.a b u z
  · rw [upd_ne (fun v => w (by rw [v]; exact h))]; exact x.f b z w

structure Ok (q : Option Addr) (n : Nat) (H H1 : Hp) : Prop where
  a : Same H H1
  kf : ∀ p, q = some p → H p = none
  j : ∀ p, q = some p → Jar n H1 p
theorem Ok.mono {q : Option Addr} {n m : Nat} {H H1 : Hp} (h : Ok q n H H1) (l : m ≤ n) : Ok q m H H1 := ⟨h.a, h.kf, fun p e => (h.j p e).mono l⟩
/-- behind a step that leaves the jar -/
theorem Ok.go {q : Option Addr} {n : Nat} {H H1 Hk H2 : Hp} (h : Ok q n H H1) (g : Gr none H H1 Hk H2) : Ok q n Hk H2 :=
  ⟨g.a, fun p e => g.f p (h.kf p e) (h.j p e).ne, fun p e => (h.j p e).same fun o z => g.s p o (fun w => by cases w) z⟩
theorem Ok.cell {q : Option Addr} {n : Nat} {H H1 : Hp} {p : Addr} {o : HO} (h : Ok q n H H1) (hk : H p = none) (hq : q ≠ some p) : Ok q n H (upd H1 p o) :=
  ⟨h.a.out hk, h.kf, fun r e => (h.j r e).same fun u z => by rw [upd_ne (fun w => hq (by rw [← w]; exact e))]; exact z⟩

/-- the state of a def that runs: from its entry (A0, B0) -/
structure At (q : Option Addr) (n : Nat) (δ : List Sl) (A0 B0 : Hp) (σ : L2.St) (Hk H1 : Hp) : Prop where
  ok : Ok q n Hk H1
  sg : Sg Hk σ δ
  gr : Gr q A0 B0 Hk H1
theorem At.go {q : Option Addr} {n m : Nat} {δ δ' : List Sl} {A0 B0 : Hp} {σ σ' : L2.St} {Hk H1 Hk' H2 : Hp} (s : At q n δ A0 B0 σ Hk H1) (g : Gr q Hk H1 Hk' H2) (o : Ok q m Hk' H2) (sg : Sg Hk' σ' δ') : At q m δ' A0 B0 σ' Hk' H2 := ⟨o, sg, s.gr.trans g⟩
theorem At.mono {q : Option Addr} {n m : Nat} {δ : List Sl} {A0 B0 : Hp} {σ : L2.St} {Hk H1 : Hp} (s : At q n δ A0 B0 σ Hk H1) (l : m ≤ n) : At q m δ A0 B0 σ Hk H1 := ⟨s.ok.mono l, s.sg, s.gr⟩
theorem At.weak {q : Option Addr} {n : Nat} {δ δ' : List Sl} {A0 B0 : Hp} {σ : L2.St} {Hk H1 : Hp} (s : At q n δ A0 B0 σ Hk H1) (hl : δ'.length = δ.length) (hw : ∀ (i : Nat) (s : Sl), δ'[i]? = some s → s = Sl.any ∨ δ[i]? = some s) : At q n δ' A0 B0 σ Hk H1 := ⟨s.ok, s.sg.weak hl hw, s.gr⟩

/-! ### judgements -/
def J (q : Option Addr) (δ : List Sl) (te : TE) (c : Nat) (Φ : PyData → Prop) : Prop :=
  ∀ (σ : L2.St) (H H1 : Hp) (n : Nat), Sg H σ δ → Ok q (n + c) H H1 → ∀ Q : VK, (∀ d v Hk H2, Gr q H H1 Hk H2 → Ok q n Hk H2 → Φ d → Dq Hk v d → Q v H2) → te σ H1 Q
abbrev E (q : Option Addr) (δ : List Sl) (te : TE) (d : PyData) : Prop := J q δ te 0 (fun x => x = d)
def TJ (q : Option Addr) (δ : List Sl) (tt : TT) (c : Nat) (Φ : Bool → Prop) : Prop :=
  ∀ (σ : L2.St) (H H1 : Hp) (n : Nat), Sg H σ δ → Ok q (n + c) H H1 → ∀ Q : Bool → Hp → Prop, (∀ b Hk H2, Gr q H H1 Hk H2 → Ok q n Hk H2 → Φ b → Q b H2) → tt σ H1 Q
abbrev TB (q : Option Addr) (δ : List Sl) (tt : TT) (b : Bool) : Prop := TJ q δ tt 0 (fun x => x = b)
def VS (H : Hp) (vs : List V) (sls : List Sl) : Prop := vs.length = sls.length ∧ ∀ (i : Nat) (s : Sl), sls[i]? = some s → ∃ v, vs[i]? = some v ∧ SlOk H v s
theorem VS.mono {H H' : Hp} {vs : List V} {sls : List Sl} (e : Same H H') (h : VS H vs sls) : VS H' vs sls := ⟨h.1, fun i s a => by
  obtain ⟨v, p, q⟩ := h.2 i s a
  exact ⟨v, p, q.mono e⟩⟩
theorem VS.nil {H : Hp} : VS H [] [] := ⟨rfl, fun i s e => by simp at e⟩
theorem VS.cons {H : Hp} {v : V} {vs : List V} {s : Sl} {sls : List Sl} (h : SlOk H v s) (t : VS H vs sls) : VS H (v :: vs) (s :: sls) := ⟨by rw [List.length_cons, List.length_cons, t.1], fun i u e => by
  cases i with
  | zero => simp at e; subst e; exact ⟨v, rfl, h⟩
  | succ i => obtain ⟨w, a, b⟩ := t.2 i u (by simpa using e); exact ⟨w, by simpa using a, b⟩⟩
theorem VS.dats {H : Hp} : ∀ {vs : List V} {ds : List PyData}, VS H vs (ds.map Sl.dat) → DqAll H vs ds
  | [], [], _ => .nil
  | [], _ :: _, h => by have := h.1; simp at this
  | _ :: _, [], h => by have := h.1; simp at this
  | v :: vs, d :: ds, h => by
    obtain ⟨w, a, b⟩ := h.2 0 (.dat d) rfl
    have e : v = w := by simpa using a
    subst e
    exact .cons b (VS.dats (ds := ds) ⟨by have := h.1; simpa using this, fun i s e => by
      obtain ⟨x, p, q⟩ := h.2 (i + 1) s (by simpa using e)
      exact ⟨x, by simpa using p, q⟩⟩)
def AJ (q : Option Addr) (δ : List Sl) (ta : TA) (c : Nat) (Φ : List Sl → Prop) : Prop :=
  ∀ (σ : L2.St) (H H1 : Hp) (n : Nat), Sg H σ δ → Ok q (n + c) H H1 → ∀ Q : List V → Hp → Prop, (∀ sls vs Hk H2, Gr q H H1 Hk H2 → Ok q n Hk H2 → Φ sls → VS Hk vs sls → Q vs H2) → ta σ H1 Q
abbrev AE (q : Option Addr) (δ : List Sl) (ta : TA) (sls : List Sl) : Prop := AJ q δ ta 0 (fun x => x = sls)

section
variable {K : PySem.W.Frag} {q : Option Addr} {δ : List Sl} {te ta tb tc : TE} {tt tu : TT} {c c1 c2 c3 : Nat} {Φ Φ1 Φ2 Φ3 : PyData → Prop} {d d1 d2 : PyData}

theorem J.imp (h : J q δ te c Φ) (i : ∀ d, Φ d → Φ1 d) : J q δ te c Φ1 := fun σ H H1 n sg o Q k => h σ H H1 n sg o Q fun d v Hk H2 g o' p r => k d v Hk H2 g o' (i d p) r
theorem J.cost (h : J q δ te c Φ) (l : c ≤ c1) : J q δ te c1 Φ := fun σ H H1 n sg o Q k => h σ H H1 n sg (o.mono (by omega)) Q k
theorem J.to (h : J q δ te c Φ) (l : c ≤ c1) (i : ∀ d, Φ d → Φ1 d) : J q δ te c1 Φ1 := (h.cost l).imp i
theorem TJ.imp {Φ Φ1 : Bool → Prop} (h : TJ q δ tt c Φ) (i : ∀ d, Φ d → Φ1 d) : TJ q δ tt c Φ1 := fun σ H H1 n sg o Q k => h σ H H1 n sg o Q fun d Hk H2 g o' p => k d Hk H2 g o' (i d p)
theorem TJ.cost {Φ : Bool → Prop} (h : TJ q δ tt c Φ) (l : c ≤ c1) : TJ q δ tt c1 Φ := fun σ H H1 n sg o Q k => h σ H H1 n sg (o.mono (by omega)) Q k
theorem AJ.cost {ta : TA} {Φ : List Sl → Prop} (h : AJ q δ ta c Φ) (l : c ≤ c1) : AJ q δ ta c1 Φ := fun σ H H1 n sg o Q k => h σ H H1 n sg (o.mono (by omega)) Q k
theorem AJ.imp {ta : TA} {Φ Φ1 : List Sl → Prop} (h : AJ q δ ta c Φ) (i : ∀ d, Φ d → Φ1 d) : AJ q δ ta c Φ1 := fun σ H H1 n sg o Q k => h σ H H1 n sg o Q fun d v Hk H2 g o' p r => k d v Hk H2 g o' (i d p) r
theorem e_is (h : E q δ te d) (e : d = d1) : E q δ te d1 := by rw [← e]; exact h
theorem tb_is {a b : Bool} (h : TB q δ tt a) (e : a = b) : TB q δ tt b := by rw [← e]; exact h

/-! names and constants -/
theorem e_var {i : Nat} (e : δ[i]? = some (.dat d)) : E q δ (tVar i) d := fun σ H H1 n sg o Q k => by
  obtain ⟨v, a, b⟩ := sg.get e
  exact ⟨v, a, k d v H H1 (Gr.refl o.a) o rfl b⟩
theorem e_c {v : V} (h : ∀ H, Dq H v d) : E q δ (tC v) d := fun σ H H1 n sg o Q k => k d v H H1 (Gr.refl o.a) o rfl (h H)
theorem e_int {i : Int} : E q δ (tC (.int i)) (.int i) := e_c fun _ => .int i
theorem e_bl {i : Bool} : E q δ (tC (.bl i)) (.bool i) := e_c fun _ => .bl i
theorem e_non : E q δ (tC .non) .none := e_c fun _ => .non
theorem e_str {x : Str} : E q δ (tC (.str x)) (.str x) := e_c fun _ => .str x

/-! operators -/
def RJ (r : R2) (a b : PyData) (Φ : PyData → Prop) : Prop := ∀ (x y : V) (H H1 : Hp), Dq H x a → Dq H y b → Same H H1 → ∀ Q : VK, (∀ d v Hk H2, Gr none H H1 Hk H2 → Φ d → Dq Hk v d → Q v H2) → r x y H1 Q
theorem j_op {r : R2} (ha : J q δ ta c1 Φ1) (hb : J q δ tb c2 Φ2) (hr : ∀ a b, Φ1 a → Φ2 b → RJ r a b Φ) : J q δ (tOp r ta tb) (c2 + c1) Φ := fun σ H H1 n sg o Q k =>
  ha σ H H1 (n + c2) sg (by rw [Nat.add_assoc]; exact o) _ fun a x Hk H2 g o1 pa da => hb σ Hk H2 n (sg.mono g.k) o1 _ fun b y Hk' H3 g' o2 pb db =>
    hr a b pa pb x y Hk' H3 (Dq.mono g'.k _ _ da) db g'.a _ fun d v Hk2 H4 g2 p r => k d v Hk2 H4 ((g.trans g').trans g2.none_to) (o2.go g2) p r
theorem e_op {r : R2} (ha : E q δ ta d1) (hb : E q δ tb d2) (hr : RJ r d1 d2 Φ) : J q δ (tOp r ta tb) 0 Φ := j_op ha hb fun a b pa pb => by subst pa; subst pb; exact hr
/-- scalars -/
def vd : V → PyData
  | .bl b => .bool b
  | .int i => .int i
  | .str x => .str x
  | _ => .none
def sc : V → Bool
  | .bl _ => true
  | .int _ => true
  | .str _ => true
  | .non => true
  | _ => false
theorem sc_dq {H : Hp} : ∀ {v : V}, sc v = true → Dq H v (vd v)
  | .bl b, _ => .bl b
  | .int i, _ => .int i
  | .str x, _ => .str x
  | .non, _ => .non
  | .byt _, h => nomatch h
  | .flt _, h => nomatch h
  | .ref _, h => nomatch h
  | .ty _, h => nomatch h
theorem rj_I0 {g : Int → Int → V} {i j : Int} (hs : sc (g i j) = true) (hp : Φ (vd (g i j))) : RJ (rI0 g) (.int i) (.int j) Φ := fun x y H H1 hx hy e Q k => by
  rw [hx.intOf, hy.intOf]
  exact ⟨i, j, rfl, rfl, k _ _ H H1 (Gr.refl e) hp (sc_dq hs)⟩
theorem rj_I {C : Int → Int → Prop} {g : Int → Int → V} {i j : Int} (hc : C i j) (hs : sc (g i j) = true) (hp : Φ (vd (g i j))) : RJ (rI C g) (.int i) (.int j) Φ := fun x y H H1 hx hy e Q k => by
  rw [hx.intOf, hy.intOf]
  exact ⟨i, j, rfl, rfl, hc, k _ _ H H1 (Gr.refl e) hp (sc_dq hs)⟩
theorem e_I0 {g : Int → Int → V} {i j : Int} (ha : E q δ ta (.int i)) (hb : E q δ tb (.int j)) (hs : sc (g i j) = true := by rfl) : E q δ (tOp (rI0 g) ta tb) (vd (g i j)) := e_op ha hb (rj_I0 hs rfl)
theorem e_I {C : Int → Int → Prop} {g : Int → Int → V} {i j : Int} (ha : E q δ ta (.int i)) (hb : E q δ tb (.int j)) (hc : C i j) (hs : sc (g i j) = true := by rfl) : E q δ (tOp (rI C g) ta tb) (vd (g i j)) := e_op ha hb (rj_I hc hs rfl)
/-- ints that are not told -/
abbrev IntP (P : Int → Prop) : PyData → Prop := fun d => ∃ i, P i ∧ d = .int i
theorem j_I0 {P1 P2 : Int → Prop} {g : Int → Int → V} (ha : J q δ ta c1 (IntP P1)) (hb : J q δ tb c2 (IntP P2)) (hp : ∀ i j, P1 i → P2 j → Φ (vd (g i j))) (hs : ∀ i j, sc (g i j) = true := by intro _ _; rfl) : J q δ (tOp (rI0 g) ta tb) (c2 + c1) Φ :=
  j_op ha hb fun a b ⟨i, pi, ea⟩ ⟨j, pj, eb⟩ => by subst ea; subst eb; exact rj_I0 (hs i j) (hp i j pi pj)
theorem j_I {P1 P2 : Int → Prop} {C : Int → Int → Prop} {g : Int → Int → V} (ha : J q δ ta c1 (IntP P1)) (hb : J q δ tb c2 (IntP P2)) (hc : ∀ i j, P1 i → P2 j → C i j) (hp : ∀ i j, P1 i → P2 j → Φ (vd (g i j))) (hs : ∀ i j, sc (g i j) = true := by intro _ _; rfl) : J q δ (tOp (rI C g) ta tb) (c2 + c1) Φ :=
  j_op ha hb fun a b ⟨i, pi, ea⟩ ⟨j, pj, eb⟩ => by subst ea; subst eb; exact rj_I (hc i j pi pj) (hs i j) (hp i j pi pj)
theorem E.intP {i : Int} (h : E q δ te (.int i)) : J q δ te 0 (IntP (fun x => x = i)) := h.imp fun d e => ⟨i, rfl, e⟩
theorem e_un {g : Int → V} {i : Int} (ha : E q δ ta (.int i)) (hs : sc (g i) = true := by rfl) : E q δ (tUn (rU g) ta) (vd (g i)) := fun σ H H1 n sg o Q k =>
  ha σ H H1 n sg o _ fun a x Hk H2 g' o1 pa da => by
    subst pa
    rw [da.intOf]
    exact ⟨i, rfl, k _ _ Hk H2 g' o1 rfl (sc_dq hs)⟩
/-- == and != of data -/
theorem e_eqD (ha : E q δ ta d1) (hb : E q δ tb d2) (s1 : SeqAt.shaped d1 = true) (s2 : SeqAt.shaped d2 = true) : E q δ (tOp (rEqD K) ta tb) (.bool (PyData.eqv d1 d2)) := e_op ha hb fun x y H H1 hx hy e Q k =>
  ⟨d1, d2, Dq.dp K _ _ (no_dict s1) (Dq.mono e _ _ hx), Dq.dp K _ _ (no_dict s2) (Dq.mono e _ _ hy), s1, s2, k _ _ H H1 (Gr.refl e) rfl (.bl _)⟩
theorem e_neD (ha : E q δ ta d1) (hb : E q δ tb d2) (s1 : SeqAt.shaped d1 = true) (s2 : SeqAt.shaped d2 = true) : E q δ (tOp (rNeD K) ta tb) (.bool (!PyData.eqv d1 d2)) := e_op ha hb fun x y H H1 hx hy e Q k =>
  ⟨d1, d2, Dq.dp K _ _ (no_dict s1) (Dq.mono e _ _ hx), Dq.dp K _ _ (no_dict s2) (Dq.mono e _ _ hy), s1, s2, k _ _ H H1 (Gr.refl e) rfl (.bl _)⟩
/-- items -/
theorem dq_atI {H : Hp} {vs : List V} {ds : List PyData} {i : Int} {d : PyData} (h : DqAll H vs ds) (e : atI ds i = some d) : ∃ v, atI vs i = some v ∧ Dq H v d := by
  unfold atI at e ⊢
  rw [h.length]
  cases hx : ixN ds.length i with
  | none => rw [hx] at e; cases e
  | some j =>
    rw [hx] at e
    obtain ⟨v, a, b⟩ := h.get (i := j) (d := d) e
    exact ⟨v, a, b⟩
theorem rj_ixT {ds : List PyData} {i : Int} (e : atI ds i = some d) (hp : Φ d) : RJ (rIxT K) (.tuple ds) (.int i) Φ := fun x y H H1 hx hy e1 Q k => by
  obtain ⟨a, xs, rfl, h1, h2⟩ := hx.tupOf
  obtain ⟨v, hv, dv⟩ := dq_atI h2 e
  rw [hy.intOf]
  exact ⟨a, xs, i, v, rfl, rfl, .inl (h1.mono e1).rd, hv, k d v H H1 (Gr.refl e1) hp dv⟩
theorem rj_ixL {ds : List PyData} {i : Int} (e : atI ds i = some d) (hp : Φ d) : RJ (rIxL K) (.list ds) (.int i) Φ := fun x y H H1 hx hy e1 Q k => by
  obtain ⟨a, xs, rfl, h1, h2⟩ := hx.lstOf
  obtain ⟨v, hv, dv⟩ := dq_atI h2 e
  rw [hy.intOf]
  exact ⟨a, xs, i, v, rfl, rfl, .inl (.inl (e1 _ _ h1)), hv, k d v H H1 (Gr.refl e1) hp dv⟩
/-- a + b of lists -/
theorem rj_cat {ds es : List PyData} (hl : ds.length + es.length ≤ 1000000) (hp : Φ (.list (ds ++ es))) : RJ rCat (.list ds) (.list es) Φ := fun x y H H1 hx hy e1 Q k => by
  obtain ⟨a, xs, rfl, h1, h2⟩ := hx.lstOf
  obtain ⟨b, ys, rfl, g1, g2⟩ := hy.lstOf
  refine ⟨a, b, xs, ys, rfl, rfl, e1 _ _ h1, e1 _ _ g1, Nat.le_trans (by rw [h2.length, g2.length]; exact hl) (by rw [sizeLine_eq]; decide), fun p hn => ?_⟩
  have g := Gr.new (q := none) (o := .lst (xs ++ ys)) e1 hn
  exact k _ _ _ _ g hp (.lst upd_same (DqAll.mono g.k _ _ (h2.append g2)))
/-! tests -/
abbrev BoolP (P : Bool → Prop) : PyData → Prop := fun d => ∃ b, P b ∧ d = .bool b
theorem tj_test {Φ : Bool → Prop} (h : J q δ te c (BoolP Φ)) : TJ q δ (tTest te) c Φ := fun σ H H1 n sg o Q k => h σ H H1 n sg o _ fun d v Hk H2 g o1 ⟨b, pb, e⟩ dv => by
  subst e
  exact ⟨b, dv.blOf, k b Hk H2 g o1 pb⟩
theorem tj_B {Φ : Bool → Prop} (h : J q δ te c (BoolP Φ)) : TJ q δ (tB te) c Φ := fun σ H H1 n sg o Q k => h σ H H1 n sg o _ fun d v Hk H2 g o1 ⟨b, pb, e⟩ dv => by
  subst e
  exact ⟨b, dv.blOf, k b Hk H2 g o1 pb⟩
theorem E.boolP {b : Bool} (h : E q δ te (.bool b)) : J q δ te 0 (BoolP (fun x => x = b)) := h.imp fun d e => ⟨b, rfl, e⟩
theorem tb_test {b : Bool} (h : E q δ te (.bool b)) : TB q δ (tTest te) b := tj_test h.boolP
theorem tb_B {b : Bool} (h : E q δ te (.bool b)) : TB q δ (tB te) b := tj_B h.boolP
theorem tb_and {a b : Bool} (h1 : TB q δ tt a) (h2 : a = true → TB q δ tu b) : TB q δ (tAnd tt tu) (a && b) := fun σ H H1 n sg o Q k => h1 σ H H1 n sg o _ fun x Hk H2 g o1 e => by
  subst e
  cases x with
  | true => exact iteT (h2 rfl σ Hk H2 n (sg.mono g.k) o1 _ fun b Hk' H3 g' o2 e => k _ Hk' H3 (g.trans g') o2 (by rw [e, Bool.true_and]))
  | false => exact iteF (k _ Hk H2 g o1 (by rw [Bool.false_and]))
theorem tb_or {a b : Bool} (h1 : TB q δ tt a) (h2 : a = false → TB q δ tu b) : TB q δ (tOr tt tu) (a || b) := fun σ H H1 n sg o Q k => h1 σ H H1 n sg o _ fun x Hk H2 g o1 e => by
  subst e
  cases x with
  | true => exact iteT (k _ Hk H2 g o1 (by rw [Bool.true_or]))
  | false => exact iteF (h2 rfl σ Hk H2 n (sg.mono g.k) o1 _ fun b Hk' H3 g' o2 e => k _ Hk' H3 (g.trans g') o2 (by rw [e, Bool.false_or]))
theorem tb_not {a : Bool} (h1 : TB q δ tt a) : TB q δ (tNot tt) (!a) := fun σ H H1 n sg o Q k => h1 σ H H1 n sg o _ fun x Hk H2 g o1 e => k _ Hk H2 g o1 (by rw [e])
theorem tb_yes : TB q δ tYes true := fun σ H H1 n sg o Q k => k true H H1 (Gr.refl o.a) o rfl
theorem e_andV {a b : Bool} (h1 : E q δ ta (.bool a)) (h2 : a = true → E q δ tb (.bool b)) : E q δ (tAndV ta tb) (.bool (a && b)) := fun σ H H1 n sg o Q k => h1 σ H H1 n sg o _ fun x v Hk H2 g o1 e dv => by
  subst e
  refine ⟨a, dv.blOf, ?_⟩
  cases a with
  | true => exact iteT (h2 rfl σ Hk H2 n (sg.mono g.k) o1 _ fun b Hv Hk' H3 g' o2 e dv' => k _ Hv Hk' H3 (g.trans g') o2 (by rw [e, Bool.true_and]) dv')
  | false => exact iteF (k (.bool false) _ Hk H2 g o1 (by rw [Bool.false_and]) (.bl false))
theorem e_notV {a : Bool} (h1 : E q δ ta (.bool a)) : E q δ (tNotV ta) (.bool (!a)) := fun σ H H1 n sg o Q k => h1 σ H H1 n sg o _ fun x v Hk H2 g o1 e dv => by
  subst e
  exact ⟨a, dv.blOf, k (.bool (!a)) _ Hk H2 g o1 rfl (.bl _)⟩
theorem e_if {b : Bool} (h : TB q δ tt b) (h1 : b = true → E q δ ta d) (h2 : b = false → E q δ tb d) : E q δ (tIf tt ta tb) d := fun σ H H1 n sg o Q k => h σ H H1 n sg o _ fun x Hk H2 g o1 e => by
  subst e
  cases x with
  | true => exact iteT (h1 rfl σ Hk H2 n (sg.mono g.k) o1 _ fun b Hv Hk' H3 g' o2 e dv' => k _ Hv Hk' H3 (g.trans g') o2 e dv')
  | false => exact iteF (h2 rfl σ Hk H2 n (sg.mono g.k) o1 _ fun b Hv Hk' H3 g' o2 e dv' => k _ Hv Hk' H3 (g.trans g') o2 e dv')
theorem j_if {P : Bool → Prop} (h : TJ q δ tt c P) (h1 : P true → J q δ ta c1 Φ) (h2 : P false → J q δ tb c1 Φ) : J q δ (tIf tt ta tb) (c1 + c) Φ := fun σ H H1 n sg o Q k => h σ H H1 (n + c1) sg (by rw [Nat.add_assoc]; exact o) _ fun x Hk H2 g o1 e => by
  cases x with
  | true => exact iteT (h1 e σ Hk H2 n (sg.mono g.k) o1 _ fun b Hv Hk' H3 g' o2 e dv' => k _ Hv Hk' H3 (g.trans g') o2 e dv')
  | false => exact iteF (h2 e σ Hk H2 n (sg.mono g.k) o1 _ fun b Hv Hk' H3 g' o2 e dv' => k _ Hv Hk' H3 (g.trans g') o2 e dv')

/-! arguments, displays -/
theorem ae_nil : AE q δ tNil [] := fun σ H H1 n sg o Q k => k [] [] H H1 (Gr.refl o.a) o rfl VS.nil
theorem aj_cons {tr : TA} {Φr Φ' : List Sl → Prop} (h : J q δ te c1 Φ1) (hr : AJ q δ tr c2 Φr) (hp : ∀ d sls, Φ1 d → Φr sls → Φ' (.dat d :: sls)) : AJ q δ (tCons te tr) (c2 + c1) Φ' := fun σ H H1 n sg o Q k =>
  h σ H H1 (n + c2) sg (by rw [Nat.add_assoc]; exact o) _ fun d v Hk H2 g o1 p dv => hr σ Hk H2 n (sg.mono g.k) o1 _ fun sls vs Hk' H3 g' o2 pr hv => k _ _ Hk' H3 (g.trans g') o2 (hp d sls p pr) (VS.cons (Dq.mono g'.k _ _ dv) hv)
theorem ae_cons {tr : TA} {sls : List Sl} (h : E q δ te d) (hr : AE q δ tr sls) : AE q δ (tCons te tr) (.dat d :: sls) := aj_cons h hr fun _ _ a b => by rw [a, b]
/-- an address handed on -/
theorem aj_adr {tr : TA} {Φr Φ' : List Sl → Prop} {i : Nat} {p : Addr} (e : δ[i]? = some (.adr p)) (hr : AJ q δ tr c2 Φr) (hp : ∀ sls, Φr sls → Φ' (.adr p :: sls)) : AJ q δ (tCons (tVar i) tr) c2 Φ' := fun σ H H1 n sg o Q k =>
  ⟨.ref p, sg.getA e, hr σ H H1 n sg o _ fun sls vs Hk' H3 g' o2 pr hv => k _ _ Hk' H3 g' o2 (hp sls pr) (VS.cons rfl hv)⟩
theorem ae_adr {tr : TA} {sls : List Sl} {i : Nat} {p : Addr} (e : δ[i]? = some (.adr p)) (hr : AE q δ tr sls) : AE q δ (tCons (tVar i) tr) (.adr p :: sls) := aj_adr e hr fun _ b => by rw [b]
theorem AE.to {ta : TA} {sls : List Sl} {Φ : List Sl → Prop} (h : AE q δ ta sls) (p : Φ sls) : AJ q δ ta 0 Φ := h.imp fun _ e => by rw [e]; exact p
theorem j_tup {ta : TA} {Ψ : List PyData → Prop} (h : AJ q δ ta c (fun sls => ∃ ds : List PyData, sls = ds.map Sl.dat ∧ ds.length ≤ 1000000 ∧ Ψ ds)) : J q δ (tTup ta) c (fun d => ∃ ds, Ψ ds ∧ d = .tuple ds) := fun σ H H1 n sg o Q k =>
  h σ H H1 n sg o _ fun sls vs Hk H2 g o1 ⟨ds, e, hl, p⟩ hv => by
    subst e
    have hd := hv.dats
    refine ⟨Nat.le_trans (by rw [hd.length]; exact hl) (by rw [sizeLine_eq]; decide), fun a ob od hn => ?_⟩
    have g1 := Gr.new (q := none) (o := .frz ob (.tup vs)) g.a hn
    exact k _ _ _ _ (g.trans g1.none_to) (o1.go g1) ⟨ds, p, rfl⟩ (.tup (Tp.new od) (DqAll.mono g1.k _ _ hd))
theorem j_lst {ta : TA} {Ψ : List PyData → Prop} (h : AJ q δ ta c (fun sls => ∃ ds : List PyData, sls = ds.map Sl.dat ∧ ds.length ≤ 1000000 ∧ Ψ ds)) : J q δ (tLst ta) c (fun d => ∃ ds, Ψ ds ∧ d = .list ds) := fun σ H H1 n sg o Q k =>
  h σ H H1 n sg o _ fun sls vs Hk H2 g o1 ⟨ds, e, hl, p⟩ hv => by
    subst e
    have hd := hv.dats
    refine ⟨Nat.le_trans (by rw [hd.length]; exact hl) (by rw [sizeLine_eq]; decide), fun a hn => ?_⟩
    have g1 := Gr.new (q := none) (o := .lst vs) g.a hn
    exact k _ _ _ _ (g.trans g1.none_to) (o1.go g1) ⟨ds, p, rfl⟩ (.lst upd_same (DqAll.mono g1.k _ _ hd))
theorem e_tup {ta : TA} {ds : List PyData} (h : AE q δ ta (ds.map Sl.dat)) (hl : ds.length ≤ 1000000 := by simp) : E q δ (tTup ta) (.tuple ds) := (j_tup (Ψ := fun x => x = ds) (h.to ⟨ds, rfl, hl, rfl⟩)).imp fun d ⟨x, a, b⟩ => by rw [b, a]
theorem e_lst {ta : TA} {ds : List PyData} (h : AE q δ ta (ds.map Sl.dat)) (hl : ds.length ≤ 1000000 := by simp) : E q δ (tLst ta) (.list ds) := (j_lst (Ψ := fun x => x = ds) (h.to ⟨ds, rfl, hl, rfl⟩)).imp fun d ⟨x, a, b⟩ => by rw [b, a]

/-! calls of defs -/
abbrev RelX := Option Addr → List Sl → Nat → (PyData → Prop) → Prop
def spX (R : RelX) : Sp := fun vs H Q _ => ∃ (q : Option Addr) (Hk : Hp) (sls : List Sl) (n c : Nat) (Φ : PyData → Prop), Ok q (n + c) Hk H ∧ VS Hk vs sls ∧ R q sls c Φ ∧
  ∀ d v Hk' H2, Gr q Hk H Hk' H2 → Ok q n Hk' H2 → Φ d → Dq Hk' v d → Q v H2
theorem j_call {R : RelX} {E : XK} {ta : TA} {Φa : List Sl → Prop} (ha : AJ q δ ta c1 Φa) (hr : ∀ sls, Φa sls → R q sls c Φ) : J q δ (tCall (spX R) [] E ta) (c + c1) Φ := fun σ H H1 n sg o Q k =>
  ha σ H H1 (n + c) sg (by rw [Nat.add_assoc]; exact o) _ fun sls vs Hk H2 g o1 p hv => by
    show spX R (vs ++ []) H2 Q E
    rw [List.append_nil]
    exact ⟨q, Hk, sls, n, c, Φ, o1, hv, hr sls p, fun d v Hk' H3 g' o2 pd dv => k d v Hk' H3 (g.trans g') o2 pd dv⟩
theorem j_callD {R : RelX} {E : XK} {ta : TA} {Φa : List Sl → Prop} (ha : AJ q δ ta c1 Φa) (hr : ∀ sls, Φa sls → ∃ Φ', R q sls c Φ' ∧ ∀ d, Φ' d → Φ d) : J q δ (tCall (spX R) [] E ta) (c + c1) Φ := fun σ H H1 n sg o Q k =>
  ha σ H H1 (n + c) sg (by rw [Nat.add_assoc]; exact o) _ fun sls vs Hk H2 g o1 p hv => by
    show spX R (vs ++ []) H2 Q E
    rw [List.append_nil]
    obtain ⟨Φ', r, i⟩ := hr sls p
    exact ⟨q, Hk, sls, n, c, Φ', o1, hv, r, fun d v Hk' H3 g' o2 pd dv => k d v Hk' H3 (g.trans g') o2 (i d pd) dv⟩
end
end Cr

set_option Elab.async false
set_option linter.all false
set_option maxRecDepth 100000
set_option maxHeartbeats 4000000
/-! ### rules that the layer lacks -/
namespace L2
open PySem PySem.Spec PyProof.Rows
section
variable {X : Cx}
def CPowW (i j : Int) : Prop := 0 ≤ j ∧ (Builtin.Int.intBits i : Int) * j ≤ 2 ^ 27
theorem op_powW : OpR X (binaryOp .Pow) (rI CPowW fun i j => .int (i ^ j.toNat)) := opI fun _ _ _ _ _ _ _ hc q => pow_int hc.1 hc.2 q
theorem pow_ok {i j : Int} {a : Nat} (ha : i.natAbs < 2 ^ a) (h0 : 0 < a) (hj : 0 ≤ j) (h : (a : Int) * j ≤ 2 ^ 27) : CPowW i j := by
  refine ⟨hj, ?_⟩
  have x := PySem.Flt.log2_lt_of h0 ha
  have b : (Builtin.Int.intBits i : Int) ≤ a := by
    unfold Builtin.Int.intBits
    split <;> omega
  exact Int.le_trans (Int.mul_le_mul_of_nonneg_right b hj) h
/-- f(k = v, ..) -/
theorem pe_callK0 {CX : CXT} {k : Nat} {f : Addr} {fd : FuncData} {ps ks : List Str} {sp : Sp} {E : XK} {x : Str} {p pos : Pos} {kws : List Keyword} {tk : TA} {g : List Value → List Value → List Value} {gV : List V → List V → List V}
    (F : FnOk X.prog X.w X.K X.mg X.base CX k f fd ps sp) (hr : Room k X.A) (hg : Gl X x) (hm : X.mg x = some (.ref f)) (hk : PySem.W.keepIn X.K (.ref f) = true) (hb : KBinds X.K fd ps ks g gV) (hx : Passes CX X E)
    (hkw : PK X kws tk) (hall : (backToKw pos (keywordEach kws X.env)).all (·.1.isSome) = true := by rfl) (hks : (backToKw pos (keywordEach kws X.env)).filterMap (·.1) = ks := by rfl)
    (hdb : (x == ("__debug__" : Str)) = false := by decide)
    (hpl : ((backTo pos (starEach [] X.env)).any (·.1) || (backToKw pos (keywordEach kws X.env)).any (·.1.isNone)) = false := by rfl) :
    PE X (.Call (.Name x p) [] kws pos) (tCallK sp gV E tNil tk) := by
  refine ⟨fun pins s σ H Q I h => ?_⟩
  refine wpAny_Call_Name_kw (ld_glob I hg hm ?_ hdb)
  refine PySem.W.callWith_KW0 (h₀ := X.base) I.ok.mod.kin hk hall (thn (hkw.run pos pins s σ H _ I h) fun ws s2 ⟨zs, H2, I2, rz, q2⟩ => ⟨I2.kIn, ?_⟩) hpl
  rw [hks]
  exact run_fnk F hr hb hx I2 .nil rz q2
end
end L2
namespace Cr
open PySem PySem.Spec PyProof.Rows L2
section
variable {X : Cx}
/-! tuples that are laid: known to have no dict of their own -/
def LaidT (H : Hp) (xs : List V) (Q : VK) : Prop := ∀ (p : Addr) (o : Obj), o.dict = none → H p = none → Q (.ref p) (upd H p (.frz o (.tup xs)))
theorem laidT {pins : List (Addr × Obj)} {σ : L2.St} {H : Hp} {s : Shared} {xs : List V} {us : List Value} {Q : VK} {k : Nat} (I : Inv X pins σ H s) (r : Vals xs us) (hz : xs.length ≤ sizeLine) (q : LaidT H xs Q) :
    EP X pins σ Q (.ref s.heap.objs.size) { s with heap := s.heap.push { cls := .type "tuple", data := .seq us.toArray k } } := by
  have eq : (s.heap.push { cls := .type "tuple", data := .seq us.toArray k }).get? s.heap.objs.size = some { cls := .type "tuple", data := .seq us.toArray k } := Heap.get?_push_size _ rfl
  refine ⟨.ref s.heap.objs.size, _, I.laid (t' := s.toks) (o := .frz { cls := .type "tuple", data := .seq us.toArray k } (.tup xs)) (fun b u e => Heap.get?_push_of_some _ e) (Nat.le_refl _) ?_, rfl, q _ _ rfl (I.hok.fresh (Nat.le_refl _))⟩
  exact ⟨eq, hz, us, r, _, eq, rfl, _, rfl⟩
def rCatA (K : PySem.W.Frag) : R2 := fun x y H Q => ∃ a b xs ys, x = .ref a ∧ y = .ref b ∧ SqT K H a xs ∧ SqT K H b ys ∧ xs.length + ys.length ≤ sizeLine ∧
  (xs = [] → Q (.ref b) H) ∧ (xs ≠ [] → ys = [] → Q (.ref a) H) ∧ (xs ≠ [] → ys ≠ [] → LaidT H (xs ++ ys) Q)
theorem op_catA : OpR X (binaryOp .Add) (rCatA X.K) := by
  intro pins s σ H x y v u Q I rx ry h
  obtain ⟨a, b, xs, ys, rfl, rfl, ha, hb, hz, q0, q1, q2⟩ := h
  cases rx
  cases ry
  obtain ⟨us, r1, p1, _⟩ := I.tuple ha
  obtain ⟨ws, r2, p2, _⟩ := I.tuple hb
  by_cases hx : xs = []
  · subst hx
    cases r1
    exact cat_tup0 p1 p2 ⟨.ref b, H, I, rfl, q0 rfl⟩
  · have le : us.length + ws.length ≤ sizeLine := by rw [← r1.length, ← r2.length]; exact hz
    refine HT.cat_tup p1 p2 (fun z => hx (r1.nil_iff.mp z)) (fun z => ⟨.ref a, H, I, rfl, q1 hx (r2.nil_iff.mp z)⟩) (fun z => ?_) le
    exact laidT I (r1.append r2) (by rw [List.length_append]; exact hz) (q2 hx fun w => z (r2.nil_iff.mpr w))
def rSlA (K : PySem.W.Frag) : V → Option Int → Option Int → Hp → VK → Prop := fun x lo hi H Q => ∃ a xs, x = .ref a ∧ SqT K H a xs ∧
  (HT.sIx xs.length 0 lo = 0 ∧ HT.sIx xs.length xs.length hi = xs.length → Q (.ref a) H) ∧ (¬ (HT.sIx xs.length 0 lo = 0 ∧ HT.sIx xs.length xs.length hi = xs.length) → LaidT H (cutV xs lo hi) Q)
theorem sl_tupA : SlR X (rSlA X.K) := by
  intro pins s σ H x v vl vu lo hi sl Q I rx hs pl pu h
  obtain ⟨a, xs, rfl, hx, q1, q2⟩ := h
  cases rx
  obtain ⟨us, r, ht, hz⟩ := I.tuple hx
  have le : us.toArray.size = xs.length := by rw [List.size_toArray]; exact r.length.symm
  refine ⟨"tuple", _, PyProof.Rows.slot_tuple_getitem.lookup, ht.typeIs, ?_⟩
  by_cases hw : HT.sIx xs.length 0 lo = 0 ∧ HT.sIx xs.length xs.length hi = xs.length
  · exact getItem_tuple_whole ht hs pl pu (by rw [le]; exact hw) ⟨.ref a, H, I, rfl, q1 hw⟩
  · refine HT.getItem_tuple_cut ht hs pl pu (by rw [le]; exact hw) ?_ (by rw [le]; exact hz)
    rw [le]
    exact laidT I ((r.drop (HT.sIx xs.length 0 lo)).take (HT.sIx xs.length xs.length hi - HT.sIx xs.length 0 lo)) (Nat.le_trans (cutV_length xs lo hi) hz) (q2 hw)
/-- tuple(xs) -/
def rTupQ (K : PySem.W.Frag) : List V → Hp → VK → Prop := fun xs H Q => ∃ p ys, xs = [.ref p] ∧ ((SqL K H p ys ∧ LaidT H ys Q) ∨ (SqT K H p ys ∧ Q (.ref p) H))
theorem call_tupQ : CallR X (.type "tuple") (rTupQ X.K) := by
  intro pins s σ H xs us Q I r h
  obtain ⟨p, ys, rfl, h⟩ := h
  obtain ⟨u, rfl, rx⟩ := vals1 r
  cases rx
  rcases h with ⟨hq, q⟩ | ⟨hq, q⟩
  · obtain ⟨ws, r', pl, hz⟩ := I.list hq
    have le := r'.length
    refine call_tuple_list pl.isList (fun h' kp => ?_) (by simp only [List.size_toArray] <;> omega)
    have I1 : Inv X pins σ H { s with heap := h' } := I.kept (t' := s.toks) kp
    exact laidT I1 r' hz q
  · obtain ⟨ws, r', pl, hz⟩ := I.tuple hq
    exact call_tuple_same pl ⟨.ref p, H, I, rfl, q⟩
end
end Cr
namespace L2
open PySem PySem.Spec PyProof.Rows
section
variable {X : Cx}
/-- + of ints, lists, tuples -/
def rAddU (K : PySem.W.Frag) : R2 := fun x y H Q => rI0 (fun i j => .int (i + j)) x y H Q ∨ rCat x y H Q ∨ Cr.rCatA K x y H Q
theorem op_addU : OpR X (binaryOp .Add) (rAddU X.K) := by
  intro pins s σ H x y v u Q I rx ry h
  rcases h with h | h | h
  · exact op_add pins s σ H x y v u Q I rx ry h
  · exact op_cat pins s σ H x y v u Q I rx ry h
  · exact Cr.op_catA pins s σ H x y v u Q I rx ry h
/-- * of ints (great ones), a list times an int -/
def rMulU : R2 := fun x y H Q => rI CMulW (fun i j => .int (i * j)) x y H Q ∨ rRep x y H Q
theorem op_mulU : OpR X (binaryOp .Mult) rMulU := by
  intro pins s σ H x y v u Q I rx ry h
  rcases h with h | h
  · exact op_mulW pins s σ H x y v u Q I rx ry h
  · exact op_rep pins s σ H x y v u Q I rx ry h
/-- slices of lists and tuples -/
def rSlU (K : PySem.W.Frag) : V → Option Int → Option Int → Hp → VK → Prop := fun x lo hi H Q => rSlL K x lo hi H Q ∨ Cr.rSlA K x lo hi H Q
theorem sl_U : SlR X (rSlU X.K) := by
  intro pins s σ H x v vl vu lo hi sl Q I rx hs pl pu h
  rcases h with h | h
  · exact sl_list pins s σ H x v vl vu lo hi sl Q I rx hs pl pu h
  · exact Cr.sl_tupA pins s σ H x v vl vu lo hi sl Q I rx hs pl pu h
/-- isinstance, both kinds -/
def rIsiU (K : PySem.W.Frag) : List V → Hp → VK → Prop := fun xs H Q => rIsi K xs H Q ∨ rIsiT K xs H Q
theorem call_isiU : CallR X (.builtin "isinstance") (rIsiU X.K) := by
  intro pins s σ H xs us Q I r h
  rcases h with h | h
  · exact call_isi pins s σ H xs us Q I r h
  · exact call_isiT pins s σ H xs us Q I r h
/-- sorted(d), the keys ints, any number of them; sorted(xs) of ints -/
def rSrtDI : List V → Hp → VK → Prop := fun xs H Q => ∃ (a : Addr) (kvs : List (Key × V)) (ks : List Int), xs = [.ref a] ∧ Rd H a (.dK kvs) ∧ kvs.map (·.1) = ks.map Sum.inl ∧
    ∀ (ys : List Int) (p : Addr), ys.Perm ks → ys.Pairwise (· ≤ ·) → H p = none → Q (.ref p) (upd H p (.lst (ys.map V.int)))
/-- the keys that the dict hands out, as ints -/
theorem srt_keys {ks : List Int} {kvs : List (Key × Value)} {out : Array Value} (hk : kvs.map Prod.fst = ks.map Sum.inl) (hn : out.size = kvs.length)
    (hg : ∀ (j : Nat) (v : Value), out[j]? = some v → ∃ (k : Key) (x : Value), kvs[j]? = some (k, x) ∧ keyIs k v = true) : IntsAre out.toList ks := by
  have n1 : kvs.length = ks.length := by simpa using congrArg List.length hk
  refine ints_each (by simp [hn, n1]) ?_
  intro j v hv
  obtain ⟨k, x, h1, h2⟩ := hg j v (by simpa using hv)
  have h3 : (ks.map Sum.inl : List Key)[j]? = some k := by rw [← hk]; simp [h1]
  rw [List.getElem?_map] at h3
  obtain ⟨y, h4, rfl⟩ := Option.map_eq_some_iff.mp h3
  obtain ⟨t, rfl⟩ := Value.isInt_shape (show Value.isInt y v = true from h2)
  exact ⟨y, t, h4, rfl⟩
set_option maxHeartbeats 8000000 in
theorem call_sortedDIa (hcalm : X.calm = true) : CallR X (.builtin "sorted") rSrtDI := by
  rintro pins s σ H _ us Q I r ⟨a, kvs, ks, rfl, hd, hks, q⟩
  obtain ⟨_, rfl, ⟨⟩⟩ := vals1 r
  obtain ⟨z, lo, vs, rel, ⟨ep, hat⟩⟩ : kvs.length ≤ sizeLine ∧ (a == sysModules) = false ∧ ∃ vs, KV kvs vs ∧ ∃ ep, s.heap.DictAt (mixKind X.prog X.w) a vs ep :=
    let ⟨z, lo, vs, rel, dd⟩ := dk_rd I.hok hd; ⟨z, lo, vs, rel, dd.dictAt⟩
  have hm : vs.map Prod.fst = ks.map Sum.inl := Eq.trans (Eq.symm rel.keys) hks
  have hn : vs.length = ks.length := by simpa using congrArg List.length hm
  have hsz : vs.length ≤ sizeLine := by have e := Paired.length rel; omega
  refine Calls.call_function_entry kind_sorted plain_sorted entry_sorted (args_sorted1 _) (show wpAny _ _ (Builtin.«sorted» _) _ _ _ from ?_)
  rw [Builtin.«sorted»]
  refine wpAny_bind (wpAny_pure (wpAny_bind (PySem.W.kdu_collect (PySem.W.kdl_dict lo) (I.ok.hd hcalm) hat hsz ?_)))
  rintro h1 t1 out keep ⟨g1, g2⟩
  have hI : IntsAre out.toList ks := srt_keys hm g1 fun j v e => let ⟨k, x, p1, p2⟩ := g2 j v e; ⟨k, x, p1, p2⟩
  have ho : out.toList.length ≤ sizeLine := by simp [g1]; exact hsz
  have J1 : Inv X pins σ H { s with heap := h1, toks := t1 } := I.kept keep
  have new : (h1.push (seqObj "list" out.toList.toArray 0)).get? h1.objs.size = some (seqObj "list" out.toList.toArray 0) := Heap.get?_push_size _ rfl
  refine wpAny_bind (wpAny_newList (show wpAny _ _ _ _ _ { s with heap := h1.push (seqObj "list" out.toList.toArray 0), toks := t1 } from ?_) ho)
  refine wpAny_bind (wpAny_holding (wpAny_call_entry slot_list_sort ⟨_, new, rfl⟩ entry_list_sort ?_ (args_list_sort _)))
  refine SrtO.list_sort_ord SrtO.swo_int new ho (fun h => SrtO.ints_sortable hI h) fun o2 a1 a2 => ⟨_, rfl, ?_⟩
  obtain ⟨b1, b2, b3⟩ := SrtO.ints_out hI a1 a2
  obtain ⟨e2, he2⟩ := sortedHeap_at (out := o2.toArray) new
  have hl : ((o2.map SrtO.iv).map V.int).length ≤ sizeLine := by rw [List.length_map, b2.length_eq]; omega
  have laid : ObjOk X.prog X.w (upd H h1.objs.size (.lst ((o2.map SrtO.iv).map V.int))) (sortedHeap (h1.push (seqObj "list" out.toList.toArray 0)) h1.objs.size out.toList o2.toArray) h1.objs.size (.lst ((o2.map SrtO.iv).map V.int)) :=
    ⟨hl, o2, e2, vals_of_ints b1, he2⟩
  refine wpAny_pure ⟨_, rfl, .ref h1.objs.size, _, J1.laid (t' := t1) ?_ (Nat.le_refl _) laid, rfl, q _ _ b2 b3 (J1.hok.fresh (Nat.le_refl _))⟩
  intro b u hb
  have lt : b < h1.objs.size := Heap.lt_size hb
  exact (sortedHeap_old (Nat.ne_of_lt lt) (Nat.lt_trans lt (by rw [size_push']; exact Nat.lt_succ_self _))).trans (Heap.get?_push_of_some _ hb)
end
end L2

set_option Elab.async false
set_option linter.all false
set_option maxRecDepth 100000
set_option maxHeartbeats 4000000
namespace Cr
open PySem PySem.Spec PyProof.Rows L2

section
variable {K : PySem.W.Frag} {q : Option Addr} {δ δ' : List Sl} {te ta tb tc : TE} {tt tu : TT} {c c1 c2 c3 : Nat} {Φ Φ1 Φ2 Φ3 : PyData → Prop} {d d1 d2 : PyData}

/-! ### the wide operators -/
theorem RJ.to {r r' : R2} {a b : PyData} (h : RJ r a b Φ) (e : ∀ x y H Q, r x y H Q → r' x y H Q) : RJ r' a b Φ := fun x y H H1 hx hy s Q k => e _ _ _ _ (h x y H H1 hx hy s Q k)
theorem rj_addI {i j : Int} (hp : Φ (.int (i + j))) : RJ (rAddU K) (.int i) (.int j) Φ := (rj_I0 (g := fun i j => .int (i + j)) rfl hp).to fun _ _ _ _ h => .inl h
theorem e_addI {i j : Int} (ha : E q δ ta (.int i)) (hb : E q δ tb (.int j)) : E q δ (tOp (rAddU K) ta tb) (.int (i + j)) := e_op ha hb (rj_addI rfl)
theorem j_addI {P1 P2 : Int → Prop} (ha : J q δ ta c1 (IntP P1)) (hb : J q δ tb c2 (IntP P2)) (hp : ∀ i j, P1 i → P2 j → Φ (.int (i + j))) : J q δ (tOp (rAddU K) ta tb) (c2 + c1) Φ :=
  j_op ha hb fun a b ⟨i, pi, ea⟩ ⟨j, pj, eb⟩ => by subst ea; subst eb; exact rj_addI (hp i j pi pj)
theorem e_catL {ds es : List PyData} (ha : E q δ ta (.list ds)) (hb : E q δ tb (.list es)) (hl : ds.length + es.length ≤ 1000000) : E q δ (tOp (rAddU K) ta tb) (.list (ds ++ es)) := e_op ha hb (RJ.to (rj_cat (Φ := fun x => x = .list (ds ++ es)) hl rfl) fun _ _ _ _ h => .inr (.inl h))
theorem rj_catT {ds es : List PyData} (hl : ds.length + es.length ≤ 1000000) (hp : Φ (.tuple (ds ++ es))) : RJ (rCatA K) (.tuple ds) (.tuple es) Φ := fun x y H H1 hx hy e1 Q k => by
  obtain ⟨a, xs, rfl, h1, h2⟩ := hx.tupOf
  obtain ⟨b, ys, rfl, g1, g2⟩ := hy.tupOf
  refine ⟨a, b, xs, ys, rfl, rfl, .inl (h1.mono e1).rd, .inl (g1.mono e1).rd, Nat.le_trans (by rw [h2.length, g2.length]; exact hl) (by rw [sizeLine_eq]; decide), fun e => ?_, fun _ e => ?_, fun _ _ p ob od hn => ?_⟩
  · subst e
    have e2 : ds = [] := List.length_eq_zero_iff.mp h2.length.symm
    subst e2
    exact k _ _ H H1 (Gr.refl e1) hp hy
  · subst e
    have e2 : es = [] := List.length_eq_zero_iff.mp g2.length.symm
    subst e2
    rw [List.append_nil] at hp
    exact k _ _ H H1 (Gr.refl e1) hp hx
  · have g := Gr.new (q := none) (o := .frz ob (.tup (xs ++ ys))) e1 hn
    exact k _ _ _ _ g hp (.tup (Tp.new od) (DqAll.mono g.k _ _ (h2.append g2)))
theorem e_catT {ds es : List PyData} (ha : E q δ ta (.tuple ds)) (hb : E q δ tb (.tuple es)) (hl : ds.length + es.length ≤ 1000000) : E q δ (tOp (rAddU K) ta tb) (.tuple (ds ++ es)) := e_op ha hb (RJ.to (rj_catT (Φ := fun x => x = .tuple (ds ++ es)) hl rfl) fun _ _ _ _ h => .inr (.inr h))
theorem rj_mulI {i j : Int} (hc : CMulW i j) (hp : Φ (.int (i * j))) : RJ rMulU (.int i) (.int j) Φ := (rj_I (g := fun i j => .int (i * j)) hc rfl hp).to fun _ _ _ _ h => .inl h
theorem e_mulI {i j : Int} (ha : E q δ ta (.int i)) (hb : E q δ tb (.int j)) (hc : CMulW i j) : E q δ (tOp rMulU ta tb) (.int (i * j)) := e_op ha hb (rj_mulI hc rfl)
theorem j_mulI {P1 P2 : Int → Prop} (ha : J q δ ta c1 (IntP P1)) (hb : J q δ tb c2 (IntP P2)) (hc : ∀ i j, P1 i → P2 j → CMulW i j) (hp : ∀ i j, P1 i → P2 j → Φ (.int (i * j))) : J q δ (tOp rMulU ta tb) (c2 + c1) Φ :=
  j_op ha hb fun a b ⟨i, pi, ea⟩ ⟨j, pj, eb⟩ => by subst ea; subst eb; exact rj_mulI (hc i j pi pj) (hp i j pi pj)
theorem rj_rep {ds : List PyData} {n : Int} (h0 : -(2 ^ 63) ≤ n) (h1 : n < 2 ^ 63) (hl : ds.length * n.toNat ≤ 1000000) (hp : Φ (.list (List.replicate n.toNat ds).flatten)) : RJ rRep (.list ds) (.int n) Φ := fun x y H H1 hx hy e1 Q k => by
  obtain ⟨a, xs, rfl, h2, h3⟩ := hx.lstOf
  rw [hy.intOf]
  refine ⟨a, n, xs, rfl, rfl, e1 _ _ h2, h0, h1, Nat.le_trans (by rw [h3.length]; exact hl) (by rw [sizeLine_eq]; decide), fun p hn => ?_⟩
  have hall : ∀ m : Nat, DqAll H (List.replicate m xs).flatten (List.replicate m ds).flatten := fun m => by
    induction m with
    | zero => exact .nil
    | succ m ih => rw [List.replicate_succ, List.replicate_succ, List.flatten_cons, List.flatten_cons]; exact h3.append ih
  have g := Gr.new (q := none) (o := .lst (List.replicate n.toNat xs).flatten) e1 hn
  exact k _ _ _ _ g hp (.lst upd_same (DqAll.mono g.k _ _ (hall _)))
theorem e_rep {ds : List PyData} {n : Int} (ha : E q δ ta (.list ds)) (hb : E q δ tb (.int n)) (h0 : -(2 ^ 63) ≤ n) (h1 : n < 2 ^ 63) (hl : ds.length * n.toNat ≤ 1000000) : E q δ (tOp rMulU ta tb) (.list (List.replicate n.toNat ds).flatten) :=
  e_op ha hb (RJ.to (rj_rep (Φ := fun x => x = .list (List.replicate n.toNat ds).flatten) h0 h1 hl rfl) fun _ _ _ _ h => .inr h)
theorem e_subI {i j : Int} (ha : E q δ ta (.int i)) (hb : E q δ tb (.int j)) : E q δ (tOp (rI0 fun i j => .int (i - j)) ta tb) (.int (i - j)) := e_I0 ha hb
theorem j_subI {P1 P2 : Int → Prop} (ha : J q δ ta c1 (IntP P1)) (hb : J q δ tb c2 (IntP P2)) (hp : ∀ i j, P1 i → P2 j → Φ (.int (i - j))) : J q δ (tOp (rI0 fun i j => .int (i - j)) ta tb) (c2 + c1) Φ := j_I0 ha hb hp
theorem e_ltI {i j : Int} (ha : E q δ ta (.int i)) (hb : E q δ tb (.int j)) : E q δ (tOp (rI0 fun i j => .bl (decide (i < j))) ta tb) (.bool (decide (i < j))) := e_I0 ha hb
theorem e_leI {i j : Int} (ha : E q δ ta (.int i)) (hb : E q δ tb (.int j)) : E q δ (tOp (rI0 fun i j => .bl (decide (i ≤ j))) ta tb) (.bool (decide (i ≤ j))) := e_I0 ha hb
theorem e_gtI {i j : Int} (ha : E q δ ta (.int i)) (hb : E q δ tb (.int j)) : E q δ (tOp (rI0 fun i j => .bl (decide (j < i))) ta tb) (.bool (decide (j < i))) := e_I0 ha hb
theorem e_geI {i j : Int} (ha : E q δ ta (.int i)) (hb : E q δ tb (.int j)) : E q δ (tOp (rI0 fun i j => .bl (decide (j ≤ i))) ta tb) (.bool (decide (j ≤ i))) := e_I0 ha hb
theorem e_mod {i j : Int} (ha : E q δ ta (.int i)) (hb : E q δ tb (.int j)) (hc : j ≠ 0) : E q δ (tOp (rI (fun _ j => j ≠ 0) fun i j => .int (i.fmod j)) ta tb) (.int (i.fmod j)) := e_I ha hb hc
theorem e_fdiv {i j : Int} (ha : E q δ ta (.int i)) (hb : E q δ tb (.int j)) (hc : CDivW i j) : E q δ (tOp (rI CDivW fun i j => .int (i / j)) ta tb) (.int (i / j)) := e_I ha hb hc
theorem e_pow {i j : Int} (ha : E q δ ta (.int i)) (hb : E q δ tb (.int j)) (hc : CPowW i j) : E q δ (tOp (rI CPowW fun i j => .int (i ^ j.toNat)) ta tb) (.int (i ^ j.toNat)) := e_I ha hb hc
theorem e_eqDI {i j : Int} (ha : E q δ ta (.int i)) (hb : E q δ tb (.int j)) : E q δ (tOp (rEqD K) ta tb) (.bool (i == j)) := e_eqD ha hb rfl rfl
theorem e_neDI {i j : Int} (ha : E q δ ta (.int i)) (hb : E q δ tb (.int j)) : E q δ (tOp (rNeD K) ta tb) (.bool (!(i == j))) := e_neD ha hb rfl rfl
theorem rj_eqD (s1 : SeqAt.shaped d1 = true) (s2 : SeqAt.shaped d2 = true) (hp : Φ (.bool (PyData.eqv d1 d2))) : RJ (rEqD K) d1 d2 Φ := fun x y H H1 hx hy e Q k =>
  ⟨d1, d2, Dq.dp K _ _ (no_dict s1) (Dq.mono e _ _ hx), Dq.dp K _ _ (no_dict s2) (Dq.mono e _ _ hy), s1, s2, k _ _ H H1 (Gr.refl e) hp (.bl _)⟩
theorem j_eqDI {P1 P2 : Int → Prop} (ha : J q δ ta c1 (IntP P1)) (hb : J q δ tb c2 (IntP P2)) (hp : ∀ i j, P1 i → P2 j → Φ (.bool (i == j))) : J q δ (tOp (rEqD K) ta tb) (c2 + c1) Φ :=
  j_op ha hb fun a b ⟨i, pi, ea⟩ ⟨j, pj, eb⟩ => by subst ea; subst eb; exact rj_eqD rfl rfl (hp i j pi pj)
/-- subscripts -/
theorem e_iT {ds : List PyData} {i : Int} (ha : E q δ ta (.tuple ds)) (hb : E q δ tb (.int i)) (e : atI ds i = some d) : E q δ (tOp (rIx K) ta tb) d := e_op ha hb (RJ.to (rj_ixT (Φ := fun x => x = d) e rfl) fun _ _ _ _ h => .inr (.inl h))
theorem e_iL {ds : List PyData} {i : Int} (ha : E q δ ta (.list ds)) (hb : E q δ tb (.int i)) (e : atI ds i = some d) : E q δ (tOp (rIx K) ta tb) d := e_op ha hb (RJ.to (rj_ixL (Φ := fun x => x = d) e rfl) fun _ _ _ _ h => .inl h)
theorem j_iL {P : Int → Prop} {Ψ : List PyData → Prop} (ha : J q δ ta c1 (fun d => ∃ ds, Ψ ds ∧ d = .list ds)) (hb : J q δ tb c2 (IntP P)) (e : ∀ ds i, Ψ ds → P i → ∃ d, atI ds i = some d ∧ Φ d) : J q δ (tOp (rIx K) ta tb) (c2 + c1) Φ :=
  j_op ha hb fun a b ⟨ds, pi, ea⟩ ⟨j, pj, eb⟩ => by
    subst ea; subst eb
    obtain ⟨d, h1, h2⟩ := e ds j pi pj
    exact (rj_ixL h1 h2).to fun _ _ _ _ h => .inl h
/-! ### built-in calls -/
def RCJ (r : List V → Hp → VK → Prop) (ds : List PyData) (Φ : PyData → Prop) : Prop := ∀ (vs : List V) (H H1 : Hp), DqAll H vs ds → Same H H1 → ∀ Q : VK, (∀ d v Hk H2, Gr none H H1 Hk H2 → Φ d → Dq Hk v d → Q v H2) → r vs H1 Q
theorem j_cb {r : List V → Hp → VK → Prop} {ta : TA} {Ψ : List PyData → Prop} (h : AJ q δ ta c (fun sls => ∃ ds : List PyData, sls = ds.map Sl.dat ∧ Ψ ds)) (hr : ∀ ds, Ψ ds → RCJ r ds Φ) : J q δ (tCB r ta) c Φ := fun σ H H1 n sg o Q k =>
  h σ H H1 n sg o _ fun sls vs Hk H2 g o1 ⟨ds, e, p⟩ hv => by
    subst e
    exact hr ds p vs Hk H2 hv.dats g.a Q fun d v Hk' H3 g' pd dv => k d v Hk' H3 (g.trans g'.none_to) (o1.go g') pd dv
theorem e_cb {r : List V → Hp → VK → Prop} {ta : TA} {ds : List PyData} (h : AE q δ ta (ds.map Sl.dat)) (hr : RCJ r ds (fun x => x = d)) : E q δ (tCB r ta) d := j_cb (Ψ := fun x => x = ds) (h.to ⟨ds, rfl, rfl⟩) fun _ e => by rw [e]; exact hr
theorem j_cb1 {r : List V → Hp → VK → Prop} {te : TE} {Ψ : PyData → Prop} (h : J q δ te c Ψ) (hr : ∀ d, Ψ d → RCJ r [d] Φ) : J q δ (tCB r (tCons te tNil)) c Φ :=
  (j_cb (Ψ := fun ds => ∃ d, Ψ d ∧ ds = [d]) ((aj_cons h ae_nil fun d sls p e => ⟨[d], by rw [e]; rfl, d, p, rfl⟩)) fun ds ⟨d, p, e⟩ => by rw [e]; exact hr d p).cost (by omega)
theorem e_cb1 {r : List V → Hp → VK → Prop} {te : TE} (h : E q δ te d1) (hr : RCJ r [d1] (fun x => x = d)) : E q δ (tCB r (tCons te tNil)) d := e_cb (ds := [d1]) (ae_cons h ae_nil) hr
theorem DqAll.one {H : Hp} {vs : List V} {d : PyData} (h : DqAll H vs [d]) : ∃ v, vs = [v] ∧ Dq H v d := by
  cases h with
  | cons h1 h2 => cases h2; exact ⟨_, rfl, h1⟩
theorem DqAll.two {H : Hp} {vs : List V} {d e : PyData} (h : DqAll H vs [d, e]) : ∃ v w, vs = [v, w] ∧ Dq H v d ∧ Dq H w e := by
  cases h with
  | cons h1 h2 =>
    obtain ⟨w, rfl, h3⟩ := h2.one
    exact ⟨_, w, rfl, h1, h3⟩
/-- len -/
def rLenQ (K : PySem.W.Frag) : List V → Hp → VK → Prop := fun xs H Q => ∃ p ys, xs = [.ref p] ∧ (SqL K H p ys ∨ SqT K H p ys) ∧ Q (.int ys.length) H
theorem call_lenQ {X : Cx} : CallR X (.builtin "len") (rLenQ X.K) := call_len_seq
theorem rc_lenL {ds : List PyData} (hp : Φ (.int ds.length)) : RCJ (rLenQ K) [.list ds] Φ := fun vs H H1 h e Q k => by
  obtain ⟨v, rfl, h1⟩ := h.one
  obtain ⟨a, xs, rfl, h2, h3⟩ := h1.lstOf
  refine ⟨a, xs, rfl, .inl (.inl (.inl (e _ _ h2))), ?_⟩
  rw [h3.length]
  exact k _ _ H H1 (Gr.refl e) hp (.int _)
theorem rc_lenT {ds : List PyData} (hp : Φ (.int ds.length)) : RCJ (rLenQ K) [.tuple ds] Φ := fun vs H H1 h e Q k => by
  obtain ⟨v, rfl, h1⟩ := h.one
  obtain ⟨a, xs, rfl, h2, h3⟩ := h1.tupOf
  refine ⟨a, xs, rfl, .inr (.inl (h2.mono e).rd), ?_⟩
  rw [h3.length]
  exact k _ _ H H1 (Gr.refl e) hp (.int _)
theorem e_lenL {ds : List PyData} (h : E q δ te (.list ds)) : E q δ (tCB (rLenQ K) (tCons te tNil)) (.int ds.length) := e_cb1 h (rc_lenL rfl)
theorem e_lenT {ds : List PyData} (h : E q δ te (.tuple ds)) : E q δ (tCB (rLenQ K) (tCons te tNil)) (.int ds.length) := e_cb1 h (rc_lenT rfl)
/-- sum, all of lists -/
theorem rc_sum {ns : List Int} (hp : Φ (.int ns.sum)) : RCJ (rSum K) [.list (ns.map .int)] Φ := fun vs H H1 h e Q k => by
  obtain ⟨v, rfl, h1⟩ := h.one
  obtain ⟨a, xs, rfl, h2, h3⟩ := h1.lstOf
  have e2 := DqAll.ints h3
  subst e2
  exact ⟨a, ns, rfl, .inl (.inl (e _ _ h2)), k _ _ H H1 (Gr.refl e) hp (.int _)⟩
theorem e_sum {ns : List Int} (h : E q δ te (.list (ns.map .int))) : E q δ (tCB (rSum K) (tCons te tNil)) (.int ns.sum) := e_cb1 h (rc_sum rfl)
theorem rc_all {bs : List Bool} (hp : Φ (.bool (bs.all id))) : RCJ (rAll K) [.list (bs.map .bool)] Φ := fun vs H H1 h e Q k => by
  obtain ⟨v, rfl, h1⟩ := h.one
  obtain ⟨a, xs, rfl, h2, h3⟩ := h1.lstOf
  have e2 := DqAll.bls h3
  subst e2
  exact ⟨a, bs, rfl, .inl (.inl (e _ _ h2)), k _ _ H H1 (Gr.refl e) hp (.bl _)⟩
theorem e_all {bs : List Bool} (h : E q δ te (.list (bs.map .bool))) : E q δ (tCB (rAll K) (tCons te tNil)) (.bool (bs.all id)) := e_cb1 h (rc_all rfl)
/-- abs, max, min, int -/
def rAbsQ : List V → Hp → VK → Prop := fun xs H Q => ∃ i, xs = [.int i] ∧ Q (.int (if i < 0 then -i else i)) H
theorem call_absQ {X : Cx} : CallR X (.builtin "abs") rAbsQ := call_abs
def rMaxQ : List V → Hp → VK → Prop := fun xs H Q => ∃ i j, xs = [.int i, .int j] ∧ Q (.int (if j > i then j else i)) H
theorem call_maxQ {X : Cx} (hc : X.calm = true) : CallR X (.builtin "max") rMaxQ := call_max2 hc
def rMinQ : List V → Hp → VK → Prop := fun xs H Q => ∃ i j, xs = [.int i, .int j] ∧ Q (.int (if j < i then j else i)) H
theorem call_minQ {X : Cx} (hc : X.calm = true) : CallR X (.builtin "min") rMinQ := call_min2 hc
def rIntQ : List V → Hp → VK → Prop := fun xs H Q => (∃ i, xs = [.int i] ∧ Q (.int i) H) ∨ ∃ k, xs = [.bl k] ∧ Q (.int (if k then 1 else 0)) H
theorem call_intQ {X : Cx} : CallR X (.type "int") rIntQ := call_int1
theorem rc_abs {i : Int} (hp : Φ (.int (if i < 0 then -i else i))) : RCJ rAbsQ [.int i] Φ := fun vs H H1 h e Q k => by
  obtain ⟨v, rfl, h1⟩ := h.one
  rw [h1.intOf]
  exact ⟨i, rfl, k _ _ H H1 (Gr.refl e) hp (.int _)⟩
theorem e_abs {i : Int} (h : E q δ te (.int i)) : E q δ (tCB rAbsQ (tCons te tNil)) (.int (if i < 0 then -i else i)) := e_cb1 h (rc_abs rfl)
theorem rc_int {i : Int} (hp : Φ (.int i)) : RCJ rIntQ [.int i] Φ := fun vs H H1 h e Q k => by
  obtain ⟨v, rfl, h1⟩ := h.one
  rw [h1.intOf]
  exact .inl ⟨i, rfl, k _ _ H H1 (Gr.refl e) hp (.int _)⟩
theorem e_intI {i : Int} (h : E q δ te (.int i)) : E q δ (tCB rIntQ (tCons te tNil)) (.int i) := e_cb1 h (rc_int rfl)
theorem e_max {i j : Int} (h : E q δ ta (.int i)) (h2 : E q δ tb (.int j)) : E q δ (tCB rMaxQ (tCons ta (tCons tb tNil))) (.int (if j > i then j else i)) := e_cb (ds := [.int i, .int j]) (ae_cons h (ae_cons h2 ae_nil)) fun vs H H1 h e Q k => by
  obtain ⟨v, w, rfl, h1, h2⟩ := h.two
  rw [h1.intOf, h2.intOf]
  exact ⟨i, j, rfl, k _ _ H H1 (Gr.refl e) rfl (.int _)⟩
theorem e_min {i j : Int} (h : E q δ ta (.int i)) (h2 : E q δ tb (.int j)) : E q δ (tCB rMinQ (tCons ta (tCons tb tNil))) (.int (if j < i then j else i)) := e_cb (ds := [.int i, .int j]) (ae_cons h (ae_cons h2 ae_nil)) fun vs H H1 h e Q k => by
  obtain ⟨v, w, rfl, h1, h2⟩ := h.two
  rw [h1.intOf, h2.intOf]
  exact ⟨i, j, rfl, k _ _ H H1 (Gr.refl e) rfl (.int _)⟩
/-- tuple(xs), list(xs) -/
def rLstQ (K : PySem.W.Frag) : List V → Hp → VK → Prop := fun xs H Q => ∃ p ys, xs = [.ref p] ∧ (SqL K H p ys ∨ SqT K H p ys) ∧ ∀ l, H l = none → Q (.ref l) (upd H l (.lst ys))
theorem call_lstQ {X : Cx} : CallR X (.type "list") (rLstQ X.K) := call_list_of
theorem rc_tupL {ds : List PyData} (hp : Φ (.tuple ds)) : RCJ (rTupQ K) [.list ds] Φ := fun vs H H1 h e Q k => by
  obtain ⟨v, rfl, h1⟩ := h.one
  obtain ⟨a, xs, rfl, h2, h3⟩ := h1.lstOf
  refine ⟨a, xs, rfl, .inl ⟨.inl (.inl (e _ _ h2)), fun l ob od hn => ?_⟩⟩
  have g := Gr.new (q := none) (o := .frz ob (.tup xs)) e hn
  exact k _ _ _ _ g hp (.tup (Tp.new od) (DqAll.mono g.k _ _ h3))
theorem e_tupL {ds : List PyData} (h : E q δ te (.list ds)) : E q δ (tCB (rTupQ K) (tCons te tNil)) (.tuple ds) := e_cb1 h (rc_tupL rfl)
theorem rc_lstT {ds : List PyData} (hp : Φ (.list ds)) : RCJ (rLstQ K) [.tuple ds] Φ := fun vs H H1 h e Q k => by
  obtain ⟨v, rfl, h1⟩ := h.one
  obtain ⟨a, xs, rfl, h2, h3⟩ := h1.tupOf
  refine ⟨a, xs, rfl, .inr (.inl (h2.mono e).rd), fun l hn => ?_⟩
  have g := Gr.new (q := none) (o := .lst xs) e hn
  exact k _ _ _ _ g hp (.lst upd_same (DqAll.mono g.k _ _ h3))
theorem e_lstT {ds : List PyData} (h : E q δ te (.tuple ds)) : E q δ (tCB (rLstQ K) (tCons te tNil)) (.list ds) := e_cb1 h (rc_lstT rfl)
/-! ### isinstance -/
def tyN : PyData → String
  | .none => "NoneType"
  | .bool _ => "bool"
  | .int _ => "int"
  | .str _ => "str"
  | .list _ => "list"
  | .tuple _ => "tuple"
  | .dict _ => "dict"
/-- no instance -/
def top : PyData → Bool
  | .dict (_ :: _) => false
  | _ => true
theorem dq_ty {H : Hp} : ∀ {d : PyData} {v : V}, top d = true → Dq H v d → TyX K H v (.type (tyN d))
  | .none, _, ht, h => by cases h; exact .base .non
  | .bool b, _, ht, h => by cases h; exact .base (.bl b)
  | .int i, _, ht, h => by cases h; exact .base (.int i)
  | .str x, _, ht, h => by cases h; exact .base (.str x)
  | .list _, _, ht, h => by
    cases h with
    | lst h1 _ => exact .base (.lst h1)
  | .tuple _, _, ht, h => by
    cases h with
    | tup h1 _ =>
      rcases h1 with ⟨o, _, h1⟩ | ⟨_, h1⟩
      · exact .fTuple h1
      · exact .base (.tup h1)
  | .dict _, _, ht, h => by
    cases h with
    | dic h1 => exact .base (.dK h1)
    | ins h1 => cases ht
theorem e_isi {n : String} {r : Bool} (h : E q δ te d) (hk : kitB (tyN d) n = some r) (ht : top d = true := by first | rfl | assumption) : E q δ (tCB (rIsiU K) (tCons te (tCons (tC (.ty n)) tNil))) (.bool r) := fun σ H H1 m sg o Q k =>
  h σ H H1 m sg o _ fun x v Hk H2 g o1 e dv => by
    subst e
    exact .inl ⟨v, .ty n, .type (tyN x), .type n, r, rfl, .ty n, dq_ty ht (Dq.mono g.a _ _ dv), kit_ty hk, k _ _ Hk H2 g o1 rfl (.bl r)⟩
/-! ### slices -/
def TOj (δ : List Sl) (q : Option Addr) (to : TO) (o : Option Int) : Prop := ∀ (σ : L2.St) (H H1 : Hp) (n : Nat), Sg H σ δ → Ok q n H H1 → ∀ Q : Option Int → Hp → Prop, (∀ Hk H2, Gr q H H1 Hk H2 → Ok q n Hk H2 → Q o H2) → to σ H1 Q
theorem to_none : TOj δ q tNoPart none := fun σ H H1 n sg o Q k => k H H1 (Gr.refl o.a) o
theorem to_some {i : Int} (h : E q δ te (.int i)) : TOj δ q (tPart te) (some i) := fun σ H H1 n sg o Q k => h σ H H1 n sg o _ fun d v Hk H2 g o1 e dv => by
  subst e
  exact ⟨i, dv.intOf, k Hk H2 g o1⟩
def cutD (xs : List PyData) (lo hi : Option Int) : List PyData := (xs.drop (HT.sIx xs.length 0 lo)).take (HT.sIx xs.length xs.length hi - HT.sIx xs.length 0 lo)
theorem e_slL {tl th : TO} {lo hi : Option Int} {ds : List PyData} (h : E q δ te (.list ds)) (h1 : TOj δ q tl lo) (h2 : TOj δ q th hi) : E q δ (tSl (rSlU K) te tl th) (.list (cutD ds lo hi)) := fun σ H H1 n sg o Q k =>
  h σ H H1 n sg o _ fun d v Hk H2 g o1 e dv => h1 σ Hk H2 n (sg.mono g.k) o1 _ fun Hk2 H3 g2 o2 => h2 σ Hk2 H3 n (sg.mono (g.k.trans g2.k)) o2 _ fun Hk3 H4 g3 o3 => by
    subst e
    obtain ⟨a, xs, rfl, e1, e2⟩ := (Dq.mono (g2.k.trans g3.k) _ _ dv).lstOf
    refine .inl ⟨a, xs, rfl, .inl (.inl (g3.a _ _ e1)), fun p hn => ?_⟩
    have g4 := Gr.new (q := none) (o := .lst (cutV xs lo hi)) g3.a hn
    refine k _ _ _ _ (((g.trans g2).trans g3).trans g4.none_to) (o3.go g4) rfl (.lst upd_same (DqAll.mono g4.k _ _ ?_))
    unfold cutV
    rw [e2.length]
    exact (e2.drop _).take _
theorem e_slT {tl th : TO} {lo hi : Option Int} {ds : List PyData} (h : E q δ te (.tuple ds)) (h1 : TOj δ q tl lo) (h2 : TOj δ q th hi) : E q δ (tSl (rSlU K) te tl th) (.tuple (cutD ds lo hi)) := fun σ H H1 n sg o Q k =>
  h σ H H1 n sg o _ fun d v Hk H2 g o1 e dv => h1 σ Hk H2 n (sg.mono g.k) o1 _ fun Hk2 H3 g2 o2 => h2 σ Hk2 H3 n (sg.mono (g.k.trans g2.k)) o2 _ fun Hk3 H4 g3 o3 => by
    subst e
    have dv' := Dq.mono (g2.k.trans g3.k) _ _ dv
    obtain ⟨a, xs, rfl, e1, e2⟩ := dv'.tupOf
    have hl := e2.length
    refine .inr ⟨a, xs, rfl, .inl (e1.mono g3.a).rd, fun hw => ?_, fun hw p ob od hn => ?_⟩
    · have ec : cutD ds lo hi = ds := by
        unfold cutD
        rw [← hl, hw.1, hw.2, List.drop_zero, Nat.sub_zero, hl, List.take_length]
      rw [ec] at k
      exact k _ _ _ _ ((g.trans g2).trans g3) o3 rfl dv'
    · have g4 := Gr.new (q := none) (o := .frz ob (.tup (cutV xs lo hi))) g3.a hn
      refine k _ _ _ _ (((g.trans g2).trans g3).trans g4.none_to) (o3.go g4) rfl (.tup (Tp.new od) (DqAll.mono g4.k _ _ ?_))
      unfold cutV
      rw [hl]
      exact (e2.drop _).take _

/-! ### keyword calls -/
theorem j_callK {R : RelX} {E : XK} {ta tk : TA} {gV : List V → List V → List V} {gS : List Sl → List Sl → List Sl} {Φa Φk : List Sl → Prop} (ha : AJ q δ ta c1 Φa) (hk : AJ q δ tk c2 Φk)
    (hg : ∀ (H : Hp) (vs zs : List V) (ss us : List Sl), VS H vs ss → VS H zs us → Φa ss → Φk us → VS H (gV vs zs) (gS ss us)) (hr : ∀ ss us, Φa ss → Φk us → R q (gS ss us) c Φ) : J q δ (tCallK (spX R) gV E ta tk) (c + c2 + c1) Φ := fun σ H H1 n sg o Q k =>
  ha σ H H1 (n + (c + c2)) sg (by rw [Nat.add_assoc]; exact o) _ fun sls vs Hk H2 g o1 p hv => hk σ Hk H2 (n + c) (sg.mono g.k) (by rw [Nat.add_assoc]; exact o1) _ fun us zs Hk' H3 g' o2 pk hz =>
    ⟨q, Hk', gS sls us, n, c, Φ, o2, hg Hk' vs zs sls us (hv.mono g'.k) hz p pk, hr sls us p pk, fun d v Hk2 H4 g2 o3 pd dv => k d v Hk2 H4 ((g.trans g').trans g2) o3 pd dv⟩
end
end Cr

namespace L2
open PySem PySem.Spec PyProof.Rows L2
/-! ### the rules with the written part named (within a comprehension's block it is the def's) -/
section
variable {X : Cx} {K : PySem.W.Frag}
theorem k_addU (h : X.K = K) : OpR X (binaryOp .Add) (rAddU K) := h ▸ op_addU
theorem k_eqD (h : X.K = K) (hu : X.A.units + 64 < cLine) : OpR X (compareOp .Eq) (rEqD K) := h ▸ op_eqD hu
theorem k_neD (h : X.K = K) (hu : X.A.units + 64 < cLine) : OpR X (compareOp .NotEq) (rNeD K) := h ▸ op_neD hu
theorem k_ix (h : X.K = K) : IxR X (rIx K) := h ▸ ix_seq
theorem k_sl (h : X.K = K) : SlR X (rSlU K) := h ▸ sl_U
theorem k_isi (h : X.K = K) : CallR X (.builtin "isinstance") (rIsiU K) := h ▸ call_isiU
theorem k_len (h : X.K = K) : CallR X (.builtin "len") (Cr.rLenQ K) := h ▸ Cr.call_lenQ
theorem k_sum (h : X.K = K) (hc : X.calm = true) : CallR X (.builtin "sum") (rSum K) := h ▸ cr_sum hc
theorem k_all (h : X.K = K) (hc : X.calm = true) : CallR X (.builtin "all") (rAll K) := h ▸ cr_all hc
theorem k_tup (h : X.K = K) : CallR X (.type "tuple") (Cr.rTupQ K) := h ▸ Cr.call_tupQ
theorem k_lst (h : X.K = K) : CallR X (.type "list") (Cr.rLstQ K) := h ▸ Cr.call_lstQ
theorem k_pgTup {es : List Expr} {k : Nat} {pos : Pos} {t : TGs} {n : Nat} (h : X.K = K) (hc : X.calm = true) (hg : PGs X es t) (hn : (assignEach es X.env).length = n := by rfl) (hst : (assignEach es X.env).findIdx? (·.1) = none := by rfl) :
    PG X (.Tuple es k pos) (gTup K n t) := h ▸ pg_tup hc hg hn hst
theorem k_piList {tg l : Expr} {tl : TE} (h : X.K = K) (hl : PE X l tl) : PI X tg l (iList K tl) := h ▸ pi_list hl
theorem k_piTup {tg l : Expr} {tl : TE} (h : X.K = K) (hl : PE X l tl) : PI X tg l (iTup K tl) := h ▸ pi_tup hl
theorem k_piZip {a b : Expr} {ta : TA} {p pos tpos : Pos} {elts : List Expr} {kk : Nat} (h : X.K = K) (hg : Gl X "zip") (hm : X.mg "zip" = none) (ha : PA X [a, b] ta)
    (hs : starEach [a, b] X.env = (false, eval a X.env) :: starEach [b] X.env := by rfl) (hp : (backTo pos (starEach [b] X.env)).any (·.1) = false := by rfl) :
    PI X (.Tuple elts kk tpos) (.Call (.Name "zip" p) [a, b] [] pos) (RZ.iZipA K ta) := h ▸ RZ.pi_zipA hg hm ha hs hp
end
end L2

set_option Elab.async false
set_option linter.all false
set_option maxRecDepth 100000
set_option maxHeartbeats 4000000
namespace Cr
open PySem PySem.Spec PyProof.Rows L2

/-! ### what is walked -/
def WalkD (Jt : It) (items : List PyData) (HkW : Hp) : Prop := ∀ (i : Nat) (Hk H : Hp), Same HkW Hk → Same Hk H →
  (i < items.length → Jt.go i H ∧ ∀ v H', Jt.yld i H v H' → ∃ Hk', Gr none Hk H Hk' H' ∧ ∃ d, items[i]? = some d ∧ Dq Hk' v d) ∧ (items.length ≤ i → Jt.stop i H)
def IJ (q : Option Addr) (δ : List Sl) (wi : TI) (c : Nat) (Φ : List PyData → Prop) : Prop :=
  ∀ (σ : L2.St) (H H1 : Hp) (n : Nat), Sg H σ δ → Ok q (n + c) H H1 → ∀ R : It → Hp → Prop, (∀ items Jt Hk H2, Gr q H H1 Hk H2 → Ok q n Hk H2 → Φ items → WalkD Jt items Hk → R Jt H2) → wi σ H1 R
abbrev IE (q : Option Addr) (δ : List Sl) (wi : TI) (items : List PyData) : Prop := IJ q δ wi 0 (fun x => x = items)
section
variable {K : PySem.W.Frag} {q : Option Addr} {δ δ' : List Sl} {te ta tb tc : TE} {tt tu : TT} {c c1 c2 c3 : Nat} {Φ Φ1 Φ2 Φ3 : PyData → Prop} {d d1 d2 : PyData} {wi : TI}
theorem SqL.of1 {H : Hp} {a : Addr} {xs : List V} (h : H a = some (.lst xs)) : SqL K H a xs := .inl (.inl h)
theorem walk_lst {H : Hp} {a : Addr} {xs : List V} {ds : List PyData} (h : H a = some (.lst xs)) (hd : DqAll H xs ds) : WalkD (Itl K a) ds H := fun i Hk H' s1 s2 => by
  have e := s2 _ _ (s1 _ _ h)
  refine ⟨fun hi => ⟨?_, fun v H2 y => ?_⟩, fun hi => ⟨xs, SqL.of1 e, by rw [hd.length]; exact hi⟩⟩
  · exact ⟨xs, xs[i]'(by rw [hd.length]; exact hi), SqL.of1 e, List.getElem?_eq_getElem _⟩
  · obtain ⟨rfl, y2⟩ := y
    have e2 := y2 xs (SqL.of1 e)
    obtain ⟨d, g1, g2⟩ := hd.get' e2
    exact ⟨Hk, Gr.refl s2, d, g1, Dq.mono s1 _ _ g2⟩
theorem walk_tup {H : Hp} {a : Addr} {xs : List V} {ds es : List PyData} (h : Tp H a xs es) (hd : DqAll H xs ds) : WalkD (Itt K a) ds H := fun i Hk H' s1 s2 => by
  have e := ((h.mono s1).mono s2).rd
  refine ⟨fun hi => ⟨?_, fun v H2 y => ?_⟩, fun hi => ⟨xs, .inl e, by rw [hd.length]; exact hi⟩⟩
  · exact ⟨xs, xs[i]'(by rw [hd.length]; exact hi), .inl e, List.getElem?_eq_getElem _⟩
  · obtain ⟨rfl, y2⟩ := y
    have e2 := y2 xs (.inl e)
    obtain ⟨d, g1, g2⟩ := hd.get' e2
    exact ⟨Hk, Gr.refl s2, d, g1, Dq.mono s1 _ _ g2⟩
def rng (lo : Int) (n : Nat) : List PyData := (List.range n).map fun i => .int (lo + (i : Nat))
theorem rng_len (lo : Int) (n : Nat) : (rng lo n).length = n := by unfold rng; rw [List.length_map, List.length_range]
theorem rng_get {lo : Int} {n i : Nat} (h : i < n) : (rng lo n)[i]? = some (.int (lo + (i : Nat))) := by
  unfold rng
  rw [List.getElem?_map, List.getElem?_range h]; rfl
theorem rng_get' {lo : Int} {n i : Nat} {d : PyData} (h : (rng lo n)[i]? = some d) : i < n ∧ d = .int (lo + (i : Nat)) := by
  have hl : i < n := by
    have := (List.getElem?_eq_some_iff.mp h).1
    rw [rng_len] at this; exact this
  rw [rng_get hl] at h
  exact ⟨hl, (Option.some.inj h).symm⟩
theorem walk_rng {H : Hp} {lo : Int} {n : Nat} : WalkD (Itr lo n) (rng lo n) H := fun i Hk H' s1 s2 => by
  rw [rng_len]
  refine ⟨fun hi => ⟨hi, fun v H2 y => ?_⟩, fun hi => hi⟩
  obtain ⟨rfl, rfl⟩ := y
  exact ⟨Hk, Gr.refl s2, _, rng_get hi, .int _⟩
def zipD : List PyData → List PyData → List PyData
  | a :: as, b :: bs => .tuple [a, b] :: zipD as bs
  | _, _ => []
theorem zipD_get : ∀ (as bs : List PyData) (i : Nat) (a b : PyData), as[i]? = some a → bs[i]? = some b → (zipD as bs)[i]? = some (.tuple [a, b])
  | [], _, _, _, _, h, _ => by simp at h
  | _ :: _, [], _, _, _, _, h => by simp at h
  | a :: as, b :: bs, 0, x, y, h1, h2 => by simp at h1 h2; subst h1; subst h2; rfl
  | a :: as, b :: bs, i + 1, x, y, h1, h2 => zipD_get as bs i x y (by simpa using h1) (by simpa using h2)
theorem zipD_len : ∀ (as bs : List PyData), (zipD as bs).length = min as.length bs.length
  | [], bs => by simp [zipD]
  | _ :: _, [] => by simp [zipD]
  | a :: as, b :: bs => by
    show (zipD as bs).length + 1 = _
    rw [zipD_len as bs, List.length_cons, List.length_cons]; omega
theorem ij_lst {Ψ : List PyData → Prop} (h : J q δ te c (fun d => ∃ ds, Ψ ds ∧ d = .list ds)) : IJ q δ (iList K te) c Ψ := fun σ H H1 n sg o R k =>
  h σ H H1 n sg o _ fun d v Hk H2 g o1 ⟨ds, p, e⟩ dv => by
    subst e
    obtain ⟨a, xs, rfl, h1, h2⟩ := dv.lstOf
    exact ⟨a, rfl, ⟨xs, SqL.of1 (g.a _ _ h1)⟩, k ds _ Hk H2 g o1 p (walk_lst h1 h2)⟩
theorem ij_tup {Ψ : List PyData → Prop} (h : J q δ te c (fun d => ∃ ds, Ψ ds ∧ d = .tuple ds)) : IJ q δ (iTup K te) c Ψ := fun σ H H1 n sg o R k =>
  h σ H H1 n sg o _ fun d v Hk H2 g o1 ⟨ds, p, e⟩ dv => by
    subst e
    obtain ⟨a, xs, rfl, h1, h2⟩ := dv.tupOf
    exact ⟨a, rfl, ⟨xs, .inl (h1.mono g.a).rd⟩, k ds _ Hk H2 g o1 p (walk_tup h1 h2)⟩
theorem ie_lst {ds : List PyData} (h : E q δ te (.list ds)) : IE q δ (iList K te) ds := ij_lst (h.imp fun d e => ⟨ds, rfl, e⟩)
theorem ie_tup {ds : List PyData} (h : E q δ te (.tuple ds)) : IE q δ (iTup K te) ds := ij_tup (h.imp fun d e => ⟨ds, rfl, e⟩)
theorem ij_rng1 {P : Int → Prop} {Ψ : List PyData → Prop} (h : J q δ te c (IntP P)) (hp : ∀ j, P j → (-(2 ^ 62) ≤ j ∧ j < 2 ^ 62) ∧ Ψ (rng 0 j.toNat)) : IJ q δ (iRng1 (tCons te tNil)) c Ψ := fun σ H H1 n sg o R k =>
  h σ H H1 n sg o _ fun d v Hk H2 g o1 ⟨j, p, e⟩ dv => by
    subst e
    rw [dv.intOf]
    exact ⟨j, rfl, (hp j p).1.1, (hp j p).1.2, k _ _ Hk H2 g o1 (hp j p).2 walk_rng⟩
theorem ie_rng1 {j : Int} (h : E q δ te (.int j)) (h1 : -(2 ^ 62) ≤ j) (h2 : j < 2 ^ 62) : IE q δ (iRng1 (tCons te tNil)) (rng 0 j.toNat) := ij_rng1 h.intP fun i e => by subst e; exact ⟨⟨h1, h2⟩, rfl⟩
/-! ### targets -/
def GB (δ : List Sl) (g : TG) (d : PyData) (δ' : List Sl) (vs : List Nat) : Prop := ∀ (σ : L2.St) (H H1 : Hp) (v : V), Sg H σ δ → Same H H1 → Dq H v d → ∀ Q : L2.St → Hp → Prop, (∀ σ', Sg H σ' δ' → σ'.length = σ.length → (∀ k, k ∉ vs → σ'[k]? = σ[k]?) → Q σ' H1) → g v σ H1 Q
theorem gb_name {i : Nat} {vs : List Nat} (h : i ∈ vs) : GB δ (gName i) d (δ.set i (.dat d)) vs := fun σ H H1 v sg s dv Q k =>
  k _ (sg.set i (s := .dat d) dv) (List.length_set ..) fun j hj => List.getElem?_set_ne (fun e => hj (by rw [← e]; exact h))
theorem gb_tup2 {i j : Nat} {vs : List Nat} (h : i ∈ vs) (h' : j ∈ vs) : GB δ (gTup K 2 (gCons (gName i) (gCons (gName j) gNil))) (.tuple [d1, d2]) ((δ.set i (.dat d1)).set j (.dat d2)) vs := fun σ H H1 v sg s dv Q k => by
  obtain ⟨a, xs, rfl, h1, h2⟩ := dv.tupOf
  obtain ⟨x, y, rfl, dx, dy⟩ := h2.two
  refine ⟨a, [x, y], rfl, .inl (h1.mono s).rd, rfl, x, [y], rfl, y, [], rfl, rfl, k _ ((sg.set i (s := .dat d1) dx).set j (s := .dat d2) dy) (by rw [List.length_set, List.length_set]) fun l hl => ?_⟩
  rw [List.getElem?_set_ne (fun e => hl (by rw [← e]; exact h')), List.getElem?_set_ne (fun e => hl (by rw [← e]; exact h))]

/-! ### comprehensions -/
def wipeD (δ : List Sl) : List Nat → List Sl
  | [] => δ
  | v :: vs => (wipeD δ vs).set v .any
theorem Sg.wipe {H : Hp} {σ : L2.St} {δ : List Sl} (h : Sg H σ δ) : ∀ vs : List Nat, Sg H (wipe σ vs) (wipeD δ vs)
  | [] => h
  | v :: vs => by
    have ih := Sg.wipe h vs
    refine ⟨by show ((L2.wipe σ vs).set v none).length = ((wipeD δ vs).set v .any).length; rw [List.length_set, List.length_set]; exact ih.1, fun i s a b => ?_⟩
    change ((wipeD δ vs).set v .any)[i]? = some s at a
    change ∃ x, ((L2.wipe σ vs).set v none)[i]? = some (some x) ∧ SlOk H x s
    by_cases hi : v = i
    · subst hi
      by_cases hl : v < (wipeD δ vs).length
      · rw [List.getElem?_set_self hl] at a
        exact absurd (Option.some.inj a).symm b
      · rw [List.getElem?_eq_none (by rw [List.length_set]; omega)] at a; cases a
    · rw [List.getElem?_set_ne hi] at a ⊢
      exact ih.2 i s a b
theorem wipe_get (σ : L2.St) : ∀ (vs : List Nat) (i : Nat), (wipe σ vs)[i]? = if i ∈ vs then (if i < σ.length then some none else none) else σ[i]?
  | [], i => by simp [wipe]
  | v :: vs, i => by
    show ((L2.wipe σ vs).set v none)[i]? = _
    have ih := wipe_get σ vs i
    by_cases hi : v = i
    · subst hi
      rw [if_pos (by simp)]
      by_cases hl : v < σ.length
      · rw [List.getElem?_set_self (by rw [wipe_length]; exact hl), if_pos hl]
      · rw [List.getElem?_eq_none (by rw [List.length_set, wipe_length]; omega), if_neg hl]
    · rw [List.getElem?_set_ne hi, ih]
      have e : (i ∈ v :: vs) ↔ i ∈ vs := by simp [Ne.symm hi]
      by_cases hm : i ∈ vs
      · rw [if_pos hm, if_pos (e.mpr hm)]
      · rw [if_neg hm, if_neg (fun z => hm (e.mp z))]
theorem wipe_eq {σ σ' : L2.St} {vs : List Nat} (hl : σ'.length = σ.length) (h : ∀ k, k ∉ vs → σ'[k]? = (wipe σ vs)[k]?) : wipe σ' vs = wipe σ vs := by
  refine List.ext_getElem? fun i => ?_
  rw [wipe_get, wipe_get]
  by_cases hm : i ∈ vs
  · rw [if_pos hm, if_pos hm, hl]
  · rw [if_neg hm, if_neg hm, h i hm, wipe_get, if_neg hm]
/-- pure elements: b tells which are taken, f what they give; the items told by a list of one's own -/
theorem j_lc {α : Type} {emb : α → PyData} {wi : TI} {g : TG} {vs : List Nat} {Ψ : List α → Prop} (hw : IJ q δ wi c (fun items => ∃ xs, Ψ xs ∧ items = xs.map emb)) (b : α → Bool) (f : α → PyData)
    (hz : ∀ xs, Ψ xs → xs.length ≤ 1000000) (he : ∀ xs, Ψ xs → ∀ x ∈ xs, ∃ δ', GB (wipeD δ vs) g (emb x) δ' vs ∧ TB q δ' tt (b x) ∧ (b x = true → E q δ' te (f x))) :
    J q δ (tLc wi g tt te vs) c (fun r => ∃ xs, Ψ xs ∧ r = .list ((xs.filter b).map f)) := fun σ H H1 n sg o Q k =>
  hw σ H H1 n sg o _ fun items Jt HkW H2 g0 o0 pi wk D hD => by
    obtain ⟨xs, pi, ei⟩ := pi
    have hlen : items.length = xs.length := by rw [ei, List.length_map]
    have hDk : HkW D = none := g0.a.free hD
    have hDq : q ≠ some D := fun e => (o0.j D e).ne hD
    have g1 : Gr q HkW H2 HkW (upd H2 D (.lst [])) := Gr.cell g0.a hD
    refine ⟨fun i m H' => m = items.length - i ∧ i ≤ items.length ∧ ∃ Hk' vs, Gr q HkW H2 Hk' H' ∧ Ok q n Hk' H' ∧ Hk' D = none ∧ H' D = some (.lst vs) ∧ DqAll Hk' vs (((xs.take i).filter b).map f),
      ⟨items.length, by simp, Nat.zero_le _, HkW, [], g1, o0.cell hDk hDq, hDk, upd_same, .nil⟩, ?_⟩
    rintro i m H' ⟨rfl, hi, Hk', ys, gr, ok, hDn, hl, hd⟩
    by_cases hlt : i < items.length
    · obtain ⟨go, yl⟩ := (wk i Hk' H' gr.k ok.a).1 hlt
      refine .inr ⟨go, fun H'' => ∃ Hk3 ys', Gr q HkW H2 Hk3 H'' ∧ Ok q n Hk3 H'' ∧ Hk3 D = none ∧ H'' D = some (.lst ys') ∧ DqAll Hk3 ys' (((xs.take (i + 1)).filter b).map f), fun H'' p => ⟨items.length - (i + 1), by omega, rfl, hlt, p⟩, fun v H'' y => ?_⟩
      obtain ⟨Hk2, g2, d, ed, dx⟩ := yl v H'' y
      obtain ⟨x, ex, rfl⟩ : ∃ x, xs[i]? = some x ∧ emb x = d := by
        rw [ei, List.getElem?_map] at ed
        exact Option.map_eq_some_iff.mp ed
      obtain ⟨δ', hgb, htb, hte⟩ := he xs pi x (List.mem_of_getElem? ex)
      have ok2 := ok.go g2
      have sgw : Sg Hk2 (wipe σ vs) (wipeD δ vs) := ((sg.mono g0.k).mono (gr.k.trans g2.k)).wipe vs
      have hD2 : Hk2 D = none := g2.f D hDn (by rw [hl]; exact fun z => by cases z)
      have hl2 : H'' D = some (.lst ys) := g2.s D _ (fun z => by cases z) hl
      have hd2 := DqAll.mono g2.k _ _ hd
      have gr2 := gr.trans g2.none_to
      have hx : xs.take (i + 1) = xs.take i ++ [x] := by
        rw [List.take_add_one, ex]; rfl
      refine hgb (wipe σ vs) Hk2 H'' v sgw g2.a dx _ fun σ' sg' hl' hk' => ⟨wipe_eq (by rw [hl', wipe_length]) hk', ?_⟩
      · refine htb σ' Hk2 H'' n sg' ok2 _ fun b' Hk3 H3 g3 o3 eb => ?_
        have hD3 : Hk3 D = none := g3.f D hD2 (by rw [hl2]; exact fun z => by cases z)
        have hl3 : H3 D = some (.lst ys) := g3.s D _ hDq hl2
        have hd3 := DqAll.mono g3.k _ _ hd2
        have gr3 := gr2.trans g3
        cases hb : b x with
        | true =>
          rw [hb] at eb
          subst eb
          refine iteT (hte hb σ' Hk3 H3 n (sg'.mono g3.k) o3 _ fun y w Hk4 H4 g4 o4 ey dw => ?_)
          subst ey
          have hD4 : Hk4 D = none := g4.f D hD3 (by rw [hl3]; exact fun z => by cases z)
          have hl4 : H4 D = some (.lst ys) := g4.s D _ hDq hl3
          have hd4 := DqAll.mono g4.k _ _ hd3
          refine ⟨ys, hl4, ?_, Hk4, ys ++ [w], (gr3.trans g4).put hD hD4, o4.cell hD4 hDq, hD4, upd_same, ?_⟩
          · rw [hd4.length, List.length_map]
            have z1 := List.length_filter_le b (xs.take i)
            rw [List.length_take] at z1
            have z2 := hz xs pi
            rw [sizeLine_eq]; omega
          · rw [hx, List.filter_append, List.map_append, List.filter_cons, if_pos hb]
            exact hd4.append (.cons dw .nil)
        | false =>
          rw [hb] at eb
          subst eb
          refine iteF ⟨Hk3, ys, gr3, o3, hD3, hl3, ?_⟩
          rw [hx, List.filter_append, List.map_append, List.filter_cons, if_neg (by rw [hb]; exact Bool.false_ne_true)]
          show DqAll Hk3 ys (_ ++ [])
          rw [List.append_nil]
          exact hd3
    · have e : i = items.length := by omega
      subst e
      refine .inl ⟨(wk _ Hk' H' gr.k ok.a).2 (Nat.le_refl _), ?_⟩
      rw [hlen, List.take_length] at hd
      have gf := gr.freeze hD hDn hl
      refine k _ _ _ _ (g0.trans gf) ⟨gf.a, fun p e => ?_, ok.j⟩ ⟨xs, pi, rfl⟩ (.lst upd_same (DqAll.mono (same_upd hDn) _ _ hd))
      rw [upd_ne (fun z => hDq (by rw [← z]; exact e))]
      exact ok.kf p e
theorem e_lc {α : Type} {emb : α → PyData} {wi : TI} {g : TG} {vs : List Nat} {xs : List α} (hw : IE q δ wi (xs.map emb)) (b : α → Bool) (f : α → PyData) (hz : xs.length ≤ 1000000)
    (he : ∀ x ∈ xs, ∃ δ', GB (wipeD δ vs) g (emb x) δ' vs ∧ TB q δ' tt (b x) ∧ (b x = true → E q δ' te (f x))) : E q δ (tLc wi g tt te vs) (.list ((xs.filter b).map f)) :=
  (j_lc (Ψ := fun ys => ys = xs) (fun σ H H1 n sg o R k => hw σ H H1 n sg o R fun items Jt Hk H2 g o' e w => k items Jt Hk H2 g o' ⟨xs, rfl, e⟩ w) b f (fun ys e => by rw [e]; exact hz) (fun ys e => by rw [e]; exact he)).imp fun d ⟨ys, e, r⟩ => by rw [r, e]
theorem e_lc1 {α : Type} {emb : α → PyData} {wi : TI} {g : TG} {vs : List Nat} {xs : List α} (hw : IE q δ wi (xs.map emb)) (f : α → PyData) (hz : xs.length ≤ 1000000)
    (he : ∀ x ∈ xs, ∃ δ', GB (wipeD δ vs) g (emb x) δ' vs ∧ E q δ' te (f x)) : E q δ (tLc wi g tYes te vs) (.list (xs.map f)) := by
  have h := e_lc (tt := tYes) hw (fun _ => true) f hz fun x hx => by
    obtain ⟨δ', a, b⟩ := he x hx
    exact ⟨δ', a, tb_yes, fun _ => b⟩
  rw [show xs.filter (fun _ => true) = xs from List.filter_eq_self.mpr fun _ _ => rfl] at h
  exact h
end
end Cr

set_option Elab.async false
set_option linter.all false
set_option maxRecDepth 100000
set_option maxHeartbeats 4000000
namespace Cr
open PySem PySem.Spec PyProof.Rows L2
section
variable {K : PySem.W.Frag} {q : Option Addr} {n : Nat} {δ δ' : List Sl} {te ta tb tc : TE} {tt tu : TT} {c c1 c2 c3 : Nat} {Φ Φ1 Φ2 Φ3 : PyData → Prop} {d d1 d2 : PyData} {wi : TI} {A0 B0 Hk H1 : Hp} {σ : L2.St} {D : Ends} {ts tz : TS} {g : TG}

/-! ### statements -/
theorem s_seq (h : ts { D with nx := tz D } σ H1) : tSeq ts tz D σ H1 := h
theorem s_asg {i : Nat} (h : J q δ te c Φ) (s : At q (n + c) δ A0 B0 σ Hk H1) (k : ∀ d σ' Hk' H2, Φ d → Gr q Hk H1 Hk' H2 → At q n (δ.set i (.dat d)) A0 B0 σ' Hk' H2 → D.nx σ' H2) : tAsg te (gName i) D σ H1 :=
  h σ Hk H1 n s.sg s.ok _ fun d v Hk' H2 g o p dv => k d _ Hk' H2 p g ⟨o, (s.sg.mono g.k).set i (s := .dat d) dv, s.gr.trans g⟩
theorem s_asgE {i : Nat} (h : E q δ te d) (s : At q n δ A0 B0 σ Hk H1) (k : ∀ σ' Hk' H2, Gr q Hk H1 Hk' H2 → At q n (δ.set i (.dat d)) A0 B0 σ' Hk' H2 → D.nx σ' H2) : tAsg te (gName i) D σ H1 :=
  s_asg (c := 0) h s fun d' σ' Hk' H2 e g a => by subst e; exact k σ' Hk' H2 g a
theorem s_drop (h : J q δ te c Φ) (s : At q (n + c) δ A0 B0 σ Hk H1) (k : ∀ Hk' H2, Gr q Hk H1 Hk' H2 → At q n δ A0 B0 σ Hk' H2 → D.nx σ H2) : tDrop te D σ H1 :=
  h σ Hk H1 n s.sg s.ok _ fun d v Hk' H2 g o p dv => k Hk' H2 g ⟨o, s.sg.mono g.k, s.gr.trans g⟩
/-- what the promise asks of the end -/
abbrev Fin (q : Option Addr) (n : Nat) (A0 B0 : Hp) (Φ : PyData → Prop) (Q : VK) : Prop := ∀ d v Hk' H2, Gr q A0 B0 Hk' H2 → Ok q n Hk' H2 → Φ d → Dq Hk' v d → Q v H2
theorem s_ret {m : Nat} (h : J q δ te c Φ) (s : At q m δ A0 B0 σ Hk H1) (hm : n + c ≤ m) (f : Fin q n A0 B0 Φ1 D.rt) (i : ∀ d, Φ d → Φ1 d) : tRet te D σ H1 :=
  h σ Hk H1 n s.sg (s.ok.mono hm) _ fun d v Hk' H2 g o p dv => f d v Hk' H2 (s.gr.trans g) o (i d p) dv
theorem s_retE {m : Nat} (h : E q δ te d) (s : At q m δ A0 B0 σ Hk H1) (hm : n ≤ m) (f : Fin q n A0 B0 Φ1 D.rt) (i : Φ1 d) : tRet te D σ H1 := s_ret (c := 0) h s hm f fun _ e => by rw [e]; exact i
/-- the end without a return -/
theorem s_end {m : Nat} {Q : VK} (s : At q m δ A0 B0 σ Hk H1) (hm : n ≤ m) (f : Fin q n A0 B0 Φ1 Q) (i : Φ1 .none) : Q .non H1 := f _ _ Hk H1 s.gr (s.ok.mono hm) i .non
theorem s_if {P : Bool → Prop} {t1 t2 : TS} (h : TJ q δ tt c P) (s : At q (n + c) δ A0 B0 σ Hk H1) (k1 : P true → ∀ Hk' H2, Gr q Hk H1 Hk' H2 → At q n δ A0 B0 σ Hk' H2 → t1 D σ H2) (k2 : P false → ∀ Hk' H2, Gr q Hk H1 Hk' H2 → At q n δ A0 B0 σ Hk' H2 → t2 D σ H2) : tIfS tt t1 t2 D σ H1 :=
  h σ Hk H1 n s.sg s.ok _ fun b Hk' H2 g o p => by
    cases b with
    | true => exact iteT (k1 p Hk' H2 g ⟨o, s.sg.mono g.k, s.gr.trans g⟩)
    | false => exact iteF (k2 p Hk' H2 g ⟨o, s.sg.mono g.k, s.gr.trans g⟩)
theorem s_ifB {b : Bool} {t1 t2 : TS} (h : TB q δ tt b) (s : At q n δ A0 B0 σ Hk H1) (k1 : b = true → ∀ Hk' H2, Gr q Hk H1 Hk' H2 → At q n δ A0 B0 σ Hk' H2 → t1 D σ H2) (k2 : b = false → ∀ Hk' H2, Gr q Hk H1 Hk' H2 → At q n δ A0 B0 σ Hk' H2 → t2 D σ H2) : tIfS tt t1 t2 D σ H1 :=
  s_if (c := 0) h s (fun e => k1 e.symm) (fun e => k2 e.symm)
/-- if it does not hold, nothing happens (a raise that is never reached) -/
theorem s_ifNo {t1 : TS} (h : TB q δ tt false) (s : At q n δ A0 B0 σ Hk H1) (k2 : ∀ Hk' H2, Gr q Hk H1 Hk' H2 → At q n δ A0 B0 σ Hk' H2 → D.nx σ H2) : tIfS tt t1 tNext D σ H1 :=
  s_ifB h s (fun e => by cases e) (fun _ Hk' H2 g a => k2 Hk' H2 g a)
/-- a, b = x, y -/
theorem s_par {i j : Nat} {ta : TA} {Ψ : PyData → PyData → Prop} (h : AJ q δ ta c (fun sls => ∃ a b, sls = [.dat a, .dat b] ∧ Ψ a b)) (s : At q (n + c) δ A0 B0 σ Hk H1)
    (k : ∀ a b σ' Hk' H2, Ψ a b → Gr q Hk H1 Hk' H2 → At q n ((δ.set i (.dat a)).set j (.dat b)) A0 B0 σ' Hk' H2 → D.nx σ' H2) : tPar i j ta D σ H1 :=
  h σ Hk H1 n s.sg s.ok _ fun sls vs Hk' H2 g o ⟨a, b, e, p⟩ hv => by
    subst e
    obtain ⟨x, y, rfl, dx, dy⟩ := (VS.dats (ds := [a, b]) hv).two
    exact ⟨x, y, rfl, k a b _ Hk' H2 p g ⟨o, ((s.sg.mono g.k).set i (s := .dat a) dx).set j (s := .dat b) dy, s.gr.trans g⟩⟩
/-! ### loops -/
theorem s_for {tb : TS} {Ψ : List PyData → Prop} (hw : IJ q δ wi c Ψ) (s : At q (n + c) δ A0 B0 σ Hk H1)
    (k : ∀ items HkW H2, Ψ items → Gr q Hk H1 HkW H2 → At q n δ A0 B0 σ HkW H2 → ∃ P : Nat → L2.St → Hp → Hp → Prop, P 0 σ HkW H2 ∧ (∀ i σ' Hk' H', P i σ' Hk' H' → Same HkW Hk' ∧ Same Hk' H') ∧
      (∀ i d σ' Hk' H', items[i]? = some d → P i σ' Hk' H' → ∀ v Hk2 H2', Gr none Hk' H' Hk2 H2' → Dq Hk2 v d → g v σ' H2' fun σ2 H3 => tb { D with nx := fun σ3 H4 => ∃ Hk3, P (i + 1) σ3 Hk3 H4, ct := fun σ3 H4 => ∃ Hk3, P (i + 1) σ3 Hk3 H4, bk := D.nx } σ2 H3) ∧
      (∀ σ' Hk' H', P items.length σ' Hk' H' → D.nx σ' H')) : tFor wi g tb D σ H1 :=
  hw σ Hk H1 n s.sg s.ok _ fun items Jt HkW H2 g0 o0 pi wk => by
    obtain ⟨P, p0, ps, pt, pe⟩ := k items HkW H2 pi g0 ⟨o0, s.sg.mono g0.k, s.gr.trans g0⟩
    refine ⟨fun i m σ' H' => m = items.length - i ∧ i ≤ items.length ∧ ∃ Hk', P i σ' Hk' H', ⟨items.length, by simp, Nat.zero_le _, HkW, p0⟩, ?_⟩
    rintro i m σ' H' ⟨rfl, hi, Hk', p⟩
    obtain ⟨s1, s2⟩ := ps i σ' Hk' H' p
    by_cases hlt : i < items.length
    · obtain ⟨go, yl⟩ := (wk i Hk' H' s1 s2).1 hlt
      refine .inr ⟨go, fun σ3 H4 => ∃ Hk3, P (i + 1) σ3 Hk3 H4, fun σ3 H4 p => ⟨items.length - (i + 1), by omega, rfl, hlt, p⟩, fun v H'' y => ?_⟩
      obtain ⟨Hk2, g2, d, ed, dv⟩ := yl v H'' y
      exact pt i d σ' Hk' H' ed p v Hk2 H'' g2 dv
    · have e : i = items.length := by omega
      subst e
      exact .inl ⟨(wk _ Hk' H' s1 s2).2 (Nat.le_refl _), pe σ' Hk' H' p⟩
end

/-! ### the same with something behind -/
section
variable {K : PySem.W.Frag} {q : Option Addr} {n : Nat} {δ δ' : List Sl} {te ta tb tc : TE} {tt tu : TT} {c c1 c2 c3 : Nat} {Φ Φ1 Φ2 Φ3 : PyData → Prop} {d d1 d2 : PyData} {wi : TI} {A0 B0 Hk H1 : Hp} {σ : L2.St} {D : Ends} {ts tz : TS} {g : TG}
theorem q_asg {i : Nat} (h : J q δ te c Φ) (s : At q (n + c) δ A0 B0 σ Hk H1) (k : ∀ d σ' Hk' H2, Φ d → Gr q Hk H1 Hk' H2 → At q n (δ.set i (.dat d)) A0 B0 σ' Hk' H2 → tz D σ' H2) : tSeq (tAsg te (gName i)) tz D σ H1 := s_asg (D := { D with nx := tz D }) h s k
theorem q_asgE {i : Nat} (h : E q δ te d) (s : At q n δ A0 B0 σ Hk H1) (k : ∀ σ' Hk' H2, Gr q Hk H1 Hk' H2 → At q n (δ.set i (.dat d)) A0 B0 σ' Hk' H2 → tz D σ' H2) : tSeq (tAsg te (gName i)) tz D σ H1 := s_asgE (D := { D with nx := tz D }) h s k
theorem q_asgX {i : Nat} (h : E q δ te d) (s : At q n δ A0 B0 σ Hk H1) (k : ∀ v Hk' H2, Gr q Hk H1 Hk' H2 → At q n (δ.set i (.dat d)) A0 B0 (σ.set i (some v)) Hk' H2 → Dq Hk' v d → tz D (σ.set i (some v)) H2) : tSeq (tAsg te (gName i)) tz D σ H1 :=
  h σ Hk H1 n s.sg s.ok _ fun d' v Hk' H2 g o p dv => by
    subst p
    exact k v Hk' H2 g ⟨o, (s.sg.mono g.k).set i (s := .dat d') dv, s.gr.trans g⟩ dv
theorem q_drop (h : J q δ te c Φ) (s : At q (n + c) δ A0 B0 σ Hk H1) (k : ∀ Hk' H2, Gr q Hk H1 Hk' H2 → At q n δ A0 B0 σ Hk' H2 → tz D σ H2) : tSeq (tDrop te) tz D σ H1 := s_drop (D := { D with nx := tz D }) h s k
theorem q_when {P : Bool → Prop} {t1 : TS} (h : TJ q δ tt c P) (s : At q (n + c) δ A0 B0 σ Hk H1) (k1 : P true → ∀ Hk' H2, Gr q Hk H1 Hk' H2 → At q n δ A0 B0 σ Hk' H2 → t1 { D with nx := tz D } σ H2) (k2 : P false → ∀ Hk' H2, Gr q Hk H1 Hk' H2 → At q n δ A0 B0 σ Hk' H2 → tz D σ H2) : tSeq (tIfS tt t1 tNext) tz D σ H1 := s_if (D := { D with nx := tz D }) h s k1 k2
theorem q_whenB {b : Bool} {t1 : TS} (h : TB q δ tt b) (s : At q n δ A0 B0 σ Hk H1) (k1 : b = true → ∀ Hk' H2, Gr q Hk H1 Hk' H2 → At q n δ A0 B0 σ Hk' H2 → t1 { D with nx := tz D } σ H2) (k2 : b = false → ∀ Hk' H2, Gr q Hk H1 Hk' H2 → At q n δ A0 B0 σ Hk' H2 → tz D σ H2) : tSeq (tIfS tt t1 tNext) tz D σ H1 := s_ifB (D := { D with nx := tz D }) h s k1 k2
theorem q_ifNo {t1 : TS} (h : TB q δ tt false) (s : At q n δ A0 B0 σ Hk H1) (k2 : ∀ Hk' H2, Gr q Hk H1 Hk' H2 → At q n δ A0 B0 σ Hk' H2 → tz D σ H2) : tSeq (tIfS tt t1 tNext) tz D σ H1 := s_ifNo (D := { D with nx := tz D }) h s k2
theorem q_par {i j : Nat} {ta : TA} {Ψ : PyData → PyData → Prop} (h : AJ q δ ta c (fun sls => ∃ a b, sls = [.dat a, .dat b] ∧ Ψ a b)) (s : At q (n + c) δ A0 B0 σ Hk H1)
    (k : ∀ a b σ' Hk' H2, Ψ a b → Gr q Hk H1 Hk' H2 → At q n ((δ.set i (.dat a)).set j (.dat b)) A0 B0 σ' Hk' H2 → tz D σ' H2) : tSeq (tPar i j ta) tz D σ H1 := s_par (D := { D with nx := tz D }) h s k
theorem q_for {tb : TS} {Ψ : List PyData → Prop} (hw : IJ q δ wi c Ψ) (s : At q (n + c) δ A0 B0 σ Hk H1)
    (k : ∀ items HkW H2, Ψ items → Gr q Hk H1 HkW H2 → At q n δ A0 B0 σ HkW H2 → ∃ P : Nat → L2.St → Hp → Hp → Prop, P 0 σ HkW H2 ∧ (∀ i σ' Hk' H', P i σ' Hk' H' → Same HkW Hk' ∧ Same Hk' H') ∧
      (∀ i d σ' Hk' H', items[i]? = some d → P i σ' Hk' H' → ∀ v Hk2 H2', Gr none Hk' H' Hk2 H2' → Dq Hk2 v d → g v σ' H2' fun σ2 H3 => tb { D with nx := fun σ3 H4 => ∃ Hk3, P (i + 1) σ3 Hk3 H4, ct := fun σ3 H4 => ∃ Hk3, P (i + 1) σ3 Hk3 H4, bk := tz D } σ2 H3) ∧
      (∀ σ' Hk' H', P items.length σ' Hk' H' → tz D σ' H')) : tSeq (tFor wi g tb) tz D σ H1 := s_for (D := { D with nx := tz D }) hw s k
end

/-! ### a def -/
theorem start_sg {H : Hp} {N : List Str} {vs : List V} {sls : List Sl} (h : VS H vs sls) (hl : vs.length ≤ N.length) : Sg H (L2.start N vs) (sls ++ List.replicate (N.length - sls.length) .any) := by
  have hl1 := h.1
  refine ⟨by unfold L2.start; simp [hl1], fun i s e ne => ?_⟩
  by_cases hi : i < sls.length
  · rw [List.getElem?_append_left hi] at e
    obtain ⟨v, a, b⟩ := h.2 i s e
    refine ⟨v, ?_, b⟩
    unfold L2.start
    rw [List.getElem?_append_left (by rw [List.length_map]; omega), List.getElem?_map, a]; rfl
  · rw [List.getElem?_append_right (by omega)] at e
    have := List.eq_of_mem_replicate (List.mem_of_getElem? e)
    exact absurd this ne
section
variable {P : Program} {w : World} {K : PySem.W.Frag} {mg : Str → Option Value} {base : Heap}
theorem fn_ok {x qual : Str} {st : Stmt} {f : Addr} {fd : FuncData} {N ps : List Str} {k : Nat} {R : RelX} (F : Fun K x qual st f fd) (S : FnScope N ps (defScope st)) (hN : ps.length ≤ N.length) (len : ∀ q sls c Φ, R q sls c Φ → sls.length = ps.length)
    (body : ∀ (cdv : Value) (A : Around) (outer : List Env) (s : Shared) (B0 : Hp) (E : XK), Room k (A.deeper (envOfC qual (defScope st) s.heap.objs.size f cdv)) →
      ∃ t, PSs (cxOf CX0 P w K mg base N qual (defScope st) f cdv A outer s B0 E).nox (defBody st) t ∧
        ∀ (q : Option Addr) (sls : List Sl) (n c : Nat) (Φ : PyData → Prop) (A0 : Hp) (σ : L2.St) (Q : VK), R q sls c Φ → At q (n + c) (sls ++ List.replicate (N.length - sls.length) .any) A0 B0 σ A0 B0 → Fin q n A0 B0 Φ Q → t { nx := fun _ H' => Q .non H', rt := Q } σ B0) :
    FnOk P w K mg base CX0 (k + 1) f fd ps (spX R) := by
  refine F.ok S (fun vs H Q E h => ?_) (fun cdv A outer s H vs Q E hr h => ?_)
  · obtain ⟨q, Hk, sls, n, c, Φ, o, hv, r, _⟩ := h
    rw [hv.1]; exact len q sls c Φ r
  · obtain ⟨q, Hk, sls, n, c, Φ, o, hv, r, fin⟩ := h
    obtain ⟨t, ht, hq⟩ := body cdv A outer s H E hr
    refine ⟨t, ht, hq q sls n c Φ Hk (L2.start N vs) Q r ⟨o, start_sg hv (by rw [hv.1, len q sls c Φ r]; exact hN), Gr.refl o.a⟩ fin⟩
end
end Cr

set_option linter.all false
set_option maxHeartbeats 4000000
namespace Cr
open PySem PySem.Spec PyProof.Rows L2
def isIntD : PyData → Bool
  | .int _ => true
  | _ => false
def isiInt : PyData → Bool
  | .int _ => true
  | .bool _ => true
  | _ => false
def isiBool : PyData → Bool
  | .bool _ => true
  | _ => false
def isiTup : PyData → Bool
  | .tuple _ => true
  | _ => false
theorem kit_int (d : PyData) : kitB (tyN d) "int" = some (isiInt d) := by
  cases d with
  | none => exact (by decide +kernel : kitB "NoneType" "int" = some false)
  | bool _ => exact (by decide +kernel : kitB "bool" "int" = some true)
  | int _ => exact (by decide +kernel : kitB "int" "int" = some true)
  | str _ => exact (by decide +kernel : kitB "str" "int" = some false)
  | list _ => exact (by decide +kernel : kitB "list" "int" = some false)
  | tuple _ => exact (by decide +kernel : kitB "tuple" "int" = some false)
  | dict _ => exact (by decide +kernel : kitB "dict" "int" = some false)

theorem kit_bool (d : PyData) : kitB (tyN d) "bool" = some (isiBool d) := by
  cases d with
  | none => exact (by decide +kernel : kitB "NoneType" "bool" = some false)
  | bool _ => exact (by decide +kernel : kitB "bool" "bool" = some true)
  | int _ => exact (by decide +kernel : kitB "int" "bool" = some false)
  | str _ => exact (by decide +kernel : kitB "str" "bool" = some false)
  | list _ => exact (by decide +kernel : kitB "list" "bool" = some false)
  | tuple _ => exact (by decide +kernel : kitB "tuple" "bool" = some false)
  | dict _ => exact (by decide +kernel : kitB "dict" "bool" = some false)

theorem kit_tuple (d : PyData) : kitB (tyN d) "tuple" = some (isiTup d) := by
  cases d with
  | none => exact (by decide +kernel : kitB "NoneType" "tuple" = some false)
  | bool _ => exact (by decide +kernel : kitB "bool" "tuple" = some false)
  | int _ => exact (by decide +kernel : kitB "int" "tuple" = some false)
  | str _ => exact (by decide +kernel : kitB "str" "tuple" = some false)
  | list _ => exact (by decide +kernel : kitB "list" "tuple" = some false)
  | tuple _ => exact (by decide +kernel : kitB "tuple" "tuple" = some true)
  | dict _ => exact (by decide +kernel : kitB "dict" "tuple" = some false)

theorem isInt_eq (d : PyData) : (isiInt d && !isiBool d) = isIntD d := by cases d <;> rfl

/-! ### ledgers -/
def pr (x : Int × Int) : PyData := .tuple [.int x.1, .int x.2]
def pd (l : List (Int × Int)) : List PyData := l.map pr
def led (l : List (Int × Int)) : PyData := .tuple (pd l)
def Led (l : List (Int × Int)) : Prop := l.Pairwise (fun a b => a.1 < b.1) ∧ ∀ x ∈ l, x.2 ≠ 0
theorem pd_len (l : List (Int × Int)) : (pd l).length = l.length := List.length_map ..
def tot : List (Int × Int) → Int → Int
  | [], _ => 0
  | x :: r, k => (if x.1 = k then x.2 else 0) + tot r k
theorem tot_append (a b : List (Int × Int)) (k : Int) : tot (a ++ b) k = tot a k + tot b k := by
  induction a with
  | nil => show tot b k = 0 + tot b k; omega
  | cons x r ih => show (if x.1 = k then x.2 else 0) + tot (r ++ b) k = ((if x.1 = k then x.2 else 0) + tot r k) + tot b k; rw [ih]; omega
theorem tot_no {l : List (Int × Int)} {k : Int} (h : k ∉ l.map (·.1)) : tot l k = 0 := by
  induction l with
  | nil => rfl
  | cons x r ih =>
    rw [List.map_cons, List.mem_cons, not_or] at h
    show (if x.1 = k then x.2 else 0) + tot r k = 0
    rw [if_neg (fun e => h.1 e.symm), ih h.2]; rfl
theorem tot_mem {l : List (Int × Int)} {k : Int} (h : tot l k ≠ 0) : k ∈ l.map (·.1) := by
  by_cases hk : k ∈ l.map (·.1)
  · exact hk
  · exact absurd (tot_no hk) h
/-- sorted, each once -/
def insK (k : Int) : List Int → List Int
  | [] => [k]
  | a :: r => if k < a then k :: a :: r else if k = a then a :: r else a :: insK k r
def usort (l : List Int) : List Int := l.foldr insK []
theorem insK_mem (k x : Int) : ∀ l : List Int, x ∈ insK k l ↔ x = k ∨ x ∈ l
  | [] => by simp [insK]
  | a :: r => by
    unfold insK
    split
    · simp
    · split
      · rename_i h1 h2; subst h2; simp
      · rw [List.mem_cons, insK_mem k x r, List.mem_cons]
        constructor
        · rintro (h | h | h) <;> simp [h]
        · rintro (h | h | h) <;> simp [h]
theorem insK_sorted (k : Int) : ∀ {l : List Int}, l.Pairwise (· < ·) → (insK k l).Pairwise (· < ·)
  | [], _ => by simp [insK]
  | a :: r, h => by
    unfold insK
    obtain ⟨h1, h2⟩ := List.pairwise_cons.mp h
    split
    · rename_i hk
      refine List.pairwise_cons.mpr ⟨fun b hb => ?_, h⟩
      rcases List.mem_cons.mp hb with e | hb
      · rw [e]; exact hk
      · exact Int.lt_trans hk (h1 b hb)
    · split
      · exact h
      · rename_i h3 h4
        refine List.pairwise_cons.mpr ⟨fun b hb => ?_, insK_sorted k h2⟩
        rcases (insK_mem k b r).mp hb with e | hb
        · subst e; omega
        · exact h1 b hb
theorem usort_mem (x : Int) : ∀ l : List Int, x ∈ usort l ↔ x ∈ l
  | [] => by simp [usort]
  | a :: r => by
    show x ∈ insK a (usort r) ↔ _
    rw [insK_mem, usort_mem x r, List.mem_cons]
theorem usort_sorted : ∀ l : List Int, (usort l).Pairwise (· < ·)
  | [] => by simp [usort]
  | a :: r => insK_sorted a (usort_sorted r)
/-- two rising lists with the same members are one -/
theorem rising_eq {α : Type} {f : α → Int} : ∀ {l m : List α}, l.Pairwise (fun a b => f a < f b) → m.Pairwise (fun a b => f a < f b) → (∀ x, x ∈ l ↔ x ∈ m) → l = m
  | [], [], _, _, _ => rfl
  | [], b :: m, _, _, h => by have := (h b).mpr List.mem_cons_self; cases this
  | a :: l, [], _, _, h => by have := (h a).mp List.mem_cons_self; cases this
  | a :: l, b :: m, h1, h2, h => by
    obtain ⟨p1, p2⟩ := List.pairwise_cons.mp h1
    obtain ⟨q1, q2⟩ := List.pairwise_cons.mp h2
    have e : a = b := by
      rcases List.mem_cons.mp ((h a).mp List.mem_cons_self) with e | ha
      · exact e
      · rcases List.mem_cons.mp ((h b).mpr List.mem_cons_self) with e | hb
        · exact e.symm
        · have := q1 a ha; have := p1 b hb; omega
    subst e
    refine congrArg (a :: ·) (rising_eq p2 q2 fun x => ⟨fun hx => ?_, fun hx => ?_⟩)
    · rcases List.mem_cons.mp ((h x).mp (List.mem_cons_of_mem _ hx)) with e | hx'
      · subst e; have := p1 x hx; omega
      · exact hx'
    · rcases List.mem_cons.mp ((h x).mpr (List.mem_cons_of_mem _ hx)) with e | hx'
      · subst e; have := q1 x hx; omega
      · exact hx'
def gather (cs : List (Int × Int)) : List (Int × Int) := ((usort (cs.map (·.1))).filter (fun k => tot cs k != 0)).map (fun k => (k, tot cs k))
theorem gather_mem (cs : List (Int × Int)) (x : Int × Int) : x ∈ gather cs ↔ x.2 = tot cs x.1 ∧ x.2 ≠ 0 := by
  unfold gather
  rw [List.mem_map]
  constructor
  · rintro ⟨k, hk, rfl⟩
    have := (List.mem_filter.mp hk).2
    exact ⟨rfl, by simpa using this⟩
  · rintro ⟨h1, h2⟩
    refine ⟨x.1, List.mem_filter.mpr ⟨(usort_mem _ _).mpr (tot_mem (by rw [← h1]; exact h2)), ?_⟩, by rw [← h1]⟩
    rw [← h1]; simpa using h2
theorem gather_rising (cs : List (Int × Int)) : (gather cs).Pairwise (fun a b => a.1 < b.1) := by
  unfold gather
  rw [List.pairwise_map]
  exact (usort_sorted _).filter _
theorem gather_led (cs : List (Int × Int)) : Led (gather cs) := ⟨gather_rising cs, fun x hx => ((gather_mem cs x).mp hx).2⟩
theorem tot_led {l : List (Int × Int)} (h : l.Pairwise (fun a b => a.1 < b.1)) : ∀ x ∈ l, tot l x.1 = x.2 := by
  induction l with
  | nil => intro x hx; cases hx
  | cons a r ih =>
    obtain ⟨h1, h2⟩ := List.pairwise_cons.mp h
    intro x hx
    show (if a.1 = x.1 then a.2 else 0) + tot r x.1 = x.2
    rcases List.mem_cons.mp hx with e | hx
    · subst e
      rw [if_pos rfl, tot_no]
      · omega
      · intro hm
        obtain ⟨y, hy, ey⟩ := List.mem_map.mp hm
        have := h1 y hy; omega
    · rw [if_neg (by have := h1 x hx; omega), ih h2 x hx]; omega
theorem gather_ext {cs ds : List (Int × Int)} (h : ∀ k, tot cs k = tot ds k) : gather cs = gather ds := rising_eq (f := (·.1)) (gather_rising _) (gather_rising _) fun x => by rw [gather_mem, gather_mem, h]
theorem tot_gather (cs : List (Int × Int)) (k : Int) : tot (gather cs) k = tot cs k := by
  by_cases hk : tot cs k = 0
  · rw [hk]
    refine tot_no fun hm => ?_
    obtain ⟨y, hy, ey⟩ := List.mem_map.mp hm
    have := (gather_mem cs y).mp hy
    rw [ey] at this
    exact this.2 (by rw [this.1, hk])
  · have hm : (k, tot cs k) ∈ gather cs := (gather_mem cs _).mpr ⟨rfl, hk⟩
    exact tot_led (gather_rising cs) _ hm
theorem gather_len (cs : List (Int × Int)) : (gather cs).length ≤ cs.length := by
  have h1 : ∀ l : List Int, (usort l).length ≤ l.length := fun l => by
    induction l with
    | nil => simp [usort]
    | cons a r ih =>
      have h2 : ∀ (k : Int) (m : List Int), (insK k m).length ≤ m.length + 1 := fun k m => by
        induction m with
        | nil => simp [insK]
        | cons b m ih2 =>
          unfold insK
          split
          · simp
          · split
            · simp
            · simp; exact ih2
      have := h2 a (usort r)
      show (insK a (usort r)).length ≤ r.length + 1
      omega
  unfold gather
  rw [List.length_map]
  exact Nat.le_trans (List.length_filter_le ..) (by have := h1 (cs.map (·.1)); rw [List.length_map] at this; exact this)
/-! ### the dict that is filled -/
def getI (m : List (Int × Int)) (k : Int) : Option Int := (m.find? fun x => decide (x.1 = k)).map (·.2)
def putI (m : List (Int × Int)) (k v : Int) : List (Int × Int) := if (m.any fun x => decide (x.1 = k)) = true then m.map (fun x => if x.1 = k then (x.1, v) else x) else m ++ [(k, v)]
def addI (m : List (Int × Int)) (x : Int × Int) : List (Int × Int) := putI m x.1 ((getI m x.1).getD 0 + x.2)
theorem inl_dec (a b : Int) : decide ((Sum.inl a : Key) = Sum.inl b) = decide (a = b) := by
  by_cases h : a = b
  · subst h; simp
  · rw [decide_eq_false h, decide_eq_false (fun e => h (Sum.inl.inj e))]
theorem mdict_val (m : List (Int × Int)) (k : Int) : valV (mdict m) (Sum.inl k) = (getI m k).map V.int := by
  unfold valV getI mdict
  rw [List.find?_map]
  have : (fun kv : Key × V => decide (kv.1 = Sum.inl k)) ∘ (fun x : Int × Int => ((Sum.inl x.1 : Key), V.int x.2)) = fun x => decide (x.1 = k) := by
    funext x; exact inl_dec x.1 k
  rw [this]
  cases m.find? (fun x => decide (x.1 = k)) <;> rfl
theorem mdict_put (m : List (Int × Int)) (k v : Int) : putK (mdict m) (Sum.inl k) (.int v) = mdict (putI m k v) := by
  unfold putK putI mdict
  rw [List.any_map]
  have : (fun kv : Key × V => decide (kv.1 = Sum.inl k)) ∘ (fun x : Int × Int => ((Sum.inl x.1 : Key), V.int x.2)) = fun x => decide (x.1 = k) := by
    funext x; exact inl_dec x.1 k
  rw [this]
  by_cases h : (m.any fun x => decide (x.1 = k)) = true
  · rw [if_pos h, if_pos h, List.map_map, List.map_map]
    refine List.map_congr_left fun x _ => ?_
    show (if (Sum.inl x.1 : Key) = Sum.inl k then _ else _) = _
    by_cases e : x.1 = k
    · rw [if_pos (by rw [e])]; show _ = ((Sum.inl (if x.1 = k then (x.1, v) else x).1 : Key), V.int (if x.1 = k then (x.1, v) else x).2); rw [if_pos e]
    · rw [if_neg (fun z => e (Sum.inl.inj z))]; show _ = ((Sum.inl (if x.1 = k then (x.1, v) else x).1 : Key), V.int (if x.1 = k then (x.1, v) else x).2); rw [if_neg e]
  · rw [if_neg h, if_neg h, List.map_append]; rfl
theorem getI_none {m : List (Int × Int)} {k : Int} : getI m k = none ↔ k ∉ m.map (·.1) := by
  unfold getI
  rw [Option.map_eq_none_iff, List.find?_eq_none]
  constructor
  · intro h hm
    obtain ⟨y, hy, e⟩ := List.mem_map.mp hm
    exact h y hy (decide_eq_true e)
  · intro h x hx e
    exact h (List.mem_map.mpr ⟨x, hx, of_decide_eq_true e⟩)
theorem any_mem {m : List (Int × Int)} {k : Int} : (m.any fun x => decide (x.1 = k)) = true ↔ k ∈ m.map (·.1) := by simp
theorem putI_keys (m : List (Int × Int)) (k v : Int) : (putI m k v).map (·.1) = if k ∈ m.map (·.1) then m.map (·.1) else m.map (·.1) ++ [k] := by
  unfold putI
  by_cases h : k ∈ m.map (·.1)
  · rw [if_pos (any_mem.mpr h), if_pos h, List.map_map]
    refine List.map_congr_left fun x _ => ?_
    show (if x.1 = k then (x.1, v) else x).1 = x.1
    split <;> rfl
  · rw [if_neg (fun z => h (any_mem.mp z)), if_neg h, List.map_append]; rfl
theorem putI_get (m : List (Int × Int)) (k v j : Int) : getI (putI m k v) j = if j = k then some v else getI m j := by
  have h := valV_put (mdict m) (Sum.inl k : Key) (Sum.inl j) (.int v)
  rw [mdict_put, mdict_val] at h
  have inj : ∀ a b : Option Int, a.map V.int = b.map V.int → a = b := fun a b e => by
    cases a <;> cases b <;> first | rfl | (simp at e; done) | (simp at e; exact congrArg some e)
  refine inj _ _ (h.trans ?_)
  by_cases e : j = k
  · rw [if_pos e, if_pos (by rw [e])]; rfl
  · rw [if_neg e, if_neg (fun z => e (Sum.inl.inj z)), mdict_val]
structure DictOf (p : List (Int × Int)) (m : List (Int × Int)) : Prop where
  nd : (m.map (·.1)).Nodup
  mem : ∀ k, k ∈ m.map (·.1) ↔ k ∈ p.map (·.1)
  get : ∀ k, k ∈ p.map (·.1) → getI m k = some (tot p k)
  len : m.length ≤ p.length
theorem DictOf.nil : DictOf [] [] := ⟨by simp, by simp, by simp, by simp⟩
theorem DictOf.add {p m : List (Int × Int)} (h : DictOf p m) (x : Int × Int) : DictOf (p ++ [x]) (addI m x) := by
  have key : ∀ k, k ∈ (p ++ [x]).map (·.1) ↔ k ∈ p.map (·.1) ∨ k = x.1 := fun k => by simp
  have tt : ∀ k, tot (p ++ [x]) k = tot p k + if x.1 = k then x.2 else 0 := fun k => by
    rw [tot_append]; show _ + ((if x.1 = k then x.2 else 0) + 0) = _; omega
  have gv : (getI m x.1).getD 0 = tot p x.1 := by
    by_cases hx : x.1 ∈ p.map (·.1)
    · rw [h.get _ hx]; rfl
    · rw [getI_none.mpr (fun z => hx ((h.mem _).mp z)), tot_no hx]; rfl
  unfold addI
  refine ⟨?_, fun k => ?_, fun k hk => ?_, ?_⟩
  · rw [putI_keys]
    split
    · exact h.nd
    · rename_i hn
      exact List.nodup_append.mpr ⟨h.nd, by simp, fun a ha b hb => by simp at hb; subst hb; exact fun e => hn (e ▸ ha)⟩
  · rw [putI_keys, key]
    split
    · rename_i hm
      rw [h.mem]
      exact ⟨.inl, fun z => z.elim id fun e => by rw [e]; exact (h.mem _).mp hm⟩
    · rw [List.mem_append, h.mem]; simp
  · rw [putI_get, tt, gv]
    by_cases e : k = x.1
    · rw [if_pos e, if_pos e.symm, e]
    · rw [if_neg e, if_neg (fun z => e z.symm), h.get k (((key k).mp hk).resolve_right e)]
      simp
  · have e := congrArg List.length (putI_keys m x.1 ((getI m x.1).getD 0 + x.2))
    rw [List.length_map] at e
    rw [e, List.length_append]
    have := h.len
    split
    · rw [List.length_map]; simp; omega
    · rw [List.length_append, List.length_map]; simp; omega
theorem sorted_keys {p m : List (Int × Int)} (h : DictOf p m) {ks : List Int} (hp : ks.Perm (m.map (·.1))) (hs : ks.Pairwise (· ≤ ·)) : ks = usort (p.map (·.1)) := by
  have nd : ks.Nodup := hp.nodup_iff.mpr h.nd
  have st : ks.Pairwise (· < ·) := (hs.and nd).imp fun {a b} z => by have := z.1; have := z.2; omega
  refine rising_eq (f := id) st (usort_sorted _) fun x => ?_
  rw [hp.mem_iff, usort_mem, h.mem]
end Cr

set_option Elab.async false
set_option linter.all false
set_option maxRecDepth 100000
set_option maxHeartbeats 4000000
namespace Cr
open PySem PySem.Spec PyProof.Rows L2
section
variable {K : PySem.W.Frag} {q : Option Addr} {n : Nat} {δ δ' : List Sl} {te ta tb tc tk : TE} {tt tu : TT} {c c1 c2 c3 : Nat} {Φ Φ1 Φ2 Φ3 : PyData → Prop} {d d1 d2 : PyData} {wi : TI} {A0 B0 Hk H1 : Hp} {σ : L2.St} {D : Ends} {ts tz : TS} {g : TG}
/-- low <= key < high -/
theorem e_chainI {g g' : Int → Int → Bool} {i j k : Int} (ha : E q δ ta (.int i)) (hb : E q δ tb (.int j)) (hc : g i j = true → E q δ tc (.int k)) :
    E q δ (tChain (rI0 fun i j => .bl (g i j)) (rI0 fun i j => .bl (g' i j)) ta tb tc) (.bool (g i j && g' j k)) := fun σ H H1 n sg o Q kk =>
  ha σ H H1 n sg o _ fun d v Hk H2 g1 o1 e dv => hb σ Hk H2 n (sg.mono g1.k) o1 _ fun d' v' Hk' H3 g2 o2 e' dv' => by
    subst e; subst e'
    rw [dv.intOf, dv'.intOf]
    refine ⟨i, j, rfl, rfl, g i j, rfl, ?_⟩
    cases hg : g i j with
    | true =>
      refine iteT (hc hg σ Hk' H3 n (sg.mono (g1.k.trans g2.k)) o2 _ fun d2 v2 Hk2 H4 g3 o3 e2 dv2 => ?_)
      subst e2
      rw [dv2.intOf]
      exact ⟨j, k, rfl, rfl, kk _ _ Hk2 H4 ((g1.trans g2).trans g3) o3 (by rw [hg, Bool.true_and]) (.bl _)⟩
    | false => exact iteF (kk (.bool false) _ Hk' H3 (g1.trans g2) o2 (by rw [hg, Bool.false_and]) (.bl _))
/-! ### dicts of ints -/
theorem e_dget {i : Nat} {m : List (Int × Int)} {k v : Int} (hi : δ[i]? = some (.dic m)) (hk : E q δ tk (.int k)) (hv : getI m k = some v) : E q δ (tDGet (tVar i) tk) (.int v) := fun σ H H1 n sg o Q kk => by
  obtain ⟨x, a, p, rfl, hp⟩ := sg.2 i _ hi (fun z => by cases z)
  refine ⟨.ref p, a, hk σ H H1 n sg o _ fun d w Hk H2 g o1 e dv => ?_⟩
  subst e
  rw [dv.intOf]
  refine ⟨p, .int v, rfl, ?_, kk _ _ Hk H2 g o1 rfl (.int v)⟩
  have h := DGet.k (H := H2) (a := p) (k := (Sum.inl k : Key)) (g.a _ _ (g.k _ _ hp))
  rw [mdict_val, hv] at h
  exact h
theorem e_sortedD {i : Nat} {m p : List (Int × Int)} (hi : δ[i]? = some (.dic m)) (hd : DictOf p m) : E q δ (tCB rSrtDI (tCons (tVar i) tNil)) (.list ((usort (p.map (·.1))).map .int)) := fun σ H H1 n sg o Q kk => by
  obtain ⟨x, a, b, rfl, hp⟩ := sg.2 i _ hi (fun z => by cases z)
  refine ⟨.ref b, a, b, mdict m, m.map (·.1), rfl, .inl (o.a _ _ hp), by unfold mdict; rw [List.map_map, List.map_map]; rfl, fun ys l hy hs hl => ?_⟩
  have e := sorted_keys hd hy hs
  subst e
  have g1 := Gr.new (q := q) (o := .lst ((usort (p.map (·.1))).map V.int)) o.a hl
  exact kk _ _ _ _ g1 (o.go ⟨g1.k, g1.a, fun b' o' _ h => by rw [upd_ne (ne_of_none h hl)]; exact h, g1.f, g1.t⟩) rfl (.lst upd_same (DqAll.ofInts _))
theorem s_addI {i ik ib : Nat} {p : Addr} {m : List (Int × Int)} {k v : Int} (s : At q n δ A0 B0 σ Hk H1) (hi : δ[i]? = some (.adr p)) (hk : δ[ik]? = some (.dat (.int k))) (hb : δ[ib]? = some (.dat (.int v)))
    (hm : H1 p = some (.dK (mdict m))) (nk : Hk p = none) (nq : q ≠ some p) (nb : B0 p = none) (hl : m.length < 1000000)
    (kont : At q n δ A0 B0 σ Hk (upd H1 p (.dK (mdict (addI m (k, v))))) → D.nx σ (upd H1 p (.dK (mdict (addI m (k, v)))))) :
    sDPut (tVar i) (tVar ik) (tOp (rAddU K) (tDGet2 (tVar i) (tVar ik) (tC (.int 0))) (tVar ib)) D σ H1 := by
  have a1 := s.sg.getA hi
  obtain ⟨w, a2, d2⟩ := s.sg.get hk
  obtain ⟨x, a3, d3⟩ := s.sg.get hb
  have e2 := d2.intOf
  have e3 := d3.intOf
  subst e2; subst e3
  have hg := DGet.k (H := H1) (a := p) (k := (Sum.inl k : Key)) hm
  rw [mdict_val] at hg
  have hv : ((getI m k).map V.int).getD (.int 0) = .int ((getI m k).getD 0) := by cases getI m k <;> rfl
  refine ⟨.ref p, a1, p, rfl, .inl ⟨_, .inl hm⟩, .int k, a2, _, hg, ?_⟩
  refine ⟨.int v, a3, .inl ⟨(getI m k).getD 0, v, hv, rfl, .ref p, a1, .int k, a2, p, _, rfl, DPut.k (k := (Sum.inl k : Key)) hm ?_, ?_⟩⟩
  · unfold mdict; rw [List.length_map, sizeLine_eq]; omega
  · rw [mdict_put]
    exact kont ⟨s.ok.cell nk nq, s.sg, s.gr.put nb nk⟩
/-- the defs that gather changes -/
theorem read_summed {Q : VK} {nx : L2.St → Hp → Prop} (cs : List (Int × Int)) (hl : cs.length ≤ 100000) (s : At q n [.dat (.list (pd cs)), .any, .any, .any] A0 B0 σ A0 B0) (fin : Fin q n A0 B0 (fun x => x = led (gather cs)) Q) :
    tSeq (tAsg tDNewK (gName 1)) (tSeq (tFor (iList K (tVar 0)) (gTup K 2 (gCons (gName 2) (gCons (gName 3) gNil))) (sDPut (tVar 1) (tVar 2) (tOp (rAddU K) (tDGet2 (tVar 1) (tVar 2) (tC (.int 0))) (tVar 3))))
      (tRet (tCB (rTupQ K) (tCons (tLc (iList K (tCB rSrtDI (tCons (tVar 1) tNil))) (gName 2) (tTest (tOp (rNeD K) (tDGet (tVar 1) (tVar 2)) (tC (.int 0)))) (tTup (tCons (tVar 2) (tCons (tDGet (tVar 1) (tVar 2)) tNil))) [2]) tNil)))) { nx := nx, rt := Q } σ B0 := by
  intro p hp
  have hk : A0 p = none := s.ok.a.free hp
  have nq : q ≠ some p := fun e => (s.ok.j p e).ne hp
  -- the new dict is ours
  have s1 : At q n [.dat (.list (pd cs)), .adr p, .any, .any] A0 B0 (σ.set 1 (some (.ref p))) A0 (upd B0 p (.dK (mdict []))) :=
    ⟨s.ok.cell hk nq, s.sg.set 1 (s := .adr p) rfl, Gr.cell s.ok.a hp⟩
  refine q_for (n := n) (c := 0) (ie_lst (e_var rfl)) s1 fun items HkW H2 e g0 s2 => ?_
  subst e
  have hkw : HkW p = none := g0.f p hk (by rw [upd_same]; exact fun z => by cases z)
  have hpw : H2 p = some (.dK (mdict [])) := g0.s p _ nq upd_same
  refine ⟨fun i σ' Hk' H' => Same HkW Hk' ∧ ∃ m, DictOf (cs.take i) m ∧ H' p = some (.dK (mdict m)) ∧ Hk' p = none ∧ At q n [.dat (.list (pd cs)), .adr p, .any, .any] A0 B0 σ' Hk' H', ⟨Same.refl _, [], DictOf.nil, hpw, hkw, s2⟩, ?_, ?_, ?_⟩
  · rintro i σ' Hk' H' ⟨h1, m, _, _, _, st⟩
    exact ⟨h1, st.ok.a⟩
  · rintro i d σ' Hk' H' ed ⟨h1, m, hd, hm, hn, st⟩ v Hk2 H3 g2 dv
    obtain ⟨x, ex, rfl⟩ : ∃ x, cs[i]? = some x ∧ pr x = d := by
      unfold pd at ed
      rw [List.getElem?_map] at ed
      exact Option.map_eq_some_iff.mp ed
    have hn2 : Hk2 p = none := g2.f p hn (by rw [hm]; exact fun z => by cases z)
    have hm2 : H3 p = some (.dK (mdict m)) := g2.s p _ (fun z => by cases z) hm
    refine gb_tup2 (vs := [2, 3]) (by simp) (by simp) σ' Hk2 H3 v (st.sg.mono g2.k) g2.a dv _ fun σ2 sg2 hl2 _ => ?_
    have st2 : At q n _ A0 B0 σ2 Hk2 H3 := ⟨st.ok.go g2, sg2, st.gr.trans g2.none_to⟩
    have hlm : m.length ≤ 100000 := by have h1 := hd.len; rw [List.length_take] at h1; omega
    refine s_addI (p := p) (k := x.1) (v := x.2) st2 rfl rfl rfl hm2 hn2 nq hp (by omega) fun st3 => ⟨Hk2, h1.trans g2.k, addI m x, ?_, upd_same, hn2, ?_⟩
    · rw [List.take_add_one, ex]
      exact hd.add x
    · exact st3.weak rfl fun i s e => by
        match i, e with
        | 0, e => exact .inr e
        | 1, e => exact .inr e
        | 2, e => exact .inl (Option.some.inj e).symm
        | 3, e => exact .inl (Option.some.inj e).symm
        | i + 4, e => exact absurd e (by simp)
  · rintro σ' Hk' H' ⟨h1, m, hd, hm, hn, st⟩
    have hlen : (pd cs).length = cs.length := pd_len cs
    rw [hlen, List.take_length] at hd
    -- the dict stands still from here
    have gf := st.gr.freeze hp hn hm
    have st4 : At q n [.dat (.list (pd cs)), .dic m, .any, .any] A0 B0 σ' (upd Hk' p (.dK (mdict m))) H' := by
      refine ⟨⟨gf.a, fun r e => ?_, st.ok.j⟩, ?_, gf⟩
      · rw [upd_ne (fun z => nq (by rw [← z]; exact e))]; exact st.ok.kf r e
      · have g1 := (st.sg.mono (same_upd (o := .dK (mdict m)) hn)).weak (δ' := [.dat (.list (pd cs)), .any, .any, .any]) rfl fun i s e => by
          match i, e with
          | 0, e => exact .inr e
          | 1, e => exact .inl (Option.some.inj e).symm
          | 2, e => exact .inr e
          | 3, e => exact .inr e
          | i + 4, e => exact absurd e (by simp)
        refine ⟨g1.1, fun i s e ne => ?_⟩
        by_cases hi : i = 1
        · subst hi
          have es : s = .dic m := (Option.some.inj e).symm
          subst es
          exact ⟨.ref p, st.sg.getA rfl, p, rfl, upd_same⟩
        · refine g1.2 i s ?_ ne
          match i, e, hi with
          | 0, e, _ => exact e
          | 2, e, _ => exact e
          | 3, e, _ => exact e
          | 1, _, hi => exact absurd rfl hi
          | i + 4, e, _ => exact absurd e (by simp)
    have hget : ∀ k ∈ usort (cs.map (·.1)), getI m k = some (tot cs k) := fun k hk => hd.get k ((usort_mem k _).mp hk)
    refine s_retE (n := n) (d := led (gather cs)) (Φ1 := fun x => x = led (gather cs)) ?_ st4 (Nat.le_refl _) fin rfl
    refine e_tupL (e_is (e_lc (vs := [2]) (emb := PyData.int) (xs := usort (cs.map (·.1))) (ie_lst (e_sortedD rfl hd)) (fun k => tot cs k != 0) (fun k => pr (k, tot cs k)) ?_ fun k hk => ⟨_, gb_name (by simp), tb_is (tb_test (e_neDI (e_dget (m := m) rfl (e_var rfl) (hget k hk)) e_int)) rfl, fun _ => ?_⟩) ?_)
    · have h1 : (usort (cs.map (·.1))).length ≤ cs.length := by
        have nd : (usort (cs.map (·.1))).Nodup := (usort_sorted _).imp fun {a b} h => by omega
        have e : (usort (cs.map (·.1))) = usort (cs.map (·.1)) := rfl
        have hp := hd.len
        have h2 : (usort (cs.map (·.1))).length ≤ (m.map (·.1)).length := nd.length_le_of_subset fun x hx => (hd.mem x).mpr ((usort_mem x _).mp hx)
        rw [List.length_map] at h2; omega
      omega
    · exact e_tup (ds := [.int k, .int (tot cs k)]) (ae_cons (e_var rfl) (ae_cons (e_dget (m := m) rfl (e_var rfl) (hget k hk)) ae_nil))
    · unfold pd gather
      rw [List.map_map]; rfl
end
end Cr

set_option Elab.async false
set_option linter.all false
set_option maxRecDepth 100000
set_option maxHeartbeats 4000000
namespace Cr
open PySem PySem.Spec PyProof.Rows L2
section
variable {q : Option Addr} {n : Nat} {δ : List Sl} {A0 B0 Hk H1 : Hp} {σ : L2.St}
theorem At.forget (s : At q n δ A0 B0 σ Hk H1) (i : Nat) : At q n (δ.set i .any) A0 B0 σ Hk H1 := s.weak (List.length_set ..) fun j t e => by
  by_cases h : i = j
  · subst h
    by_cases hl : i < δ.length
    · rw [List.getElem?_set_self hl] at e; exact .inl (Option.some.inj e).symm
    · rw [List.getElem?_eq_none (by rw [List.length_set]; omega)] at e; cases e
  · rw [List.getElem?_set_ne h] at e; exact .inr e
end
theorem e_andNo {q : Option Addr} {δ : List Sl} {ta tb : TE} (h : E q δ ta (.bool false)) : E q δ (tAndV ta tb) (.bool false) := e_is (e_andV (b := false) h (fun e => by cases e)) rfl
def Bd (B : Nat) (l : List (Int × Int)) : Prop := ∀ x ∈ l, x.1.natAbs < 2 ^ B ∧ x.2.natAbs < 2 ^ B
def isChangeD : PyData → Bool
  | .tuple [.int _, .int _] => true
  | _ => false
def unpr : PyData → Option (Int × Int)
  | .tuple [.int a, .int b] => some (a, b)
  | _ => none
theorem change_pr {d : PyData} (h : isChangeD d = true) : ∃ x, d = pr x := by
  match d, h with
  | .tuple [.int a, .int b], _ => exact ⟨(a, b), rfl⟩
theorem changes_pd : ∀ {ds : List PyData}, ds.all isChangeD = true → ∃ l, ds = pd l
  | [], _ => ⟨[], rfl⟩
  | d :: ds, h => by
    rw [List.all_cons, Bool.and_eq_true] at h
    obtain ⟨x, rfl⟩ := change_pr h.1
    obtain ⟨l, rfl⟩ := changes_pd h.2
    exact ⟨x :: l, rfl⟩
theorem pd_changes (l : List (Int × Int)) : (pd l).all isChangeD = true := by
  rw [List.all_eq_true]
  intro d hd
  obtain ⟨x, _, rfl⟩ := List.mem_map.mp hd
  rfl
def adj {α : Type} (l : List α) : List (α × α) := l.zip (l.drop 1)
def asc (l : List (Int × Int)) : Bool := (adj l).all fun p => decide (p.1.1 < p.2.1)
def nz (l : List (Int × Int)) : Bool := l.all fun x => !(x.2 == 0)
def isLedD : PyData → Bool
  | .tuple ds => ds.all isChangeD && (asc (ds.filterMap unpr) && nz (ds.filterMap unpr))
  | _ => false
theorem unpr_pd (l : List (Int × Int)) : (pd l).filterMap unpr = l := by
  unfold pd
  rw [List.filterMap_map]
  have : unpr ∘ pr = some := by funext x; rfl
  rw [this, List.filterMap_some]
theorem isLed_led (l : List (Int × Int)) : isLedD (led l) = (asc l && nz l) := by
  show ((pd l).all isChangeD && (asc ((pd l).filterMap unpr) && nz ((pd l).filterMap unpr))) = _
  rw [unpr_pd, pd_changes, Bool.true_and]
theorem adj_of {α : Type} {R : α → α → Prop} : ∀ {l : List α}, l.Pairwise R → ∀ p ∈ adj l, R p.1 p.2
  | [], _, p, h => by simp [adj] at h
  | [a], _, p, h => by simp [adj] at h
  | a :: b :: r, h, p, hp => by
    have e : adj (a :: b :: r) = (a, b) :: adj (b :: r) := rfl
    rw [e] at hp
    obtain ⟨h1, h2⟩ := List.pairwise_cons.mp h
    rcases List.mem_cons.mp hp with e | hp
    · subst e; exact h1 b List.mem_cons_self
    · exact adj_of h2 p hp
theorem led_isLed {l : List (Int × Int)} (h : Led l) : isLedD (led l) = true := by
  rw [isLed_led, Bool.and_eq_true]
  refine ⟨List.all_eq_true.mpr fun p hp => decide_eq_true (adj_of h.1 p hp), List.all_eq_true.mpr fun x hx => ?_⟩
  have := h.2 x hx
  simpa using this
theorem zip_adj (l : List (Int × Int)) : zipD (pd l) (cutD (pd l) (some 1) none) = (adj l).map fun p => .tuple [pr p.1, pr p.2] := by
  have h1 : cutD (pd l) (some 1) none = pd (l.drop 1) := by
    unfold cutD
    rw [show HT.sIx (pd l).length 0 (some 1) = min 1 (pd l).length from HT.sIx_nat _ 0 1, HT.sIx_none, pd_len]
    unfold pd
    rw [← List.map_drop, ← List.map_take]
    cases l with
    | nil => rfl
    | cons a r =>
      rw [show min 1 (a :: r).length = 1 by rw [List.length_cons]; omega]
      rw [List.take_of_length_le (by rw [List.length_drop]; omega)]
  rw [h1]
  have h2 : ∀ a b : List (Int × Int), zipD (pd a) (pd b) = (a.zip b).map fun p => .tuple [pr p.1, pr p.2] := fun a => by
    induction a with
    | nil => intro b; rfl
    | cons x r ih =>
      intro b
      cases b with
      | nil => rfl
      | cons y s => exact congrArg (PyData.tuple [pr x, pr y] :: ·) (ih s)
  exact h2 l (l.drop 1)
theorem bools_map {α : Type} (l : List α) (f : α → Bool) : l.map (fun x => PyData.bool (f x)) = (l.map f).map PyData.bool := by rw [List.map_map]; rfl
theorem all_id_map {α : Type} (l : List α) (f : α → Bool) : (l.map f).all id = l.all f := by rw [List.all_map]; rfl
end Cr

set_option Elab.async false
set_option linter.all false
set_option maxRecDepth 100000
set_option maxHeartbeats 4000000
namespace Cr
open PySem PySem.Spec PyProof.Rows L2
section
variable {K : PySem.W.Frag} {q : Option Addr} {n : Nat} {δ δ' : List Sl} {te ta tb tc tk : TE} {tt tu : TT} {c c1 c2 c3 : Nat} {Φ Φ1 Φ2 Φ3 : PyData → Prop} {d d1 d2 : PyData} {wi : TI} {A0 B0 Hk H1 : Hp} {σ : L2.St} {D : Ends} {ts tz : TS} {g : TG}
/-! ### the script -/
theorem e_lenS {i : Nat} {ns : List Int} (hi : δ[i]? = some (.scr K ns)) : E q δ (tCB (rLenQ K) (tCons (tVar i) tNil)) (.int ns.length) := fun σ H H1 n sg o Q k => by
  obtain ⟨v, a, p, rfl, h⟩ := sg.2 i _ hi (fun z => by cases z)
  refine ⟨.ref p, a, p, ns.map V.int, rfl, .inl (Same.seq o.a h), ?_⟩
  rw [List.length_map]
  exact k _ _ H H1 (Gr.refl o.a) o rfl (.int _)
theorem e_iS {i : Nat} {ns : List Int} {j v : Int} (hi : δ[i]? = some (.scr K ns)) (hb : E q δ tb (.int j)) (e : atI ns j = some v) : E q δ (tOp (rIx K) (tVar i) tb) (.int v) := fun σ H H1 n sg o Q k => by
  obtain ⟨x, a, p, rfl, h⟩ := sg.2 i _ hi (fun z => by cases z)
  refine ⟨.ref p, a, hb σ H H1 n sg o _ fun d w Hk H2 g o1 ed dw => ?_⟩
  subst ed
  rw [dw.intOf]
  refine .inl ⟨p, ns.map V.int, j, .int v, rfl, rfl, Same.seq (g.k.trans g.a) h, ?_, k _ _ Hk H2 g o1 rfl (.int v)⟩
  unfold atI at e ⊢
  rw [List.length_map]
  cases hx : ixN ns.length j with
  | none => rw [hx] at e; cases e
  | some m =>
    rw [hx] at e
    show (ns.map V.int)[m]? = some (.int v)
    rw [List.getElem?_map, show ns[m]? = some v from e]; rfl
/-! ### the jar: its three ints, drawn from in turn -/
def KJ (p : Addr) (L : List V) : Hp := fun b => if b = p then some (.lst L) else none
theorem KJ.at {p : Addr} {L : List V} : KJ p L p = some (.lst L) := if_pos rfl
theorem KJ.same {p : Addr} {L : List V} {H : Hp} (h : H p = some (.lst L)) : Same (KJ p L) H := fun b o e => by
  unfold KJ at e
  split at e
  · rename_i hb; subst hb; rw [h]; exact e
  · cases e
/-- the state seen from the jar alone -/
theorem at_jar {p : Addr} {x y z : Int} {b : PyData} {σ : L2.St} {H : Hp} (h : H p = some (.lst [.int x, .int y, .int z])) (h0 : σ[0]? = some (some (.ref p))) {δr : List Sl} (hs : ∀ H', Sg H' σ (.any :: δr)) :
    At none 0 (.dat (.list [.int x, .int y, .int z]) :: δr) (KJ p [.int x, .int y, .int z]) H σ (KJ p [.int x, .int y, .int z]) H := by
  refine ⟨⟨KJ.same h, fun r e => (by cases e), fun r e => (by cases e)⟩, ⟨(hs (KJ p [])).1, fun i s e ne => ?_⟩, Gr.refl (KJ.same h)⟩
  cases i with
  | zero =>
    have es : s = .dat (.list [.int x, .int y, .int z]) := (Option.some.inj e).symm
    subst es
    exact ⟨.ref p, h0, .lst KJ.at (.cons (.int x) (.cons (.int y) (.cons (.int z) .nil)))⟩
  | succ i => exact (hs _).2 (i + 1) s e ne
/-- xs[j] = e at a list that stands at p -/
theorem s_setAt {p : Addr} {xs : List V} {j : Nat} (h : E none δ te d) (s : At none 0 δ A0 B0 σ Hk H1) (h0 : σ[0]? = some (some (.ref p))) (hp : H1 p = some (.lst xs)) (hj : j < xs.length)
    (k : ∀ v Hk' H2, Dq Hk' v d → Same H1 H2 → (∀ b, H1 b ≠ none → H2 b ≠ none) → D.nx σ (upd H2 p (.lst (xs.set j v)))) : tAsg te (gSub (tVar 0) (tC (.int (j : Int))) rSetL) D σ H1 :=
  h σ Hk H1 0 s.sg s.ok _ fun d' v Hk' H2 g o e dv => by
    subst e
    have sm : Same H1 H2 := fun b o h => g.s b o (fun z => by cases z) h
    exact ⟨.ref p, h0, p, xs, (j : Int), j, rfl, rfl, sm _ _ hp, by unfold ixN; rw [if_pos (by omega), if_pos (by omega)]; simp, k v Hk' H2 dv sm g.t⟩
/-- what a draw leaves -/
structure Drawn1 (p : Addr) (H H2 : Hp) : Prop where
  s : ∀ b o, b ≠ p → H b = some o → H2 b = some o
  t : ∀ b, H b ≠ none → H2 b ≠ none
theorem Drawn1.refl {p : Addr} {H : Hp} : Drawn1 p H H := ⟨fun _ _ _ h => h, fun _ h => h⟩
theorem Drawn1.same {p : Addr} {H H1 H2 : Hp} (a : Drawn1 p H H1) (s : Same H1 H2) (t : ∀ b, H1 b ≠ none → H2 b ≠ none) : Drawn1 p H H2 := ⟨fun b o n h => s b o (a.s b o n h), fun b h => t b (a.t b h)⟩
theorem Drawn1.put {p : Addr} {H H1 : Hp} {o : HO} (a : Drawn1 p H H1) : Drawn1 p H (upd H1 p o) := ⟨fun b u n h => by rw [upd_ne n]; exact a.s b u n h, fun b h => by
  by_cases e : b = p
  · rw [e, upd_same]; exact fun z => by cases z
  · rw [upd_ne e]; exact a.t b h⟩
theorem Drawn1.end {p : Addr} {A0 B0 H2 : Hp} {m : Nat} {x y z : Int} (a : Drawn1 p B0 H2) (ok : Ok (some p) m A0 B0) (h2 : H2 p = some (.lst [.int x, .int y, .int z])) (hy : 0 ≤ y) (hy2 : y < 2 ^ 140) (hz : 0 ≤ z) (hn : z + n ≤ 1000000000) :
    Gr (some p) A0 B0 A0 H2 ∧ Ok (some p) n A0 H2 := by
  have nk := ok.kf p rfl
  have sm : Same A0 H2 := fun b o h => a.s b o (ne_of_none h nk) (ok.a b o h)
  refine ⟨⟨Same.refl _, sm, fun b o nb h => a.s b o (fun e => nb (by rw [e])) h, fun b h _ => h, a.t⟩, sm, ok.kf, fun r e => ?_⟩
  cases e
  exact ⟨x, y, z, h2, hy, hy2, hz, hn⟩
def R_pick : RelX := fun q sls c Φ => c = 1 ∧ ∃ p b, q = some p ∧ 0 < b ∧ b.natAbs < 2 ^ 400 ∧ sls = [.adr p, .dat (.int b)] ∧ Φ = fun d => ∃ i, (0 ≤ i ∧ i < b) ∧ d = .int i
theorem fmod_in {a b : Int} (h : 0 < b) : 0 ≤ a.fmod b ∧ a.fmod b < b := ⟨Int.fmod_nonneg_of_pos a h, Int.fmod_lt_of_pos a h⟩
/-- the text of a draw -/
abbrev tJ (K : PySem.W.Frag) (i : Int) : TE := tOp (rIx K) (tVar 0) (tC (.int i))
abbrev tBlend (K : PySem.W.Frag) (first : TE) (f e m a : Int) : TE := tOp (rI (fun _ j => j ≠ 0) fun i j => .int (i.fmod j)) (tOp (rI CPowW fun i j => .int (i ^ j.toNat)) (tCB rIntQ (tCons (tOp (rAddU K) first (tOp rMulU (tC (.int f)) (tJ K 2))) tNil)) (tC (.int e))) (tOp (rAddU K) (tOp (rI CPowW fun i j => .int (i ^ j.toNat)) (tC (.int 10)) (tC (.int m))) (tC (.int a)))
theorem read_pick {Q : VK} {nx : L2.St → Hp → Prop} {p : Addr} {b : Int} (hb : 0 < b) (hb2 : b.natAbs < 2 ^ 400) (s : At (some p) (n + 1) [.adr p, .dat (.int b), .any, .any] A0 B0 σ A0 B0) (fin : Fin (some p) n A0 B0 (fun d => ∃ i, (0 ≤ i ∧ i < b) ∧ d = .int i) Q) :
    tSeq (tIfS (tTest (tOp (rI0 fun i j => .bl (decide (j < i))) (tJ K 0) (tC (.int 0)))) (tSeq (tAsg (tOp (rI (fun _ j => j ≠ 0) fun i j => .int (i.fmod j)) (tCB rIntQ (tCons (tJ K 0) tNil)) (tVar 1)) (gName 2)) (tSeq (tAsg (tOp (rI CDivW fun i j => .int (i / j)) (tJ K 0) (tVar 1)) (gSub (tVar 0) (tC (.int 0)) rSetL)) (tRet (tVar 2)))) tNext)
      (tSeq (tAsg (tOp (rAddU K) (tJ K 2) (tC (.int 1))) (gSub (tVar 0) (tC (.int 2)) rSetL)) (tSeq (tAsg (tBlend K (tJ K 1) 90019 2 38 183) (gName 3)) (tSeq (tAsg (tBlend K (tVar 3) 1299827 3 39 187) (gName 3))
        (tRet (tOp (rI (fun _ j => j ≠ 0) fun i j => .int (i.fmod j)) (tOp (rI CDivW fun i j => .int (i / j)) (tVar 3) (tC (.int 65536))) (tVar 1)))))) { nx := nx, rt := Q } σ B0 := by
  obtain ⟨x, y, z, hj, hy, hy2, hz, hn⟩ := s.ok.j p rfl
  have h0 : σ[0]? = some (some (.ref p)) := s.sg.getA rfl
  obtain ⟨vb, h1, db⟩ := s.sg.get (i := 1) rfl
  have eb := db.intOf
  subst eb
  have hlen : σ.length = 4 := s.sg.1
  have hs : ∀ H', Sg H' σ [.any, .dat (.int b), .any, .any] := fun H' => ⟨hlen, fun i s e ne => by
    match i, e with
    | 0, e => exact absurd (Option.some.inj e).symm ne
    | 1, e => cases (Option.some.inj e); exact ⟨_, h1, .int b⟩
    | 2, e => exact absurd (Option.some.inj e).symm ne
    | 3, e => exact absurd (Option.some.inj e).symm ne
    | i + 4, e => exact absurd e (by simp)⟩
  have nb : b ≠ 0 := by omega
  have sJ := at_jar (b := .none) hj h0 hs
  refine q_whenB (b := decide (0 < x)) (tb_test (e_gtI (e_iL (e_var rfl) e_int rfl) e_int)) sJ (fun hx Hk1 H1 g1 a1 => ?_) (fun hx Hk1 H1 g1 a1 => ?_)
  · -- digit by digit
    refine q_asgX (e_mod (e_intI (e_iL (e_var rfl) e_int rfl)) (e_var rfl) nb) a1 fun v2 Hk2 H2 g2 a2 dv2 => ?_
    have ev2 := dv2.intOf
    subst ev2
    have j2 : H2 p = some (.lst [.int x, .int y, .int z]) := g2.s _ _ (fun z => by cases z) (g1.s _ _ (fun z => by cases z) hj)
    have d1 : Drawn1 p B0 H2 := (Drawn1.refl.same (fun b o h => g1.s b o (fun z => by cases z) h) g1.t).same (fun b o h => g2.s b o (fun z => by cases z) h) g2.t
    refine s_setAt (D := { nx := _, rt := Q }) (j := 0) (e_fdiv (e_iL (e_var rfl) e_int rfl) (e_var rfl) (wide_div hb hb2 (by omega) (by omega))) a2 (by rw [List.getElem?_set_ne (by omega)]; exact h0) j2 (by simp) fun v Hk3 H3 dv sm tm => ?_
    have ev := dv.intOf
    subst ev
    obtain ⟨ge, oe⟩ := ((d1.same sm tm).put (o := .lst [.int (x / b), .int y, .int z])).end (n := n) s.ok upd_same hy hy2 hz (by omega)
    exact ⟨_, List.getElem?_set_self (by omega), fin _ _ A0 _ ge oe ⟨_, fmod_in hb, rfl⟩ (.int _)⟩
  · -- by the blend
    have j1 : H1 p = some (.lst [.int x, .int y, .int z]) := g1.s _ _ (fun z => by cases z) hj
    have d1 : Drawn1 p B0 H1 := Drawn1.refl.same (fun b o h => g1.s b o (fun z => by cases z) h) g1.t
    refine s_setAt (D := { nx := _, rt := Q }) (j := 2) (e_addI (e_iL (e_var rfl) e_int rfl) e_int) a1 h0 j1 (by simp) fun v Hk2 H2 dv sm tm => ?_
    have ev := dv.intOf
    subst ev
    have d2 : Drawn1 p B0 (upd H2 p (.lst [.int x, .int y, .int (z + 1)])) := (d1.same sm tm).put
    obtain ⟨z1, ez⟩ : ∃ z1, z1 = z + 1 := ⟨_, rfl⟩
    rw [← ez] at d2
    show tSeq _ _ { nx := nx, rt := Q } σ (upd H2 p (.lst [.int x, .int y, .int (z + 1)]))
    rw [← ez]
    have sK := at_jar (p := p) (b := .none) (x := x) (y := y) (z := z1) (H := upd H2 p (.lst [.int x, .int y, .int z1])) upd_same h0 hs
    obtain ⟨m1, em1⟩ : ∃ m : Int, m = (10 : Int) ^ (38 : Int).toNat + 183 := ⟨_, rfl⟩
    obtain ⟨m2, em2⟩ : ∃ m : Int, m = (10 : Int) ^ (39 : Int).toNat + 187 := ⟨_, rfl⟩
    have hm1 : 0 < m1 ∧ m1 < 2 ^ 140 := by rw [em1]; exact ⟨by decide, by decide⟩
    have hm2 : 0 < m2 := by rw [em2]; decide
    refine q_asgX (e_mod (j := m1) (e_pow (i := y + 90019 * z1) (j := 2) (e_intI (e_addI (e_iL (e_var rfl) e_int rfl) (e_mulI e_int (e_iL (e_var rfl) e_int rfl) (wide_mul (a := 17) (b := 40) (by decide) (by omega) (by omega) (by omega) (by omega))))) e_int (pow_ok (a := 150) (by omega) (by omega) (by omega) (by omega))) (e_is (e_addI (e_pow e_int e_int (pow_ok (a := 4) (by decide) (by omega) (by omega) (by omega))) e_int) (by rw [em1])) (by omega)) sK fun v3 Hk3 H3 g3 a3 dv3 => ?_
    have b1 := fmod_in (a := (y + 90019 * z1) ^ (2 : Int).toNat) hm1.1
    obtain ⟨f1, ef1⟩ : ∃ f, f = ((y + 90019 * z1) ^ (2 : Int).toNat).fmod m1 := ⟨_, rfl⟩
    rw [← ef1] at a3 b1
    refine q_asgX (e_mod (j := m2) (e_pow (i := f1 + 1299827 * z1) (j := 3) (e_intI (e_addI (e_var rfl) (e_mulI e_int (e_iL (e_var rfl) e_int rfl) (wide_mul (a := 21) (b := 40) (by decide) (by omega) (by omega) (by omega) (by omega))))) e_int (pow_ok (a := 150) (by omega) (by omega) (by omega) (by omega))) (e_is (e_addI (e_pow e_int e_int (pow_ok (a := 4) (by decide) (by omega) (by omega) (by omega))) e_int) (by rw [em2])) (by omega)) a3 fun v4 Hk4 H4 g4 a4 dv4 => ?_
    obtain ⟨f2, ef2⟩ : ∃ f, f = ((f1 + 1299827 * z1) ^ (3 : Int).toNat).fmod m2 := ⟨_, rfl⟩
    rw [← ef2] at a4
    have d4 : Drawn1 p B0 H4 := (d2.same (fun b o h => g3.s b o (fun z => by cases z) h) g3.t).same (fun b o h => g4.s b o (fun z => by cases z) h) g4.t
    have j4 : H4 p = some (.lst [.int x, .int y, .int z1]) := g4.s _ _ (fun z => by cases z) (g3.s _ _ (fun z => by cases z) upd_same)
    refine e_mod (i := f2 / 65536) (j := b) (e_fdiv (e_var rfl) e_int (wide_div (b := 20) (by omega) (by decide) (by omega) (by omega))) (e_var rfl) nb _ Hk4 H4 0 a4.sg a4.ok _ fun d v Hk5 H5 g5 o5 ed dv5 => ?_
    subst ed
    have ev5 := dv5.intOf
    subst ev5
    have j5 : H5 p = some (.lst [.int x, .int y, .int z1]) := g5.s _ _ (fun z => by cases z) j4
    obtain ⟨ge, oe⟩ := (d4.same (fun b o h => g5.s b o (fun z => by cases z) h) g5.t).end (n := n) s.ok j5 hy hy2 (by omega) (by omega)
    exact fin _ _ A0 _ ge oe ⟨_, fmod_in hb, rfl⟩ (.int _)
end
end Cr

set_option Elab.async false
set_option linter.all false
set_option maxRecDepth 100000
set_option maxHeartbeats 4000000
namespace Cr
open PySem PySem.Spec PyProof.Rows L2
section
variable {K : PySem.W.Frag} {q : Option Addr} {n : Nat} {δ δ' : List Sl} {te ta tb tc tk : TE} {tt tu : TT} {c c1 c2 c3 : Nat} {Φ Φ1 Φ2 Φ3 : PyData → Prop} {d d1 d2 : PyData} {wi : TI} {A0 B0 Hk H1 H2 Hk' : Hp} {σ : L2.St} {D : Ends} {ts tz : TS} {g : TG} {p : Addr} {ds : List PyData}
/-! ### a list of our own that grows -/
structure Cell (q : Option Addr) (B0 Hk H1 : Hp) (p : Addr) (ds : List PyData) : Prop where
  nk : Hk p = none
  nq : q ≠ some p
  nb : B0 p = none
  ex : ∃ xs, H1 p = some (.lst xs) ∧ DqAll Hk xs ds
theorem Cell.go (x : Cell q B0 Hk H1 p ds) (g : Gr q Hk H1 Hk' H2) : Cell q B0 Hk' H2 p ds := by
  obtain ⟨xs, e, h⟩ := x.ex
  exact ⟨g.f p x.nk (by rw [e]; exact fun z => by cases z), x.nq, x.nb, xs, g.s p _ x.nq e, DqAll.mono g.k _ _ h⟩
theorem s_append {i : Nat} (h : J q δ te c Φ) (s : At q (n + c) δ A0 B0 σ Hk H1) (cl : Cell q B0 Hk H1 p ds) (hi : δ[i]? = some (.adr p)) (hl : ds.length < 1000000)
    (k : ∀ d Hk' H2, Φ d → Same Hk Hk' → At q n δ A0 B0 σ Hk' H2 → Cell q B0 Hk' H2 p (ds ++ [d]) → D.nx σ H2) : tDrop (tBM K "list" rAppend (tVar i) (tCons te tNil)) D σ H1 := by
  obtain ⟨xs, e, hd⟩ := cl.ex
  refine ⟨.ref p, s.sg.getA hi, .inl ⟨rfl, xs, .inl (.inl e)⟩, h σ Hk H1 n s.sg s.ok _ fun d v Hk' H2 g o pd dv => ?_⟩
  have cl2 := cl.go g
  have e2 := g.s p _ cl.nq e
  refine ⟨p, xs, v, rfl, rfl, e2, by rw [hd.length, sizeLine_eq]; omega, k d Hk' _ pd g.k ⟨o.cell cl2.nk cl.nq, s.sg.mono g.k, (s.gr.trans g).put cl.nb cl2.nk⟩ ⟨cl2.nk, cl.nq, cl.nb, xs ++ [v], upd_same, (DqAll.mono g.k _ _ hd).append (.cons dv .nil)⟩⟩
theorem q_append {i : Nat} (h : J q δ te c Φ) (s : At q (n + c) δ A0 B0 σ Hk H1) (cl : Cell q B0 Hk H1 p ds) (hi : δ[i]? = some (.adr p)) (hl : ds.length < 1000000)
    (k : ∀ d Hk' H2, Φ d → Same Hk Hk' → At q n δ A0 B0 σ Hk' H2 → Cell q B0 Hk' H2 p (ds ++ [d]) → tz D σ H2) : tSeq (tDrop (tBM K "list" rAppend (tVar i) (tCons te tNil))) tz D σ H1 := s_append (D := { D with nx := tz D }) h s cl hi hl k
/-- x = [] -/
theorem s_newL {i : Nat} (s : At q n δ A0 B0 σ Hk H1) (k : ∀ p H2, At q n (δ.set i (.adr p)) A0 B0 (σ.set i (some (.ref p))) Hk H2 → Cell q B0 Hk H2 p [] → D.nx (σ.set i (some (.ref p))) H2) : tAsg (tLst tNil) (gName i) D σ H1 := by
  refine ⟨Nat.zero_le _, fun p hp => ?_⟩
  have hk : Hk p = none := s.ok.a.free hp
  have hb : B0 p = none := by
    cases e : B0 p with
    | none => rfl
    | some o => exact absurd hp (s.gr.t p (by rw [e]; exact fun z => by cases z))
  have nq : q ≠ some p := fun e => (s.ok.j p e).ne hp
  exact k p _ ⟨s.ok.cell hk nq, s.sg.set i (s := .adr p) rfl, s.gr.put hb hk⟩ ⟨hk, nq, hb, [], upd_same, .nil⟩
theorem q_newL {i : Nat} (s : At q n δ A0 B0 σ Hk H1) (k : ∀ p H2, At q n (δ.set i (.adr p)) A0 B0 (σ.set i (some (.ref p))) Hk H2 → Cell q B0 Hk H2 p [] → tz D (σ.set i (some (.ref p))) H2) : tSeq (tAsg (tLst tNil) (gName i)) tz D σ H1 := s_newL (D := { D with nx := tz D }) s k
/-- x, y = [], e -/
theorem q_parNew {i j : Nat} (h : J q δ te c Φ) (s : At q (n + c) δ A0 B0 σ Hk H1)
    (k : ∀ p d σ' Hk' H2, Φ d → At q n ((δ.set i (.adr p)).set j (.dat d)) A0 B0 σ' Hk' H2 → Cell q B0 Hk' H2 p [] → tz D σ' H2) : tSeq (tPar i j (tCons (tLst tNil) (tCons te tNil))) tz D σ H1 := by
  refine ⟨Nat.zero_le _, fun p hp => ?_⟩
  have hk : Hk p = none := s.ok.a.free hp
  have hb : B0 p = none := by
    cases e : B0 p with
    | none => rfl
    | some o => exact absurd hp (s.gr.t p (by rw [e]; exact fun z => by cases z))
  have nq : q ≠ some p := fun e => (s.ok.j p e).ne hp
  have s1 : At q (n + c) δ A0 B0 σ Hk (upd H1 p (.lst [])) := ⟨s.ok.cell hk nq, s.sg, s.gr.put hb hk⟩
  have c1 : Cell q B0 Hk (upd H1 p (.lst [])) p [] := ⟨hk, nq, hb, [], upd_same, .nil⟩
  refine h σ Hk _ n s1.sg s1.ok _ fun d v Hk' H2 g o pd dv => ?_
  exact ⟨.ref p, v, rfl, k p d _ Hk' H2 pd ⟨o, ((s1.sg.mono g.k).set i (s := .adr p) rfl).set j (s := .dat d) dv, s1.gr.trans g⟩ (c1.go g)⟩
/-- it stands still from here -/
theorem At.freeze {i : Nat} (s : At q n δ A0 B0 σ Hk H1) (cl : Cell q B0 Hk H1 p ds) (hi : δ[i]? = some (.adr p)) : ∃ Hk', Same Hk Hk' ∧ At q n (δ.set i (.dat (.list ds))) A0 B0 σ Hk' H1 := by
  obtain ⟨xs, e, hd⟩ := cl.ex
  have gf := s.gr.freeze cl.nb cl.nk e
  refine ⟨upd Hk p (.lst xs), same_upd cl.nk, ⟨gf.a, fun r er => ?_, s.ok.j⟩, ?_, gf⟩
  · rw [upd_ne (fun z => cl.nq (by rw [← z]; exact er))]; exact s.ok.kf r er
  · have sg := s.sg.mono (same_upd (o := .lst xs) cl.nk)
    refine ⟨by rw [List.length_set]; exact sg.1, fun j t ej ne => ?_⟩
    by_cases hj : i = j
    · subst hj
      have hl : i < δ.length := (List.getElem?_eq_some_iff.mp hi).1
      rw [List.getElem?_set_self hl] at ej
      cases ej
      exact ⟨.ref p, sg.getA hi, .lst upd_same (DqAll.mono (same_upd cl.nk) _ _ hd)⟩
    · rw [List.getElem?_set_ne hj] at ej
      exact sg.2 j t ej ne
/-- return [..] as a list of its own -/
theorem s_retLst {ta : TA} (h : AE q δ ta (ds.map Sl.dat)) (hl : ds.length ≤ 1000000) (s : At q n δ A0 B0 σ Hk H1) (k : ∀ p vs Hk2 H2, Gr q Hk H1 Hk2 H2 → H2 p = none → DqAll Hk2 vs ds → D.rt (.ref p) (upd H2 p (.lst vs))) : tRet (tLst ta) D σ H1 :=
  h σ Hk H1 n s.sg s.ok _ fun sls vs Hk2 H2 g o e hv => by
    subst e
    exact ⟨Nat.le_trans (by rw [hv.dats.length]; exact hl) (by rw [sizeLine_eq]; decide), fun p hp => k p vs Hk2 H2 g hp hv.dats⟩
/-! ### draws -/
theorem j_pick {i : Nat} {b : Int} {E0 : XK} (hi : δ[i]? = some (.adr p)) (h : E (some p) δ te (.int b)) (hb : 0 < b) (hb2 : b.natAbs < 2 ^ 400) : J (some p) δ (tCall (spX R_pick) [] E0 (tCons (tVar i) (tCons te tNil))) 1 (IntP fun x => 0 ≤ x ∧ x < b) :=
  (j_call (R := R_pick) (c := 1) (ae_adr hi (ae_cons h ae_nil)) fun sls e => ⟨rfl, p, b, rfl, hb, hb2, e, rfl⟩).cost (by omega)
end
/-! ### bounds -/
def Amt (M : Int) (l : List (Int × Int)) : Prop := ∀ x ∈ l, -M ≤ x.2 ∧ x.2 ≤ M
theorem tot_bound {M : Int} (hM : 0 ≤ M) : ∀ {l : List (Int × Int)}, Amt M l → ∀ k, -(M * l.length) ≤ tot l k ∧ tot l k ≤ M * l.length
  | [], _, k => by show -(M * 0) ≤ 0 ∧ 0 ≤ M * 0; rw [Int.mul_zero]; omega
  | x :: r, h, k => by
    have ih := tot_bound hM (l := r) (fun y hy => h y (List.mem_cons_of_mem _ hy)) k
    have hx := h x List.mem_cons_self
    have e : M * ((x :: r).length : Int) = M * r.length + M := by rw [List.length_cons, Int.natCast_add, Int.mul_add]; omega
    rw [e]
    show -(M * r.length + M) ≤ (if x.1 = k then x.2 else 0) + tot r k ∧ (if x.1 = k then x.2 else 0) + tot r k ≤ M * r.length + M
    split <;> omega
theorem gather_keys {cs : List (Int × Int)} {P : Int → Prop} (h : ∀ x ∈ cs, P x.1) : ∀ x ∈ gather cs, P x.1 := fun x hx => by
  have h1 := (gather_mem cs x).mp hx
  have h2 := tot_mem (l := cs) (k := x.1) (by rw [← h1.1]; exact h1.2)
  obtain ⟨y, hy, e⟩ := List.mem_map.mp h2
  rw [← e]; exact h y hy
/-! ### what the law holds for one and the same -/
/-- a new jar -/
def spMk (K : PySem.W.Frag) : Sp := fun vs H Q _ => ∃ (a : Addr) (ns : List Int) (t : Int), vs = [.ref a, .int t] ∧ SqL K H a (ns.map V.int) ∧ 0 ≤ t ∧ t ≤ 1000 ∧
  ∀ p H2, Same H H2 → H p = none → Jar 999999999 H2 p → Q (.ref p) H2
end Cr

set_option Elab.async false
set_option linter.all false
set_option maxRecDepth 100000
set_option maxHeartbeats 800000
namespace Cr
open PySem PySem.Spec PyProof.Rows L2
/-! ### shaped data -/
theorem canAll_of : ∀ {ds : List PyData}, (∀ d ∈ ds, d.canLay0 = true) → PyData.canLayAll0 ds = true
  | [], _ => by simp [PyData.canLayAll0]
  | d :: ds, h => by
    rw [PyData.canLayAll0, Bool.and_eq_true]
    exact ⟨h d List.mem_cons_self, canAll_of fun x hx => h x (List.mem_cons_of_mem _ hx)⟩
theorem depthAll_le {k : Nat} : ∀ {ds : List PyData}, (∀ d ∈ ds, d.depth ≤ k) → PyData.depthAll ds ≤ k
  | [], _ => by simp [PyData.depthAll]
  | d :: ds, h => by
    rw [PyData.depthAll]
    exact Nat.max_le.mpr ⟨h d List.mem_cons_self, depthAll_le fun x hx => h x (List.mem_cons_of_mem _ hx)⟩
section
variable {K : PySem.W.Frag} {q : Option Addr} {n : Nat} {δ δ' : List Sl} {te ta tb tc tk ti : TE} {tt tu : TT} {c c1 c2 c3 ci : Nat} {Φ Φ1 Φ2 Φ3 : PyData → Prop} {d d1 d2 : PyData} {wi : TI} {A0 B0 Hk H1 H2 Hk' : Hp} {σ : L2.St} {D : Ends} {ts tz : TS} {g : TG} {p : Addr} {ds : List PyData} {P P1 P2 : Int → Prop} {N : Nat}
/-! ### menus: [a, b, ..][draw] -/
def AJI (q : Option Addr) (δ : List Sl) (ta : TA) (c N : Nat) (P : Int → Prop) : Prop := AJ q δ ta c (fun sls => ∃ ns : List Int, sls = (ns.map PyData.int).map Sl.dat ∧ ns.length = N ∧ ∀ x ∈ ns, P x)
theorem aji_nil : AJI q δ tNil 0 0 P := AJ.imp ae_nil fun _ e => ⟨[], e, rfl, by simp⟩
theorem aji_cons {tr : TA} (h : J q δ te c1 (IntP P)) (t : AJI q δ tr c2 N P) : AJI q δ (tCons te tr) (c2 + c1) (N + 1) P := aj_cons h t fun d sls ⟨i, pi, e⟩ ⟨ns, e2, hl, hp⟩ => ⟨i :: ns, by rw [e, e2]; rfl, by rw [List.length_cons, hl], fun x hx => by
  rcases List.mem_cons.mp hx with h | h
  · rw [h]; exact pi
  · exact hp x h⟩
theorem j_menu {tl : TA} (h : AJI q δ tl c N P) (hN : N ≤ 1000000) (hi : J q δ ti ci (IntP fun i => 0 ≤ i ∧ i < N)) : J q δ (tOp (rIx K) (tLst tl) ti) (ci + c) (IntP P) := by
  refine j_iL (Ψ := fun ds => ∃ ns : List Int, ds = ns.map PyData.int ∧ ns.length = N ∧ ∀ x ∈ ns, P x) (j_lst (AJ.imp h fun sls ⟨ns, e, hl, hp⟩ => ⟨ns.map PyData.int, e, by rw [List.length_map]; omega, ns, rfl, hl, hp⟩)) hi fun ds i ⟨ns, e, hl, hp⟩ hi => ?_
  subst e
  have hlt : i.toNat < ns.length := by omega
  refine ⟨.int ns[i.toNat], ?_, ns[i.toNat], hp _ (List.getElem_mem hlt), rfl⟩
  have h3 := atI_nat (xs := ns.map PyData.int) (j := i.toNat) (v := .int ns[i.toNat]) (by rw [List.getElem?_map, List.getElem?_eq_getElem hlt]; rfl)
  rw [Int.toNat_of_nonneg hi.1] at h3
  exact h3
theorem E.is {i : Int} (h : E q δ te (.int i)) (hp : P i) : J q δ te 0 (IntP P) := h.imp fun d e => ⟨i, hp, e⟩
theorem J.intImp (h : J q δ te c (IntP P)) (hc : c ≤ c1) (i : ∀ x, P x → P1 x) : J q δ te c1 (IntP P1) := h.to hc fun d ⟨x, px, e⟩ => ⟨x, i x px, e⟩
theorem aj_int {tr : TA} {Φr Φ' : List Sl → Prop} (h : J q δ te c1 (IntP P)) (hr : AJ q δ tr c2 Φr) (hp : ∀ i sls, P i → Φr sls → Φ' (.dat (.int i) :: sls)) : AJ q δ (tCons te tr) (c2 + c1) Φ' := aj_cons h hr fun d sls ⟨i, pi, e⟩ s => by subst e; exact hp i sls pi s
/-! ### comprehensions over a ledger's pairs -/
theorem e_lcPd {l : List (Int × Int)} {i j : Nat} (hw : IE q δ wi (pd l)) (f : Int × Int → Int × Int) (hz : l.length ≤ 1000000)
    (he : ∀ x ∈ l, E q (((wipeD δ [i, j]).set i (.dat (.int x.1))).set j (.dat (.int x.2))) te (pr (f x))) : E q δ (tLc wi (gTup K 2 (gCons (gName i) (gCons (gName j) gNil))) tYes te [i, j]) (.list (pd (l.map f))) :=
  e_is (e_lc1 (vs := [i, j]) (emb := pr) (xs := l) hw (fun x => pr (f x)) hz fun x hx => ⟨_, gb_tup2 (by simp) (by simp), he x hx⟩) (by unfold pd; rw [List.map_map]; rfl)
theorem e_pr {a b : TE} {x y : Int} (h1 : E q δ a (.int x)) (h2 : E q δ b (.int y)) : E q δ (tTup (tCons a (tCons b tNil))) (pr (x, y)) := e_tup (ds := [.int x, .int y]) (ae_cons h1 (ae_cons h2 ae_nil))
/-! ### the same twice -/
/-! ### keyword calls, told -/
theorem VS.inv0 {H : Hp} {vs : List V} (h : VS H vs []) : vs = [] := List.length_eq_zero_iff.mp h.1
theorem VS.inv1 {H : Hp} {vs : List V} {s : Sl} {r : List Sl} (h : VS H vs (s :: r)) : ∃ v t, vs = v :: t ∧ SlOk H v s ∧ VS H t r := by
  cases vs with
  | nil => have := h.1; simp at this
  | cons v t =>
    obtain ⟨w, a, b⟩ := h.2 0 s rfl
    have e : v = w := by simpa using a
    subst e
    exact ⟨v, t, rfl, b, by have := h.1; simpa using this, fun i u e => by
      obtain ⟨x, p, q⟩ := h.2 (i + 1) u (by simpa using e)
      exact ⟨x, by simpa using p, q⟩⟩
/-- if c: x = e, joined -/
theorem q_ifAsg {i : Nat} {P0 : Bool → Prop} {d0 : PyData} (h : TJ q δ tt c P0) (s : At q (n + c1 + c) δ A0 B0 σ Hk H1) (he : P0 true → J q δ te c1 Φ) (hd : δ[i]? = some (.dat d0)) (h0 : P0 false → Φ d0)
    (k : ∀ d σ' Hk' H2, Φ d → At q n (δ.set i (.dat d)) A0 B0 σ' Hk' H2 → tz D σ' H2) : tSeq (tIfS tt (tAsg te (gName i)) tNext) tz D σ H1 :=
  q_when h s (fun e Hk' H2 g a => s_asg (D := { D with nx := tz D }) (he e) a fun d σ' Hk2 H3 pd g2 a2 => k d σ' Hk2 H3 pd a2) fun e Hk' H2 g a => k d0 σ Hk' H2 (h0 e) ((a.mono (by omega)).weak (List.length_set ..) fun j t et => .inr (by
    by_cases hj : i = j
    · subst hj
      have hl : i < δ.length := (List.getElem?_eq_some_iff.mp hd).1
      rw [List.getElem?_set_self hl] at et
      rw [hd]; exact et
    · rw [List.getElem?_set_ne hj] at et; exact et))
/-! ### the law's own level -/
theorem At.reset (s : At q n δ A0 B0 σ Hk H1) : At none 0 δ Hk H1 σ Hk H1 := ⟨⟨s.ok.a, fun p e => (by cases e), fun p e => (by cases e)⟩, s.sg, Gr.refl s.ok.a⟩
def spLaw (K : PySem.W.Frag) : Sp := fun vs H Q _ => ∃ (a : Addr) (ns : List Int), vs = [.ref a] ∧ SqL K H a (ns.map V.int) ∧ ns.length ≤ 63 ∧ ∀ H', Q (.bl true) H'
/-- for at in range(max(1, min(m, len(script)))) -/
theorem e_ats {m : Int} {i : Nat} {ns : List Int} (hi : δ[i]? = some (.scr K ns)) (hm : 1 ≤ m) (hm2 : m ≤ 100) : IJ q δ (iRng1 (tCons (tCB rMaxQ (tCons (tC (.int 1)) (tCons (tCB rMinQ (tCons (tC (.int m)) (tCons (tCB (rLenQ K) (tCons (tVar i) tNil)) tNil))) tNil))) tNil)) 0 (fun items => ∃ k : Nat, k ≤ 100 ∧ items = rng 0 k) :=
  ij_rng1 (E.intP (e_max e_int (e_min e_int (e_lenS hi)))) fun j e => by
    have h1 : 0 ≤ j ∧ j ≤ 100 := by
      rw [e]
      have : (0 : Int) ≤ (ns.length : Int) := Int.natCast_nonneg _
      split <;> split <;> omega
    exact ⟨by omega, j.toNat, by omega, rfl⟩
end
end Cr

set_option Elab.async false
set_option linter.all false
set_option maxRecDepth 100000
set_option maxHeartbeats 4000000
namespace Cr
open PySem PySem.Spec PyProof.Rows L2
/-! ### def f( *v ): all arguments become one tuple -/
section
variable {P : Program} {w : World} {K : PySem.W.Frag} {mg : Str → Option Value} {base : Heap}
end
section
variable {X : Cx} {CX : CXT} {k : Nat} {f : Addr} {sp : Sp} {E : XK} {x : Str} {e : Expr} {es : List Expr} {t : TA} {p pos : Pos}
end
section
variable {K : PySem.W.Frag} {q : Option Addr} {n : Nat} {δ δ' : List Sl} {te ta tb tc tk ti : TE} {tt tu : TT} {c c1 c2 c3 ci : Nat} {Φ Φ1 Φ2 Φ3 : PyData → Prop} {d d1 d2 : PyData} {A0 B0 Hk H1 H2 Hk' : Hp} {σ : L2.St} {D : Ends} {ts tz : TS} {g : TG} {p : Addr} {ds : List PyData} {P P1 P2 : Int → Prop} {N : Nat}
/-! ### [e for a in x for b in y] -/
/-! ### a list that still changes, read within an expression -/
mutual
def plain : PyData → Bool
  | .list _ => false
  | .dict _ => false
  | .tuple ds => plainAll ds
  | _ => true
def plainAll : List PyData → Bool
  | [] => true
  | d :: ds => plain d && plainAll ds
end
section
variable {Ha Hb : Hp}
/-- a tuple, known or not -/
def isT : HO → Prop
  | .tup _ => True
  | .frz _ (.tup _) => True
  | _ => False
mutual
theorem Dq.keep (e : ∀ b u, isT u → Ha b = some u → Hb b = some u) : ∀ (d : PyData) (v : V), plain d = true → Dq Ha v d → Dq Hb v d
  | .none, _, _, h => by cases h; exact .non
  | .bool b, _, _, h => by cases h; exact .bl b
  | .int i, _, _, h => by cases h; exact .int i
  | .str x, _, _, h => by cases h; exact .str x
  | .list ds, _, z, h => Bool.noConfusion (show false = true from z)
  | .tuple ds, _, z, h => by
    cases h with
    | tup hs ha =>
      refine .tup ?_ (DqAll.keep e ds _ z ha)
      rcases hs with ⟨o, d, q⟩ | ⟨d, q⟩
      · exact .inl ⟨o, d, e _ _ trivial q⟩
      · exact .inr ⟨d, e _ _ trivial q⟩
  | .dict _, _, z, h => by simp [plain] at z
theorem DqAll.keep (e : ∀ b u, isT u → Ha b = some u → Hb b = some u) : ∀ (ds : List PyData) (vs : List V), plainAll ds = true → DqAll Ha vs ds → DqAll Hb vs ds
  | [], _, _, h => by cases h; exact .nil
  | d :: ds, _, z, h => by
    have z' : (plain d && plainAll ds) = true := z
    rw [Bool.and_eq_true] at z'
    cases h with
    | cons h1 h2 => exact .cons (Dq.keep e d _ z'.1 h1) (DqAll.keep e ds _ z'.2 h2)
end
end
theorem evalC {i : Nat} {Q : VK} (h : J q (δ.set i (.dat (.list ds))) te c Φ) (s : At q (n + c) δ A0 B0 σ Hk H1) (cl : Cell q B0 Hk H1 p ds) (hi : δ[i]? = some (.adr p)) (pl : ∀ d, Φ d → plain d = true)
    (k : ∀ d v Hk' H2, Φ d → Dq Hk' v d → Gr q Hk H1 Hk' H2 → At q n δ A0 B0 σ Hk' H2 → Cell q B0 Hk' H2 p ds → Q v H2) : te σ H1 Q := by
  obtain ⟨xs, ex, hd⟩ := cl.ex
  have gf := (Gr.refl (q := q) s.ok.a).freeze (o := .lst xs) (p := p)
  have hn := cl.nk
  have sm : Same Hk (upd Hk p (.lst xs)) := same_upd hn
  have smA : Same (upd Hk p (.lst xs)) H1 := fun b u z => by
    by_cases hb : b = p
    · subst hb; rw [upd_same] at z; rw [← z]; exact ex
    · rw [upd_ne hb] at z; exact s.ok.a b u z
  have ok1 : Ok q (n + c) (upd Hk p (.lst xs)) H1 := ⟨smA, fun r er => by rw [upd_ne (fun z => cl.nq (by rw [← z]; exact er))]; exact s.ok.kf r er, s.ok.j⟩
  have sg1 : Sg (upd Hk p (.lst xs)) σ (δ.set i (.dat (.list ds))) := by
    have sg := s.sg.mono sm
    refine ⟨by rw [List.length_set]; exact sg.1, fun j t ej ne => ?_⟩
    by_cases hj : i = j
    · subst hj
      have hl : i < δ.length := (List.getElem?_eq_some_iff.mp hi).1
      rw [List.getElem?_set_self hl] at ej
      cases ej
      exact ⟨.ref p, sg.getA hi, .lst upd_same (DqAll.mono sm _ _ hd)⟩
    · rw [List.getElem?_set_ne hj] at ej
      exact sg.2 j t ej ne
  refine h σ _ H1 n sg1 ok1 _ fun d v Hk2 H2 g o pd dv => ?_
  have e2 : Hk2 p = some (.lst xs) := g.k _ _ upd_same
  have eH2 : H2 p = some (.lst xs) := g.a _ _ e2
  obtain ⟨Hr, eHr⟩ : ∃ Hr : Hp, Hr = fun b => if b = p then none else Hk2 b := ⟨_, rfl⟩
  have rp : Hr p = none := by rw [eHr]; exact if_pos rfl
  have rn : ∀ b, b ≠ p → Hr b = Hk2 b := fun b hb => by rw [eHr]; exact if_neg hb
  have s1 : Same Hk Hr := fun b u z => by
    have hb : b ≠ p := ne_of_none z hn
    rw [rn b hb]; exact g.k b u (by rw [upd_ne hb]; exact z)
  have s2 : Same Hr H2 := fun b u z => by
    by_cases hb : b = p
    · rw [hb, rp] at z; cases z
    · rw [rn b hb] at z; exact g.a b u z
  have gg : Gr q Hk H1 Hr H2 := ⟨s1, s2, g.s, fun b hb h1 => by
    by_cases hbp : b = p
    · rw [hbp]; exact rp
    · rw [rn b hbp]; exact g.f b (by rw [upd_ne hbp]; exact hb) h1, g.t⟩
  refine k d v Hr H2 pd (Dq.keep (fun b ys iz z => ?_) d v (pl d pd) dv) gg ⟨⟨s2, fun r er => ?_, o.j⟩, s.sg.mono s1, s.gr.trans gg⟩ ⟨rp, cl.nq, cl.nb, xs, eH2, DqAll.mono s1 _ _ hd⟩
  · rw [rn b (fun hb => by rw [hb, e2] at z; cases z; exact iz.elim)]; exact z
  · rw [rn r (fun hb => cl.nq (by rw [← hb]; exact er))]; exact o.kf r er
theorem DqAll.set {H : Hp} : ∀ {vs : List V} {ds : List PyData} {v : V} {d : PyData}, DqAll H vs ds → ∀ j : Nat, Dq H v d → DqAll H (vs.set j v) (ds.set j d)
  | [], _, _, _, h, j, dv => by cases h; exact .nil
  | x :: xs, _, _, _, h, 0, dv => by
    cases h with
    | cons h1 h2 => exact .cons dv h2
  | x :: xs, _, _, _, h, j + 1, dv => by
    cases h with
    | cons h1 h2 => exact .cons h1 (DqAll.set h2 j dv)
/-- x = [e, ..], a list that changes -/
theorem q_newLs {i : Nat} {ta : TA} (h : AJ q δ ta c (fun sls => sls = ds.map Sl.dat)) (hl : ds.length ≤ 1000000) (s : At q (n + c) δ A0 B0 σ Hk H1)
    (k : ∀ p Hk' H2, Gr q Hk H1 Hk' H2 → At q n (δ.set i (.adr p)) A0 B0 (σ.set i (some (.ref p))) Hk' H2 → Cell q B0 Hk' H2 p ds → tz D (σ.set i (some (.ref p))) H2) : tSeq (tAsg (tLst ta) (gName i)) tz D σ H1 :=
  h σ Hk H1 n s.sg s.ok _ fun sls vs Hk2 H2 g o e hv => by
    subst e
    refine ⟨Nat.le_trans (by rw [hv.dats.length]; exact hl) (by rw [sizeLine_eq]; decide), fun p hp => ?_⟩
    have hk : Hk2 p = none := o.a.free hp
    have hb : B0 p = none := by
      cases e : B0 p with
      | none => rfl
      | some u => exact absurd hp ((s.gr.trans g).t p (by rw [e]; exact fun z => by cases z))
    have nq : q ≠ some p := fun e => (o.j p e).ne hp
    have gc : Gr q Hk H1 Hk2 (upd H2 p (.lst vs)) := g.trans (Gr.cell o.a hp)
    exact k p Hk2 _ gc ⟨o.cell hk nq, (s.sg.mono g.k).set i (s := .adr p) rfl, s.gr.trans gc⟩ ⟨hk, nq, hb, vs, upd_same, hv.dats⟩
theorem AE.is {ta : TA} {a b : List Sl} (h : AE q δ ta a) (e : a = b) : AE q δ ta b := by rw [← e]; exact h
end
end Cr

set_option Elab.async false
set_option linter.all false
set_option maxRecDepth 100000
set_option maxHeartbeats 800000
namespace Cr
open PySem PySem.Spec PyProof.Rows L2
theorem cutD_to (xs : List PyData) (n : Nat) : cutD xs none (some (n : Int)) = xs.take n := by
  unfold cutD
  have h0 : HT.sIx xs.length 0 none = 0 := rfl
  rw [h0, List.drop_zero, Nat.sub_zero]
  have h1 : HT.sIx xs.length xs.length (some (n : Int)) = min n xs.length := by
    simp [HT.sIx]
    try omega
  rw [h1]
  by_cases h : n ≤ xs.length
  · rw [Nat.min_eq_left h]
  · rw [Nat.min_eq_right (by omega), List.take_length, List.take_of_length_le (by omega)]
section
variable {K : PySem.W.Frag} {q : Option Addr} {n : Nat} {δ δ' : List Sl} {te ta tb tc tk ti : TE} {tt tu tt1 tt2 tt3 : TT} {c c1 c2 c3 ci : Nat} {Φ Φ1 Φ2 Φ3 : PyData → Prop} {d d1 d2 : PyData} {A0 B0 Hk H1 H2 Hk' : Hp} {σ : L2.St} {D : Ends} {ts tz : TS} {g : TG} {p : Addr} {ds : List PyData}
end
end Cr

set_option Elab.async false
set_option linter.all false
set_option maxRecDepth 100000
set_option maxHeartbeats 800000
namespace Cr
open PySem PySem.Spec PyProof.Rows L2
/-! ### products of ledgers -/
def prodL (a b : List (Int × Int)) : List (Int × Int) := a.flatMap fun x => b.map fun y => (x.1 + y.1, x.2 * y.2)
/-! ### sums with a weight -/
def wsum (φ : Int → Int) : List (Int × Int) → Int
  | [] => 0
  | x :: r => x.2 * φ x.1 + wsum φ r
def ksum (φ : Int → Int) (f : Int → Int) : List Int → Int
  | [] => 0
  | k :: r => f k * φ k + ksum φ f r
theorem ksum_add (φ f g : Int → Int) : ∀ S : List Int, ksum φ (fun k => f k + g k) S = ksum φ f S + ksum φ g S
  | [] => rfl
  | k :: S => by
    show (f k + g k) * φ k + ksum φ (fun k => f k + g k) S = (f k * φ k + ksum φ f S) + (g k * φ k + ksum φ g S)
    rw [ksum_add φ f g S, Int.add_mul]; omega
theorem ksum_no (φ : Int → Int) (x c : Int) : ∀ S : List Int, x ∉ S → ksum φ (fun k => if x = k then c else 0) S = 0
  | [], _ => rfl
  | k :: S, h => by
    show (if x = k then c else 0) * φ k + _ = 0
    rw [if_neg (fun e => h (by rw [e]; simp)), Int.zero_mul, ksum_no φ x c S fun z => h (by simp [z])]
    rfl
theorem ksum_at (φ : Int → Int) (x c : Int) : ∀ S : List Int, S.Pairwise (· < ·) → x ∈ S → ksum φ (fun k => if x = k then c else 0) S = c * φ x
  | [], _, h => by cases h
  | k :: S, hp, h => by
    have hp' := List.pairwise_cons.mp hp
    show (if x = k then c else 0) * φ k + ksum φ (fun k => if x = k then c else 0) S = c * φ x
    by_cases e : x = k
    · subst e
      rw [if_pos rfl, ksum_no φ x c S fun z => absurd (hp'.1 x z) (by omega), Int.add_zero]
    · rw [if_neg e, Int.zero_mul, Int.zero_add]
      exact ksum_at φ x c S hp'.2 (by
        rcases List.mem_cons.mp h with z | z
        · exact absurd z e
        · exact z)
theorem ksum_zero (φ : Int → Int) : ∀ S : List Int, ksum φ (fun _ => 0) S = 0
  | [] => rfl
  | k :: S => by
    show 0 * φ k + ksum φ (fun _ => 0) S = 0
    rw [ksum_zero φ S, Int.zero_mul]; rfl
theorem wsum_keys (φ : Int → Int) {S : List Int} (hp : S.Pairwise (· < ·)) : ∀ l : List (Int × Int), (∀ x ∈ l, x.1 ∈ S) → wsum φ l = ksum φ (tot l) S
  | [], _ => (ksum_zero φ S).symm
  | x :: l, h => by
    show x.2 * φ x.1 + wsum φ l = ksum φ (fun k => (if x.1 = k then x.2 else 0) + tot l k) S
    rw [ksum_add, ksum_at φ x.1 x.2 S hp (h x (by simp)), wsum_keys φ hp l fun y hy => h y (by simp [hy])]
theorem wsum_gather (φ : Int → Int) (cs : List (Int × Int)) : wsum φ (gather cs) = wsum φ cs := by
  have hp := usort_sorted (cs.map (·.1))
  rw [wsum_keys φ hp (gather cs) fun x hx => ?_, wsum_keys φ hp cs fun x hx => (usort_mem _ _).mpr (List.mem_map.mpr ⟨x, hx, rfl⟩)]
  · congr 1
    exact funext fun k => tot_gather cs k
  · have h := (gather_mem cs x).mp hx
    exact (usort_mem _ _).mpr (tot_mem (by rw [← h.1]; exact h.2))
theorem wsum_append (φ : Int → Int) (a b : List (Int × Int)) : wsum φ (a ++ b) = wsum φ a + wsum φ b := by
  induction a with
  | nil => show wsum φ b = 0 + wsum φ b; omega
  | cons x a ih =>
    show x.2 * φ x.1 + wsum φ (a ++ b) = (x.2 * φ x.1 + wsum φ a) + wsum φ b
    rw [ih]; omega
/-! ### how great amounts are -/
def Amb (B : Nat) (l : List (Int × Int)) : Prop := ∀ x ∈ l, x.2.natAbs < 2 ^ B
theorem Amb.mono {B C : Nat} {l : List (Int × Int)} (h : Amb B l) (hc : B ≤ C) : Amb C l := fun x hx => Nat.lt_of_lt_of_le (h x hx) (Nat.pow_le_pow_right (by decide) hc)
end Cr

set_option Elab.async false
set_option linter.all false
set_option maxRecDepth 100000
set_option maxHeartbeats 800000
namespace Cr
open PySem PySem.Spec PyProof.Rows L2
/-! ### one key's amount -/
end Cr

set_option Elab.async false
set_option linter.all false
set_option maxRecDepth 100000
set_option maxHeartbeats 800000
namespace Cr
open PySem PySem.Spec PyProof.Rows L2
/-! ### repr of a list or a tuple -/
section
variable {K : PySem.W.Frag} {q : Option Addr} {δ : List Sl} {te ta tb : TE} {d : PyData}
end
/-! ### a law that is entered at the caller itself: its guards are known -/
section
variable {P : Program} {w : World} {K : PySem.W.Frag} {mg mb : Str → Option Value} {base : Heap} {k : Nat}
end
section
variable {K : PySem.W.Frag} {q : Option Addr} {n : Nat} {δ : List Sl} {te : TE} {tt : TT} {c c1 : Nat} {Φ : PyData → Prop} {A0 B0 Hk H1 : Hp} {σ : L2.St} {D : Ends} {tz : TS}
end
end Cr

set_option Elab.async false
set_option linter.all false
set_option maxRecDepth 100000
set_option maxHeartbeats 800000
namespace Cr
open PySem PySem.Spec PyProof.Rows L2
section
variable {K : PySem.W.Frag} {q : Option Addr} {n : Nat} {δ δ' : List Sl} {te ta tb tn ti : TE} {tt : TT} {c c1 c2 : Nat} {Φ : PyData → Prop} {d : PyData} {A0 B0 Hk H1 : Hp} {σ : L2.St} {D : Ends} {tz tbody : TS} {g : TG} {p : Addr} {ds : List PyData}
/-- elements that are drawn: each costs c1 at most -/
theorem j_lcD {α : Type} {emb : α → PyData} {wi : TI} {vs : List Nat} {Ψ : List α → Prop} {N : Nat} (hw : IJ q δ wi c (fun items => ∃ xs, Ψ xs ∧ items = xs.map emb)) (hz : ∀ xs, Ψ xs → xs.length ≤ N) (hN : N ≤ 1000000)
    (he : ∀ xs, Ψ xs → ∀ x ∈ xs, ∃ δ', GB (wipeD δ vs) g (emb x) δ' vs ∧ J q δ' te c1 Φ) :
    J q δ (tLc wi g tYes te vs) (c1 * N + c) (fun r => ∃ (xs : List α) (ds : List PyData), Ψ xs ∧ ds.length = xs.length ∧ (∀ d ∈ ds, Φ d) ∧ r = .list ds) := fun σ H H1 n sg o Q k =>
  hw σ H H1 (n + c1 * N) sg (by rw [Nat.add_assoc]; exact o) _ fun items Jt HkW H2 g0 o0 pi wk D hD => by
    obtain ⟨xs, pi, ei⟩ := pi
    have hlen : items.length = xs.length := by rw [ei, List.length_map]
    have hxN := hz xs pi
    have hDk : HkW D = none := g0.a.free hD
    have hDq : q ≠ some D := fun e => (o0.j D e).ne hD
    have g1 : Gr q HkW H2 HkW (upd H2 D (.lst [])) := Gr.cell g0.a hD
    refine ⟨fun i m H' => m = items.length - i ∧ i ≤ items.length ∧ ∃ Hk' vs ds, Gr q HkW H2 Hk' H' ∧ Ok q (n + c1 * (N - i)) Hk' H' ∧ Hk' D = none ∧ H' D = some (.lst vs) ∧ DqAll Hk' vs ds ∧ ds.length = i ∧ ∀ d ∈ ds, Φ d,
      ⟨items.length, by simp, Nat.zero_le _, HkW, [], [], g1, o0.cell hDk hDq, hDk, upd_same, .nil, rfl, by simp⟩, ?_⟩
    rintro i m H' ⟨rfl, hi, Hk', ys, es, gr, ok, hDn, hl, hd, hel, hep⟩
    by_cases hlt : i < items.length
    · obtain ⟨go, yl⟩ := (wk i Hk' H' gr.k ok.a).1 hlt
      refine .inr ⟨go, fun H'' => ∃ Hk3 ys' es', Gr q HkW H2 Hk3 H'' ∧ Ok q (n + c1 * (N - (i + 1))) Hk3 H'' ∧ Hk3 D = none ∧ H'' D = some (.lst ys') ∧ DqAll Hk3 ys' es' ∧ es'.length = i + 1 ∧ ∀ d ∈ es', Φ d, fun H'' p => ⟨items.length - (i + 1), by omega, rfl, hlt, p⟩, fun v H'' y => ?_⟩
      obtain ⟨Hk2, g2, d, ed, dx⟩ := yl v H'' y
      obtain ⟨x, ex, rfl⟩ : ∃ x, xs[i]? = some x ∧ emb x = d := by
        rw [ei, List.getElem?_map] at ed
        exact Option.map_eq_some_iff.mp ed
      obtain ⟨δ', hgb, hte⟩ := he xs pi x (List.mem_of_getElem? ex)
      have hf : n + c1 * (N - i) = (n + c1 * (N - (i + 1))) + c1 := by
        rw [show N - i = (N - (i + 1)) + 1 by omega, Nat.mul_add, Nat.mul_one, Nat.add_assoc]
      rw [hf] at ok
      have ok2 := ok.go g2
      have sgw : Sg Hk2 (wipe σ vs) (wipeD δ vs) := ((sg.mono g0.k).mono (gr.k.trans g2.k)).wipe vs
      have hD2 : Hk2 D = none := g2.f D hDn (by rw [hl]; exact fun z => by cases z)
      have hl2 : H'' D = some (.lst ys) := g2.s D _ (fun z => by cases z) hl
      have hd2 := DqAll.mono g2.k _ _ hd
      have gr2 := gr.trans g2.none_to
      refine hgb (wipe σ vs) Hk2 H'' v sgw g2.a dx _ fun σ' sg' hl' hk' => ⟨wipe_eq (by rw [hl', wipe_length]) hk', ?_⟩
      unfold tYes
      refine iteT (hte σ' Hk2 H'' _ sg' ok2 _ fun y w Hk4 H4 g4 o4 ey dw => ?_)
      have hD4 : Hk4 D = none := g4.f D hD2 (by rw [hl2]; exact fun z => by cases z)
      have hl4 : H4 D = some (.lst ys) := g4.s D _ hDq hl2
      have hd4 := DqAll.mono g4.k _ _ hd2
      refine ⟨ys, hl4, ?_, Hk4, ys ++ [w], es ++ [y], (gr2.trans g4).put hD hD4, o4.cell hD4 hDq, hD4, upd_same, hd4.append (.cons dw .nil), by rw [List.length_append, hel]; rfl, fun z hz => ?_⟩
      · rw [hd4.length, hel, sizeLine_eq]; omega
      · rcases List.mem_append.mp hz with h | h
        · exact hep z h
        · rw [List.mem_singleton.mp h]; exact ey
    · have e : i = items.length := by omega
      subst e
      refine .inl ⟨(wk _ Hk' H' gr.k ok.a).2 (Nat.le_refl _), ?_⟩
      have gf := gr.freeze hD hDn hl
      refine k _ _ _ _ (g0.trans gf) ⟨gf.a, fun p e => ?_, fun p e => (ok.j p e).mono (Nat.le_add_right _ _)⟩ ⟨xs, es, pi, by rw [hel, hlen], hep, rfl⟩ (.lst upd_same (DqAll.mono (same_upd hDn) _ _ hd))
      rw [upd_ne (fun z => hDq (by rw [← z]; exact e))]
      exact ok.kf p e
/-- while: P by a measure -/
theorem q_while (P : Nat → L2.St → Hp → Hp → Prop) (m0 : Nat) (h0 : P m0 σ Hk H1)
    (turn : ∀ m σ' Hk' H', P m σ' Hk' H' → ∃ (δ' : List Sl) (b : Bool) (n' : Nat), TB q δ' tt b ∧ At q n' δ' A0 B0 σ' Hk' H' ∧
      (b = true → ∀ Hk2 H2, Gr q Hk' H' Hk2 H2 → At q n' δ' A0 B0 σ' Hk2 H2 → tbody { D with nx := fun σ3 H4 => ∃ m' Hk3, m' < m ∧ P m' σ3 Hk3 H4, ct := fun σ3 H4 => ∃ m' Hk3, m' < m ∧ P m' σ3 Hk3 H4, bk := tz D } σ' H2) ∧
      (b = false → ∀ Hk2 H2, Gr q Hk' H' Hk2 H2 → At q n' δ' A0 B0 σ' Hk2 H2 → tz D σ' H2)) : tSeq (tWhile tt tbody) tz D σ H1 := by
  refine ⟨fun m σ' H' => ∃ Hk', P m σ' Hk' H', ⟨m0, Hk, h0⟩, ?_⟩
  rintro m σ' H' ⟨Hk', hp⟩
  obtain ⟨δ', b, n', ht, a, k1, k2⟩ := turn m σ' Hk' H' hp
  refine ht σ' Hk' H' n' a.sg a.ok _ fun b' Hk2 H2 g o e => ?_
  subst e
  have a2 : At q n' δ' A0 B0 σ' Hk2 H2 := ⟨o, a.sg.mono g.k, a.gr.trans g⟩
  cases b' with
  | true => exact iteT ⟨_, fun σ3 H4 ⟨m', Hk3, h1, h2⟩ => ⟨m', h1, Hk3, h2⟩, k1 rfl Hk2 H2 g a2⟩
  | false => exact iteF (k2 rfl Hk2 H2 g a2)
/-- xs[e2] = e at a list that still changes -/
theorem s_setCE {i j : Nat} {m : Int} (h : J q (δ.set i (.dat (.list ds))) te c Φ) (s : At q (n + c) δ A0 B0 σ Hk H1) (cl : Cell q B0 Hk H1 p ds) (hi : δ[i]? = some (.adr p)) (pl : ∀ d, Φ d → plain d = true)
    (hx : E q δ ti (.int m)) (hm : m = (j : Int)) (hj : j < ds.length)
    (k : ∀ d Hk' H2, Φ d → Same Hk Hk' → At q n δ A0 B0 σ Hk' H2 → Cell q B0 Hk' H2 p (ds.set j d) → D.nx σ H2) : tAsg te (gSub (tVar i) ti rSetL) D σ H1 := by
  refine evalC h s cl hi pl fun d v Hk' H2 pd dv g a cl2 => ?_
  refine ⟨.ref p, a.sg.getA hi, hx σ Hk' H2 n a.sg a.ok _ fun d' w Hk3 H3 g3 o3 ed dw => ?_⟩
  subst ed
  have ew := dw.intOf
  subst ew
  have cl3 := cl2.go g3
  obtain ⟨xs, ex, hd⟩ := cl3.ex
  refine ⟨p, xs, m, j, rfl, rfl, ex, ?_, k d Hk3 _ pd (g.k.trans g3.k) ⟨o3.cell cl3.nk cl3.nq, a.sg.mono g3.k, (a.gr.trans g3).put cl3.nb cl3.nk⟩ ⟨cl3.nk, cl3.nq, cl3.nb, xs.set j v, upd_same, ?_⟩⟩
  · rw [hm, hd.length]; unfold ixN; rw [if_pos (by omega), if_pos (by omega)]; simp
  · exact DqAll.set hd j (Dq.mono g3.k _ _ dv)
end
end Cr

set_option Elab.async false
set_option linter.all false
set_option maxRecDepth 100000
set_option maxHeartbeats 1000000
namespace Cr
open PySem PySem.Spec PyProof.Rows L2
/-! ### enumerate(v) of a tuple -/
section
variable {K : PySem.W.Frag} {q : Option Addr} {δ : List Sl} {te : TE}
/-- the items: pairs of index and item -/
def enumD (ds : List PyData) : List PyData := (List.range ds.length).zipWith (fun i d => .tuple [.int (i : Nat), d]) ds
theorem enumD_get {ds : List PyData} {i : Nat} {d : PyData} (h : ds[i]? = some d) : (enumD ds)[i]? = some (.tuple [.int (i : Nat), d]) := by
  unfold enumD
  have hi : i < ds.length := (List.getElem?_eq_some_iff.mp h).1
  rw [List.getElem?_zipWith, List.getElem?_range hi, h]
theorem enumD_len (ds : List PyData) : (enumD ds).length = ds.length := by
  unfold enumD
  rw [List.length_zipWith, List.length_range, Nat.min_self]
end
end Cr

set_option Elab.async false
set_option linter.all false
set_option maxRecDepth 100000
set_option maxHeartbeats 1000000
namespace Cr
open PySem PySem.Spec PyProof.Rows L2
/-! ### t[::-1] of a tuple -/
theorem revPlaces (n : Nat) : Builtin.Slice.slicePlaces ((n : Int) - 1) (-1) (-1) = n := by
  unfold Builtin.Slice.slicePlaces
  rw [if_neg (by omega)]
  by_cases h : n = 0
  · subst h; rfl
  · rw [if_pos (by omega)]
    have e : ((n : Int) - 1 - -1 - 1) / (- -1) = (n : Int) - 1 := by
      rw [show (- -1 : Int) = 1 from rfl, Int.ediv_one]; omega
    rw [e]; omega
theorem fm_congr {α β : Type} {f g : α → Option β} : ∀ {l : List α}, (∀ x ∈ l, f x = g x) → l.filterMap f = l.filterMap g
  | [], _ => rfl
  | x :: l, h => by
    rw [List.filterMap_cons, List.filterMap_cons, h x (by simp), fm_congr fun y hy => h y (by simp [hy])]
theorem fm_some {α β : Type} (g : α → β) : ∀ l : List α, l.filterMap (fun x => some (g x)) = l.map g
  | [] => rfl
  | x :: l => by rw [List.filterMap_cons, fm_some g l]; rfl
theorem revPick (xs : Array Value) : ((List.range xs.size).filterMap fun (m : Nat) => xs[((xs.size : Int) - 1 + (m : Int) * -1).toNat]?).toArray = xs.toList.reverse.toArray := by
  congr 1
  have h : ∀ m ∈ List.range xs.size, (fun (m : Nat) => xs[((xs.size : Int) - 1 + (m : Int) * -1).toNat]?) m = (fun m => some (xs.toList.reverse.getD m .none)) m := fun m hm => by
    have hm' := List.mem_range.mp hm
    have e : ((xs.size : Int) - 1 + (m : Int) * -1).toNat = xs.size - 1 - m := by omega
    show xs[((xs.size : Int) - 1 + (m : Int) * -1).toNat]? = some (xs.toList.reverse.getD m .none)
    rw [e, List.getD_eq_getElem?_getD, List.getElem?_reverse (by simpa using hm')]
    have hx : xs.size - 1 - m < xs.size := by omega
    simp [hx]
  rw [fm_congr h, fm_some]
  refine List.ext_getElem? fun i => ?_
  rw [List.getElem?_map]
  by_cases hi : i < xs.size
  · rw [List.getElem?_range hi]
    have z : i < xs.toList.reverse.length := by simpa using hi
    simp [List.getD_eq_getElem?_getD, z]
    rw [List.getElem?_eq_getElem z]; rfl
  · rw [List.getElem?_eq_none (by simpa using hi), List.getElem?_eq_none (by simpa using hi)]
    rfl
section
variable {prog : Program} {w : World} {A : Around} {E : Value → Shared → Prop} {s : Shared}
theorem revApplied {sl : Addr} {vl vu vs : Value} {n : Nat} {Q : Int × Int × Nat → Shared → Prop} (hs : s.heap.IsSliceOf sl vl vu vs) (pl : IsPart vl none) (pu : IsPart vu none) (ps : IsPart vs (some (-1)))
    (h : Q ((n : Int) - 1, -1, n) s) : wpAny (model prog w) A (Builtin.Slice.sliceApplied (.ref sl) (pure (n : Int))) Q E s := by
  obtain ⟨ob, ho, hc, hd⟩ := id hs
  unfold Builtin.Slice.sliceApplied Builtin.Slice.sliceFields
  refine wpAny_bind (wpAny_bind (wpAny_field ho hd (x := vl) rfl (wpAny_bind (wpAny_field ho hd (x := vu) rfl (wpAny_bind (wpAny_field ho hd (x := vs) rfl (wpAny_pure ?_)))))))
  refine wpAny_bind (HT.slicePart_ ps ?_)
  show wpAny _ _ (if ((-1 : Int) == 0) = true then _ else _) _ _ s
  rw [if_neg (by decide)]
  refine wpAny_bind (HT.slicePart_ pl (wpAny_bind (HT.slicePart_ pu (wpAny_bind (wpAny_pure ?_)))))
  show wpAny _ _ (pure ((n : Int) - 1, (-1 : Int), Builtin.Slice.slicePlaces ((n : Int) - 1) (-1) (-1))) _ _ s
  rw [revPlaces]
  exact wpAny_pure h
theorem getTupRev {t sl : Addr} {items : Array Value} {vl vu vs : Value} {Q : Value → Shared → Prop} (ht : IsTup s.heap t items) (hs : s.heap.IsSliceOf sl vl vu vs) (pl : IsPart vl none) (pu : IsPart vu none) (ps : IsPart vs (some (-1)))
    (h : Q (.ref s.heap.objs.size) { s with heap := s.heap.push { cls := .type "tuple", data := .seq items.toList.reverse.toArray } }) (hz : items.size ≤ sizeLine) : wpAny (model prog w) A (getItem (.ref t) (.ref sl)) Q E s := by
  have room : sizeOk (.seq items.toList.reverse.toArray) := by
    show items.toList.reverse.toArray.size ≤ sizeLine
    simpa using hz
  obtain ⟨ob, ho, hc, hd⟩ := id hs
  have isSl : s.TypeIs (.ref sl) "slice" := ⟨ob, ho, hc⟩
  unfold getItem
  try with_reducible refine wpAny_holding ?_
  first | refine wpAny_bind (wpAny_pure ?_) | skip
  refine wpAny_bind (wpAny_sequenceKey ht.typeIs (by decide) ?_)
  refine wpAny_bind (wpAny_callSpecial?_slot (name := Str.ofString "__getitem__") ht.typeIs PyProof.Rows.slot_tuple_getitem (wpAny_call_entry PyProof.Rows.slot_tuple_getitem ht.typeIs entry_tuple_getitem ?_ (args_tuple_getitem _ _)))
  show wpAny _ _ (Builtin.Tuple.tupleItemsOf (.ref t) >>= _) _ _ s
  refine wpAny_bind (PyProof.Rows.tupleItemsOf_ ht (wpAny_bind (wpAny_typeOf isSl ?_)))
  rw [if_pos (by decide)]
  refine wpAny_bind (revApplied hs pl pu ps ?_)
  have no : ¬ ((((items.size : Int) - 1) == 0 && (-1 : Int) == 1 && items.size == items.size) = true) := by
    intro z
    rw [Bool.and_eq_true, Bool.and_eq_true] at z
    exact absurd z.1.2 (by decide)
  show wpAny _ _ (if (((items.size : Int) - 1) == 0 && (-1 : Int) == 1 && items.size == items.size) = true then _ else _) _ _ s
  rw [if_neg no, revPick]
  first
    | exact wpAny_bind (m := Builtin.Tuple.tupleExact _) (wpAny_newObj_type (wpAny_pure ⟨_, rfl, wpAny_pure h⟩) room)
    | exact wpAny_bind (m := Builtin.Tuple.tupleExact _) (wpAny_newObj_type (wpAny_bind (wpAny_pure (wpAny_pure ⟨_, rfl, wpAny_pure h⟩))) room)
    | exact wpAny_bind (wpAny_bind (m := Builtin.Tuple.tupleExact _) (wpAny_newObj_type (wpAny_pure (wpAny_pure ⟨_, rfl, wpAny_pure h⟩)) room))
    | exact wpAny_bind (wpAny_bind (m := Builtin.Tuple.tupleExact _) (wpAny_newObj_type (wpAny_pure ⟨_, rfl, wpAny_pure h⟩) room))
end
def tRevT (K : PySem.W.Frag) (te : TE) : TE := fun σ H Q => te σ H fun x H1 => ∃ a xs, x = .ref a ∧ SqT K H1 a xs ∧ LaidT H1 xs.reverse Q
theorem pe_revT {X : Cx} {K : PySem.W.Frag} {e : Expr} {te : TE} {k : Nat} {p1 p2 p3 pos : Pos} (hK : X.K = K) (he : PE X e te) : PE X (.Subscript e (.Slice none none (some (.UnaryOp .USub (.Constant (.int 1) k p1) p2)) p3) pos) (tRevT K te) := by
  subst hK
  refine ⟨fun pins s σ H Q I h => Subscript_ (thn (he.run pins s σ H _ I h) fun v s1 ⟨x, H1, I1, r1, a, xs, ex, hx, q⟩ => ?_)⟩
  subst ex
  obtain rfl : v = Value.ref a := r1
  have step : PO X (some (.UnaryOp .USub (.Constant (.int 1) k p1) p2)) (tPart (tUn (rU fun i => .int (-i)) (tC (.int 1)))) := po_some (pe_un un_neg pe_int)
  refine wpAny_Slice (thn (po_none.run pins s1 σ H1 (fun o H2 => o = none ∧ H2 = H1) I1 ⟨rfl, rfl⟩) fun vl s2 ⟨l, H2, I2, pl, el, e2⟩ => ?_)
  subst el; subst e2
  refine thn (po_none.run pins s2 σ H2 (fun o H3 => o = none ∧ H3 = H2) I2 ⟨rfl, rfl⟩) fun vu s3 ⟨u, H3, I3, pu, eu, e3⟩ => ?_
  subst eu; subst e3
  refine thn (step.run pins s3 σ H3 (fun o H4 => o = some (-1) ∧ H4 = H3) I3 ⟨1, rfl, -1, rfl, rfl, rfl⟩) fun vs s4 ⟨o, H4, I4, ps, eo, e4⟩ => ?_
  subst eo; subst e4
  have I5 : Inv X pins σ H4 { s4 with heap := s4.heap.push { cls := .type "slice", data := .fields #[vl, vu, vs] } } := I4.kept (t' := s4.toks) fun b ob z => Heap.get?_push_of_some _ z
  obtain ⟨its, r, ht, hz⟩ := I5.tuple hx
  have hlen := r.length
  show wpAny (model X.prog X.w) X.A (subscriptTail e (.Slice none none (some (.UnaryOp .USub (.Constant (.int 1) k p1) p2)) p3) (.ref a) (.ref s4.heap.objs.size)) (EP X pins σ Q) X.xe { s4 with heap := s4.heap.push { cls := .type "slice", data := .fields #[vl, vu, vs] } }
  refine tail_any (ops := [.ref a, .ref s4.heap.objs.size]) ht.typeIs PyProof.Rows.slot_tuple_getitem.lookup (getTupRev ht (Heap.IsSliceOf.new _ vl vu vs) pl pu ps ?_ (by rw [List.size_toArray]; omega)) (by with_unfolding_all rfl)
  exact laidT I5 r.reverse (by rw [List.length_reverse]; exact hz) q
section
variable {K : PySem.W.Frag} {q : Option Addr} {δ : List Sl} {te : TE}
theorem DqAll.reverse {H : Hp} : ∀ {vs : List V} {ds : List PyData}, DqAll H vs ds → DqAll H vs.reverse ds.reverse
  | [], _, h => by cases h; exact .nil
  | v :: vs, _, h => by
    cases h with
    | cons h1 h2 => rw [List.reverse_cons, List.reverse_cons]; exact (DqAll.reverse h2).append (.cons h1 .nil)
theorem e_revT {ds : List PyData} (h : E q δ te (.tuple ds)) : E q δ (tRevT K te) (.tuple ds.reverse) := fun σ H H1 n sg o Q k =>
  h σ H H1 n sg o _ fun d v Hk H2 g o1 ed dv => by
    subst ed
    obtain ⟨a, xs, rfl, h1, h2⟩ := dv.tupOf
    refine ⟨a, xs, rfl, .inl (h1.mono g.a).rd, fun p ob od hp => ?_⟩
    have g1 := Gr.new (q := none) (o := .frz ob (.tup xs.reverse)) g.a hp
    exact k _ _ _ _ (g.trans g1.none_to) (o1.go g1) rfl (.tup (Tp.new od) (DqAll.mono g1.k _ _ h2.reverse))
end
end Cr

set_option Elab.async false
set_option linter.all false
set_option maxRecDepth 100000
set_option maxHeartbeats 800000
namespace Cr
open PySem PySem.Spec PyProof.Rows L2
/-! ### polynomials: coefficients by their indexes -/
def enF : Nat → List Int → List (Int × Int)
  | _, [] => []
  | k, a :: f => ((k : Int), a) :: enF (k + 1) f
abbrev en (f : List Int) : List (Int × Int) := enF 0 f
def evalP (f : List Int) (x : Int) : Int := f.foldr (fun a r => r * x + a) 0
def pw (x : Int) (k : Int) : Int := x ^ k.toNat
theorem enF_mem : ∀ {f : List Int} {k : Nat} {y : Int × Int}, y ∈ enF k f → (k : Int) ≤ y.1 ∧ y.1 < (k : Int) + f.length
  | [], _, _, h => by cases h
  | a :: f, k, y, h => by
    rcases List.mem_cons.mp h with e | e
    · subst e; simp; omega
    · have z := enF_mem e
      rw [List.length_cons]
      omega
theorem wsum_enF (x : Int) : ∀ (f : List Int) (k : Nat), wsum (pw x) (enF k f) = x ^ k * evalP f x
  | [], k => by show (0 : Int) = x ^ k * 0; rw [Int.mul_zero]
  | a :: f, k => by
    show a * pw x (k : Int) + wsum (pw x) (enF (k + 1) f) = x ^ k * (evalP f x * x + a)
    rw [wsum_enF x f (k + 1)]
    unfold pw
    rw [Int.toNat_natCast, Int.pow_succ, Int.mul_add, Int.mul_comm a, Int.mul_assoc, Int.mul_comm x (evalP f x)]
    omega
theorem tot_enF : ∀ (f : List Int) (k n : Nat), tot (enF k f) ((k + n : Nat) : Int) = f.getD n 0
  | [], k, n => by simp [enF, tot]
  | a :: f, k, 0 => by
    show (if (k : Int) = ((k + 0 : Nat) : Int) then a else 0) + tot (enF (k + 1) f) ((k + 0 : Nat) : Int) = a
    rw [if_pos (by omega), tot_no fun h => by
      obtain ⟨y, hy, e⟩ := List.mem_map.mp h
      have z := (enF_mem hy).1
      omega]
    omega
  | a :: f, k, n + 1 => by
    show (if (k : Int) = ((k + (n + 1) : Nat) : Int) then a else 0) + tot (enF (k + 1) f) ((k + (n + 1) : Nat) : Int) = f.getD n 0
    rw [if_neg (by omega), show k + (n + 1) = (k + 1) + n by omega, tot_enF f (k + 1) n]
    omega
theorem pw_add {x i j : Int} (hi : 0 ≤ i) (hj : 0 ≤ j) : pw x (i + j) = pw x i * pw x j := by
  unfold pw
  rw [show (i + j).toNat = i.toNat + j.toNat by omega, Int.pow_add]
/-- products, keys from 0 on -/
theorem wsum_prodN (x : Int) {a b : List (Int × Int)} (ha : ∀ y ∈ a, 0 ≤ y.1) (hb : ∀ y ∈ b, 0 ≤ y.1) : wsum (pw x) (prodL a b) = wsum (pw x) a * wsum (pw x) b := by
  have sh : ∀ (y : Int × Int), 0 ≤ y.1 → ∀ b : List (Int × Int), (∀ z ∈ b, 0 ≤ z.1) → wsum (pw x) (b.map fun z => (y.1 + z.1, y.2 * z.2)) = y.2 * pw x y.1 * wsum (pw x) b := fun y hy b => by
    induction b with
    | nil => intro _; show (0 : Int) = _ * 0; rw [Int.mul_zero]
    | cons z b ih =>
      intro hb
      show y.2 * z.2 * pw x (y.1 + z.1) + wsum (pw x) (b.map fun z => (y.1 + z.1, y.2 * z.2)) = y.2 * pw x y.1 * (z.2 * pw x z.1 + wsum (pw x) b)
      rw [ih fun w hw => hb w (by simp [hw]), pw_add hy (hb z (by simp)), Int.mul_add]
      congr 1
      rw [Int.mul_assoc, Int.mul_assoc, Int.mul_left_comm z.2]
  induction a with
  | nil => show (0 : Int) = 0 * _; rw [Int.zero_mul]
  | cons y a ih =>
    show wsum (pw x) ((b.map fun z => (y.1 + z.1, y.2 * z.2)) ++ prodL a b) = (y.2 * pw x y.1 + wsum (pw x) a) * wsum (pw x) b
    rw [wsum_append, ih fun w hw => ha w (by simp [hw]), Int.add_mul, sh y (ha y (by simp)) b hb]
/-- one step of both loops -/
def addAt (r : List Int) (k : Nat) (c : Int) : List Int := r.set k (r.getD k 0 + c)
def addOps : List Int → List (Nat × Int) → List Int
  | r, [] => r
  | r, o :: os => addOps (addAt r o.1 o.2) os
theorem addAt_len (r : List Int) (k : Nat) (c : Int) : (addAt r k c).length = r.length := List.length_set ..
theorem addOps_len : ∀ (os : List (Nat × Int)) (r : List Int), (addOps r os).length = r.length
  | [], _ => rfl
  | o :: os, r => by
    show (addOps (addAt r o.1 o.2) os).length = _
    rw [addOps_len os, addAt_len]
theorem addAt_get {r : List Int} {k : Nat} {c : Int} (hk : k < r.length) (n : Nat) : (addAt r k c).getD n 0 = r.getD n 0 + if (k : Int) = (n : Int) then c else 0 := by
  unfold addAt
  rw [List.getD_eq_getElem?_getD, List.getD_eq_getElem?_getD]
  by_cases h : k = n
  · subst h
    rw [List.getElem?_set_self hk, if_pos rfl]
    simp [List.getD_eq_getElem?_getD]
  · rw [List.getElem?_set_ne h, if_neg (by omega), Int.add_zero]
    simp [List.getD_eq_getElem?_getD]
theorem addOps_get : ∀ (os : List (Nat × Int)) {r : List Int}, (∀ o ∈ os, o.1 < r.length) → ∀ n : Nat, (addOps r os).getD n 0 = r.getD n 0 + tot (os.map fun o => ((o.1 : Int), o.2)) n
  | [], r, _, n => by show r.getD n 0 = r.getD n 0 + 0; omega
  | o :: os, r, h, n => by
    show (addOps (addAt r o.1 o.2) os).getD n 0 = r.getD n 0 + ((if (o.1 : Int) = (n : Int) then o.2 else 0) + tot (os.map fun o => ((o.1 : Int), o.2)) n)
    rw [addOps_get os (fun p hp => by rw [addAt_len]; exact h p (by simp [hp])) n, addAt_get (h o (by simp))]
    omega
theorem evalP_wsum (f : List Int) (x : Int) : evalP f x = wsum (pw x) (en f) := by
  rw [wsum_enF, Int.pow_zero, Int.one_mul]
def opsOf (f g : List Int) : List (Nat × Int) := (List.range f.length).flatMap fun i => (List.range g.length).map fun j => (i + j, f.getD i 0 * g.getD j 0)
/-- what both loops make -/
def conv (f g : List Int) : List Int := addOps (List.replicate (f.length + g.length - 1) 0) (opsOf f g)
theorem enF_range : ∀ (f : List Int) (k : Nat), enF k f = (List.range f.length).map fun i => (((k + i : Nat) : Int), f.getD i 0)
  | [], k => rfl
  | a :: f, k => by
    rw [List.length_cons, List.range_succ_eq_map, List.map_cons, List.map_map]
    show ((k : Int), a) :: enF (k + 1) f = (((k + 0 : Nat) : Int), a) :: _
    rw [enF_range f (k + 1)]
    congr 1
    exact List.map_congr_left fun i _ => by
      show (((k + 1 + i : Nat) : Int), f.getD i 0) = (((k + (i + 1) : Nat) : Int), f.getD i 0)
      rw [show k + 1 + i = k + (i + 1) by omega]
theorem ops_prod (f g : List Int) : (opsOf f g).map (fun o => ((o.1 : Int), o.2)) = prodL (en f) (en g) := by
  unfold opsOf prodL en
  rw [enF_range f 0, enF_range g 0, List.map_flatMap, List.flatMap_map]
  congr 1
  funext i
  rw [List.map_map, List.map_map]
  exact List.map_congr_left fun j _ => by
    show (((i + j : Nat) : Int), f.getD i 0 * g.getD j 0) = (((0 + i : Nat) : Int) + ((0 + j : Nat) : Int), f.getD i 0 * g.getD j 0)
    rw [show ((i + j : Nat) : Int) = ((0 + i : Nat) : Int) + ((0 + j : Nat) : Int) by omega]
theorem ops_lt (f g : List Int) : ∀ o ∈ opsOf f g, o.1 < f.length + g.length - 1 := fun o ho => by
  unfold opsOf at ho
  obtain ⟨i, hi, h⟩ := List.mem_flatMap.mp ho
  obtain ⟨j, hj, rfl⟩ := List.mem_map.mp h
  have h1 := List.mem_range.mp hi
  have h2 := List.mem_range.mp hj
  show i + j < _
  omega
theorem conv_len (f g : List Int) : (conv f g).length = f.length + g.length - 1 := by
  unfold conv
  rw [addOps_len, List.length_replicate]
theorem conv_get (f g : List Int) (n : Nat) : (conv f g).getD n 0 = tot (prodL (en f) (en g)) n := by
  unfold conv
  rw [addOps_get _ (fun o ho => by rw [List.length_replicate]; exact ops_lt f g o ho), ops_prod]
  have z : (List.replicate (f.length + g.length - 1) (0 : Int)).getD n 0 = 0 := by
    rw [List.getD_eq_getElem?_getD, List.getElem?_replicate]
    split <;> rfl
  rw [z]; omega
theorem ksum_congr (φ f g : Int → Int) : ∀ {S : List Int}, (∀ k ∈ S, f k = g k) → ksum φ f S = ksum φ g S
  | [], _ => rfl
  | k :: S, h => by
    show f k * φ k + ksum φ f S = g k * φ k + ksum φ g S
    rw [h k (by simp), ksum_congr φ f g fun j hj => h j (by simp [hj])]
theorem upto_sorted (N : Nat) : ((List.range N).map fun i => ((i : Nat) : Int)).Pairwise (· < ·) := by
  rw [List.pairwise_map]
  exact List.pairwise_lt_range.imp fun h => by omega
theorem upto_mem {N : Nat} {k : Int} (h0 : 0 ≤ k) (h1 : k < (N : Int)) : k ∈ (List.range N).map fun i => ((i : Nat) : Int) :=
  List.mem_map.mpr ⟨k.toNat, List.mem_range.mpr (by omega), by omega⟩
theorem conv_val (f g : List Int) (x : Int) : evalP (conv f g) x = evalP f x * evalP g x := by
  rw [evalP_wsum, evalP_wsum f, evalP_wsum g, ← wsum_prodN x (fun y hy => by have := (enF_mem hy).1; omega) (fun y hy => by have := (enF_mem hy).1; omega)]
  have hS := upto_sorted (f.length + g.length - 1)
  rw [wsum_keys (pw x) hS (en (conv f g)) fun y hy => ?_, wsum_keys (pw x) hS (prodL (en f) (en g)) fun y hy => ?_]
  · refine ksum_congr _ _ _ fun k hk => ?_
    obtain ⟨n, hn, rfl⟩ := List.mem_map.mp hk
    rw [← conv_get]
    have z := tot_enF (conv f g) 0 n
    rw [Nat.zero_add] at z
    exact z
  · rw [← ops_prod] at hy
    obtain ⟨o, ho, rfl⟩ := List.mem_map.mp hy
    have z := ops_lt f g o ho
    exact upto_mem (by show (0 : Int) ≤ (o.1 : Int); omega) (by show (o.1 : Int) < _; omega)
  · have z := enF_mem hy
    rw [conv_len] at z
    exact upto_mem (by omega) (by omega)
end Cr

set_option Elab.async false
set_option linter.all false
set_option maxRecDepth 100000
set_option maxHeartbeats 800000
namespace Cr
open PySem PySem.Spec PyProof.Rows L2
/-- a polynomial as data -/
def pol (f : List Int) : PyData := .tuple (f.map .int)
def Pl (f : List Int) : Prop := f.getLast? ≠ some 0
def CB (B : Nat) (f : List Int) : Prop := ∀ a ∈ f, a.natAbs < 2 ^ B
theorem pol_len (f : List Int) : (f.map PyData.int).length = f.length := List.length_map ..
theorem evalP_bound {x : Int} (hx : x.natAbs < 2 ^ 60) {B : Nat} : ∀ {f : List Int}, CB B f → (evalP f x).natAbs < 2 ^ (B + 61 * f.length)
  | [], _ => by show (0 : Int).natAbs < _; exact Nat.pos_of_ne_zero (by simp)
  | a :: f, h => by
    have ih := evalP_bound hx (f := f) fun b hb => h b (by simp [hb])
    have ha := h a (by simp)
    show (evalP f x * x + a).natAbs < 2 ^ (B + 61 * (f.length + 1))
    have h1 := Int.natAbs_add_le (evalP f x * x) a
    rw [Int.natAbs_mul] at h1
    have h2 : (evalP f x).natAbs * x.natAbs ≤ 2 ^ (B + 61 * f.length) * 2 ^ 60 := Nat.mul_le_mul (Nat.le_of_lt ih) (Nat.le_of_lt hx)
    have h3 : (2 : Nat) ^ (B + 61 * (f.length + 1)) = 2 ^ (B + 61 * f.length) * 2 ^ 60 * 2 := by
      rw [show B + 61 * (f.length + 1) = (B + 61 * f.length) + 60 + 1 by omega, Nat.pow_add, Nat.pow_add]
    have h4 : (2 : Nat) ^ B ≤ 2 ^ (B + 61 * f.length) * 2 ^ 60 := Nat.le_trans (Nat.pow_le_pow_right (by decide) (Nat.le_add_right B (61 * f.length))) (Nat.le_mul_of_pos_right _ (by decide))
    rw [h3]
    generalize 2 ^ (B + 61 * f.length) * 2 ^ 60 = u at h2 h4
    omega
theorem CB.mono {B C : Nat} {f : List Int} (h : CB B f) (hc : B ≤ C) : CB C f := fun a ha => Nat.lt_of_lt_of_le (h a ha) (Nat.pow_le_pow_right (by decide) hc)
end Cr

set_option Elab.async false
set_option linter.all false
set_option maxRecDepth 100000
set_option maxHeartbeats 800000
namespace Cr
open PySem PySem.Spec PyProof.Rows L2
def rowOps (f g : List Int) (i j : Nat) : List (Nat × Int) := (List.range j).map fun k => (i + k, f.getD i 0 * g.getD k 0)
def rowsOps (f g : List Int) (i : Nat) : List (Nat × Int) := (List.range i).flatMap fun k => rowOps f g k g.length
/-- behind i rows and j steps of the next one -/
def part (f g : List Int) (i j : Nat) : List Int := addOps (List.replicate (f.length + g.length - 1) 0) (rowsOps f g i ++ rowOps f g i j)
theorem getD_mem {f : List Int} {i : Nat} (hi : i < f.length) : f.getD i 0 ∈ f := by
  rw [List.getD_eq_getElem?_getD, List.getElem?_eq_getElem hi]
  exact List.getElem_mem hi
theorem evalP_snoc (x : Int) : ∀ (f : List Int) (a : Int), evalP (f ++ [a]) x = evalP f x + a * x ^ f.length
  | [], a => by show (0 : Int) * x + a = 0 + a * x ^ 0; rw [Int.pow_zero, Int.mul_one, Int.zero_mul]
  | b :: f, a => by
    show evalP (f ++ [a]) x * x + b = (evalP f x * x + b) + a * x ^ (f.length + 1)
    rw [evalP_snoc x f a, Int.add_mul, Int.pow_succ, Int.mul_assoc a]
    omega
theorem ints_of {P : Int → Prop} : ∀ {ds : List PyData}, (∀ d ∈ ds, ∃ v, P v ∧ d = .int v) → ∃ r : List Int, ds = r.map .int ∧ ∀ v ∈ r, P v
  | [], _ => ⟨[], rfl, by simp⟩
  | d :: ds, h => by
    obtain ⟨v, hv, e⟩ := h d (by simp)
    obtain ⟨r, e2, hr⟩ := ints_of (ds := ds) fun x hx => h x (by simp [hx])
    exact ⟨v :: r, by rw [e, e2]; rfl, fun x hx => by
      rcases List.mem_cons.mp hx with z | z
      · rw [z]; exact hv
      · exact hr x z⟩
section
variable {K : PySem.W.Frag} {q : Option Addr} {n : Nat} {δ δ' : List Sl} {te : TE} {d : PyData} {A0 B0 Hk H1 : Hp} {σ : L2.St} {D : Ends} {tz : TS} {g : TG} {vs : List Nat}
end
end Cr

set_option Elab.async false
set_option linter.all false
set_option maxRecDepth 100000
set_option maxHeartbeats 800000
namespace Cr
open PySem PySem.Spec PyProof.Rows L2
theorem lst_shape (f : List Int) : SeqAt.shaped (.list (f.map .int)) = true := by
  unfold SeqAt.shaped
  rw [Bool.and_eq_true]
  refine ⟨?_, decide_eq_true ?_⟩
  · show PyData.canLayAll0 (f.map .int) = true
    exact canAll_of fun d hd => by
      obtain ⟨x, _, rfl⟩ := List.mem_map.mp hd
      rfl
  · have h : PyData.depthAll (f.map PyData.int) ≤ 1 := depthAll_le fun d hd => by
      obtain ⟨x, _, rfl⟩ := List.mem_map.mp hd
      simp [PyData.depth]
    show (PyData.list (f.map .int)).depth ≤ 64
    simp only [PyData.depth]
    omega
section
variable {K : PySem.W.Frag} {q : Option Addr} {n : Nat} {δ δ' : List Sl} {te te2 ta tb tc : TE} {tt tu : TT} {c c1 c2 c3 : Nat} {Φ Φ1 Φ2 Φ3 : PyData → Prop} {d d1 d2 : PyData} {A0 B0 Hk H1 : Hp} {σ : L2.St} {D : Ends} {tz t1 : TS} {p : Addr} {ds : List PyData}
/-- a test that reads a list that still changes -/
theorem testC {i : Nat} {P : Bool → Prop} {Q : Bool → Hp → Prop} (h : TJ q (δ.set i (.dat (.list ds))) tt c P) (s : At q (n + c) δ A0 B0 σ Hk H1) (cl : Cell q B0 Hk H1 p ds) (hi : δ[i]? = some (.adr p))
    (k : ∀ b Hk' H2, P b → Gr q Hk H1 Hk' H2 → At q n δ A0 B0 σ Hk' H2 → Cell q B0 Hk' H2 p ds → Q b H2) : tt σ H1 Q := by
  obtain ⟨xs, ex, hd⟩ := cl.ex
  have hn := cl.nk
  have sm : Same Hk (upd Hk p (.lst xs)) := same_upd hn
  have smA : Same (upd Hk p (.lst xs)) H1 := fun b u z => by
    by_cases hb : b = p
    · subst hb; rw [upd_same] at z; rw [← z]; exact ex
    · rw [upd_ne hb] at z; exact s.ok.a b u z
  have ok1 : Ok q (n + c) (upd Hk p (.lst xs)) H1 := ⟨smA, fun r er => by rw [upd_ne (fun z => cl.nq (by rw [← z]; exact er))]; exact s.ok.kf r er, s.ok.j⟩
  have sg1 : Sg (upd Hk p (.lst xs)) σ (δ.set i (.dat (.list ds))) := by
    have sg := s.sg.mono sm
    refine ⟨by rw [List.length_set]; exact sg.1, fun j t ej ne => ?_⟩
    by_cases hj : i = j
    · subst hj
      have hl : i < δ.length := (List.getElem?_eq_some_iff.mp hi).1
      rw [List.getElem?_set_self hl] at ej
      cases ej
      exact ⟨.ref p, sg.getA hi, .lst upd_same (DqAll.mono sm _ _ hd)⟩
    · rw [List.getElem?_set_ne hj] at ej
      exact sg.2 j t ej ne
  refine h σ _ H1 n sg1 ok1 _ fun b Hk2 H2 g o pb => ?_
  have e2 : Hk2 p = some (.lst xs) := g.k _ _ upd_same
  have eH2 : H2 p = some (.lst xs) := g.a _ _ e2
  obtain ⟨Hr, eHr⟩ : ∃ Hr : Hp, Hr = fun b => if b = p then none else Hk2 b := ⟨_, rfl⟩
  have rp : Hr p = none := by rw [eHr]; exact if_pos rfl
  have rn : ∀ b, b ≠ p → Hr b = Hk2 b := fun b hb => by rw [eHr]; exact if_neg hb
  have s1 : Same Hk Hr := fun b u z => by
    have hb : b ≠ p := ne_of_none z hn
    rw [rn b hb]; exact g.k b u (by rw [upd_ne hb]; exact z)
  have s2 : Same Hr H2 := fun b u z => by
    by_cases hb : b = p
    · rw [hb, rp] at z; cases z
    · rw [rn b hb] at z; exact g.a b u z
  have gg : Gr q Hk H1 Hr H2 := ⟨s1, s2, g.s, fun b hb h1 => by
    by_cases hbp : b = p
    · rw [hbp]; exact rp
    · rw [rn b hbp]; exact g.f b (by rw [upd_ne hbp]; exact hb) h1, g.t⟩
  refine k b Hr H2 pb gg ⟨⟨s2, fun r er => ?_, o.j⟩, s.sg.mono s1, s.gr.trans gg⟩ ⟨rp, cl.nq, cl.nb, xs, eH2, DqAll.mono s1 _ _ hd⟩
  rw [rn r (fun hb => cl.nq (by rw [← hb]; exact er))]; exact o.kf r er
end
end Cr
namespace Cr
open PySem PySem.Spec PyProof.Rows L2
section
variable {q : Option Addr} {δ : List Sl} {tt : TT} {c : Nat}
end
end Cr

set_option Elab.async false
set_option linter.all false
set_option maxRecDepth 100000
set_option maxHeartbeats 800000
namespace Cr
open PySem PySem.Spec PyProof.Rows L2
/-! ### sums of powers -/
def tms (l : List (Int × Int)) (j : Nat) : List Int := l.map fun x => x.2 * x.1 ^ j
def psum (l : List (Int × Int)) (j : Nat) : Int := (tms l j).sum
def Kb (A B : Nat) (l : List (Int × Int)) : Prop := ∀ x ∈ l, x.1.natAbs < 2 ^ A ∧ x.2.natAbs < 2 ^ B
theorem Kb.mono {A B A' B' : Nat} {l : List (Int × Int)} (h : Kb A B l) (ha : A ≤ A') (hb : B ≤ B') : Kb A' B' l := fun x hx => ⟨Nat.lt_of_lt_of_le (h x hx).1 (Nat.pow_le_pow_right (by decide) ha), Nat.lt_of_lt_of_le (h x hx).2 (Nat.pow_le_pow_right (by decide) hb)⟩
theorem psum_nil (j : Nat) : psum [] j = 0 := rfl
theorem psum_cons (x : Int × Int) (l : List (Int × Int)) (j : Nat) : psum (x :: l) j = x.2 * x.1 ^ j + psum l j := by
  unfold psum tms; rw [List.map_cons, List.sum_cons]
theorem psum_wsum (l : List (Int × Int)) (j : Nat) : psum l j = wsum (fun k => k ^ j) l := by
  induction l with
  | nil => rfl
  | cons x l ih => rw [psum_cons, ih]; rfl
theorem psum_gather (cs : List (Int × Int)) (j : Nat) : psum (gather cs) j = psum cs j := by
  rw [psum_wsum, psum_wsum, wsum_gather]
theorem sum_bits {b N : Nat} : ∀ {ns : List Int}, (∀ x ∈ ns, x.natAbs < 2 ^ b) → ns.length ≤ 2 ^ N → ns.sum.natAbs < 2 ^ (b + N + 1) := by
  intro ns h hl
  have z : ∀ ms : List Int, (∀ x ∈ ms, x.natAbs < 2 ^ b) → ms.sum.natAbs ≤ 2 ^ b * ms.length := by
    intro ms
    induction ms with
    | nil => intro _; simp
    | cons m ms ih =>
      intro h
      rw [List.sum_cons, List.length_cons, Nat.mul_add, Nat.mul_one]
      have h1 := ih fun x hx => h x (by simp [hx])
      have h2 := h m (by simp)
      have h3 := Int.natAbs_add_le m ms.sum
      omega
  have z1 := z ns h
  have z2 : 2 ^ b * ns.length ≤ 2 ^ b * 2 ^ N := Nat.mul_le_mul_left _ hl
  rw [← Nat.pow_add] at z2
  have z3 : 2 ^ (b + N) < 2 ^ (b + N + 1) := Nat.pow_lt_pow_right (by decide) (by omega)
  omega
theorem zipD_map {α : Type} (f g : α → PyData) : ∀ l : List α, zipD (l.map f) (l.map g) = l.map fun x => .tuple [f x, g x]
  | [] => rfl
  | x :: l => by
    show .tuple [f x, g x] :: zipD (l.map f) (l.map g) = _
    rw [zipD_map f g l]; rfl
theorem zipD_ints : ∀ f g : List Int, zipD (f.map .int) (g.map .int) = (f.zip g).map pr
  | [], _ => by simp [zipD]
  | _ :: _, [] => by simp [zipD]
  | a :: f, b :: g => by
    show PyData.tuple [.int a, .int b] :: zipD (f.map .int) (g.map .int) = _
    rw [zipD_ints f g]; rfl
/-! ### math.comb -/
end Cr

set_option Elab.async false
set_option linter.all false
set_option maxRecDepth 100000
set_option maxHeartbeats 800000
namespace L2
open PySem PySem.Spec PyProof.Rows
section
variable {X : Cx}
end
end L2
namespace Cr
open PySem PySem.Spec PyProof.Rows L2
section
variable {K : PySem.W.Frag} {q : Option Addr} {n : Nat} {δ δ' : List Sl} {te ta tb tc tj : TE} {tt : TT} {c c1 c2 c3 : Nat} {Φ Φ1 Φ2 : PyData → Prop} {d : PyData} {wi : TI} {A0 B0 Hk H1 : Hp} {σ : L2.St} {D : Ends} {tz t1 : TS} {g : TG} {p : Addr} {P P1 P2 : Int → Prop}
theorem walk_zipL {H : Hp} {a b : Addr} {xs ys : List V} {ds es : List PyData} (np : ∀ d ∈ ds, notPair d = true) (h : H a = some (.lst xs)) (hd : DqAll H xs ds) (h2 : H b = some (.lst ys)) (he : DqAll H ys es) : WalkD (Itz K a b) (zipD ds es) H := fun i Hk H' s1 s2 => by
  have e := s2 _ _ (s1 _ _ h)
  have e2 := s2 _ _ (s1 _ _ h2)
  have hl1 := hd.length
  have hl2 := he.length
  rw [zipD_len]
  refine ⟨fun hi => ?_, fun hi => ⟨xs, ys, SqL.of1 e, SqL.of1 e2, by omega⟩⟩
  have g1 : xs[i]? = some (xs[i]'(by omega)) := List.getElem?_eq_getElem _
  have g2 : ys[i]? = some (ys[i]'(by omega)) := List.getElem?_eq_getElem _
  refine ⟨⟨xs, ys, _, _, SqL.of1 e, SqL.of1 e2, g1, g2⟩, fun v H2 y => ?_⟩
  obtain ⟨T, x, y, rfl, hT, rfl, f1, f2⟩ := y
  obtain ⟨d1, p1, p2⟩ := hd.get' (f1 xs (SqL.of1 e))
  obtain ⟨d2, p3, p4⟩ := he.get' (f2 ys (SqL.of1 e2))
  have g := Gr.new (q := none) (o := .tup [x, y]) s2 hT
  refine ⟨_, g, _, zipD_get ds es i d1 d2 p1 p3, .tup (.inr ⟨np d1 (List.mem_of_getElem? p1), upd_same⟩) (.cons (Dq.mono (s1.trans g.k) _ _ p2) (.cons (Dq.mono (s1.trans g.k) _ _ p4) .nil))⟩
theorem ie_zipL {ds es : List PyData} (h : E q δ ta (.list ds)) (h2 : E q δ tb (.list es)) (np : ∀ d ∈ ds, notPair d = true := by intro d hd; obtain ⟨x, _, rfl⟩ := List.mem_map.mp hd; rfl) : IE q δ (RZ.iZipA K (tCons ta (tCons tb tNil))) (zipD ds es) := fun σ H H1 n sg o R k =>
  h σ H H1 n sg o _ fun d v Hk H2 g o1 e dv => h2 σ Hk H2 n (sg.mono g.k) o1 _ fun d' v' Hk' H3 g' o2 e' dv' => by
    subst e; subst e'
    obtain ⟨a, xs, rfl, p1, p2⟩ := (Dq.mono g'.k _ _ dv).lstOf
    obtain ⟨b, ys, rfl, p3, p4⟩ := dv'.lstOf
    exact ⟨a, b, xs, ys, rfl, .inl ⟨SqL.of1 (g'.a _ _ p1), SqL.of1 (g'.a _ _ p3), k _ _ Hk' H3 (g.trans g') o2 rfl (walk_zipL np p1 p2 p3 p4)⟩⟩
theorem IE.is {wi : TI} {xs ys : List PyData} (h : IE q δ wi xs) (e : xs = ys) : IE q δ wi ys := by rw [← e]; exact h
theorem aj_two {ta : TE} {tb : TE} (h : J q δ ta c1 (IntP P1)) (h2 : J q δ tb c2 (IntP P2)) : AJ q δ (tCons ta (tCons tb tNil)) (c2 + c1) (fun sls => ∃ ds : List PyData, sls = ds.map Sl.dat ∧ ∃ i j, P1 i ∧ P2 j ∧ ds = [.int i, .int j]) :=
  (aj_int (c1 := c1) (c2 := c2) (Φr := fun sls => ∃ j, P2 j ∧ sls = [.dat (.int j)]) h ((aj_int (c1 := c2) (c2 := 0) (Φr := fun sls => sls = []) h2 ae_nil fun i sls hi e => ⟨i, hi, by rw [e]⟩).cost (by omega)) fun i sls hi ⟨j, hj, e⟩ => ⟨[.int i, .int j], by rw [e]; rfl, i, j, hi, hj, rfl⟩)
theorem ij_rng2 {Ψ : List PyData → Prop} (h : J q δ ta c1 (IntP P1)) (h2 : J q δ tb c2 (IntP P2)) (hp : ∀ i j, P1 i → P2 j → (-(2 ^ 62) ≤ i ∧ i < 2 ^ 62 ∧ -(2 ^ 62) ≤ j ∧ j < 2 ^ 62) ∧ Ψ (rng i (j - i).toNat)) : IJ q δ (iRng2 (tCons ta (tCons tb tNil))) (c2 + c1) Ψ := fun σ H H1 n sg o R k =>
  aj_two h h2 σ H H1 n sg o _ fun sls vs Hk H2 g o1 ⟨ds, e, i, j, hi, hj, e2⟩ hv => by
    subst e; subst e2
    obtain ⟨v, w, rfl, h1, h2⟩ := hv.dats.two
    rw [h1.intOf, h2.intOf]
    exact ⟨i, j, rfl, (hp i j hi hj).1, k _ _ Hk H2 g o1 (hp i j hi hj).2 walk_rng⟩
theorem ie_rng2 {i j : Int} (h : E q δ ta (.int i)) (h2 : E q δ tb (.int j)) (hp : -(2 ^ 62) ≤ i ∧ i < 2 ^ 62 ∧ -(2 ^ 62) ≤ j ∧ j < 2 ^ 62) : IE q δ (iRng2 (tCons ta (tCons tb tNil))) (rng i (j - i).toNat) :=
  ij_rng2 (c1 := 0) (c2 := 0) h.intP h2.intP fun a b ha hb => by subst ha; subst hb; exact ⟨hp, rfl⟩
/-- jar = _law_jar(script, e) -/
theorem q_mkJarE {i k : Nat} {E0 : XK} {ns : List Int} {t : Int} (s : At none 0 δ A0 B0 σ Hk H1) (hi : δ[i]? = some (.scr K ns)) (hj : E none δ tj (.int t)) (h0 : 0 ≤ t) (h1 : t ≤ 1000)
    (kont : ∀ p σ' Hk' H2, Same Hk Hk' → At (some p) 999999999 (δ.set k (.adr p)) Hk' H2 σ' Hk' H2 → tz D σ' H2) : tSeq (tAsg (tCall (spMk K) [] E0 (tCons (tVar i) (tCons tj tNil))) (gName k)) tz D σ H1 := by
  obtain ⟨v, a, b, rfl, hS⟩ := s.sg.2 i _ hi (fun z => by cases z)
  refine ⟨.ref b, a, hj σ Hk H1 0 s.sg s.ok _ fun d w Hk' H2 g o ed dw => ?_⟩
  subst ed
  have ew := dw.intOf
  subst ew
  refine ⟨b, ns, t, rfl, Same.seq (g.k.trans g.a) hS, h0, h1, fun p H3 sm hp hJ => ?_⟩
  have hk : Hk' p = none := o.a.free hp
  exact kont p _ Hk' H3 g.k ⟨⟨o.a.trans sm, fun r er => by cases er; exact hk, fun r er => by cases er; exact hJ⟩, (s.sg.mono g.k).set k (s := .adr p) rfl, Gr.refl (o.a.trans sm)⟩
end
/-! ### math of the changes -/
theorem Kb.one {A B : Nat} {k b : Int} (h : k.natAbs < 2 ^ A) (h2 : b.natAbs < 2 ^ B) : Kb A B [(k, b)] := fun x hx => by
  rw [List.mem_singleton.mp hx]; exact ⟨h, h2⟩
end Cr

set_option Elab.async false
set_option linter.all false
set_option maxRecDepth 100000
set_option maxHeartbeats 800000
namespace Cr
open PySem PySem.Spec PyProof.Rows L2
section
variable {K : PySem.W.Frag} {q : Option Addr} {δ : List Sl} {te ta tb : TE} {c : Nat} {P : Int → Prop}
theorem e_ten {k v : Int} (h0 : 0 ≤ k) (h1 : 4 * k ≤ 2 ^ 27) (e : (10 : Int) ^ k.toNat = v) : E q δ (tOp (rI CPowW fun i j => .int (i ^ j.toNat)) (tC (.int 10)) (tC (.int k))) (.int v) := e_is (e_pow e_int e_int (pow_ok (a := 4) (by decide) (by omega) h0 h1)) (by rw [e])
end
end Cr

set_option Elab.async false
set_option linter.all false
set_option maxRecDepth 100000
set_option maxHeartbeats 800000
namespace Cr
open PySem PySem.Spec PyProof.Rows L2
section
variable {K : PySem.W.Frag} {q : Option Addr} {n : Nat} {δ δ' : List Sl} {te ta tb : TE} {tt : TT} {c c1 c2 : Nat} {Φ : PyData → Prop} {d : PyData} {A0 B0 Hk H1 : Hp} {σ : L2.St} {D : Ends} {tz : TS} {P P1 P2 : Int → Prop}
/-- x, y = (e, e2), drawn -/
theorem q_asgT2 {i j : Nat} {ta : TA} {Ψ : PyData → PyData → Prop} (h : AJ q δ ta c (fun sls => ∃ a b, sls = [.dat a, .dat b] ∧ Ψ a b)) (s : At q (n + c) δ A0 B0 σ Hk H1)
    (k : ∀ a b σ' Hk' H2, Ψ a b → Gr q Hk H1 Hk' H2 → At q n ((δ.set i (.dat a)).set j (.dat b)) A0 B0 σ' Hk' H2 → tz D σ' H2) : tSeq (tAsg (tTup ta) (gTup K 2 (gCons (gName i) (gCons (gName j) gNil)))) tz D σ H1 := by
  unfold tSeq tAsg
  exact j_tup (Ψ := fun ds => ∃ a b, ds = [a, b] ∧ Ψ a b) (h.imp fun sls ⟨a, b, e, p⟩ => ⟨[a, b], e, by simp, a, b, rfl, p⟩) σ Hk H1 n s.sg s.ok _ fun d v Hk' H2 g o ⟨ds, ⟨a, b, e, p⟩, ed⟩ dv => by
    subst e; subst ed
    exact gb_tup2 (K := K) (δ := δ) (d1 := a) (d2 := b) (vs := [i, j]) (by simp) (by simp) σ Hk' H2 v (s.sg.mono g.k) o.a dv _ fun σ' sg' _ _ => k a b σ' Hk' H2 p g ⟨o, sg', s.gr.trans g⟩
theorem aj_pair {Ψ1 Ψ2 : PyData → Prop} (h : J q δ ta c1 Ψ1) (h2 : J q δ tb c2 Ψ2) : AJ q δ (tCons ta (tCons tb tNil)) (c2 + c1) (fun sls => ∃ a b, sls = [.dat a, .dat b] ∧ Ψ1 a ∧ Ψ2 b) :=
  (aj_cons (c1 := c1) (c2 := c2) (Φr := fun sls => ∃ b, sls = [.dat b] ∧ Ψ2 b) h ((aj_cons (c1 := c2) (c2 := 0) (Φr := fun sls => sls = []) h2 ae_nil fun d sls p e => ⟨d, by rw [e], p⟩).cost (by omega)) fun d sls p ⟨b, e, p2⟩ => ⟨d, b, by rw [e], p, p2⟩)
theorem j_modI (h : J q δ ta c1 (IntP P1)) (h2 : J q δ tb c2 (IntP P2)) (hc : ∀ j, P2 j → 0 < j) (hp : ∀ x j, P2 j → 0 ≤ x → x < j → P x) : J q δ (tOp (rI (fun _ j => j ≠ 0) fun i j => .int (i.fmod j)) ta tb) (c2 + c1) (IntP P) :=
  j_I h h2 (fun i j _ hj => by have := hc j hj; omega) fun i j _ hj => ⟨_, hp _ j hj (Int.fmod_nonneg_of_pos i (hc j hj)) (Int.fmod_lt_of_pos i (hc j hj)), rfl⟩
theorem j_int (h : J q δ te c (IntP P)) : J q δ (tCB rIntQ (tCons te tNil)) c (IntP P) := j_cb1 h fun d ⟨x, hx, e⟩ => by rw [e]; exact rc_int ⟨x, hx, rfl⟩
/-- [.., ..] over range(n) of elements that are told -/
theorem e_lcR {j : Int} {m : Nat} {i : Nat} {te : TE} {tn : TE} (hn : E q δ tn (.int j)) (hj : j = (m : Int)) (hm : m ≤ 100000) (f : Nat → PyData)
    (he : ∀ k, k < m → E q ((wipeD δ [i]).set i (.dat (.int (0 + (k : Int))))) te (f k)) : E q δ (tLc (iRng1 (tCons tn tNil)) (gName i) tYes te [i]) (.list ((List.range m).map f)) := by
  subst hj
  exact e_lc1 (vs := [i]) (emb := fun k : Nat => PyData.int (0 + (k : Int))) (xs := List.range m) ((ie_rng1 hn (by omega) (by omega)).is rfl) f (by rw [List.length_range]; omega) fun k hk => ⟨_, gb_name (by simp), he k (List.mem_range.mp hk)⟩
theorem at_ints {f : List Int} {k : Nat} (h : k < f.length) : atI (f.map PyData.int) (0 + (k : Int)) = some (.int (f.getD k 0)) := by
  rw [Int.zero_add]
  exact atI_nat (by rw [List.getElem?_map, List.getElem?_eq_getElem h]; simp [List.getD_eq_getElem?_getD, h])
theorem at_ints0 {f : List Int} {k : Nat} (h : k < f.length) : atI (f.map PyData.int) (k : Int) = some (.int (f.getD k 0)) := by
  have z := at_ints h
  rwa [Int.zero_add] at z
end
/-! ### rows of integers -/
def zmul (f g : List Int) : List Int := (f.zip g).map fun x => x.1 * x.2
theorem Kb.take {A B : Nat} {l : List (Int × Int)} (h : Kb A B l) (n : Nat) : Kb A B (l.take n) := fun x hx => h x (List.mem_of_mem_take hx)
end Cr

set_option Elab.async false
set_option linter.all false
set_option maxRecDepth 100000
set_option maxHeartbeats 800000
namespace Cr
open PySem PySem.Spec PyProof.Rows L2
/-! ### numbers of ways -/
def chs : Nat → Nat → Nat
  | _, 0 => 1
  | 0, _ + 1 => 0
  | n + 1, k + 1 => chs n k + chs n (k + 1)
/-! ### sums over 0 .. n - 1 -/
def sm : Nat → (Nat → Int) → Int
  | 0, _ => 0
  | n + 1, F => sm n F + F n
theorem sm_congr {F G : Nat → Int} : ∀ {n : Nat}, (∀ i, i < n → F i = G i) → sm n F = sm n G
  | 0, _ => rfl
  | n + 1, h => by
    show sm n F + F n = sm n G + G n
    rw [sm_congr fun i hi => h i (by omega), h n (by omega)]
theorem sm_add (F G : Nat → Int) : ∀ n : Nat, sm n (fun i => F i + G i) = sm n F + sm n G
  | 0 => rfl
  | n + 1 => by
    show sm n _ + (F n + G n) = (sm n F + F n) + (sm n G + G n)
    rw [sm_add F G n]; omega
theorem sm_mul (c : Int) (F : Nat → Int) : ∀ n : Nat, sm n (fun i => c * F i) = c * sm n F
  | 0 => (Int.mul_zero c).symm
  | n + 1 => by
    show sm n _ + c * F n = c * (sm n F + F n)
    rw [sm_mul c F n, Int.mul_add]
theorem sm_zero : ∀ n : Nat, sm n (fun _ => 0) = 0
  | 0 => rfl
  | n + 1 => by show sm n _ + 0 = 0; rw [sm_zero n]; rfl
/-! ### the binomial theorem -/
def bt (j : Nat) (F : Nat → Nat → Int) : Int := sm (j + 1) fun i => (chs j i : Int) * F i (j - i)
/-! ### products of rows of sums -/
/-! ### rows of numbers of ways -/
end Cr

set_option Elab.async false
set_option linter.all false
set_option maxRecDepth 100000
set_option maxHeartbeats 800000
namespace Cr
open PySem PySem.Spec PyProof.Rows L2
theorem CB.getD {B : Nat} {f : List Int} (h : CB B f) (i : Nat) : (f.getD i 0).natAbs < 2 ^ B := by
  by_cases hi : i < f.length
  · exact h _ (Cr.getD_mem hi)
  · rw [List.getD_eq_getElem?_getD, List.getElem?_eq_none (by omega)]
    exact Nat.pos_of_ne_zero (by simp)
section
variable {K : PySem.W.Frag} {q : Option Addr} {n : Nat} {δ δ' : List Sl} {te te2 ta tb : TE} {tt : TT} {c c1 c2 : Nat} {d d2 : PyData} {A0 B0 Hk H1 : Hp} {σ : L2.St} {D : Ends} {tz : TS} {p : Addr} {ds : List PyData} {Ψ : List Int → Prop}
/-- x = [e, ..] drawn, a list that changes -/
theorem q_newLsJ {i : Nat} {ta : TA} {Ψ : List PyData → Prop} (h : AJ q δ ta c (fun sls => ∃ ds : List PyData, sls = ds.map Sl.dat ∧ ds.length ≤ 1000000 ∧ Ψ ds)) (s : At q (n + c) δ A0 B0 σ Hk H1)
    (k : ∀ ds p Hk' H2, Ψ ds → Gr q Hk H1 Hk' H2 → At q n (δ.set i (.adr p)) A0 B0 (σ.set i (some (.ref p))) Hk' H2 → Cell q B0 Hk' H2 p ds → tz D (σ.set i (some (.ref p))) H2) : tSeq (tAsg (tLst ta) (gName i)) tz D σ H1 :=
  h σ Hk H1 n s.sg s.ok _ fun sls vs Hk2 H2 g o ⟨ds, e, hl, pp⟩ hv => by
    subst e
    refine ⟨Nat.le_trans (by rw [hv.dats.length]; exact hl) (by rw [sizeLine_eq]; decide), fun p hp => ?_⟩
    have hk : Hk2 p = none := o.a.free hp
    have hb : B0 p = none := by
      cases e : B0 p with
      | none => rfl
      | some u => exact absurd hp ((s.gr.trans g).t p (by rw [e]; exact fun z => by cases z))
    have nq : q ≠ some p := fun e => (o.j p e).ne hp
    have gc : Gr q Hk H1 Hk2 (upd H2 p (.lst vs)) := g.trans (Gr.cell o.a hp)
    exact k ds p Hk2 _ pp gc ⟨o.cell hk nq, (s.sg.mono g.k).set i (s := .adr p) rfl, s.gr.trans gc⟩ ⟨hk, nq, hb, vs, upd_same, hv.dats⟩
end
end Cr
namespace Cr
open PySem PySem.Spec PyProof.Rows L2
section
variable {K : PySem.W.Frag} {q : Option Addr} {n : Nat} {δ : List Sl} {tt : TT} {c : Nat} {A0 B0 Hk H1 : Hp} {σ : L2.St} {D : Ends} {tz : TS} {p : Addr} {ds : List PyData}
end
end Cr

set_option Elab.async false
set_option linter.all false
set_option maxRecDepth 100000
set_option maxHeartbeats 800000
namespace L2
open PySem PySem.Spec PyProof.Rows
section
variable {X : Cx}
end
end L2
namespace Cr
open PySem PySem.Spec PyProof.Rows L2
section
variable {K : PySem.W.Frag} {q : Option Addr} {n : Nat} {δ δ' : List Sl} {te te2 ta tb : TE} {tt : TT} {c c1 c2 : Nat} {Φ : PyData → Prop} {d d2 : PyData} {A0 B0 Hk H1 : Hp} {σ : L2.St} {D : Ends} {tz : TS} {p : Addr} {ds es : List PyData} {g : TG} {wi : TI}
/-- a new list, not yet known -/
def JN (q : Option Addr) (δ : List Sl) (te : TE) (es : List PyData) : Prop := ∀ (σ : L2.St) (H H1 : Hp) (n : Nat), Sg H σ δ → Ok q n H H1 → ∀ Q : VK, (∀ D xs Hk H2, Gr q H H1 Hk H2 → Ok q n Hk H2 → H1 D = none → Hk D = none → H2 D = some (.lst xs) → DqAll Hk xs es → Q (.ref D) H2) → te σ H1 Q
end
end Cr

set_option Elab.async false
set_option linter.all false
set_option maxRecDepth 100000
set_option maxHeartbeats 800000
namespace Cr
open PySem PySem.Spec PyProof.Rows L2
theorem getD_lt {f : List Int} {i : Nat} (h : i < f.length) : f[i]? = some (f.getD i 0) := by
  rw [List.getElem?_eq_getElem h]; simp [List.getD_eq_getElem?_getD, h]
end Cr

set_option Elab.async false
set_option linter.all false
set_option maxRecDepth 100000
set_option maxHeartbeats 800000
namespace Cr
open PySem PySem.Spec PyProof.Rows L2
section
variable {K : PySem.W.Frag} {q : Option Addr} {n : Nat} {δ δ' : List Sl} {te te2 ta tb : TE} {tl th : TO} {tt : TT} {c c1 c2 : Nat} {Φ : PyData → Prop} {d d2 : PyData} {lo hi : Option Int} {P1 P2 P : List Int → Prop}
theorem sIx_nat {l d : Nat} (n : Nat) : HT.sIx l d (some (n : Int)) = min n l := by
  unfold HT.sIx
  simp
  omega
theorem cutD_from (xs : List PyData) (n : Nat) : cutD xs (some (n : Int)) none = xs.drop n := by
  unfold cutD
  rw [sIx_nat]
  show (xs.drop (min n xs.length)).take (xs.length - min n xs.length) = _
  by_cases h : n ≤ xs.length
  · rw [Nat.min_eq_left h, List.take_of_length_le (by rw [List.length_drop]; omega)]
  · rw [Nat.min_eq_right (by omega), Nat.sub_self, List.take_zero, List.drop_eq_nil_of_le (by omega)]
end
end Cr
namespace Cr
open PySem PySem.Spec PyProof.Rows L2
section
variable {q : Option Addr} {δ : List Sl} {te : TE} {c : Nat} {P : Bool → Prop}
theorem _root_.Cr.J.boolAny (h : J q δ te c (BoolP P)) : J q δ te c (BoolP fun _ => True) := h.imp fun d ⟨b, _, e⟩ => ⟨b, trivial, e⟩
end
end Cr

set_option Elab.async false
set_option linter.all false
set_option maxRecDepth 100000
set_option maxHeartbeats 800000
namespace Cr
open PySem PySem.Spec PyProof.Rows L2
theorem evalP_take (f : List Int) (x : Int) : ∀ n : Nat, n ≤ f.length → evalP (f.take n) x = sm n (fun j => f.getD j 0 * x ^ j)
  | 0, _ => rfl
  | n + 1, h => by
    rw [List.take_add_one, getD_lt (by omega)]
    show evalP (f.take n ++ [f.getD n 0]) x = sm n _ + _
    rw [evalP_snoc, evalP_take f x n (by omega), List.length_take, Nat.min_eq_left (by omega)]
theorem evalP_sm (f : List Int) (x : Int) : evalP f x = sm f.length (fun j => f.getD j 0 * x ^ j) := by
  have z := evalP_take f x f.length (Nat.le_refl _)
  rwa [List.take_length] at z
/-- the sums of a polynomial's values -/
theorem wsum_dot (f : List Int) (l : List (Int × Int)) : wsum (evalP f) l = sm f.length (fun j => f.getD j 0 * psum l j) := by
  induction l with
  | nil =>
    show (0 : Int) = _
    rw [sm_congr (G := fun _ => 0) fun i _ => by rw [psum_nil, Int.mul_zero], sm_zero]
  | cons x l ih =>
    show x.2 * evalP f x.1 + wsum (evalP f) l = _
    rw [ih, evalP_sm, ← sm_mul, ← sm_add]
    exact sm_congr fun j _ => by rw [psum_cons, Int.mul_add, Int.mul_left_comm]
def chg : List (Int × Int) → Nat
  | x :: y :: r => (if x.2 * y.2 < 0 then 1 else 0) + chg (y :: r)
  | _ => 0
theorem chg_lt : ∀ {l : List (Int × Int)}, l ≠ [] → chg l < l.length
  | [], h => absurd rfl h
  | [x], _ => Nat.zero_lt_succ _
  | x :: y :: r, _ => by
    have ih := chg_lt (l := y :: r) (by simp)
    show (if _ then 1 else 0) + chg (y :: r) < (y :: r).length + 1
    split <;> omega
theorem pos_mul {a b : Int} (h : 0 < a) (h2 : 0 < b) : 0 < a * b := Int.mul_pos h h2
theorem chg_sign : ∀ {l : List (Int × Int)}, l.Pairwise (fun a b => a.1 < b.1) → (∀ x ∈ l, x.2 ≠ 0) → l ≠ [] →
    ∃ (f : List Int) (s : Int), f.length = chg l + 1 ∧ (∀ z ∈ l, 0 < s * (z.2 * evalP f z.1)) ∧ ∀ x, l.head? = some x → ∀ k : Int, k ≤ x.1 → 0 < s * (x.2 * evalP f k)
  | [], _, _, h => absurd rfl h
  | [x], _, hz, _ => by
    have h0 := hz x (by simp)
    have h1 : evalP [1] = fun k => (0 : Int) * k + 1 := rfl
    have hs : 0 < x.2 * (x.2 * 1) := by
      rw [Int.mul_one]
      by_cases h : 0 < x.2
      · exact pos_mul h h
      · have := pos_mul (a := -x.2) (b := -x.2) (by omega) (by omega)
        rwa [Int.neg_mul_neg] at this
    refine ⟨[1], x.2, rfl, fun z hz' => ?_, fun y hy k _ => ?_⟩
    · rw [List.mem_singleton.mp hz', h1]
      show 0 < x.2 * (x.2 * (0 * _ + 1))
      rw [Int.zero_mul, Int.zero_add]; exact hs
    · have e : x = y := by simpa using hy
      subst e
      rw [h1]
      show 0 < x.2 * (x.2 * (0 * _ + 1))
      rw [Int.zero_mul, Int.zero_add]; exact hs
  | x :: y :: r, hp, hz, _ => by
    have hp2 := List.pairwise_cons.mp hp
    obtain ⟨f, s, hl, ha, hb⟩ := chg_sign (l := y :: r) hp2.2 (fun z h => hz z (by simp [h])) (by simp)
    have hxy : x.1 < y.1 := hp2.1 y (by simp)
    have hy0 := hz y (by simp)
    have hx0 := hz x (by simp)
    have hyk : ∀ k : Int, k ≤ x.1 → 0 < s * (y.2 * evalP f k) := fun k hk => hb y rfl k (by omega)
    by_cases hc : x.2 * y.2 < 0
    · have ev : ∀ k : Int, evalP (conv f [-(2 * x.1 + 1), 2]) k = evalP f k * (2 * k - (2 * x.1 + 1)) := fun k => by
        rw [conv_val]
        congr 1
        show (0 * k + 2) * k + -(2 * x.1 + 1) = _
        rw [Int.zero_mul, Int.zero_add]; omega
      have fl : (conv f [-(2 * x.1 + 1), 2]).length = chg (x :: y :: r) + 1 := by
        rw [conv_len, hl]
        show chg (y :: r) + 1 + 2 - 1 = (if x.2 * y.2 < 0 then 1 else 0) + chg (y :: r) + 1
        rw [if_pos hc]; omega
      have hx : ∀ k : Int, k ≤ x.1 → 0 < s * (x.2 * evalP (conv f [-(2 * x.1 + 1), 2]) k) := fun k hk => by
        rw [ev]
        have h1 := hyk k hk
        have h2 : 0 < (2 * x.1 + 1) - 2 * k := by omega
        have h3 := pos_mul (pos_mul (a := -(x.2 * y.2)) (by omega) h1) h2
        have h4 : 0 < y.2 * y.2 := by
          by_cases h : 0 < y.2
          · exact pos_mul h h
          · have := pos_mul (a := -y.2) (b := -y.2) (by omega) (by omega)
            rwa [Int.neg_mul_neg] at this
        generalize evalP f k = w at h3 ⊢
        have e : -(x.2 * y.2) * (s * (y.2 * w)) * ((2 * x.1 + 1) - 2 * k) = (s * (x.2 * (w * (2 * k - (2 * x.1 + 1))))) * (y.2 * y.2) := by
          rw [show ((2 * x.1 + 1) - 2 * k : Int) = -(2 * k - (2 * x.1 + 1)) by omega]
          generalize (2 * k - (2 * x.1 + 1) : Int) = u
          rw [Int.neg_mul, Int.neg_mul_neg]
          simp only [Int.mul_comm, Int.mul_left_comm, Int.mul_assoc]
        rw [e] at h3
        by_cases hq : 0 < s * (x.2 * (w * (2 * k - (2 * x.1 + 1))))
        · exact hq
        · exfalso
          have := Int.mul_nonneg (a := -(s * (x.2 * (w * (2 * k - (2 * x.1 + 1)))))) (b := y.2 * y.2) (by omega) (Int.le_of_lt h4)
          rw [Int.neg_mul] at this
          omega
      refine ⟨conv f [-(2 * x.1 + 1), 2], s, fl, fun z hz' => ?_, fun w hw k hk => ?_⟩
      · rcases List.mem_cons.mp hz' with e | hm
        · rw [e]; exact hx x.1 (Int.le_refl _)
        · rw [ev]
          have h1 := ha z hm
          have h2 : 0 < 2 * z.1 - (2 * x.1 + 1) := by
            have := hp2.1 z hm
            omega
          have h3 := pos_mul h1 h2
          have e : s * (z.2 * evalP f z.1) * (2 * z.1 - (2 * x.1 + 1)) = s * (z.2 * (evalP f z.1 * (2 * z.1 - (2 * x.1 + 1)))) := by
            rw [Int.mul_assoc, Int.mul_assoc]
          rwa [e] at h3
      · have e : x = w := by simpa using hw
        subst e
        exact hx k hk
    · have hpos : 0 < x.2 * y.2 := by
        have : x.2 * y.2 ≠ 0 := Int.mul_ne_zero hx0 hy0
        omega
      have hx : ∀ k : Int, k ≤ x.1 → 0 < s * (x.2 * evalP f k) := fun k hk => by
        have h1 := hyk k hk
        have h3 := pos_mul hpos h1
        have h4 : 0 < y.2 * y.2 := by
          by_cases h : 0 < y.2
          · exact pos_mul h h
          · have := pos_mul (a := -y.2) (b := -y.2) (by omega) (by omega)
            rwa [Int.neg_mul_neg] at this
        generalize evalP f k = w at h3 ⊢
        have e : x.2 * y.2 * (s * (y.2 * w)) = (s * (x.2 * w)) * (y.2 * y.2) := by
          simp only [Int.mul_comm, Int.mul_left_comm, Int.mul_assoc]
        rw [e] at h3
        by_cases hq : 0 < s * (x.2 * w)
        · exact hq
        · exfalso
          have := Int.mul_nonneg (a := -(s * (x.2 * w))) (b := y.2 * y.2) (by omega) (Int.le_of_lt h4)
          rw [Int.neg_mul] at this
          omega
      refine ⟨f, s, ?_, fun z hz' => ?_, fun w hw k hk => ?_⟩
      · rw [hl]
        show _ = (if x.2 * y.2 < 0 then 1 else 0) + chg (y :: r) + 1
        rw [if_neg hc]; omega
      · rcases List.mem_cons.mp hz' with e | hm
        · rw [e]; exact hx x.1 (Int.le_refl _)
        · exact ha z hm
      · have e : x = w := by simpa using hw
        subst e
        exact hx k hk
theorem wsum_pos (φ : Int → Int) (s : Int) : ∀ {l : List (Int × Int)}, (∀ z ∈ l, 0 < s * (z.2 * φ z.1)) → l ≠ [] → 0 < s * wsum φ l
  | [], _, h => absurd rfl h
  | [x], h, _ => by
    show 0 < s * (x.2 * φ x.1 + 0)
    rw [Int.add_zero]; exact h x (by simp)
  | x :: y :: r, h, _ => by
    have ih := wsum_pos φ s (l := y :: r) (fun z hz => h z (by simp [hz])) (by simp)
    show 0 < s * (x.2 * φ x.1 + wsum φ (y :: r))
    rw [Int.mul_add]
    have := h x (by simp)
    omega
/-- a ledger has a sum other than 0 not behind its changes of sign -/
theorem apart {l : List (Int × Int)} (h : Led l) (hne : l ≠ []) : ∃ j, j ≤ chg l ∧ psum l j ≠ 0 := by
  obtain ⟨f, s, hl, ha, _⟩ := chg_sign h.1 h.2 hne
  have hp := wsum_pos (evalP f) s ha hne
  refine Classical.byContradiction fun hno => ?_
  have hz : ∀ j, j < f.length → psum l j = 0 := fun j hj => Classical.byContradiction fun hj0 => hno ⟨j, by omega, hj0⟩
  rw [wsum_dot, sm_congr (G := fun _ => 0) fun j hj => by rw [hz j hj, Int.mul_zero], sm_zero, Int.mul_zero] at hp
  exact absurd hp (by decide)
def IsBl (l : List (Int × Int)) (j : Nat) : Prop := psum l j ≠ 0 ∧ ∀ i, i < j → psum l i = 0
theorem isBl_of {l : List (Int × Int)} : ∀ {n : Nat}, psum l n ≠ 0 → ∃ j, j ≤ n ∧ IsBl l j := by
  intro n
  induction n using Nat.strongRecOn with
  | ind n ih =>
    intro h
    by_cases hs : ∃ i, i < n ∧ psum l i ≠ 0
    · obtain ⟨i, hi, h0⟩ := hs
      obtain ⟨j, hj, hb⟩ := ih i hi h0
      exact ⟨j, by omega, hb⟩
    · exact ⟨n, Nat.le_refl _, h, fun i hi => Classical.byContradiction fun h0 => hs ⟨i, hi, h0⟩⟩
theorem led_bl {l : List (Int × Int)} (h : Led l) (hne : l ≠ []) : ∃ j, j ≤ chg l ∧ IsBl l j := by
  obtain ⟨n, hn, h0⟩ := apart h hne
  obtain ⟨j, hj, hb⟩ := isBl_of h0
  exact ⟨j, by omega, hb⟩
theorem IsBl.uniq {l : List (Int × Int)} {i j : Nat} (h : IsBl l i) (h2 : IsBl l j) : i = j := by
  by_cases h3 : i < j
  · exact absurd (h2.2 i h3) h.1
  · by_cases h4 : j < i
    · exact absurd (h.2 j h4) h2.1
    · omega
open Classical in
noncomputable def blD (l : List (Int × Int)) : PyData := if h : ∃ j, IsBl l j then .int ((Classical.choose h : Nat) : Int) else .none
theorem blD_is {l : List (Int × Int)} {j : Nat} (h : IsBl l j) : blD l = .int (j : Int) := by
  unfold blD
  rw [dif_pos ⟨j, h⟩, (Classical.choose_spec (⟨j, h⟩ : ∃ j, IsBl l j)).uniq h]
theorem blD_nil : blD [] = .none := by
  unfold blD
  rw [dif_neg fun ⟨j, h⟩ => h.1 (psum_nil j)]
/-! ### changes of sign, told in two ways -/
/-! ### the least blind ledger -/
def sgz (z : Int) : Int := 1 - 2 * z.fmod 2
def turn (s : Nat) (f : Int) : List (Int × Int) := (List.range (s + 1)).map fun (k : Nat) => (f + (0 + (k : Int)), (chs s k : Int) * sgz ((s : Int) - (0 + (k : Int))))
theorem Led.sub {a b : List (Int × Int)} (h : Led b) (hs : a.Sublist b) : Led a := ⟨h.1.sublist hs, fun x hx => h.2 x (hs.subset hx)⟩
end Cr
namespace Cr
open PySem PySem.Spec PyProof.Rows L2
section
variable {q : Option Addr} {δ : List Sl} {te : TE}
theorem e_intB {b : Bool} (h : E q δ te (.bool b)) : E q δ (tCB rIntQ (tCons te tNil)) (.int (if b then 1 else 0)) := e_cb1 h fun vs H H1 h e Q k => by
  obtain ⟨v, rfl, h1⟩ := h.one
  rw [h1.blOf]
  exact .inr ⟨b, rfl, k _ _ H H1 (Gr.refl e) rfl (.int _)⟩
end
end Cr

set_option Elab.async false
set_option linter.all false
set_option maxRecDepth 100000
set_option maxHeartbeats 1000001
/-! zip of a tuple and a list -/
namespace Zm
open PySem PySem.Spec PyProof.Rows L2 RZ
section
variable {w : World} {prog : Program}
/-- what a step of an iterator needs and leaves -/
structure Nx (prog : Program) (w : World) (it l : Addr) (x : Value) (G G' : Heap → Prop) : Prop where
  run : ∀ (A : Around) (E : Value → Shared → Prop) (t : Shared) (Q : Value → Shared → Prop), G t.heap → (∀ g, G' g → Heap.SameBut it t.heap g → Q x { t with heap := g }) → wpAny (model prog w) A (Builtin.SmallTypes.nextOf (.ref it)) Q E t
  up : ∀ g g' : Heap, G g → (∀ o, g.get? it = some o → g'.get? it = some o) → (∀ o, g.get? l = some o → g'.get? l = some o) → G g'
  up' : ∀ g g' : Heap, G' g → (∀ o, g.get? it = some o → g'.get? it = some o) → G' g'
theorem nx_tup {it l : Addr} {k : Nat} {xs : Array Value} {x : Value} (hx : xs[k]? = some x) : Nx prog w it l x (fun g => g.IsTupleIter it l k ∧ g.IsTuple l xs) (fun g => g.IsTupleIter it l (k + 1)) where
  run := fun _ _ _ _ c q => nextOf_tuple_item c.1 c.2 hx q
  up := fun _ _ c u v => ⟨c.1.at fun o e => u o e, c.2.at fun o e => v o e⟩
  up' := fun _ _ c u => c.at fun o e => u o e
theorem nx_lst {it l : Addr} {k : Nat} {xs : Array Value} {x : Value} (hx : xs[k]? = some x) : Nx prog w it l x (fun g => g.IsListIter it l k ∧ g.IsList l xs) (fun g => g.IsListIter it l (k + 1)) where
  run := fun _ _ _ _ c q => wpAny_nextOf_list_item c.1 c.2 hx q
  up := fun _ _ c u v => ⟨c.1.at fun o e => u o e, c.2.at fun o e => v o e⟩
  up' := fun _ _ c u => c.at fun o e => u o e
/-- .. and of one that is at its end -/
structure Nd (prog : Program) (w : World) (it l : Addr) (G : Heap → Prop) : Prop where
  run : ∀ (A : Around) (hh : A.handled = none) (E : Value → Shared → Prop) (t : Shared) (Q : Value → Shared → Prop), G t.heap → (∀ g e, Heap.ExtBut it t.heap g → (∃ o, g.get? e = some o ∧ o.cls = .type "StopIteration") → E (.ref e) { t with heap := g }) → wpAny (model prog w) A (Builtin.SmallTypes.nextOf (.ref it)) Q E t
  up : ∀ g g' : Heap, G g → (∀ o, g.get? it = some o → g'.get? it = some o) → (∀ o, g.get? l = some o → g'.get? l = some o) → G g'
theorem nd_tup {it l : Addr} {k : Nat} {xs : Array Value} (hx : xs[k]? = none) : Nd prog w it l (fun g => g.IsTupleIter it l k ∧ g.IsTuple l xs) where
  run := fun _ hh _ _ _ c q => nextOf_tuple_end hh c.1 c.2 hx q
  up := fun _ _ c u v => ⟨c.1.at fun o e => u o e, c.2.at fun o e => v o e⟩
theorem nd_lst {it l : Addr} {k : Nat} {xs : Array Value} (hx : xs[k]? = none) : Nd prog w it l (fun g => g.IsListIter it l k ∧ g.IsList l xs) where
  run := fun _ hh _ _ _ c q => wpAny_nextOf_list_end hh c.1 c.2 hx q
  up := fun _ _ c u v => ⟨c.1.at fun o e => u o e, c.2.at fun o e => v o e⟩
end
section
variable {prog : Program} {w : World} {A : Around} {E : Value → Shared → Prop} {s : Shared} {z TI TO i1 i2 l1 l2 : Addr} {x y a b : Value} {G1 G1' G2 G2' : Heap → Prop}
theorem zip_step {Q : Value → Shared → Prop} (D : ZipApart z TI TO i1 i2 l1 l2) (kz : IsZip s.heap z TI TO .none) (kI : IsPair s.heap TI (.ref i1) (.ref i2)) (kO : IsPair s.heap TO a b)
    (n1 : Nx prog w i1 l1 x G1 G1') (n2 : Nx prog w i2 l2 y G2 G2') (c1 : G1 s.heap) (c2 : G2 s.heap)
    (kont : ∀ g, IsZip g z TI TO (rawInt s.heap.objs.size) → IsPair g TO x y → G1' g → G2' g → IsPair g s.heap.objs.size x y → (∀ c o, c ≠ z → c ≠ TO → c ≠ i1 → c ≠ i2 → s.heap.get? c = some o → g.get? c = some o) → Q (.ref s.heap.objs.size) { s with heap := g }) : wpAny (model prog w) A (Builtin.«zip.__next__» ⟨[.ref z], []⟩) (fun fin s' => ∃ v, fin = .done (.ret v) ∧ Q v s') E s := by
  show wpAny _ _ (field (.ref z) 2 >>= _) _ _ _; refine wpAny_bind (wpAny_field kz rfl (x := .bool false) rfl ?_); show wpAny _ _ (field (.ref z) 3 >>= _) _ _ _
  refine wpAny_bind (wpAny_field kz rfl (x := .ref TI) rfl ?_); refine wpAny_bind (wpAny_seqItems kI rfl ?_)
  show wpAny _ _ (Builtin.SmallTypes.ownedTupleIsFree (.ref z) >>= _) _ _ _; refine wpAny_bind ?_; unfold Builtin.SmallTypes.ownedTupleIsFree
  refine wpAny_bind (wpAny_field kz rfl (x := .none) rfl (wpAny_pure ?_)); simp only [if_true]; refine wpAny_bind (wpAny_rule ?_)
  refine wpAny_bind (wpAny_field kz rfl (x := .ref TO) rfl ?_); refine wpAny_bind (wpAny_setField_rec kz (by simp) fun g1 z1 r1 => ?_)
  have z1' : IsZip g1 z TI TO .ellipsis := z1
  refine wpAny_bind ?_; simp only [List.zipIdx_cons, List.zipIdx_nil, List.forIn_cons, List.forIn_nil]; refine wpAny_bind (wpAny_bind (wpAny_onRaise ?_))
  show wpAny _ _ (Builtin.SmallTypes.nextOf (.ref i1) >>= _) _ _ _; refine wpAny_bind (n1.run A _ _ _ (n1.up _ _ c1 (fun o e => r1.extBut _ _ D.i1z e) fun o e => r1.extBut _ _ D.l1z e) fun g2 d1 r2 => wpAny_pure ?_)
  have O2 : IsPair g2 TO a b := r2.extBut _ _ D.TOi1 (r1.extBut _ _ D.TOz kO)
  refine wpAny_bind (wpAny_seqItems O2 rfl ?_); refine wpAny_bind (wpAny_updateSeq_pair O2 fun g3 O3 r3 => ?_)
  have O3' : IsPair g3 TO x b := O3
  refine wpAny_bind (wpAny_letGo (wpAny_pure ?_)); refine wpAny_bind (wpAny_bind (wpAny_onRaise ?_)); show wpAny _ _ (Builtin.SmallTypes.nextOf (.ref i2) >>= _) _ _ _
  refine wpAny_bind (n2.run A _ _ _ (n2.up _ _ c2 (fun o e => r3.extBut _ _ D.TOi2.symm (r2.extBut _ _ D.i12.symm (r1.extBut _ _ D.i2z e))) fun o e => r3.extBut _ _ D.l2TO (r2.extBut _ _ D.l2i1 (r1.extBut _ _ D.l2z e))) fun g4 d2 r4 => wpAny_pure ?_)
  have O4 : IsPair g4 TO x b := r4.extBut _ _ D.TOi2 O3'
  refine wpAny_bind (wpAny_seqItems O4 rfl ?_); refine wpAny_bind (wpAny_updateSeq_pair O4 fun g5 O5 r5 => ?_)
  have O5' : IsPair g5 TO x y := O5
  refine wpAny_bind (wpAny_letGo (wpAny_pure (wpAny_pure ?_))); refine wpAny_bind (wpAny_seqItems O5' rfl ?_); refine wpAny_bind (wpAny_newTuple ?_)
  have sz : g5.objs.size = s.heap.objs.size := by rw [r5.1, r4.1, r3.1, r2.1, r1.1]
  have z5 : IsZip g5 z TI TO .ellipsis := r5.extBut _ _ D.TOz.symm (r4.extBut _ _ D.i2z.symm (r3.extBut _ _ D.TOz.symm (r2.extBut _ _ D.i1z.symm z1')))
  have k5 : ∀ c o, c ≠ z → c ≠ TO → c ≠ i1 → c ≠ i2 → s.heap.get? c = some o → g5.get? c = some o := fun c o p1 p2 p3 p4 e => r5.extBut _ _ p2 (r4.extBut _ _ p4 (r3.extBut _ _ p2 (r2.extBut _ _ p3 (r1.extBut _ _ p1 e))))
  have e1 : G1' g5 := n1.up' _ _ d1 fun o e => r5.extBut _ _ D.TOi1.symm (r4.extBut _ _ D.i12 (r3.extBut _ _ D.TOi1.symm e))
  have e2 : G2' g5 := n2.up' _ _ d2 fun o e => r5.extBut _ _ D.TOi2.symm e
  have lz : z < g5.objs.size := Heap.lt_size z5
  show wpAny _ _ (Builtin.SmallTypes.ownedTupleHandOut (.ref z) (.ref g5.objs.size) >>= _) _ _ _; refine wpAny_bind ?_; unfold Builtin.SmallTypes.ownedTupleHandOut
  have z6 : IsZip (g5.push { cls := .type "tuple", data := .seq #[x, y] }) z TI TO .ellipsis := Heap.get?_push_of_some _ z5
  refine wpAny_bind (wpAny_setField_rec z6 (by simp) fun g7 z7 r7 => ?_)
  have z7' : IsZip g7 z TI TO (rawInt g5.objs.size) := z7
  refine wpAny_setField_rec z7' (by simp) fun g8 z8 r8 => ?_
  have z8' : IsZip g8 z TI TO (rawInt g5.objs.size) := z8
  have to8 : ∀ c o, c ≠ z → g5.get? c = some o → g8.get? c = some o := fun c o p e => r8.extBut _ _ p (r7.extBut _ _ p (Heap.get?_push_of_some _ e))
  have T8 : IsPair g8 g5.objs.size x y := r8.extBut _ _ (Nat.ne_of_gt lz) (r7.extBut _ _ (Nat.ne_of_gt lz) (Heap.get?_push_size _ rfl))
  rw [sz] at z8' T8
  refine wpAny_pure ⟨_, rfl, ?_⟩; show Q (.ref g5.objs.size) _
  rw [sz]
  exact kont g8 z8' (to8 _ _ D.TOz O5') (n1.up' _ _ e1 fun o e => to8 _ o D.i1z e) (n2.up' _ _ e2 fun o e => to8 _ o D.i2z e) T8 fun c o p1 p2 p3 p4 e => to8 c o p1 (k5 c o p1 p2 p3 p4 e)
theorem zip_stop1 {Q : Fin → Shared → Prop} (hh : A.handled = none) (D : ZipApart z TI TO i1 i2 l1 l2) (kz : IsZip s.heap z TI TO .none) (kI : IsPair s.heap TI (.ref i1) (.ref i2)) (kO : IsPair s.heap TO a b) (n1 : Nd prog w i1 l1 G1) (c1 : G1 s.heap)
    (kont : ∀ g e, (∀ c o, c ≠ z → c ≠ TO → c ≠ i1 → c ≠ i2 → s.heap.get? c = some o → g.get? c = some o) → (∃ o, g.get? e = some o ∧ o.cls = .type "StopIteration") → E (.ref e) { s with heap := g }) : wpAny (model prog w) A (Builtin.«zip.__next__» ⟨[.ref z], []⟩) Q E s := by
  show wpAny _ _ (field (.ref z) 2 >>= _) _ _ _; refine wpAny_bind (wpAny_field kz rfl (x := .bool false) rfl ?_); show wpAny _ _ (field (.ref z) 3 >>= _) _ _ _
  refine wpAny_bind (wpAny_field kz rfl (x := .ref TI) rfl ?_); refine wpAny_bind (wpAny_seqItems kI rfl ?_)
  show wpAny _ _ (Builtin.SmallTypes.ownedTupleIsFree (.ref z) >>= _) _ _ _; refine wpAny_bind ?_; unfold Builtin.SmallTypes.ownedTupleIsFree
  refine wpAny_bind (wpAny_field kz rfl (x := .none) rfl (wpAny_pure ?_)); simp only [if_true]; refine wpAny_bind (wpAny_rule ?_)
  refine wpAny_bind (wpAny_field kz rfl (x := .ref TO) rfl ?_); refine wpAny_bind (wpAny_setField_rec kz (by simp) fun g1 z1 r1 => ?_)
  have z1' : IsZip g1 z TI TO .ellipsis := z1
  refine wpAny_bind ?_; simp only [List.zipIdx_cons, List.zipIdx_nil, List.forIn_cons, List.forIn_nil]; refine wpAny_bind (wpAny_bind (wpAny_onRaise ?_))
  show wpAny _ _ (Builtin.SmallTypes.nextOf (.ref i1) >>= _) _ _ _; refine wpAny_bind (n1.run A hh _ _ _ (n1.up _ _ c1 (fun o e => r1.extBut _ _ D.i1z e) fun o e => r1.extBut _ _ D.l1z e) fun g2 e r2 ⟨oe, he, ce⟩ => ?_)
  have z2 : IsZip g2 z TI TO .ellipsis := r2 _ _ D.i1z.symm z1'
  have ez : e ≠ z := fun q => by rw [q, z2] at he; cases he; simp at ce
  exact wpAny_setField_rec z2 (by simp) fun g3 _ r3 => kont g3 e (fun c o p1 _ p3 _ q => r3.extBut _ _ p1 (r2 _ _ p3 (r1.extBut _ _ p1 q))) ⟨oe, r3.extBut _ _ ez he, ce⟩
theorem zip_stop2 {Q : Fin → Shared → Prop} (hh : A.handled = none) (D : ZipApart z TI TO i1 i2 l1 l2) (kz : IsZip s.heap z TI TO .none) (kI : IsPair s.heap TI (.ref i1) (.ref i2)) (kO : IsPair s.heap TO a b) (n1 : Nx prog w i1 l1 x G1 G1') (n2 : Nd prog w i2 l2 G2) (c1 : G1 s.heap) (c2 : G2 s.heap)
    (kont : ∀ g e, (∀ c o, c ≠ z → c ≠ TO → c ≠ i1 → c ≠ i2 → s.heap.get? c = some o → g.get? c = some o) → (∃ o, g.get? e = some o ∧ o.cls = .type "StopIteration") → E (.ref e) { s with heap := g }) : wpAny (model prog w) A (Builtin.«zip.__next__» ⟨[.ref z], []⟩) Q E s := by
  show wpAny _ _ (field (.ref z) 2 >>= _) _ _ _; refine wpAny_bind (wpAny_field kz rfl (x := .bool false) rfl ?_); show wpAny _ _ (field (.ref z) 3 >>= _) _ _ _
  refine wpAny_bind (wpAny_field kz rfl (x := .ref TI) rfl ?_); refine wpAny_bind (wpAny_seqItems kI rfl ?_)
  show wpAny _ _ (Builtin.SmallTypes.ownedTupleIsFree (.ref z) >>= _) _ _ _; refine wpAny_bind ?_; unfold Builtin.SmallTypes.ownedTupleIsFree
  refine wpAny_bind (wpAny_field kz rfl (x := .none) rfl (wpAny_pure ?_)); simp only [if_true]; refine wpAny_bind (wpAny_rule ?_)
  refine wpAny_bind (wpAny_field kz rfl (x := .ref TO) rfl ?_); refine wpAny_bind (wpAny_setField_rec kz (by simp) fun g1 z1 r1 => ?_)
  have z1' : IsZip g1 z TI TO .ellipsis := z1
  refine wpAny_bind ?_; simp only [List.zipIdx_cons, List.zipIdx_nil, List.forIn_cons, List.forIn_nil]; refine wpAny_bind (wpAny_bind (wpAny_onRaise ?_))
  show wpAny _ _ (Builtin.SmallTypes.nextOf (.ref i1) >>= _) _ _ _; refine wpAny_bind (n1.run A _ _ _ (n1.up _ _ c1 (fun o e => r1.extBut _ _ D.i1z e) fun o e => r1.extBut _ _ D.l1z e) fun g2 d1 r2 => wpAny_pure ?_)
  have O2 : IsPair g2 TO a b := r2.extBut _ _ D.TOi1 (r1.extBut _ _ D.TOz kO)
  refine wpAny_bind (wpAny_seqItems O2 rfl ?_); refine wpAny_bind (wpAny_updateSeq_pair O2 fun g3 O3 r3 => ?_)
  refine wpAny_bind (wpAny_letGo (wpAny_pure ?_)); refine wpAny_bind (wpAny_bind (wpAny_onRaise ?_)); show wpAny _ _ (Builtin.SmallTypes.nextOf (.ref i2) >>= _) _ _ _
  refine wpAny_bind (n2.run A hh _ _ _ (n2.up _ _ c2 (fun o e => r3.extBut _ _ D.TOi2.symm (r2.extBut _ _ D.i12.symm (r1.extBut _ _ D.i2z e))) fun o e => r3.extBut _ _ D.l2TO (r2.extBut _ _ D.l2i1 (r1.extBut _ _ D.l2z e))) fun g4 e r4 ⟨oe, he, ce⟩ => ?_)
  have z4 : IsZip g4 z TI TO .ellipsis := r4 _ _ D.i2z.symm (r3.extBut _ _ D.TOz.symm (r2.extBut _ _ D.i1z.symm z1'))
  have ez : e ≠ z := fun q => by rw [q, z4] at he; cases he; simp at ce
  exact wpAny_setField_rec z4 (by simp) fun g5 _ r5 => kont g5 e (fun c o p1 p2 p3 p4 q => r5.extBut _ _ p1 (r4 _ _ p4 (r3.extBut _ _ p2 (r2.extBut _ _ p3 (r1.extBut _ _ p1 q))))) ⟨oe, r5.extBut _ _ ez he, ce⟩
theorem next_step {Q : Option Value → Shared → Prop} (D : ZipApart z TI TO i1 i2 l1 l2) (kz : IsZip s.heap z TI TO .none) (kI : IsPair s.heap TI (.ref i1) (.ref i2)) (kO : IsPair s.heap TO a b)
    (n1 : Nx prog w i1 l1 x G1 G1') (n2 : Nx prog w i2 l2 y G2 G2') (c1 : G1 s.heap) (c2 : G2 s.heap)
    (kont : ∀ g, IsZip g z TI TO (rawInt s.heap.objs.size) → IsPair g TO x y → G1' g → G2' g → IsPair g s.heap.objs.size x y → (∀ c o, c ≠ z → c ≠ TO → c ≠ i1 → c ≠ i2 → s.heap.get? c = some o → g.get? c = some o) → Q (some (.ref s.heap.objs.size)) { s with heap := g }) : wpAny (model prog w) A (pyNext (.ref z)) Q E s := by
  have ty : s.TypeIs (.ref z) "zip" := ⟨_, kz, rfl⟩
  unfold pyNext
  exact wpAny_bind (wpAny_attempt (wpAny_callSpecial?_slot (name := Str.ofString "__next__") ty F.slot_zip_next (wpAny_call_entry F.slot_zip_next ty F.entry_zip_next (zip_step D kz kI kO n1 n2 c1 c2 fun g p1 p2 p3 p4 p5 p6 => wpAny_pure (kont g p1 p2 p3 p4 p5 p6)) (F.args_zip_next_1 _))))
theorem next_stop {Q : Option Value → Shared → Prop} (kz : IsZip s.heap z TI TO .none)
    (run : ∀ (A' : Around) (E' : Value → Shared → Prop) (R : Fin → Shared → Prop), A'.handled = A.handled → (∀ g e, (∀ c o, c ≠ z → c ≠ TO → c ≠ i1 → c ≠ i2 → s.heap.get? c = some o → g.get? c = some o) → (∃ o, g.get? e = some o ∧ o.cls = .type "StopIteration") → E' (.ref e) { s with heap := g }) → wpAny (model prog w) A' (Builtin.«zip.__next__» ⟨[.ref z], []⟩) R E' s)
    (kont : ∀ g, (∀ c o, c ≠ z → c ≠ TO → c ≠ i1 → c ≠ i2 → s.heap.get? c = some o → g.get? c = some o) → Q none { s with heap := g }) : wpAny (model prog w) A (pyNext (.ref z)) Q E s := by
  have ty : s.TypeIs (.ref z) "zip" := ⟨_, kz, rfl⟩
  unfold pyNext
  refine wpAny_bind (wpAny_attempt (wpAny_callSpecial?_slot (name := Str.ofString "__next__") ty F.slot_zip_next (wpAny_call_entry F.slot_zip_next ty F.entry_zip_next (run _ _ _ rfl fun g e hk he => ?_) (F.args_zip_next_1 _))))
  obtain ⟨o, ho, hc⟩ := he
  exact wpAny_bind (wpAny_isInstance (T := "StopIteration") (b := true) ⟨o, ho, hc⟩ isSubtype_stop (wpAny_pure (kont _ hk)))
end
/-! ### zip(tuple, list) as it is walked -/
/-! ### the call -/
abbrev hp1 (h : Heap) (l1 : Addr) : Heap := h.push { cls := .type "tuple_iterator", data := .fields #[.ref l1, .int 0 0] }
abbrev hp2 (h : Heap) (l1 l2 : Addr) : Heap := (hp1 h l1).push { cls := .type "list_iterator", data := .fields #[.ref l2, .int 0 0] }
abbrev hp3 (h : Heap) (l1 l2 : Addr) : Heap := (hp2 h l1 l2).push { cls := .type "tuple", data := .seq #[.ref h.objs.size, .ref (hp1 h l1).objs.size] }
end Zm
namespace Cr
open PySem PySem.Spec PyProof.Rows L2 Zm
section
variable {K : PySem.W.Frag} {q : Option Addr} {δ : List Sl} {ta tb : TE}
end
end Cr

set_option Elab.async false
set_option linter.all false
set_option maxRecDepth 100000
set_option maxHeartbeats 1000001
namespace Zm
open PySem PySem.Spec PyProof.Rows L2 RZ
/-! ### zip(tuple, tuple), the items known to have no dict of their own -/
def ItzS (K : PySem.W.Frag) (a b : Addr) : It where
  go i H := ∃ (xs ys : List V) (x y : V), SqT K H a xs ∧ SqT K H b ys ∧ xs[i]? = some x ∧ ys[i]? = some y
  yld i H v H' := ∃ T x y, v = .ref T ∧ H T = none ∧ (∃ ob : Obj, ob.dict = none ∧ H' = upd H T (.frz ob (.tup [x, y]))) ∧ (∀ xs, SqT K H a xs → xs[i]? = some x) ∧ ∀ ys, SqT K H b ys → ys[i]? = some y
  stop i H := ∃ xs ys : List V, SqT K H a xs ∧ SqT K H b ys ∧ (xs.length ≤ i ∨ ys.length ≤ i)
theorem turn_zipS {P : Program} {w : World} {K : PySem.W.Frag} {elts : List Expr} {kk : Nat} {tpos : Pos} {a b z TI TO i1 i2 : Addr} (D : ZipApart z TI TO i1 i2 a b) :
    Turn P w K (.Tuple elts kk tpos) (ItzS K a b) [z, TI, TO, i1, i2] z (fun i h => IsZip h z TI TO .none ∧ IsPair h TI (.ref i1) (.ref i2) ∧ (∃ x y, IsPair h TO x y) ∧ h.IsTupleIter i1 a i ∧ h.IsTupleIter i2 b i) where
  mem := List.mem_cons_self ..
  obj := fun i h ⟨kz, kI, ⟨x, y, kO⟩, ⟨o1, e1, _, d1⟩, ⟨o2, e2, _, d2⟩⟩ c hc => by
    simp only [List.mem_cons, List.mem_nil_iff, or_false] at hc
    rcases hc with rfl | rfl | rfl | rfl | rfl
    · exact ⟨_, kz, fun v q => nomatch q⟩
    · exact ⟨_, kI, fun v q => nomatch q⟩
    · exact ⟨_, kO, fun v q => nomatch q⟩
    · exact ⟨o1, e1, fun v q => by rw [d1] at q; cases q⟩
    · exact ⟨o2, e2, fun v q => by rw [d2] at q; cases q⟩
  keep := fun i h h' ⟨kz, kI, ⟨x, y, kO⟩, k1, k2⟩ u => ⟨u z (by simp) _ kz, u TI (by simp) _ kI, ⟨x, y, u TO (by simp) _ kO⟩, k1.at fun o e => u i1 (by simp) o e, k2.at fun o e => u i2 (by simp) o e⟩
  item := by
    rintro X rfl rfl rfl hc i pins s σ H E I hf ⟨kz, kI, ⟨x0, y0, kO⟩, k1, k2⟩ ⟨xs, ys, x, y, qx, qy, hx, hy⟩
    obtain ⟨its, rv, p, _⟩ := I.tuple qx
    obtain ⟨its2, rv2, p2, _⟩ := I.tuple qy
    obtain ⟨u, hu, ru⟩ := rv.get hx; obtain ⟨u2, hu2, ru2⟩ := rv2.get hy
    have lz : z < s.heap.objs.size := Heap.lt_size kz
    refine next_step D kz kI kO (nx_tup (k := i) (xs := its.toArray) (x := u) (by simpa using hu)) (nx_tup (k := i) (xs := its2.toArray) (x := u2) (by simpa using hu2)) ⟨k1, p⟩ ⟨k2, p2⟩ fun g z' TO' k1' k2' hT hk => ?_
    refine ⟨_, rfl, wpAny_letOwnedTupleGo_zip (s := { s with heap := g }) z' fun g2 z2 sb => ?_⟩
    have T2 : g2.get? s.heap.objs.size = some { cls := .type "tuple", data := .seq #[u, u2] } := (sb.2 _ (Nat.ne_of_gt lz)).trans hT
    have nw : ObjOk X.prog X.w (upd H s.heap.objs.size (.frz { cls := .type "tuple", data := .seq #[u, u2] } (.tup [x, y]))) g2 s.heap.objs.size (.frz { cls := .type "tuple", data := .seq #[u, u2] } (.tup [x, y])) := ⟨T2, by show 2 ≤ sizeLine; decide, [u, u2], .cons ru (.cons ru2 .nil), ⟨_, T2, rfl, _, rfl⟩⟩
    have I1 : Inv X pins σ (upd H s.heap.objs.size (.frz { cls := .type "tuple", data := .seq #[u, u2] } (.tup [x, y]))) { s with heap := g2 } := I.turnedNew (t' := s.toks) (ch := [z, TI, TO, i1, i2]) (fun c o hb e => (sb.2 c fun e' => hb (by simp [e'])).trans (hk c o (fun e' => hb (by simp [e'])) (fun e' => hb (by simp [e'])) (fun e' => hb (by simp [e'])) (fun e' => hb (by simp [e'])) e)) hf (Nat.le_refl _) nw
    refine ⟨.ref s.heap.objs.size, _, I1, rfl, ⟨_, x, y, rfl, I.hok.fresh (Nat.le_refl _), ⟨_, rfl, rfl⟩, fun l hl => by rw [I.tuple_inj hl qx]; exact hx, fun l hl => by rw [I.tuple_inj hl qy]; exact hy⟩, ⟨z2, (sb.2 _ D.TIz).trans (hk _ _ D.TIz D.TITO D.TIi1 D.TIi2 kI), ⟨u, u2, (sb.2 _ D.TOz).trans TO'⟩, k1'.at fun o e => (sb.2 _ D.i1z).trans e, k2'.at fun o e => (sb.2 _ D.i2z).trans e⟩, fun c hcm => ?_⟩
    have hlt : c < s.heap.objs.size := by
      have hcm' := hcm
      simp only [List.mem_cons, List.mem_nil_iff, or_false] at hcm'
      rcases hcm' with rfl | rfl | rfl | rfl | rfl
      · exact lz
      · exact Heap.lt_size kI
      · exact Heap.lt_size kO
      · exact k1.elim fun _ e => Heap.lt_size e.1
      · exact k2.elim fun _ e => Heap.lt_size e.1
    rw [upd_ne (Nat.ne_of_lt hlt)]; exact (hf c hcm).1
  done := by
    rintro X rfl rfl rfl hc i pins s σ H E I hf ⟨kz, kI, ⟨x0, y0, kO⟩, k1, k2⟩ ⟨xs, ys, qx, qy, hend⟩
    obtain ⟨its, rv, p, _⟩ := I.tuple qx
    obtain ⟨its2, rv2, p2, _⟩ := I.tuple qy
    have m1 := rv.length
    have m2 := rv2.length
    have hh := I.ok.hd hc
    refine next_stop kz (i1 := i1) (i2 := i2) (fun A' E' R hA' kont => ?_) fun g hk => ⟨rfl, I.turnedL (t' := s.toks) (ch := [z, TI, TO, i1, i2]) (fun c o hb e => hk c o (fun e' => hb (by simp [e'])) (fun e' => hb (by simp [e'])) (fun e' => hb (by simp [e'])) (fun e' => hb (by simp [e'])) e) hf⟩
    by_cases h1 : xs.length ≤ i
    · exact zip_stop1 (hA'.trans hh) D kz kI kO (nd_tup (k := i) (xs := its.toArray) (by simp; omega)) ⟨k1, p⟩ kont
    · have h2 : ys.length ≤ i := by rcases hend with h | h; exact absurd h h1; exact h
      exact zip_stop2 (hA'.trans hh) D kz kI kO (nx_tup (k := i) (xs := its.toArray) (x := its[i]'(by omega)) (by first | (simp; done) | (simp; omega))) (nd_tup (k := i) (xs := its2.toArray) (by simp; omega)) ⟨k1, p⟩ ⟨k2, p2⟩ kont
  self := fun A i s Q E st q => wpAny_pyIter_zip st.1 q
/-! ### the call -/
abbrev hp2S (h : Heap) (l1 l2 : Addr) : Heap := (hp1 h l1).push { cls := .type "tuple_iterator", data := .fields #[.ref l2, .int 0 0] }
abbrev hp3S (h : Heap) (l1 l2 : Addr) : Heap := (hp2S h l1 l2).push { cls := .type "tuple", data := .seq #[.ref h.objs.size, .ref (hp1 h l1).objs.size] }
abbrev hp4S (h : Heap) (l1 l2 : Addr) : Heap := (hp3S h l1 l2).push { cls := .type "tuple", data := .seq #[.none, .none] }
abbrev hp5S (h : Heap) (l1 l2 : Addr) : Heap := (hp4S h l1 l2).push { cls := .type "zip", data := .fields #[.none, .bool false, .bool false, .ref (hp2S h l1 l2).objs.size, .ref (hp3S h l1 l2).objs.size] }
theorem meets_newS (l1 l2 : Addr) (xs ys : Array Value) : Meets (Builtin.«zip.__new__» ⟨[.type "zip", .ref l1, .ref l2], []⟩) (fun _ R s => s.heap.IsTuple l1 xs ∧ s.heap.IsTuple l2 ys ∧ R (.ok (.ret (.ref (hp4S s.heap l1 l2).objs.size))) { s with heap := hp5S s.heap l1 l2 }) :=
  .of_wp fun prog w A R s ⟨k1, k2, k⟩ => by
    obtain ⟨hp, g, d, tk, os⟩ := s; have hsub := sub_zip
    have a1 : Heap.IsTuple (Shared.heap ⟨hp, g, d, tk, os⟩) l1 xs := k1
    have a2 : Heap.IsTuple (Shared.heap ⟨hp.push { cls := .type "tuple_iterator", data := .fields #[.ref l1, .int 0 0] }, g, d, tk, os⟩) l2 ys := Heap.IsTuple.push k2 _
    wp_walk using wpAny_pyIter_tuple a1, wpAny_pyIter_tuple a2
    exact ⟨_, rfl, k⟩
theorem call_zipS {prog : Program} {w : World} {A : Around} {E : Value → Shared → Prop} {s : Shared} {l1 l2 : Addr} {xs ys : Array Value} {Q : Value → Shared → Prop} (k1 : s.heap.IsTuple l1 xs) (k2 : s.heap.IsTuple l2 ys)
    (kont : ∀ g n, n = s.heap.objs.size → IsZip g (n + 4) (n + 2) (n + 3) .none → IsPair g (n + 2) (.ref n) (.ref (n + 1)) → IsPair g (n + 3) .none .none → g.IsTupleIter n l1 0 → g.IsTupleIter (n + 1) l2 0 → (∀ c o, s.heap.get? c = some o → g.get? c = some o) → Q (.ref (n + 4)) { s with heap := g }) : wpAny (model prog w) A (call (.type "zip") [.ref l1, .ref l2]) Q E s := by
  refine callType_new F.called_zip (by decide) (F.typeCall_zip_2 _ _) (F.newCall_zip_2 _ _) (fun obj => F.args_object_init_3 obj _ _) F.entry_zip_new (meets_newS l1 l2 xs ys) ⟨k1, k2, ?_⟩
  have s1 : (hp1 s.heap l1).objs.size = s.heap.objs.size + 1 := Heap.size_push ..
  have s2 : (hp2S s.heap l1 l2).objs.size = s.heap.objs.size + 2 := (Heap.size_push ..).trans (by rw [s1])
  have s3 : (hp3S s.heap l1 l2).objs.size = s.heap.objs.size + 3 := (Heap.size_push ..).trans (by rw [s2])
  have s4 : (hp4S s.heap l1 l2).objs.size = s.heap.objs.size + 4 := (Heap.size_push ..).trans (by rw [s3])
  have q4 : (hp5S s.heap l1 l2).get? (hp4S s.heap l1 l2).objs.size = some _ := Heap.get?_push_size _ rfl
  have q3 : (hp5S s.heap l1 l2).get? (hp3S s.heap l1 l2).objs.size = some _ := Heap.get?_push_of_some _ (Heap.get?_push_size _ rfl)
  have q2 : (hp5S s.heap l1 l2).get? (hp2S s.heap l1 l2).objs.size = some _ := Heap.get?_push_of_some _ (Heap.get?_push_of_some _ (Heap.get?_push_size _ rfl))
  have q1 : (hp5S s.heap l1 l2).get? (hp1 s.heap l1).objs.size = some _ := Heap.get?_push_of_some _ (Heap.get?_push_of_some _ (Heap.get?_push_of_some _ (Heap.get?_push_size _ rfl)))
  have q0 : (hp5S s.heap l1 l2).get? s.heap.objs.size = some _ := Heap.get?_push_of_some _ (Heap.get?_push_of_some _ (Heap.get?_push_of_some _ (Heap.get?_push_of_some _ (Heap.get?_push_size _ rfl))))
  show _ ∧ _
  rw [s2, s3, s4] at q4; rw [s1, s2] at q2; rw [s3] at q3; rw [s1] at q1; rw [s4]
  exact ⟨⟨_, q4, rfl⟩, kont _ _ rfl q4 q2 q3 ⟨_, q0, rfl, rfl⟩ ⟨_, q1, rfl, rfl⟩ fun c o e => Heap.get?_push_of_some _ (Heap.get?_push_of_some _ (Heap.get?_push_of_some _ (Heap.get?_push_of_some _ (Heap.get?_push_of_some _ e))))⟩
def iZipS (K : PySem.W.Frag) (ta : TA) : TI := fun σ H R => ta σ H fun vs H1 => ∃ a b xs ys, vs = [.ref a, .ref b] ∧ SqT K H1 a xs ∧ SqT K H1 b ys ∧ R (ItzS K a b) H1
theorem pi_zipS {X : Cx} {K : PySem.W.Frag} {e e2 : Expr} {ta : TA} {p pos tpos : Pos} {elts : List Expr} {kk : Nat} (hK : X.K = K) (hg : Gl X "zip") (hm : X.mg "zip" = none) (ha : PA X [e, e2] ta) (hs : starEach [e, e2] X.env = (false, eval e X.env) :: starEach [e2] X.env := by rfl) (hpl : (backTo pos (starEach [e2] X.env)).any (·.1) = false := by rfl) :
    PI X (.Tuple elts kk tpos) (.Call (.Name "zip" p) [e, e2] [] pos) (iZipS K ta) := by
  subst hK
  refine ⟨fun pins s σ H R I h => Call_ (ld_blt I hg hm PyProof.Rows.boot_zip (PyProof.Rows.callWith_type1 (thn (ha.run pos pins s σ H _ I h) fun us s1 ⟨vs, H1, I1, r1, q1⟩ => ?_) hs hpl))⟩
  obtain ⟨a, b, xs, ys, rfl, qx, qy, q⟩ := q1
  obtain ⟨u1, u2, rfl, ra, rb⟩ : ∃ u1 u2, us = [u1, u2] ∧ RelV (.ref a) u1 ∧ RelV (.ref b) u2 := by
    cases r1 with
    | cons r rr => cases rr with
      | cons r' rr => cases rr; exact ⟨_, _, rfl, r, r'⟩
  cases ra; cases rb
  obtain ⟨its, rv, p1, _⟩ := I1.tuple qx
  obtain ⟨its2, rv2, p2, _⟩ := I1.tuple qy
  obtain ⟨o1, ho1, _⟩ := id p1
  refine call_zipS (show s1.heap.IsTuple a its.toArray from p1) p2 fun g n en kz kI kO k1 k2 hk => wpAny_pyIter_zip kz ?_
  have I2 : Inv X pins σ H1 { s1 with heap := g } := I1.kept (t' := s1.toks) hk
  subst en
  refine ⟨s1.heap.objs.size + 4, [s1.heap.objs.size + 4, s1.heap.objs.size + 2, s1.heap.objs.size + 3, s1.heap.objs.size, s1.heap.objs.size + 1], _, _, H1, rfl, I2, turn_zipS (PySem.W.ktu_apart s1.heap.objs.size a b (Heap.lt_size ho1) (by obtain ⟨o2, ho2, _⟩ := id p2; exact Heap.lt_size ho2)), ⟨kz, kI, ⟨_, _, kO⟩, k1, k2⟩, fun c hcm => ?_, q⟩
  have hd : c = s1.heap.objs.size + 4 ∨ c = s1.heap.objs.size + 2 ∨ c = s1.heap.objs.size + 3 ∨ c = s1.heap.objs.size + 0 ∨ c = s1.heap.objs.size + 1 := by simpa using hcm
  have hle : s1.heap.objs.size ≤ c := (by rcases hd with z | z | z | z | z <;> rw [z] <;> exact Nat.le_add_right _ _); exact I1.fpOk hle (I1.hok.fresh hle)
end Zm
namespace Cr
open PySem PySem.Spec PyProof.Rows L2 Zm
section
variable {K : PySem.W.Frag} {q : Option Addr} {δ : List Sl} {ta tb : TE}
theorem walk_zipS {H : Hp} {a b : Addr} {xs ys : List V} {ds es : List PyData} (h : Tp H a xs ds) (hd : DqAll H xs ds) (h2 : Tp H b ys es) (he : DqAll H ys es) : WalkD (Zm.ItzS K a b) (zipD ds es) H := fun i Hk H' s1 s2 => by
  have e := ((h.mono s1).mono s2).rd
  have e2 := ((h2.mono s1).mono s2).rd
  have hl1 := hd.length
  have hl2 := he.length
  rw [zipD_len]
  refine ⟨fun hi => ?_, fun hi => ⟨xs, ys, .inl e, .inl e2, by omega⟩⟩
  have g1 : xs[i]? = some (xs[i]'(by omega)) := List.getElem?_eq_getElem _
  have g2 : ys[i]? = some (ys[i]'(by omega)) := List.getElem?_eq_getElem _
  refine ⟨⟨xs, ys, _, _, .inl e, .inl e2, g1, g2⟩, fun v H2 y => ?_⟩
  obtain ⟨T, x, y, rfl, hT, ⟨ob, od, rfl⟩, f1, f2⟩ := y
  obtain ⟨d1, p1, p2⟩ := hd.get' (f1 xs (.inl e))
  obtain ⟨d2, p3, p4⟩ := he.get' (f2 ys (.inl e2))
  have g := Gr.new (q := none) (o := .frz ob (.tup [x, y])) s2 hT
  refine ⟨_, g, _, zipD_get ds es i d1 d2 p1 p3, .tup (Tp.new od) (.cons (Dq.mono (s1.trans g.k) _ _ p2) (.cons (Dq.mono (s1.trans g.k) _ _ p4) .nil))⟩
theorem ie_zipS {ds es : List PyData} (h : E q δ ta (.tuple ds)) (h2 : E q δ tb (.tuple es)) : IE q δ (Zm.iZipS K (tCons ta (tCons tb tNil))) (zipD ds es) := fun σ H H1 n sg o R k =>
  h σ H H1 n sg o _ fun d v Hk H2 g o1 e dv => h2 σ Hk H2 n (sg.mono g.k) o1 _ fun d' v' Hk' H3 g' o2 e' dv' => by
    subst e; subst e'
    obtain ⟨a, xs, rfl, p1, p2⟩ := (Dq.mono g'.k _ _ dv).tupOf
    obtain ⟨b, ys, rfl, p3, p4⟩ := dv'.tupOf
    exact ⟨a, b, xs, ys, rfl, .inl (p1.mono g'.a).rd, .inl (p3.mono g'.a).rd, k _ _ Hk' H3 (g.trans g') o2 rfl (walk_zipS p1 p2 p3 p4)⟩
end
end Cr

set_option Elab.async false
set_option linter.all false
set_option maxRecDepth 100000
set_option maxHeartbeats 800000
namespace Cr
open PySem PySem.Spec PyProof.Rows L2
/-! ### xs[-2::-1] of a list -/
theorem pickBack (items : Array Value) : slicePick items (some (-2)) none (some (-1)) = items.toList.dropLast.reverse.toArray := by
  unfold slicePick
  have b : sliceBounds (some (-2)) none (some (-1)) items.size = (((items.size - 1 : Nat) : Int) - 1, -1, -1) := by
    show (max (-1 : Int) (min (-2 + (items.size : Int)) ((items.size : Int) - 1)), (-1 : Int), (-1 : Int)) = _
    congr 1
    omega
  rw [b]
  show ((sliceRange (((items.size - 1 : Nat) : Int) - 1) (-1) (-1)).filterMap (items[·]?)).toArray = _
  rw [PySem.W.krv_sliceRange, PySem.W.krv_range, List.filterMap_reverse]
  have h := PySem.pick_run items 0 (items.size - 1)
  have e : (List.range (items.size - 1)).map (0 + ·) = List.range (items.size - 1) := by
    rw [show ((0 + ·) : Nat → Nat) = id from funext fun k => Nat.zero_add k, List.map_id]
  rw [e, List.drop_zero] at h
  rw [h, List.dropLast_eq_take, Array.length_toList]
def tBackL (K : PySem.W.Frag) (te : TE) : TE := fun σ H Q => te σ H fun x H1 => ∃ a xs, x = .ref a ∧ SqL K H1 a xs ∧ ∀ p, H1 p = none → Q (.ref p) (upd H1 p (.lst xs.dropLast.reverse))
theorem dl_vals : ∀ {xs : List V} {us : List Value}, Vals xs us → Vals xs.dropLast us.dropLast
  | _, _, .nil => .nil
  | [_], _, .cons h .nil => .nil
  | _ :: _ :: _, _, .cons h (.cons h2 t) => by
    rw [List.dropLast_cons₂, List.dropLast_cons₂]
    exact .cons h (dl_vals (.cons h2 t))
theorem pe_backL {X : Cx} {K : PySem.W.Frag} {e : Expr} {te : TE} {k k2 : Nat} {p1 p2 p3 p4 p5 pos : Pos} (hK : X.K = K) (he : PE X e te) : PE X (.Subscript e (.Slice (some (.UnaryOp .USub (.Constant (.int 2) k2 p4) p5)) none (some (.UnaryOp .USub (.Constant (.int 1) k p1) p2)) p3) pos) (tBackL K te) := by
  subst hK
  refine ⟨fun pins s σ H Q I h => ?_⟩
  refine Subscript_ (thn (he.run pins s σ H _ I h) fun v s1 ⟨x, H1, I1, r1, q1⟩ => ?_)
  obtain ⟨a, xs, ex, hx, q⟩ := q1
  subst ex
  cases r1
  have hst : PO X (some (.UnaryOp .USub (.Constant (.int 1) k p1) p2)) (tPart (tUn (rU fun i => .int (-i)) (tC (.int 1)))) := po_some (pe_un un_neg pe_int)
  have hs2 : PO X (some (.UnaryOp .USub (.Constant (.int 2) k2 p4) p5)) (tPart (tUn (rU fun i => .int (-i)) (tC (.int 2)))) := po_some (pe_un un_neg pe_int)
  refine wpAny_Slice (thn (hs2.run pins s1 σ H1 (fun o H2 => o = some (-2) ∧ H2 = H1) I1 ⟨2, rfl, -2, rfl, rfl, rfl⟩) fun vl s2 ⟨l, H2, I2, pl, el, e2⟩ => ?_)
  subst el e2
  refine thn (po_none.run pins s2 σ H2 (fun o H3 => o = none ∧ H3 = H2) I2 ⟨rfl, rfl⟩) fun vu s3 ⟨u, H3, I3, pu, eu, e3⟩ => ?_
  subst eu e3
  refine thn (hst.run pins s3 σ H3 (fun o H4 => o = some (-1) ∧ H4 = H3) I3 ⟨1, rfl, -1, rfl, rfl, rfl⟩) fun vs s4 ⟨o, H4, I4, ps, eo, e4⟩ => ?_
  subst eo e4
  have I5 : Inv X pins σ H4 { s4 with heap := s4.heap.push { cls := .type "slice", data := .fields #[vl, vu, vs] } } := I4.kept (t' := s4.toks) fun b ob q => Heap.get?_push_of_some _ q
  obtain ⟨its, r, ht, hz⟩ := I5.list hx
  have hlen := r.length
  show wpAny (model X.prog X.w) X.A (subscriptTail e (.Slice (some (.UnaryOp .USub (.Constant (.int 2) k2 p4) p5)) none (some (.UnaryOp .USub (.Constant (.int 1) k p1) p2)) p3) (.ref a) (.ref s4.heap.objs.size)) (EP X pins σ Q) X.xe { s4 with heap := s4.heap.push { cls := .type "slice", data := .fields #[vl, vu, vs] } }
  refine tail_any (ops := [.ref a, .ref s4.heap.objs.size]) ht.isList.typeIs (PySem.slot_list_getitem.lookup) ?_ (by with_unfolding_all rfl)
  refine wpAny_getItem_list_slice ht.isList (Heap.IsSliceOf.new _ vl vu vs) pl pu ps (by decide) ?_ (by rw [List.size_toArray]; omega)
  rw [pickBack]
  refine ⟨.ref _, _, I5.laid (t' := s4.toks) (o := .lst xs.dropLast.reverse) (fun b ob q => Heap.get?_push_of_some _ q) (Nat.le_refl _) ?_, rfl, q _ (I5.hok.fresh (Nat.le_refl _))⟩
  exact ⟨by rw [List.length_reverse, List.length_dropLast]; omega, _, 0, (dl_vals r).reverse, Heap.get?_push_size _ rfl⟩
section
variable {K : PySem.W.Frag} {q : Option Addr} {δ : List Sl} {te ta tb : TE}
theorem DqAll.dropLast {H : Hp} : ∀ {vs : List V} {ds : List PyData}, DqAll H vs ds → DqAll H vs.dropLast ds.dropLast
  | _, _, .nil => .nil
  | _, _, .cons h .nil => .nil
  | _, _, .cons h (.cons h2 t) => by
    rw [List.dropLast_cons₂, List.dropLast_cons₂]
    exact .cons h (DqAll.dropLast (.cons h2 t))
theorem e_backL {ds : List PyData} (h : E q δ te (.list ds)) : E q δ (tBackL K te) (.list ds.dropLast.reverse) := fun σ H H1 n sg o Q k =>
  h σ H H1 n sg o _ fun d v Hk H2 g o1 ed dv => by
    subst ed
    obtain ⟨a, xs, rfl, h1, h2⟩ := dv.lstOf
    refine ⟨a, xs, rfl, SqL.of1 (g.a _ _ h1), fun p hp => ?_⟩
    have g1 := Gr.new (q := none) (o := .lst xs.dropLast.reverse) g.a hp
    exact k _ _ _ _ (g.trans g1.none_to) (o1.go g1) rfl (.lst upd_same (DqAll.mono g1.k _ _ h2.dropLast.reverse))
/-! ### list(range(..)), tuple(range(..)) -/
end
end Cr

set_option Elab.async false
set_option linter.all false
set_option maxRecDepth 100000
set_option maxHeartbeats 800000
namespace Cr
open PySem PySem.Spec PyProof.Rows L2
/-! x - r times a polynomial, and back -/
def ml (c r : Int) : List Int → List Int
  | [] => [c]
  | a :: f => (c - r * a) :: ml a r f
def mlin (f : List Int) (r : Int) : List Int := ml 0 r f
def hornL (r : Int) : List Int → List Int
  | [] => []
  | a :: f => evalP (a :: f) r :: hornL r f
theorem evalP_cons (a : Int) (f : List Int) (x : Int) : evalP (a :: f) x = evalP f x * x + a := rfl
/-! products over lists of keys -/
def lagr (l : List Int) : List Int := l.foldl mlin [1]
def others (l : List Int) (k : Int) : List Int := l.filter fun x => decide (x ≠ k)
def lag (l : List Int) (k : Int) : List Int := lagr (others l k)
/-! what is shared out, and the only ledger on keys -/
def dotI (f g : List Int) : Int := (zmul f g).sum
def share (keys nums : List Int) (k : Int) : Int × Int := (dotI (lag keys k) nums, evalP (lag keys k) k)
/-! bounds -/
/-! the loop of divided -/
theorem hornL_len (r : Int) : ∀ f : List Int, (hornL r f).length = f.length
  | [] => rfl
  | a :: f => by show (hornL r f).length + 1 = f.length + 1; rw [hornL_len r f]
theorem tail_back (l : List Int) : (l.reverse.map PyData.int).dropLast.reverse = l.tail.map .int := by
  rw [← List.map_dropLast, ← List.map_reverse, List.dropLast_reverse, List.reverse_reverse]
end Cr
namespace L2
open PySem PySem.Spec PyProof.Rows
end L2
namespace Cr
open PySem PySem.Spec PyProof.Rows L2
section
variable {K : PySem.W.Frag} {q : Option Addr} {n : Nat} {δ : List Sl} {te : TE} {Φ : PyData → Prop} {d1 d2 d3 : PyData}
end
end Cr
namespace Cr
open PySem PySem.Spec PyProof.Rows L2
end Cr
namespace Cr
open PySem PySem.Spec PyProof.Rows L2
theorem CB.take {l : List Int} {B : Nat} (h : CB B l) (n : Nat) : CB B (l.take n) := fun a ha => h a (List.mem_of_mem_take ha)
theorem CB.drop {l : List Int} {B : Nat} (h : CB B l) (n : Nat) : CB B (l.drop n) := fun a ha => h a (List.mem_of_mem_drop ha)
section
variable {K : PySem.W.Frag} {q : Option Addr} {n : Nat} {δ : List Sl} {te : TE} {A0 B0 Hk H1 : Hp} {σ : L2.St} {D : Ends} {tz t : TS}
theorem e_toInt {a : Int} (h : E q δ te (.int a)) : E q δ (tCB rIntQ (tCons te tNil)) (.int a) := (j_int (P := fun x => x = a) h.intP).imp fun d ⟨x, hx, e⟩ => by rw [e, hx]
/-- what follows is shown once, from what a statement leaves -/
theorem q_cut {I : L2.St → Hp → Prop} (h1 : ∀ D' : Ends, (∀ σ' H', I σ' H' → D'.nx σ' H') → t D' σ H1) (h2 : ∀ σ' H', I σ' H' → tz D σ' H') : tSeq t tz D σ H1 := h1 _ h2
end
end Cr

set_option Elab.async false
set_option linter.all false
set_option maxRecDepth 100000
set_option maxHeartbeats 3200000
/-! sorted(set(list of integers)) -/
namespace Cr
open PySem PySem.Spec PyProof.Rows L2
section
variable {P : Program} {w : World} {A : Around} {E : Value → Shared → Prop} {s : Shared}
end
section
variable {K : PySem.W.Frag} {q : Option Addr} {δ : List Sl} {te : TE} {c : Nat} {P : List Int → Prop}
end
end Cr

set_option Elab.async false
set_option linter.all false
set_option maxRecDepth 100000
set_option maxHeartbeats 800000
namespace Cr
open PySem PySem.Spec PyProof.Rows L2
section
variable {K : PySem.W.Frag} {q : Option Addr} {n : Nat} {δ δ' : List Sl} {te ta tb tn ti : TE} {tt : TT} {c c1 c2 : Nat} {g : TG} {P : Bool → Prop}
end
end Cr

set_option Elab.async false
set_option linter.all false
set_option maxRecDepth 100000
set_option maxHeartbeats 800000
namespace Cr
open PySem PySem.Spec PyProof.Rows L2
/-! a ledger is found back on keys that hold its own -/
end Cr

set_option Elab.async false
set_option linter.all false
set_option maxRecDepth 100000
set_option maxHeartbeats 800000
namespace Cr
open PySem PySem.Spec PyProof.Rows L2
/-! enumerate over a list -/
theorem k_enumL {X : Cx} {K : PySem.W.Frag} {e : Expr} {ta : TA} {p pos tpos : Pos} {elts : List Expr} {kk : Nat} (hK : X.K = K) (hg : Gl X "enumerate") (hm : X.mg "enumerate" = none) (ha : PA X [e] ta) (hs : starEach [e] X.env = [(false, eval e X.env)] := by rfl) :
    PI X (.Tuple elts kk tpos) (.Call (.Name "enumerate" p) [e] [] pos) (iEnum K ta) := hK ▸ pi_enum hg hm ha hs
section
variable {K : PySem.W.Frag} {q : Option Addr} {δ : List Sl} {te : TE}
theorem walk_enumL {H : Hp} {a : Addr} {xs : List V} {ds : List PyData} (h : H a = some (.lst xs)) (hd : DqAll H xs ds) : WalkD (Ite K a) (enumD ds) H := fun i Hk H' s1 s2 => by
  have e := SqL.of1 (K := K) (s2 _ _ (s1 _ _ h))
  rw [enumD_len]
  refine ⟨fun hi => ⟨⟨xs, xs[i]'(by rw [hd.length]; exact hi), e, List.getElem?_eq_getElem _⟩, fun v H2 y => ?_⟩, fun hi => ⟨xs, e, by rw [hd.length]; exact hi⟩⟩
  obtain ⟨T, x, rfl, hT, rfl, y2⟩ := y
  obtain ⟨d, g1, g2⟩ := hd.get' (y2 xs e)
  have g := Gr.new (q := none) (o := .tup [.int (i : Nat), x]) s2 hT
  exact ⟨_, g, _, enumD_get g1, .tup (.inr ⟨rfl, upd_same⟩) (.cons (.int _) (.cons (Dq.mono (s1.trans g.k) _ _ g2) .nil))⟩
theorem ie_enumL {ds : List PyData} (h : E q δ te (.list ds)) : IE q δ (iEnum K (tCons te tNil)) (enumD ds) := fun σ H H1 n sg o R k =>
  h σ H H1 n sg o _ fun d v Hk H2 g o1 ed dv => by
    subst ed
    obtain ⟨a, xs, rfl, h1, h2⟩ := dv.lstOf
    exact ⟨a, xs, rfl, SqL.of1 (g.a _ _ h1), k _ _ Hk H2 g o1 rfl (walk_enumL h1 h2)⟩
end
end Cr
namespace Cr
open PySem PySem.Spec PyProof.Rows L2
end Cr

set_option Elab.async false
set_option linter.all false
set_option maxRecDepth 100000
set_option maxHeartbeats 800000
namespace Cr
open PySem PySem.Spec PyProof.Rows L2
section
variable {K : PySem.W.Frag} {q : Option Addr} {n : Nat} {δ δ' : List Sl} {te ta tb tn ti : TE} {tt : TT} {c c1 c2 : Nat} {g : TG} {P : Bool → Prop} {Φ : PyData → Prop}
end
end Cr

set_option Elab.async false
set_option linter.all false
set_option maxRecDepth 100000
set_option maxHeartbeats 800000
namespace Cr
open PySem PySem.Spec PyProof.Rows L2
section
variable {K : PySem.W.Frag} {q : Option Addr} {n : Nat} {δ δ' : List Sl} {te te2 ta tb tn ti : TE} {tt tu : TT} {c c1 c2 : Nat} {g : TG} {P : Bool → Prop} {Φ : PyData → Prop}
theorem eqv_lst_nil (f : List PyData) : PyData.eqv (.list f) (.list []) = f.isEmpty := by
  cases f <;> simp [PyData.eqv, PyData.eqvAll]
theorem e_eqNilL {f : List Int} (ha : E q δ ta (.list (f.map .int))) : E q δ (tOp (rEqD K) ta (tLst tNil)) (.bool (f.map PyData.int).isEmpty) :=
  e_is (e_eqD ha (e_lst (ds := []) ae_nil) (lst_shape f) (lst_shape [])) (by rw [eqv_lst_nil])
theorem Led.tail {x : Int × Int} {l : List (Int × Int)} (h : Led (x :: l)) : Led l := ⟨(List.pairwise_cons.mp h.1).2, fun y hy => h.2 y (List.mem_cons_of_mem _ hy)⟩
theorem Led.asc {l : List (Int × Int)} (h : Led l) : (l.map (·.1)).Pairwise (· < ·) := List.pairwise_map.mpr h.1
theorem gather_key {cs : List (Int × Int)} {x : Int × Int} (h : x ∈ gather cs) : ∃ y ∈ cs, y.1 = x.1 := by
  have z := (gather_mem cs x).mp h
  have q := tot_mem (l := cs) (k := x.1) (by rw [← z.1]; exact z.2)
  exact List.mem_map.mp q
end
end Cr

set_option Elab.async false
set_option linter.all false
set_option maxRecDepth 100000
set_option maxHeartbeats 800000
namespace Cr
open PySem PySem.Spec PyProof.Rows L2
/-! ledgers whose first sums are 0; each ledger has a brief -/
/-! ### a window of keys is moved -/
end Cr

set_option Elab.async false
set_option linter.all false
set_option maxRecDepth 100000
set_option maxHeartbeats 800000
namespace Cr
open PySem PySem.Spec PyProof.Rows L2
section
variable {K : PySem.W.Frag} {q : Option Addr} {n : Nat} {δ δ' : List Sl} {te te2 ta tb tn ti : TE} {tt tu : TT} {c c1 c2 : Nat} {g : TG} {P : Bool → Prop} {Φ : PyData → Prop}
end
end Cr

set_option Elab.async false
set_option linter.all false
set_option maxRecDepth 100000
set_option maxHeartbeats 800000
namespace Cr
open PySem PySem.Spec PyProof.Rows L2
/-! residues -/
def Cg (p a b : Int) : Prop := p ∣ a - b
theorem Cg.refl (p a : Int) : Cg p a a := by unfold Cg; rw [Int.sub_self]; exact Int.dvd_zero p
theorem Cg.symm {p a b : Int} (h : Cg p a b) : Cg p b a := by
  obtain ⟨c, e⟩ := h
  exact ⟨-c, by rw [Int.mul_neg, ← e]; omega⟩
theorem Cg.trans {p a b c : Int} (h : Cg p a b) (h2 : Cg p b c) : Cg p a c := by
  obtain ⟨x, e⟩ := h
  obtain ⟨y, e2⟩ := h2
  exact ⟨x + y, by rw [Int.mul_add, ← e, ← e2]; omega⟩
theorem Cg.add {p a b c d : Int} (h : Cg p a b) (h2 : Cg p c d) : Cg p (a + c) (b + d) := by
  obtain ⟨x, e⟩ := h
  obtain ⟨y, e2⟩ := h2
  exact ⟨x + y, by rw [Int.mul_add, ← e, ← e2]; omega⟩
theorem Cg.mul {p a b c d : Int} (h : Cg p a b) (h2 : Cg p c d) : Cg p (a * c) (b * d) := by
  obtain ⟨x, e⟩ := h
  obtain ⟨y, e2⟩ := h2
  exact ⟨x * c + b * y, by
    have e3 : a = p * x + b := by omega
    have e4 : c = p * y + d := by omega
    subst e3; subst e4
    grind⟩
theorem Cg.pow {p a b : Int} (h : Cg p a b) : ∀ j : Nat, Cg p (a ^ j) (b ^ j)
  | 0 => by
    rw [Int.pow_zero, Int.pow_zero]
    exact Cg.refl _ _
  | j + 1 => by
    rw [Int.pow_succ, Int.pow_succ]
    exact (Cg.pow h j).mul h
theorem cg_mod {p : Int} (hp : 0 < p) (a : Int) : Cg p (a.fmod p) a := by
  rw [Int.fmod_eq_emod_of_nonneg _ (by omega)]
  have e := Int.mul_ediv_add_emod a p
  exact ⟨-(a / p), by rw [Int.mul_neg]; omega⟩
theorem Cg.mod {p a b : Int} (hp : 0 < p) (h : Cg p a b) : a.fmod p = b.fmod p := by
  rw [Int.fmod_eq_emod_of_nonneg _ (by omega), Int.fmod_eq_emod_of_nonneg _ (by omega)]
  exact Int.emod_eq_emod_iff_emod_sub_eq_zero.mpr (Int.emod_eq_zero_of_dvd h)
theorem mod_range {p : Int} (hp : 0 < p) (a : Int) : 0 ≤ a.fmod p ∧ a.fmod p < p := ⟨Int.fmod_nonneg_of_pos a hp, Int.fmod_lt_of_pos a hp⟩
/-- what is left of a row of changes -/
def remL (p : Int) (g : List (Int × Int)) : List (Int × Int) := (g.filter fun x => !(x.2.fmod p == 0)).map fun x => (x.1, x.2.fmod p)
def rem (p : Int) (l : List (Int × Int)) : List (Int × Int) := remL p (gather (l.map fun x => (x.1.fmod p, x.2)))
theorem remL_mem {p : Int} {g : List (Int × Int)} {x : Int × Int} : x ∈ remL p g ↔ ∃ y ∈ g, y.1 = x.1 ∧ x.2 = y.2.fmod p ∧ x.2 ≠ 0 := by
  unfold remL
  rw [List.mem_map]
  constructor
  · rintro ⟨y, hy, rfl⟩
    have z := List.mem_filter.mp hy
    exact ⟨y, z.1, rfl, rfl, by simpa using z.2⟩
  · rintro ⟨y, hy, h1, h2, h3⟩
    refine ⟨y, List.mem_filter.mpr ⟨hy, by rw [← h2]; simpa using h3⟩, ?_⟩
    rw [h1, ← h2]
theorem remL_len (p : Int) (g : List (Int × Int)) : (remL p g).length ≤ g.length := by
  unfold remL
  rw [List.length_map]
  exact List.length_filter_le ..
theorem rem_len (p : Int) (l : List (Int × Int)) : (rem p l).length ≤ l.length := by
  refine Nat.le_trans (remL_len ..) (Nat.le_trans (gather_len _) ?_)
  rw [List.length_map]
  exact Nat.le_refl _
theorem rem_range {p : Int} (hp : 0 < p) {l : List (Int × Int)} {x : Int × Int} (h : x ∈ rem p l) : (0 ≤ x.1 ∧ x.1 < p) ∧ 0 < x.2 ∧ x.2 < p := by
  obtain ⟨y, hy, h1, h2, h3⟩ := remL_mem.mp h
  obtain ⟨z, hz, e⟩ := gather_key hy
  obtain ⟨u, hu, rfl⟩ := List.mem_map.mp hz
  have e' : u.1.fmod p = y.1 := e
  have a := mod_range hp u.1
  have b := mod_range hp y.2
  omega
theorem psum_remL {p : Int} (hp : 0 < p) (j : Nat) : ∀ g : List (Int × Int), Cg p (psum (remL p g) j) (psum g j)
  | [] => Cg.refl _ _
  | x :: g => by
    have ih := psum_remL hp j g
    unfold remL at ih ⊢
    rw [psum_cons]
    by_cases h : (!(x.2.fmod p == 0)) = true
    · rw [List.filter_cons, if_pos h, List.map_cons, psum_cons]
      exact ((cg_mod hp x.2).mul (Cg.refl _ _)).add ih
    · rw [List.filter_cons, if_neg h]
      have e : x.2.fmod p = 0 := by simpa using h
      have c := (cg_mod hp x.2).mul (Cg.refl p (x.1 ^ j))
      rw [e, Int.zero_mul] at c
      have d := c.add ih
      rwa [Int.zero_add] at d
theorem psum_modk {p : Int} (hp : 0 < p) (j : Nat) : ∀ l : List (Int × Int), Cg p (psum (l.map fun x => (x.1.fmod p, x.2)) j) (psum l j)
  | [] => Cg.refl _ _
  | x :: l => by
    rw [List.map_cons, psum_cons, psum_cons]
    exact ((Cg.refl p x.2).mul ((cg_mod hp x.1).pow j)).add (psum_modk hp j l)
theorem psum_rem {p : Int} (hp : 0 < p) (l : List (Int × Int)) (j : Nat) : Cg p (psum (rem p l) j) (psum l j) := by
  refine (psum_remL hp j _).trans ?_
  rw [psum_gather]
  exact psum_modk hp j l
/-- the rests of the sums -/
def psm (p : Int) (l : List (Int × Int)) (n : Nat) : List Int := (List.range n).map fun j => (psum l j).fmod p
theorem psm_len (p : Int) (l : List (Int × Int)) (n : Nat) : (psm p l n).length = n := by simp [psm]
theorem psm_succ (p : Int) (l : List (Int × Int)) (n : Nat) : psm p l (n + 1) = psm p l n ++ [(psum l n).fmod p] := by
  unfold psm
  rw [List.range_succ, List.map_append]
  rfl
/-- amounts times powers, remainder by remainder, from any first one on -/
def tmr (p : Int) (f : Int × Int → Int) (x : Int × Int) : Nat → Int
  | 0 => f x
  | j + 1 => (tmr p f x j * x.1).fmod p
theorem tmr_cg {p : Int} (hp : 0 < p) {f : Int × Int → Int} {x : Int × Int} (hf : Cg p (f x) x.2) : ∀ j : Nat, Cg p (tmr p f x j) (x.2 * x.1 ^ j)
  | 0 => by
    show Cg p (f x) (x.2 * x.1 ^ 0)
    rw [Int.pow_zero, Int.mul_one]
    exact hf
  | j + 1 => by
    refine (cg_mod hp _).trans ?_
    rw [Int.pow_succ, ← Int.mul_assoc]
    exact (tmr_cg hp hf j).mul (Cg.refl _ _)
theorem tmr_range {p : Int} (hp : 0 < p) {f : Int × Int → Int} {x : Int × Int} (hf : 0 ≤ f x ∧ f x < p) : ∀ j : Nat, 0 ≤ tmr p f x j ∧ tmr p f x j < p
  | 0 => hf
  | j + 1 => mod_range hp _
theorem tmr_sum {p : Int} (hp : 0 < p) {f : Int × Int → Int} (j : Nat) : ∀ {l : List (Int × Int)}, (∀ x ∈ l, Cg p (f x) x.2) → (l.map fun x => tmr p f x j).sum.fmod p = (psum l j).fmod p := by
  intro l h
  refine Cg.mod hp ?_
  induction l with
  | nil => exact Cg.refl _ _
  | cons x l ih =>
    rw [List.map_cons, List.sum_cons, psum_cons]
    exact (tmr_cg hp (h x (by simp)) j).add (ih fun y hy => h y (List.mem_cons_of_mem _ hy))
/-! primes -/
def primed (p : Nat) : Prop := 2 ≤ p ∧ p < 1000 ∧ ∀ d, 2 ≤ d → d * d ≤ p → p % d ≠ 0
def primedB (p : Nat) : Bool := decide (2 ≤ p) && decide (p < 529) && (List.range 23).all fun d => decide (d < 2) || decide (p < d * d) || decide (p % d ≠ 0)
theorem primed_of {p : Nat} (h : primedB p = true) : primed p := by
  unfold primedB at h
  rw [Bool.and_eq_true, Bool.and_eq_true] at h
  obtain ⟨⟨h1, h2⟩, h3⟩ := h
  have h1 := of_decide_eq_true h1
  have h2 := of_decide_eq_true h2
  refine ⟨h1, by omega, fun d hd hdd => ?_⟩
  have hlt : d < 23 := by
    by_cases z : d < 23
    · exact z
    · have := Nat.mul_le_mul (show 23 ≤ d by omega) (show 23 ≤ d by omega)
      omega
  have z := List.all_eq_true.mp h3 d (List.mem_range.mpr hlt)
  rw [Bool.or_eq_true, Bool.or_eq_true] at z
  rcases z with (z | z) | z
  · have := of_decide_eq_true z
    omega
  · have := of_decide_eq_true z
    omega
  · exact of_decide_eq_true z
/-- found, number by number from 2 on -/
def prL : Nat → List Nat
  | 0 => []
  | i + 1 => if (prL i).all (fun q => !(decide (q * q ≤ i + 2) && (i + 2) % q == 0)) then prL i ++ [i + 2] else prL i
theorem filter_none {α β : Type} (f : α → Bool) (g : α → β) (h : β → PyData) : ∀ l : List α, (((l.filter f).map g).map h).isEmpty = l.all fun q => !(f q)
  | [] => rfl
  | x :: l => by
    have ih := filter_none f g h l
    rw [List.filter_cons, List.all_cons]
    cases e : f x with
    | true => simp
    | false =>
      rw [if_neg (by simp), ih]
      rfl
theorem prL_lt : ∀ (i : Nat), ∀ q ∈ prL i, 2 ≤ q ∧ q < i + 2
  | 0, q, h => by cases h
  | i + 1, q, h => by
    unfold prL at h
    split at h
    · rcases List.mem_append.mp h with z | z
      · have := prL_lt i q z
        omega
      · rw [List.mem_singleton.mp z]
        omega
    · have := prL_lt i q h
      omega
theorem zip_two (l : List (Int × Int)) (f g : Int × Int → Int) : zipD ((l.map f).map .int) ((l.map g).map .int) = l.map fun x => pr (f x, g x) := by
  induction l with
  | nil => rfl
  | cons x l ih => exact congrArg (pr (f x, g x) :: ·) ih
theorem prL_len : ∀ i : Nat, (prL i).length ≤ i
  | 0 => Nat.le_refl _
  | i + 1 => by
    have := prL_len i
    unfold prL
    split
    · rw [List.length_append]
      simp
      omega
    · omega
theorem prL_500 : (prL 498).length = 95 ∧ ∀ q ∈ prL 498, primedB q = true ∧ q < 500 := by decide +kernel
/-! rules -/
section
variable {K : PySem.W.Frag} {q : Option Addr} {n : Nat} {δ δ' : List Sl} {te te2 ta tb : TE} {tt : TT} {c c1 c2 : Nat} {Φ : PyData → Prop} {d d2 : PyData} {A0 B0 Hk H1 : Hp} {σ : L2.St} {D : Ends} {tz t1 : TS} {p : Addr} {ds es : List PyData}
/-- if, the test reads a list that still changes -/
theorem s_ifC {i : Nat} {b : Bool} (h : TB q (δ.set i (.dat (.list ds))) tt b) (s : At q n δ A0 B0 σ Hk H1) (cl : Cell q B0 Hk H1 p ds) (hi : δ[i]? = some (.adr p))
    (k1 : b = true → ∀ Hk' H2, Gr q Hk H1 Hk' H2 → At q n δ A0 B0 σ Hk' H2 → Cell q B0 Hk' H2 p ds → t1 D σ H2)
    (k2 : b = false → ∀ Hk' H2, Gr q Hk H1 Hk' H2 → At q n δ A0 B0 σ Hk' H2 → Cell q B0 Hk' H2 p ds → D.nx σ H2) : tIfS tt t1 tNext D σ H1 :=
  testC (c := 0) h s cl hi fun b' Hk' H2 e g a cl2 => by
    subst e
    cases b' with
    | true => exact iteT (k1 rfl Hk' H2 g a cl2)
    | false => exact iteF (k2 rfl Hk' H2 g a cl2)
end
end Cr
namespace Cr
open PySem PySem.Spec PyProof.Rows L2
section
variable {K : PySem.W.Frag} {q : Option Addr} {n : Nat} {δ δ' : List Sl} {te te2 ta tb : TE} {ds es : List PyData}
end
end Cr

set_option Elab.async false
set_option linter.all false
set_option maxRecDepth 100000
set_option maxHeartbeats 4000000
namespace L2
open PySem PySem.Spec PyProof.Rows
/-! tuple * int, for 0 and 1, too -/
theorem tuple_mul0 (l : Addr) (items : Array Value) (n : Nat) (dd : Option Addr) (sl : Array (Option Value)) (u : Tok) (hne : items.isEmpty = false) :
    Meets (Builtin.«tuple.__mul__» ⟨[.ref l, .int 0 u], []⟩) (fun _ R s => s.heap.get? l = some { cls := .type "tuple", dict := dd, data := .seq items n, slots := sl } ∧
      R (.ok (.ret (Value.ref s.heap.objs.size))) { s with heap := s.heap.push { cls := Value.type "tuple", data := Data.seq #[] }, toks := s.toks }) :=
  .of_wp fun prog w A R s h => by
    obtain ⟨hp, g, d, tk, os⟩ := s
    obtain ⟨hl, h⟩ := h
    have f1 := AutoSeq1.idx_int
    have c0 : (decide ((0 : Int) < -(2 ^ 63)) || decide ((0 : Int) ≥ 2 ^ 63)) = false := by decide
    have c1 : (items.isEmpty || (0 : Int) == 1) = false := by rw [hne]; rfl
    have c2 : (decide ((0 : Int) ≤ 0) || items.isEmpty) = true := by rw [hne]; rfl
    wp_walk using wpAny_loadPart' hl
    repeat (first
      | (refine wpAny_ite_false (decide_eq_false (by rw [c0]; exact Bool.false_ne_true)) ?_; wp_walk using wpAny_loadPart' hl)
      | (refine wpAny_ite_false (decide_eq_false (by rw [c1]; exact Bool.false_ne_true)) ?_; wp_walk using wpAny_loadPart' hl)
      | (refine wpAny_ite_true (decide_eq_true c2) ?_; wp_walk using wpAny_loadPart' hl))
    exact ⟨_, rfl, h⟩
theorem tuple_mul1 (l : Addr) (items : Array Value) (n : Nat) (dd : Option Addr) (sl : Array (Option Value)) (u : Tok) :
    Meets (Builtin.«tuple.__mul__» ⟨[.ref l, .int 1 u], []⟩) (fun _ R s => s.heap.get? l = some { cls := .type "tuple", dict := dd, data := .seq items n, slots := sl } ∧
      R (.ok (.ret (Value.ref l))) s) :=
  .of_wp fun prog w A R s h => by
    obtain ⟨hp, g, d, tk, os⟩ := s
    obtain ⟨hl, h⟩ := h
    have f1 := AutoSeq1.idx_int
    have c0 : (decide ((1 : Int) < -(2 ^ 63)) || decide ((1 : Int) ≥ 2 ^ 63)) = false := by decide
    have c1 : (items.isEmpty || (1 : Int) == 1) = true := by rw [Bool.or_eq_true]; exact .inr rfl
    wp_walk using wpAny_loadPart' hl
    repeat (first
      | (refine wpAny_ite_false (decide_eq_false (by rw [c0]; exact Bool.false_ne_true)) ?_; wp_walk using wpAny_loadPart' hl)
      | (refine wpAny_ite_true (decide_eq_true c1) ?_; wp_walk using wpAny_loadPart' hl))
    exact ⟨_, rfl, h⟩
end L2
namespace L2
open PySem PySem.Spec PyProof.Rows
def rRepTA (K : PySem.W.Frag) : R2 := fun x y H Q => ∃ l k xs, x = .ref l ∧ y = .int k ∧ SqT K H l xs ∧ xs ≠ [] ∧ 0 ≤ k ∧ k ≤ 1000 ∧ xs.length ≤ 1000 ∧ (k = 1 → Q (.ref l) H) ∧ (k ≠ 1 → ∀ p, H p = none → Q (.ref p) (upd H p (.tup (List.replicate k.toNat xs).flatten)))
section
variable {X : Cx}
theorem op_repTA : OpR X (binaryOp .Mult) (rRepTA X.K) := by
  intro pins s σ H x y v u Q I rx ry h
  obtain ⟨l, k, xs, rfl, rfl, hT, hne, h1, h2, hz, q1, q⟩ := h
  by_cases hk2 : 2 ≤ k
  · exact op_repT pins s σ H _ _ v u Q I rx ry ⟨l, k, xs, rfl, rfl, hT, hne, hk2, h2, hz, q (by omega)⟩
  cases rx
  obtain ⟨t, rfl⟩ := ry
  obtain ⟨its, r, ⟨⟨cls, dd, data, sl⟩, ho, hc, n, hd⟩, hs⟩ := I.tuple hT
  simp only at hc hd
  subst hc hd
  have hn : its ≠ [] := fun e => hne (by
    have := r.length
    rw [e] at this
    exact List.eq_nil_of_length_eq_zero this)
  have hi : its.toArray.isEmpty = false := by
    cases its with
    | nil => exact absurd rfl hn
    | cons a b => rfl
  by_cases hk1 : k = 1
  · subst hk1
    exact wpAny_binaryOp_repeat_ref (T := "tuple") (U := "int") (by decide) ⟨_, ho, rfl⟩ (fun s' => typeIs_int s' 1 t) noFill_tuple_mul F.fills_int_mul F.slot_int_rmul repeat_tuple F.slot_int_index.lookup
      (call_meets F.slot_int_rmul (typeIs_int s 1 t) F.entry_int_rmul (F.args_int_rmul_2 _ _) (int_rmul_tuple 1 t l its.toArray n dd sl)
        ⟨ho, rfl, ⟨_, ho, rfl⟩, call_meets F.slot_tuple_mul ⟨_, ho, rfl⟩ F.entry_tuple_mul (F.args_tuple_mul_2 _ _) (tuple_mul1 l its.toArray n dd sl t) ⟨ho, ⟨.ref l, H, I, rfl, q1 rfl⟩⟩⟩)
  · have hk0 : k = 0 := by omega
    subst hk0
    refine wpAny_binaryOp_repeat_ref (T := "tuple") (U := "int") (by decide) ⟨_, ho, rfl⟩ (fun s' => typeIs_int s' 0 t) noFill_tuple_mul F.fills_int_mul F.slot_int_rmul repeat_tuple F.slot_int_index.lookup
      (call_meets F.slot_int_rmul (typeIs_int s 0 t) F.entry_int_rmul (F.args_int_rmul_2 _ _) (int_rmul_tuple 0 t l its.toArray n dd sl)
        ⟨ho, rfl, ⟨_, ho, rfl⟩, call_meets F.slot_tuple_mul ⟨_, ho, rfl⟩ F.entry_tuple_mul (F.args_tuple_mul_2 _ _) (tuple_mul0 l its.toArray n dd sl t hi) ⟨ho, ?_⟩⟩)
    refine ⟨.ref s.heap.objs.size, _, I.laid (t' := s.toks) (o := .tup (List.replicate (0 : Int).toNat xs).flatten) (fun b ob q => Heap.get?_push_of_some _ q) (Nat.le_refl _) ?_, rfl, q (by decide) _ (I.hok.fresh (Nat.le_refl _))⟩
    exact ⟨by simp, [], .nil, IsTup.new _ _⟩
end
end L2

set_option Elab.async false
set_option linter.all false
set_option maxRecDepth 100000
set_option maxHeartbeats 800000
namespace Cr
open PySem PySem.Spec PyProof.Rows L2
section
variable {K : PySem.W.Frag} {q : Option Addr} {n : Nat} {δ δ' : List Sl} {te te2 ta tb tk tv : TE} {tt : TT} {c c1 c2 : Nat} {P1 P2 : Int → Prop} {d d2 : PyData} {A0 B0 Hk H1 : Hp} {σ : L2.St} {D : Ends} {r : Addr} {ds es : List PyData}
end
/-- a dict that is set at a key -/
theorem DictOf.put {p m : List (Int × Int)} (h : DictOf p m) (k v : Int) : DictOf (p ++ [(k, v - tot p k)]) (putI m k v) := by
  have z := h.add (k, v - tot p k)
  have gv : (getI m k).getD 0 = tot p k := by
    by_cases hx : k ∈ p.map (·.1)
    · rw [h.get _ hx]; rfl
    · rw [getI_none.mpr (fun z => hx ((h.mem _).mp z)), tot_no hx]; rfl
  unfold addI at z
  rw [show (getI m (k, v - tot p k).1).getD 0 + (k, v - tot p k).2 = v by show (getI m k).getD 0 + (v - tot p k) = v; rw [gv]; omega] at z
  exact z
/-! ### all sums modulo a prime -/
/-- what stands at the keys 0 .. P - 1 -/
def allV (P : Nat) (f : List Int) (k : Int) : Int := f.getD 0 0 - evalP f.reverse k
def allT (P : Nat) (f : List Int) : List (Int × Int) := (List.range P).map fun k : Nat => ((k : Int), allV P f (k : Int))
end Cr
namespace Cr
open PySem PySem.Spec PyProof.Rows L2
section
variable {q : Option Addr} {n : Nat} {δ : List Sl} {A0 B0 Hk H : Hp} {σ : L2.St} {r : Addr}
end
end Cr

set_option Elab.async false
set_option linter.all false
set_option maxRecDepth 100000
set_option maxHeartbeats 800000
namespace Cr
open PySem PySem.Spec PyProof.Rows L2
/-! ### defs that tell a new list -/
section
variable {P : Program} {w : World} {K : PySem.W.Frag} {mg : Str → Option Value} {base : Heap}
end
section
variable {K : PySem.W.Frag} {q : Option Addr} {n : Nat} {δ δ' : List Sl} {te te2 ta tb : TE} {tt : TT} {c c1 c2 : Nat} {Φ : PyData → Prop} {d d2 : PyData} {A0 B0 Hk H1 : Hp} {σ : L2.St} {D : Ends} {tz : TS} {p : Addr} {ds es : List PyData} {g : TG} {wi : TI}
theorem JN.e (h : JN q δ te es) : E q δ te (.list es) := fun σ H H1 n sg o Q k =>
  h σ H H1 n sg o _ fun D xs Hk H2 g o1 h1 h2 h3 hd => by
    have nq : q ≠ some D := fun e => by
      have z := o.j D e
      exact z.ne h1
    have gf := g.freeze h1 h2 h3
    refine k _ _ _ _ gf ⟨gf.a, fun p e => ?_, fun p e => o1.j p e⟩ rfl (.lst upd_same (DqAll.mono (same_upd h2) _ _ hd))
    rw [upd_ne (fun z => nq (by rw [← z]; exact e))]
    exact o1.kf p e
theorem JN.is {es2 : List PyData} (h : JN q δ te es) (e : es = es2) : JN q δ te es2 := by rw [← e]; exact h
end
end Cr
namespace Cr
open PySem PySem.Spec PyProof.Rows L2
section
variable {q : Option Addr} {δ : List Sl} {es : List PyData}
end
end Cr
namespace Cr
open PySem PySem.Spec PyProof.Rows L2
section
variable {K : PySem.W.Frag} {q : Option Addr} {n : Nat} {δ δ' : List Sl} {te te2 te3 ta tb : TE} {tt : TT} {t1 : TS} {c c1 c2 : Nat} {Φ Φ1 Φ2 : PyData → Prop} {d d2 d3 : PyData} {A0 B0 Hk H1 : Hp} {σ : L2.St} {D : Ends} {tz : TS} {p : Addr} {ds es es2 : List PyData}
end
end Cr

set_option Elab.async false
set_option linter.all false
set_option maxRecDepth 100000
set_option maxHeartbeats 800000
namespace Cr
open PySem PySem.Spec PyProof.Rows L2
/-! ### sums along a log -/
section
variable {K : PySem.W.Frag} {q : Option Addr} {n : Nat} {δ δ' : List Sl} {te te2 te3 ta tb : TE} {tt : TT} {t1 : TS} {c c1 c2 : Nat} {Φ Φ1 Φ2 : PyData → Prop} {d d2 d3 : PyData} {A0 B0 Hk H1 : Hp} {σ : L2.St} {D : Ends} {tz : TS} {p : Addr} {ds es es2 : List PyData}
/-- a + b of lists -/
theorem j_catLL {P1 P2 P : List PyData → Prop} (ha : J q δ ta c1 (fun d => ∃ ds, P1 ds ∧ d = .list ds)) (hb : J q δ tb c2 (fun d => ∃ ds, P2 ds ∧ d = .list ds)) (hp : ∀ f g, P1 f → P2 g → f.length + g.length ≤ 1000000 ∧ P (f ++ g)) : J q δ (tOp (rAddU K) ta tb) (c2 + c1) (fun d => ∃ ds, P ds ∧ d = .list ds) :=
  j_op ha hb fun a b ⟨f, p1, ea⟩ ⟨g, p2, eb⟩ => by
    subst ea; subst eb
    have z := hp f g p1 p2
    exact (rj_cat (ds := f) (es := g) (Φ := fun d => ∃ ds, P ds ∧ d = .list ds) z.1 ⟨f ++ g, z.2, rfl⟩).to fun _ _ _ _ h => .inr (.inl h)
end
end Cr

set_option Elab.async false
set_option linter.all false
set_option maxRecDepth 100000
set_option maxHeartbeats 800000
namespace Cr
open PySem PySem.Spec PyProof.Rows L2
/-! ### pairs of unlike ledgers with the same first sums -/
theorem VS.append {H : Hp} : ∀ {ss : List Sl} {vs ws : List V} {es : List Sl}, VS H vs ss → VS H ws es → VS H (vs ++ ws) (ss ++ es)
  | [], vs, ws, es, h1, h2 => by rw [VS.inv0 h1]; exact h2
  | s :: r, vs, ws, es, h1, h2 => by
    obtain ⟨v, t, rfl, q, hr⟩ := VS.inv1 h1
    exact VS.cons q (VS.append hr h2)
section
variable {K : PySem.W.Frag} {q : Option Addr} {δ δ' : List Sl} {te te2 ta tb : TE} {c c1 c2 N : Nat} {Φ : PyData → Prop} {d : PyData} {P : Int → Prop}
end
end Cr

set_option Elab.async false
set_option linter.all false
set_option maxRecDepth 100000
set_option maxHeartbeats 800000
namespace Cr
open PySem PySem.Spec PyProof.Rows L2
/-! ### a dict of the amounts that are not 0 -/
def dropI (m : List (Int × Int)) (k : Int) : List (Int × Int) := m.filter fun x => decide (x.1 ≠ k)
theorem dropI_get (m : List (Int × Int)) (k j : Int) : getI (dropI m k) j = if j = k then none else getI m j := by
  by_cases e : j = k
  · rw [if_pos e, getI_none]
    intro z
    obtain ⟨x, hx, ex⟩ := List.mem_map.mp z
    have := of_decide_eq_true (List.mem_filter.mp hx).2
    exact this (by rw [← e]; exact ex)
  · rw [if_neg e]
    unfold getI dropI
    rw [List.find?_filter]
    congr 1
    congr 1
    funext x
    by_cases h : x.1 = j
    · rw [decide_eq_true h]
      have h2 : x.1 ≠ k := by rw [h]; exact e
      simp [h2]
    · rw [decide_eq_false h]
      simp
structure NzOf (p m : List (Int × Int)) : Prop where
  nd : (m.map (·.1)).Nodup
  get : ∀ k, getI m k = if tot p k = 0 then none else some (tot p k)
  len : m.length ≤ p.length
theorem NzOf.nil : NzOf [] [] := ⟨by simp, fun k => rfl, by simp⟩
theorem NzOf.getD {p m : List (Int × Int)} (h : NzOf p m) (k : Int) : (getI m k).getD 0 = tot p k := by
  rw [h.get]
  split
  · rename_i e; rw [e]; rfl
  · rfl
theorem tot_snoc (p : List (Int × Int)) (k v j : Int) : tot (p ++ [(k, v)]) j = tot p j + if k = j then v else 0 := by
  rw [tot_append]
  show tot p j + ((if k = j then v else 0) + 0) = _
  rw [Int.add_zero]
theorem NzOf.drop {p m : List (Int × Int)} (h : NzOf p m) {k v : Int} (e : tot p k + v = 0) : NzOf (p ++ [(k, v)]) (dropI m k) := by
  refine ⟨?_, fun j => ?_, ?_⟩
  · unfold dropI
    exact h.nd.sublist (List.Sublist.map _ List.filter_sublist)
  · rw [dropI_get, tot_snoc, h.get]
    by_cases hj : j = k
    · subst hj
      rw [if_pos rfl, if_pos rfl, if_pos e]
    · have e0 : (if k = j then v else 0) = 0 := if_neg fun z => hj z.symm
      rw [if_neg hj, e0, Int.add_zero]
  · unfold dropI
    have := List.length_filter_le (fun x : Int × Int => decide (x.1 ≠ k)) m
    have := h.len
    rw [List.length_append]
    omega
theorem NzOf.set {p m : List (Int × Int)} (h : NzOf p m) {k v : Int} (e : tot p k + v ≠ 0) : NzOf (p ++ [(k, v)]) (putI m k (tot p k + v)) := by
  refine ⟨?_, fun j => ?_, ?_⟩
  · rw [putI_keys]
    by_cases hk : k ∈ m.map (·.1)
    · rw [if_pos hk]; exact h.nd
    · rw [if_neg hk]
      refine List.nodup_append.mpr ⟨h.nd, by simp, fun a ha b hb e2 => ?_⟩
      rw [List.mem_singleton.mp hb] at e2
      exact hk (by rw [← e2]; exact ha)
  · rw [putI_get, tot_snoc, h.get]
    by_cases hj : j = k
    · subst hj
      rw [if_pos rfl, if_pos rfl, if_neg e]
    · have e0 : (if k = j then v else 0) = 0 := if_neg fun z => hj z.symm
      rw [if_neg hj, e0, Int.add_zero]
  · have z := congrArg List.length (putI_keys m k (tot p k + v))
    rw [List.length_map] at z
    have := h.len
    rw [z, List.length_append]
    split <;> simp <;> omega
theorem NzOf.empty {p m : List (Int × Int)} (h : NzOf p m) : m = [] ↔ gather p = [] := by
  constructor
  · intro e
    subst e
    rw [gather_ext (ds := []) fun k => ?_]
    · rfl
    · have z := h.get k
      by_cases hk : tot p k = 0
      · exact hk
      · rw [if_neg hk] at z; cases z
  · intro e
    have hz : ∀ k, tot p k = 0 := fun k => by rw [← tot_gather, e]; rfl
    cases m with
    | nil => rfl
    | cons x m =>
      have z := h.get x.1
      rw [if_pos (hz _)] at z
      exact absurd (List.mem_map.mpr ⟨x, List.mem_cons_self, rfl⟩) (getI_none.mp z)
section
variable {K : PySem.W.Frag} {q : Option Addr} {n : Nat} {δ δ' : List Sl} {te te2 ta tb : TE} {c c1 c2 : Nat} {d : PyData} {A0 B0 Hk H1 : Hp} {σ : L2.St} {D : Ends} {tz : TS} {r : Addr}
end
/-! ### the first place of all -/
/-! ### what two logs begin with -/
section
variable {K : PySem.W.Frag} {q : Option Addr} {δ : List Sl} {te : TE} {ds : List PyData}
end
end Cr

set_option Elab.async false
set_option linter.all false
set_option maxRecDepth 100000
set_option maxHeartbeats 800000
namespace Cr
open PySem PySem.Spec PyProof.Rows L2
section
variable {K : PySem.W.Frag} {q : Option Addr} {n : Nat} {δ : List Sl} {A0 B0 Hk H1 : Hp} {σ : L2.St} {D : Ends} {tz t1 : TS} {r : Addr}
end
section
variable {K : PySem.W.Frag} {q : Option Addr} {δ : List Sl} {te : TE} {c : Nat} {tt tu : TT}
end
theorem k_revL {X : Cx} {K : PySem.W.Frag} {e : Expr} {te : TE} {k : Nat} {p1 p2 p3 pos : Pos} (hK : X.K = K) (he : PE X e te) : PE X (.Subscript e (.Slice none none (some (.UnaryOp .USub (.Constant (.int 1) k p1) p2)) p3) pos) (tRevL K te) := hK ▸ pe_revL he
section
variable {K : PySem.W.Frag} {q : Option Addr} {δ : List Sl} {te : TE} {c c1 c2 : Nat} {tt tu : TT}
theorem e_revL {ds : List PyData} (h : E q δ te (.list ds)) : E q δ (tRevL K te) (.list ds.reverse) := fun σ H H1 n sg o Q k =>
  h σ H H1 n sg o _ fun d v Hk H2 g o1 ed dv => by
    subst ed
    obtain ⟨a, xs, rfl, h1, h2⟩ := dv.lstOf
    refine ⟨a, xs, rfl, SqL.of1 (g.a _ _ h1), fun p hp => ?_⟩
    have g2 := Gr.new (q := none) (o := .lst xs.reverse) g.a hp
    exact k _ _ _ _ (g.trans g2.none_to) (o1.go g2) rfl (.lst upd_same (DqAll.mono g2.k _ _ h2.reverse))
end
end Cr

set_option Elab.async false
set_option linter.all false
set_option maxRecDepth 100000
set_option maxHeartbeats 800000
/-! dict(t) of a tuple of pairs -/
namespace L2
open PySem PySem.Spec PyProof.Rows
section
variable {X : Cx}
end
end L2
namespace Cr
open PySem PySem.Spec PyProof.Rows L2
section
variable {K : PySem.W.Frag} {q : Option Addr} {n : Nat} {δ δ' : List Sl} {te te2 ta tb tk tv : TE} {D : Ends} {A0 B0 Hk H1 : Hp} {σ : L2.St}
end
end Cr

set_option Elab.async false
set_option linter.all false
set_option maxRecDepth 100000
set_option maxHeartbeats 800000
namespace Cr
open PySem PySem.Spec PyProof.Rows L2
/-! ledgers cleared: the quotient by ((0, -1), (1, 1)), over and over -/
/-! bounds -/
end Cr

set_option Elab.async false
set_option linter.all false
set_option maxRecDepth 100000
set_option maxHeartbeats 800000
namespace Cr
open PySem PySem.Spec PyProof.Rows L2
/-! products of blind ledgers; what is cleared of a product -/
/-! turning ledgers -/
/-! where three ledgers part -/
open Classical in
noncomputable def blV (l : List (Int × Int)) : Int := if h : ∃ j, IsBl l j then (Classical.choose h : Nat) else 99
theorem blV_is {l : List (Int × Int)} {j : Nat} (h : IsBl l j) : blV l = (j : Int) := by
  have e : ∃ j, IsBl l j := ⟨j, h⟩
  unfold blV
  rw [dif_pos e, (Classical.choose_spec e).uniq h]
theorem blV_congr {a b : List (Int × Int)} (h : ∀ j, psum a j = 0 ↔ psum b j = 0) : blV a = blV b := by
  by_cases e : ∃ j, IsBl a j
  · obtain ⟨j, hj⟩ := e
    rw [blV_is hj, blV_is (l := b) (j := j) ⟨fun z => hj.1 ((h j).mpr z), fun i hi => (h i).mp (hj.2 i hi)⟩]
  · have e2 : ¬ ∃ j, IsBl b j := fun ⟨j, hj⟩ => e ⟨j, fun z => hj.1 ((h j).mp z), fun i hi => (h i).mpr (hj.2 i hi)⟩
    unfold blV
    rw [dif_neg e, dif_neg e2]
theorem blV_cases {l : List (Int × Int)} (h : Led l) : (l = [] ∧ blD l = .none ∧ blV l = 99) ∨ ∃ j, j < l.length ∧ IsBl l j ∧ blD l = .int (j : Int) ∧ blV l = (j : Int) := by
  by_cases hne : l = []
  · refine .inl ⟨hne, by rw [hne, blD_nil], ?_⟩
    unfold blV
    rw [dif_neg]
    rintro ⟨j, hj⟩
    rw [hne] at hj
    exact hj.1 rfl
  · obtain ⟨j, hj, hb⟩ := led_bl h hne
    have := chg_lt hne
    exact .inr ⟨j, by omega, hb, blD_is hb, blV_is hb⟩
/-- of three partings the two smallest are the same -/
theorem three {a b d : List (Int × Int)} (ha : Led a) (hb : Led b) (hd : Led d) (hla : a.length ≤ 99) (hlb : b.length ≤ 99) (hld : d.length ≤ 99) (e : ∀ j, psum d j = psum a j - psum b j) :
    (blV a = blV b ∧ blV a ≤ blV d) ∨ (blV a = blV d ∧ blV a ≤ blV b) ∨ (blV b = blV d ∧ blV b ≤ blV a) := by
  rcases blV_cases ha with ⟨na, _, va⟩ | ⟨i, hi, ba, _, va⟩
  · have z : blV d = blV b := blV_congr fun j => by
      rw [e, na, show psum [] j = 0 from rfl]
      omega
    rw [va, z]
    rcases blV_cases hb with ⟨_, _, vb⟩ | ⟨j, hj, _, _, vb⟩
    · left; rw [vb]; omega
    · right; right; rw [vb]; omega
  · rcases blV_cases hb with ⟨nb, _, vb⟩ | ⟨j, hj, bb, _, vb⟩
    · have z : blV d = blV a := blV_congr fun j => by
        rw [e, nb, show psum [] j = 0 from rfl]
        omega
      right; left
      rw [z, vb, va]; omega
    · rw [va, vb]
      by_cases h1 : i < j
      · have hd2 : IsBl d i := ⟨by rw [e, bb.2 i h1]; have := ba.1; omega, fun k hk => by rw [e, ba.2 k hk, bb.2 k (by omega)]; rfl⟩
        right; left
        rw [blV_is hd2]; omega
      · by_cases h2 : j < i
        · have hd2 : IsBl d j := ⟨by rw [e, ba.2 j h2]; have := bb.1; omega, fun k hk => by rw [e, ba.2 k (by omega), bb.2 k hk]; rfl⟩
          right; right
          rw [blV_is hd2]; omega
        · have hij : i = j := by omega
          subst hij
          left
          refine ⟨rfl, ?_⟩
          rcases blV_cases hd with ⟨_, _, vd⟩ | ⟨t, ht, bd, _, vd⟩
          · rw [vd]; omega
          · rw [vd]
            by_cases h3 : t < i
            · exact absurd (by rw [e, ba.2 t h3, bb.2 t h3]; rfl) bd.1
            · omega
section
variable {K : PySem.W.Frag} {q : Option Addr} {δ : List Sl} {te : TE}
theorem DqAll.three {H : Hp} {vs : List V} {d e f : PyData} (h : DqAll H vs [d, e, f]) : ∃ v w u, vs = [v, w, u] ∧ Dq H v d ∧ Dq H w e ∧ Dq H u f := by
  cases h with
  | cons h1 h2 => cases h2 with
    | cons h2 h3 => cases h3 with
      | cons h3 h4 => cases h4; exact ⟨_, _, _, rfl, h1, h2, h3⟩
end
end Cr

set_option Elab.async false
set_option linter.all false
set_option maxRecDepth 100000
set_option maxHeartbeats 800000
/-! dicts with tuples as keys: sums that grow by a rule -/
namespace Cr
open PySem PySem.Spec PyProof.Rows L2
/-! ### every tuple that stands is known -/
section
variable {K : PySem.W.Frag} {q : Option Addr} {n : Nat} {δ δ' : List Sl} {te te2 ta tb tp tx ty tz2 : TE} {c c1 c2 c3 : Nat} {d : PyData} {A0 B0 Hk H1 Hk' H2 : Hp} {σ : L2.St} {D : Ends} {tz tbd : TS} {r : Addr}
/-! ### the dict -/
def PolyK (f : List Int) : Prop := f.length ≤ 3 ∧ Pl f ∧ CB 4 f ∧ f ≠ []
def cntV (x : List Key × V) : Nat := match x.2 with
  | .int j => j.toNat
  | _ => 0
def GoodT (c : Nat) (kvs : List (List Key × V)) : Prop := kvs.length ≤ c ∧ (∀ x ∈ kvs, ∃ (f : List Int) (j : Nat), x = (f.map Sum.inl, V.int j) ∧ PolyK f ∧ j ≤ c) ∧ (kvs.map (·.1)).Nodup ∧ (kvs.map cntV).sum ≤ c
theorem GoodT.nil : GoodT 0 [] := ⟨Nat.le_refl _, by simp, by simp, by simp⟩
theorem GoodT.mono {c c' : Nat} {kvs : List (List Key × V)} (h : GoodT c kvs) (l : c ≤ c') : GoodT c' kvs := ⟨by have := h.1; omega, fun x hx => by
  obtain ⟨f, j, e, p, z⟩ := h.2.1 x hx
  exact ⟨f, j, e, p, by omega⟩, h.2.2.1, by have := h.2.2.2; omega⟩
structure TCell (q : Option Addr) (B0 Hk H1 : Hp) (p : Addr) (kvs : List (List Key × V)) : Prop where
  nk : Hk p = none
  nq : q ≠ some p
  nb : B0 p = none
  ex : H1 p = some (.dT kvs)
theorem TCell.go {kvs : List (List Key × V)} (x : TCell q B0 Hk H1 r kvs) (g : Gr q Hk H1 Hk' H2) : TCell q B0 Hk' H2 r kvs :=
  ⟨g.f r x.nk (by rw [x.ex]; exact fun z => by cases z), x.nq, x.nb, g.s r _ x.nq x.ex⟩
theorem At.fresh {p : Addr} (s : At q n δ A0 B0 σ Hk H1) (h : H1 p = none) : Hk p = none ∧ q ≠ some p ∧ B0 p = none :=
  ⟨s.ok.a.free h, fun e => (s.ok.j p e).ne h, by
    cases e : B0 p with
    | none => rfl
    | some u => exact absurd h (s.gr.t p (by rw [e]; exact fun z => by cases z))⟩
theorem Ok.new {p : Addr} {u : HO} (o : Ok q n Hk H1) (hp : H1 p = none) : Ok q n (upd Hk p u) (upd H1 p u) := o.go (Gr.new o.a hp)
end
end Cr

set_option Elab.async false
set_option linter.all false
set_option maxRecDepth 100000
set_option maxHeartbeats 800000
/-! dicts of ints that still change, read by comprehensions -/
namespace Cr
open PySem PySem.Spec PyProof.Rows L2
structure ICell (q : Option Addr) (B0 Hk H1 : Hp) (p : Addr) (m : List (Int × Int)) : Prop where
  nk : Hk p = none
  nq : q ≠ some p
  nb : B0 p = none
  ex : H1 p = some (.dK (mdict m))
section
variable {K : PySem.W.Frag} {q : Option Addr} {n : Nat} {δ δ' : List Sl} {te te2 ta tb tp tx ty tz2 : TE} {c c1 c2 c3 : Nat} {d : PyData} {A0 B0 Hk H1 Hk' H2 : Hp} {σ : L2.St} {D : Ends} {tz tbd : TS} {r : Addr} {m : List (Int × Int)}
theorem ICell.go (x : ICell q B0 Hk H1 r m) (g : Gr q Hk H1 Hk' H2) : ICell q B0 Hk' H2 r m :=
  ⟨g.f r x.nk (by rw [x.ex]; exact fun z => by cases z), x.nq, x.nb, g.s r _ x.nq x.ex⟩
theorem At.garb {p : Addr} {o : HO} (s : At q n δ A0 B0 σ Hk H1) (h : H1 p = none) : At q n δ A0 B0 σ Hk (upd H1 p o) := by
  obtain ⟨h1, h2, h3⟩ := s.fresh h
  exact ⟨s.ok.cell h1 h2, s.sg, s.gr.put h3 h1⟩
theorem ICell.garb {p : Addr} {o : HO} (t : ICell q B0 Hk H1 r m) (h : H1 p = none) : ICell q B0 Hk (upd H1 p o) r m := ⟨t.nk, t.nq, t.nb, by rw [upd_ne (ne_of_none t.ex h)]; exact t.ex⟩
/-! ### a dict whose keys alone matter -/
structure BCell (q : Option Addr) (B0 Hk H1 : Hp) (p : Addr) (ks : List Int) : Prop where
  nk : Hk p = none
  nq : q ≠ some p
  nb : B0 p = none
  ex : ∃ kvs : List (Key × V), H1 p = some (.dK kvs) ∧ kvs.map (·.1) = ks.map Sum.inl
theorem BCell.go {ks : List Int} (x : BCell q B0 Hk H1 r ks) (g : Gr q Hk H1 Hk' H2) : BCell q B0 Hk' H2 r ks := by
  obtain ⟨kvs, e, h⟩ := x.ex
  exact ⟨g.f r x.nk (by rw [e]; exact fun z => by cases z), x.nq, x.nb, kvs, g.s r _ x.nq e, h⟩
end
end Cr

set_option Elab.async false
set_option linter.all false
set_option maxRecDepth 100000
set_option maxHeartbeats 800000
/-! fractions at keys come to the sums -/
namespace Cr
open PySem PySem.Spec PyProof.Rows L2
/-! ### a polynomial with too many roots -/
theorem horn_val (r x : Int) : ∀ (f : List Int) (a : Int), evalP (a :: f) x - evalP (a :: f) r = (x - r) * evalP (hornL r f) x
  | [], a => by simp [evalP, hornL]
  | b :: f, a => by
    have ih := horn_val r x f b
    have hd : hornL r (b :: f) = evalP (b :: f) r :: hornL r f := rfl
    rw [evalP_cons a (b :: f) x, evalP_cons a (b :: f) r, hd, evalP_cons (evalP (b :: f) r)]
    have e1 : evalP (b :: f) x = evalP (b :: f) r + (x - r) * evalP (hornL r f) x := by omega
    rw [e1]
    grind
/-! ### sums of multiples -/
/-! ### least terms -/
/-! ### a common multiple -/
section
variable {K : PySem.W.Frag} {q : Option Addr} {n : Nat} {δ δ' : List Sl} {te te2 ta tb : TE} {c c1 c2 c3 : Nat} {d d1 d2 : PyData} {A0 B0 Hk H1 Hk' H2 : Hp} {σ : L2.St} {D : Ends} {tz : TS}
end
end Cr

set_option Elab.async false
set_option linter.all false
set_option maxRecDepth 100000
set_option maxHeartbeats 800000
/-! rules of sums -/
namespace Cr
open PySem PySem.Spec PyProof.Rows L2
/-! ### a stretch of the sums under a rule -/
/-! ### numbers divided by what they share -/
/-! ### how long the numbers of a shortest rule may be -/
/-! ### rules of the hand layer -/
section
variable {K : PySem.W.Frag} {q : Option Addr} {n : Nat} {δ δ' : List Sl} {te ta tb : TE} {c c1 c2 : Nat} {d d1 d2 d3 d4 d5 : PyData} {A0 B0 Hk H1 H2 Hk' : Hp} {σ : L2.St} {D : Ends} {tz : TS} {p : Addr} {ds es : List PyData}

/-- x = a + b, a list that changes on -/
theorem q_newCat {i : Nat} (ha : E q δ ta (.list ds)) (hb : E q δ tb (.list es)) (hl : ds.length + es.length ≤ 1000000) (s : At q n δ A0 B0 σ Hk H1)
    (k : ∀ p σ' Hk' H2, Gr q Hk H1 Hk' H2 ∨ True → Same Hk Hk' → At q n (δ.set i (.adr p)) A0 B0 σ' Hk' H2 → Cell q B0 Hk' H2 p (ds ++ es) → tz D σ' H2) : tSeq (tAsg (tOp (rAddU K) ta tb) (gName i)) tz D σ H1 :=
  ha σ Hk H1 n s.sg s.ok _ fun d x Hk2 H2 g2 o2 ed dx => hb σ Hk2 H2 n (s.sg.mono g2.k) o2 _ fun d' y Hk3 H3 g3 o3 ed' dy => by
    subst ed; subst ed'
    obtain ⟨a, xs, rfl, h1, h2⟩ := (Dq.mono g3.k _ _ dx).lstOf
    obtain ⟨b, ys, rfl, h3, h4⟩ := dy.lstOf
    have s3 : At q n δ A0 B0 σ Hk3 H3 := ⟨o3, (s.sg.mono g2.k).mono g3.k, (s.gr.trans g2).trans g3⟩
    refine .inr (.inl ⟨a, b, xs, ys, rfl, rfl, o3.a _ _ h1, o3.a _ _ h3, by rw [h2.length, h4.length, sizeLine_eq]; omega, fun l hln => ?_⟩)
    obtain ⟨n1, n2, n3⟩ := s3.fresh hln
    have s4 := s3.garb (o := .lst (xs ++ ys)) hln
    exact k l _ Hk3 _ (.inr trivial) (g2.k.trans g3.k) ⟨s4.ok, s4.sg.set i (s := .adr l) rfl, s4.gr⟩ ⟨n1, n2, n3, _, upd_same, h2.append h4⟩
/-! ### lists of polynomials, some drawn -/
def GP (f : List Int) : Prop := Pl f ∧ CB 10000 f ∧ f.length ≤ 60
end
end Cr

set_option Elab.async false
set_option linter.all false
set_option maxRecDepth 100000
set_option maxHeartbeats 1000000
namespace Cr
open PySem PySem.Spec PyProof.Rows L2 L2
/-! ### talks: ranges, rounds -/
end Cr

set_option Elab.async false
set_option linter.all false
set_option maxRecDepth 100000
set_option maxHeartbeats 1000000
namespace Cr
open PySem PySem.Spec PyProof.Rows L2 LiI
section
variable {K : PySem.W.Frag} {q : Option Addr} {n : Nat} {δ δ' : List Sl} {te ta tb tc tk : TE} {tt tu : TT} {c c1 c2 c3 : Nat} {Φ Φ1 Φ2 Φ3 : PyData → Prop} {d d1 d2 d3 : PyData} {wi : TI} {A0 B0 Hk H1 H2 Hk' : Hp} {σ : L2.St} {D : Ends} {ts tz : TS} {g : TG} {p r : Addr} {ds : List PyData}
/-- all that is new is known -/
def moreH (Hk H1 H' : Hp) : Hp := fun b => match H1 b with
  | none => H' b
  | some _ => Hk b
theorem moreH_new {b : Addr} {Hk H1 H' : Hp} (h : H1 b = none) : moreH Hk H1 H' b = H' b := by unfold moreH; rw [h]
theorem moreH_old {b : Addr} {Hk H1 H' : Hp} (h : H1 b ≠ none) : moreH Hk H1 H' b = Hk b := by
  unfold moreH
  cases e : H1 b with
  | none => exact absurd e h
  | some u => rfl
theorem Gr.more {Hk H1 H' : Hp} (s : Same Hk H1) (e : ∀ b o, H1 b = some o → H' b = some o) : Gr q Hk H1 (moreH Hk H1 H') H' := by
  refine ⟨fun b o h => ?_, fun b o h => ?_, fun b o _ h => e b o h, fun b h h1 => ?_, fun b h => ?_⟩
  · rw [moreH_old (by rw [s b o h]; exact fun z => by cases z)]; exact h
  · cases h1 : H1 b with
    | none => rw [moreH_new h1] at h; exact h
    | some u =>
      rw [moreH_old (by rw [h1]; exact fun z => by cases z)] at h
      exact e b o (s b o h)
  · rw [moreH_old h1]; exact h
  · cases h1 : H1 b with
    | none => exact absurd h1 h
    | some u => rw [e b u h1]; exact fun z => by cases z
/-! a dict of one's own that changes -/
structure DCell (q : Option Addr) (B0 Hk H1 : Hp) (p : Addr) (m : List (Int × Int)) : Prop where
  nk : Hk p = none
  nq : q ≠ some p
  nb : B0 p = none
  ex : H1 p = some (.dK (mdict m))
theorem DCell.go {m : List (Int × Int)} (x : DCell q B0 Hk H1 p m) (g : Gr q Hk H1 Hk' H2) : DCell q B0 Hk' H2 p m :=
  ⟨g.f p x.nk (by rw [x.ex]; exact fun z => by cases z), x.nq, x.nb, g.s p _ x.nq x.ex⟩
end
/-! rounds as data -/
end Cr
namespace Cr
open PySem PySem.Spec PyProof.Rows L2
section
variable {K : PySem.W.Frag} {q : Option Addr} {n : Nat} {δ : List Sl} {te : TE} {c : Nat} {Φ : PyData → Prop} {d : PyData} {A0 B0 Hk H1 : Hp} {σ : L2.St} {D : Ends} {tz : TS} {p : Addr} {ds es : List PyData}
end
end Cr
namespace Cr
open PySem PySem.Spec PyProof.Rows L2
section
variable {K : PySem.W.Frag} {q : Option Addr} {n : Nat} {δ : List Sl} {te ti : TE} {tt : TT} {c c1 ci : Nat} {Φ : PyData → Prop} {d : PyData} {A0 B0 Hk H1 : Hp} {σ : L2.St} {D : Ends} {tz : TS} {p r t : Addr} {ds es : List PyData}
end
end Cr

set_option Elab.async false
set_option linter.all false
set_option maxRecDepth 100000
set_option maxHeartbeats 1000000
namespace Cr
open PySem PySem.Spec PyProof.Rows L2
/-! all pairs of small ledgers -/
end Cr
namespace Cr
open PySem PySem.Spec PyProof.Rows L2
section
variable {K : PySem.W.Frag} {q : Option Addr} {n : Nat} {δ : List Sl} {c : Nat} {A0 B0 Hk H1 : Hp} {σ : L2.St} {D : Ends}
end
end Cr
namespace Cr
open PySem PySem.Spec PyProof.Rows L2
section
variable {K : PySem.W.Frag} {q : Option Addr} {n : Nat} {δ : List Sl} {te ti : TE} {c : Nat} {A0 B0 Hk H1 : Hp} {σ : L2.St} {D : Ends} {tz : TS}
end
end Cr
namespace Cr
open PySem PySem.Spec PyProof.Rows L2
end Cr

set_option Elab.async false
set_option linter.all false
set_option maxRecDepth 100000
set_option maxHeartbeats 1000000
namespace Cr
open PySem PySem.Spec PyProof.Rows L2
/-! ### truth of a list -/
section
variable {K : PySem.W.Frag} {q : Option Addr} {n : Nat} {δ δ' : List Sl} {te ta tb : TE} {tt : TT} {c : Nat} {d d1 d2 d3 d4 d5 : PyData} {A0 B0 Hk H1 H2 Hk' : Hp} {σ : L2.St} {D : Ends} {tz : TS} {p O : Addr} {ds es e0 rest : List PyData}
/-! ### a new list, its first item a new list, too -/
structure Fresh2 (q : Option Addr) (B0 Hk H : Hp) (O : Addr) (e0 rest : List PyData) : Prop where
  nk : Hk O = none
  nq : q ≠ some O
  nb : B0 O = none
  ex : ∃ D xs ys, H O = some (.lst (.ref D :: xs)) ∧ DqAll Hk xs rest ∧ O ≠ D ∧ Hk D = none ∧ q ≠ some D ∧ B0 D = none ∧ H D = some (.lst ys) ∧ DqAll Hk ys e0
theorem Fresh2.go (x : Fresh2 q B0 Hk H1 O e0 rest) (g : Gr q Hk H1 Hk' H2) : Fresh2 q B0 Hk' H2 O e0 rest := by
  obtain ⟨D, xs, ys, e1, d1, ne, k1, q1, b1, e2, d2⟩ := x.ex
  exact ⟨g.f O x.nk (by rw [e1]; exact fun z => by cases z), x.nq, x.nb, D, xs, ys, g.s O _ x.nq e1, DqAll.mono g.k _ _ d1, ne, g.f D k1 (by rw [e2]; exact fun z => by cases z), q1, b1, g.s D _ q1 e2, DqAll.mono g.k _ _ d2⟩
def JNN (q : Option Addr) (δ : List Sl) (te : TE) (e0 rest : List PyData) : Prop := ∀ (σ : L2.St) (H H1 : Hp) (n : Nat), Sg H σ δ → Ok q n H H1 → ∀ Q : VK, (∀ O Hk H2, Gr q H H1 Hk H2 → Ok q n Hk H2 → Fresh2 q H1 Hk H2 O e0 rest → Q (.ref O) H2) → te σ H1 Q
theorem Fresh2.base {B1 : Hp} (x : Fresh2 q B1 Hk H1 O e0 rest) (t : ∀ b, B0 b ≠ none → B1 b ≠ none) : Fresh2 q B0 Hk H1 O e0 rest := by
  have z : ∀ b, B1 b = none → B0 b = none := fun b h => by
    cases e : B0 b with
    | none => rfl
    | some u => exact absurd h (t b (by rw [e]; exact fun y => by cases y))
  obtain ⟨D, xs, ys, e1, d1, ne, k1, q1, b1, e2, d2⟩ := x.ex
  exact ⟨x.nk, x.nq, z _ x.nb, D, xs, ys, e1, d1, ne, k1, q1, z _ b1, e2, d2⟩
/-- it stands still from here -/
theorem Fresh2.freeze (x : Fresh2 q B0 Hk H1 O e0 rest) (s : At q n δ A0 B0 σ Hk H1) : ∃ Hk', Same Hk Hk' ∧ At q n δ A0 B0 σ Hk' H1 ∧ Dq Hk' (.ref O) (.list (.list e0 :: rest)) ∧ ∃ D xs ys, Hk' O = some (.lst (.ref D :: xs)) ∧ Hk' D = some (.lst ys) ∧ O ≠ D ∧ q ≠ some O ∧ q ≠ some D ∧ B0 O = none ∧ B0 D = none ∧ Hk O = none ∧ Hk D = none ∧ ys.length = e0.length ∧ xs.length = rest.length ∧ DqAll Hk' ys e0 := by
  obtain ⟨F, xs, ys, e1, d1, ne, k1, q1, b1, e2, d2⟩ := x.ex
  have g1 := s.gr.freeze b1 k1 e2
  have nO : upd Hk F (.lst ys) O = none := by rw [upd_ne ne]; exact x.nk
  have g2 := g1.freeze x.nb nO e1
  have sm : Same Hk (upd (upd Hk F (.lst ys)) O (.lst (.ref F :: xs))) := (same_upd k1).trans (same_upd nO)
  have eF : upd (upd Hk F (.lst ys)) O (.lst (.ref F :: xs)) F = some (.lst ys) := by rw [upd_ne (Ne.symm ne)]; exact upd_same
  refine ⟨upd (upd Hk F (.lst ys)) O (.lst (.ref F :: xs)), sm, ⟨⟨g2.a, fun r er => ?_, s.ok.j⟩, s.sg.mono sm, g2⟩, .lst upd_same (.cons (.lst eF (DqAll.mono sm _ _ d2)) (DqAll.mono sm _ _ d1)), F, xs, ys, upd_same, eF, ne, x.nq, q1, x.nb, b1, x.nk, k1, d2.length, d1.length, DqAll.mono sm _ _ d2⟩
  rw [upd_ne (fun z => x.nq (by rw [← z]; exact er)), upd_ne (fun z => q1 (by rw [← z]; exact er))]
  exact s.ok.kf r er
theorem JNN.e (h : JNN q δ te e0 rest) : E q δ te (.list (.list e0 :: rest)) := fun σ H H1 n sg o Q k =>
  h σ H H1 n sg o _ fun O Hk H2 g o1 f => by
    obtain ⟨Hk', sm, a, dq, _⟩ := f.freeze (A0 := H) (B0 := H1) (δ := []) (σ := []) ⟨o1, ⟨rfl, fun i s e => by simp at e⟩, g⟩
    exact k _ _ Hk' H2 a.gr a.ok rfl dq
/-- what an address holds is told -/
theorem At.tell {i : Nat} (s : At q n δ A0 B0 σ Hk H1) (hi : δ[i]? = some (.adr p)) (dq : Dq Hk (.ref p) d) : At q n (δ.set i (.dat d)) A0 B0 σ Hk H1 := by
  refine ⟨s.ok, ⟨by rw [List.length_set]; exact s.sg.1, fun j t e ne => ?_⟩, s.gr⟩
  by_cases hj : i = j
  · subst hj
    have hl : i < δ.length := (List.getElem?_eq_some_iff.mp hi).1
    rw [List.getElem?_set_self hl] at e
    cases e
    exact ⟨.ref p, s.sg.getA hi, dq⟩
  · rw [List.getElem?_set_ne hj] at e
    exact s.sg.2 j t e ne
theorem At.back {δ2 : List Sl} (s : At q n δ A0 B0 σ Hk H1) (a : At q n δ2 A0 B0 σ Hk' H2) (g : Same Hk Hk') : At q n δ A0 B0 σ Hk' H2 := ⟨a.ok, s.sg.mono g, a.gr⟩
end
end Cr

set_option Elab.async false
set_option linter.all false
set_option maxRecDepth 100000
set_option maxHeartbeats 1000000
namespace Cr
open PySem PySem.Spec PyProof.Rows L2
section
variable {P : Program} {w : World} {K : PySem.W.Frag} {mg : Str → Option Value} {base : Heap}
end
section
variable {K : PySem.W.Frag} {q : Option Addr} {n : Nat} {δ δ' : List Sl} {te ta tb : TE} {tt : TT} {c : Nat} {d d1 d2 : PyData} {A0 B0 Hk H1 H2 Hk' : Hp} {σ : L2.St} {D : Ends} {tz : TS} {p O : Addr} {ds es e0 rest : List PyData} {wi wi1 : TI} {g g1 : TG}
end
end Cr

namespace Cr
open PySem PySem.Spec PyProof.Rows L2
/-! ### a op b op c op d as a test -/
section
variable {X : Cx} {a b c d : Expr} {ta tb tc td : TE} {pos : Pos}
end
section
variable {K : PySem.W.Frag} {q : Option Addr} {δ : List Sl} {ta tb tc td ti te : TE} {n : Nat}
end
/-! ### a ledger parted at a key -/
end Cr

set_option Elab.async false
set_option linter.all false
set_option maxRecDepth 100000
set_option maxHeartbeats 1000000
namespace Cr
open PySem PySem.Spec PyProof.Rows L2
/-! ### what a talk tells adds up -/
/-! the talk itself -/
end Cr

set_option Elab.async false
set_option linter.all false
set_option maxRecDepth 100000
set_option maxHeartbeats 800000
/-! what talks cost -/
namespace Cr
open PySem PySem.Spec PyProof.Rows L2
/-! ### rows of ranges, one by one -/
section
variable {g a b : List (Int × Int)} {r0 : Int × Int}
/-! ### all rows together -/
end
/-! ### the least of all -/
def IsMin (f : Nat → Int) (top n : Nat) : Prop := (1 ≤ n ∧ n ≤ top) ∧ (∀ m, 1 ≤ m → m ≤ top → f n ≤ f m) ∧ ∀ m, 1 ≤ m → m < n → f n < f m
theorem IsMin.uniq {f : Nat → Int} {top n m : Nat} (h : IsMin f top n) (h2 : IsMin f top m) : n = m := by
  obtain ⟨⟨a, b⟩, c, d⟩ := h
  obtain ⟨⟨a2, b2⟩, c2, d2⟩ := h2
  rcases Nat.lt_trichotomy n m with e | e | e
  · have := d2 n a e
    have := c m a2 b2
    omega
  · exact e
  · have := d m a2 e
    have := c2 n a b
    omega
def IsFst (P : Nat → Prop) (n : Nat) : Prop := 1 ≤ n ∧ P n ∧ ∀ m, 1 ≤ m → m < n → ¬ P m
theorem IsFst.uniq {P : Nat → Prop} {n m : Nat} (h : IsFst P n) (h2 : IsFst P m) : n = m := by
  obtain ⟨a, b, c⟩ := h
  obtain ⟨a2, b2, c2⟩ := h2
  rcases Nat.lt_trichotomy n m with e | e | e
  · exact absurd b (c2 n a e)
  · exact e
  · exact absurd b2 (c m a2 e)
/-! ### min of pairs of ints, list.index of ints -/
theorem k_index {X : Cx} {K : PySem.W.Frag} (hK : X.K = K) : MtR X "list.index" (rIndex K) := hK ▸ mt_index
/-! ### the most of some -/
section
variable {K : PySem.W.Frag} {q : Option Addr} {δ : List Sl} {te te2 : TE}
end
/-- what repr may print -/
def Shw (k W : Nat) (d : PyData) : Prop := d.showable = true ∧ d.hasDict = false ∧ d.depth ≤ k ∧ PyData.leavesShort 100 d = true ∧ PyData.weight d ≤ W
theorem Shw.mono {k k' W W' : Nat} {d : PyData} (h : Shw k W d) (hk : k ≤ k') (hW : W ≤ W') : Shw k' W' d := ⟨h.1, h.2.1, Nat.le_trans h.2.2.1 hk, h.2.2.2.1, Nat.le_trans h.2.2.2.2 hW⟩
theorem Shw.size {k W : Nat} {d : PyData} (h : Shw k W d) (hW : W ≤ 160000) : d.shown.length ≤ sizeLine := by
  have z := PyData.shown_le 100 (by omega) d h.2.2.2.1
  have e : sizeLine = 16777216 := by decide
  rw [e]
  have m := Nat.mul_le_mul_left (100 + 2) (Nat.le_trans h.2.2.2.2 hW)
  omega
section
variable {K : PySem.W.Frag} {q : Option Addr} {n c : Nat} {δ : List Sl} {ta tb : TE} {d2 : PyData} {A0 B0 Hk H1 : Hp} {σ : L2.St} {D : Ends} {tz : TS} {Φ : PyData → Prop}
end
/-! ### a def that is called where no guard stands -/
structure FnOkG (P : Program) (w : World) (K : PySem.W.Frag) (mg : Str → Option Value) (base : Heap) (CX : CXT) (k : Nat) (f : Addr) (fd : FuncData) (ps : List Str) (sp : Sp) : Prop where
  len : ∀ vs H Q E, sp vs H Q E → vs.length = ps.length
  run : ∀ (A : Around) (outer : List Env) (s : Shared) (H : Hp) (args : Args) (us : List Value) (vs : List V) (Q : VK) (E : XK), A.guards = some [] → Room k A → Env0 P w K mg base A outer s H → BindsTo s fd args (ps.zip us) → Vals vs us → sp vs H Q E →
    codeAny (model P w) A (.call (.ref f) args) (CR CX outer P w H s Q E) s
section
variable {P : Program} {w : World} {K : PySem.W.Frag} {mg : Str → Option Value} {base : Heap}
end
section
variable {X : Cx} {CX : CXT} {k : Nat} {f : Addr} {fd : FuncData} {ps : List Str} {sp : Sp} {dvs : List V} {ds : List Value} {E : XK} {x : Str} {p pos : Pos} {e : Expr} {es : List Expr} {t : TA}
end
section
variable {K : PySem.W.Frag} {q : Option Addr} {δ : List Sl} {te : TE}
end
end Cr

set_option Elab.async false
set_option linter.all false
set_option maxRecDepth 100000
set_option maxHeartbeats 800000
/-! A tuple judged pair by pair. -/
namespace Cr
open PySem PySem.Spec PyProof.Rows L2
theorem asc_pw : ∀ l : List (Int × Int), asc l = true → l.Pairwise fun a b => a.1 < b.1
  | [], _ => .nil
  | [x], _ => by simp
  | x :: y :: l, h => by
    have e : asc (x :: y :: l) = (decide (x.1 < y.1) && asc (y :: l)) := rfl
    rw [e, Bool.and_eq_true] at h
    have ih := asc_pw (y :: l) h.2
    have hxy : x.1 < y.1 := of_decide_eq_true h.1
    refine List.pairwise_cons.mpr ⟨fun z hz => ?_, ih⟩
    rcases List.mem_cons.mp hz with e | e
    · rw [e]; exact hxy
    · have := (List.pairwise_cons.mp ih).1 z e
      omega
theorem led_of {ds : List PyData} (h : isLedD (.tuple ds) = true) : ∃ l, Led l ∧ ds = pd l := by
  have h0 : (ds.all isChangeD && (asc (ds.filterMap unpr) && nz (ds.filterMap unpr))) = true := h
  rw [Bool.and_eq_true] at h0
  obtain ⟨l, rfl⟩ := changes_pd h0.1
  rw [unpr_pd, Bool.and_eq_true] at h0
  refine ⟨l, ⟨asc_pw l h0.2.1, fun x hx => ?_⟩, rfl⟩
  have := List.all_eq_true.mp h0.2.2 x hx
  simpa using this
theorem pd_inj {a b : List (Int × Int)} (h : pd a = pd b) : a = b := by
  have := congrArg (fun ds => ds.filterMap unpr) h
  simpa [unpr_pd] using this
section
variable {K : PySem.W.Frag} {q : Option Addr} {δ : List Sl} {te tb : TE}
/-- {} -/
theorem e_dnew : E q δ tDNewK (.dict []) := fun σ H H1 n sg o Q k => fun p hp => by
  have g := Gr.new (q := none) (o := .dK []) o.a hp
  exact k _ _ _ _ g.none_to (o.go g) rfl (.dic upd_same)
/-- no tuple of it is long -/
def ShortT (d : PyData) : Prop := ∀ ds, d = .tuple ds → ds.length ≤ 100000
theorem short_tup {ds : List PyData} (h : ds.length ≤ 100000) : ShortT (.tuple ds) := fun es e => by cases e; exact h
end
/-! ### a class's instance -/
structure FunV (K : PySem.W.Frag) (x qual : Str) (st : Stmt) (f : Addr) (fd : FuncData) : Prop where
  ex : ∃ (oc : Value) (od : Option Addr) (dV kV doc pm : Value) (an : Option Addr) (cdv ct : Value) (osl : Array (Option Value)), fd = PySem.W.fnOf x qual (defArgs st) (defBody st) (defScope st) dV kV doc pm an cdv ct ∧ K.lookup f = some ⟨oc, od, .func fd, osl⟩ ∧ PySem.W.codeIn K cdv qual = true
  kp : PySem.W.keepIn K (.ref f) = true
theorem FunV.binds {K : PySem.W.Frag} {x qual : Str} {st : Stmt} {f : Addr} {fd : FuncData} {ps : List Str} (F : FunV K x qual st f fd)
    (h : ∀ (dV kV doc pm : Value) (an : Option Addr) (cdv ct : Value) (us : List Value), us.length = ps.length → bindArgs (PySem.W.fnOf x qual (defArgs st) (defBody st) (defScope st) dV kV doc pm an cdv ct) ⟨us, []⟩ = pure (ps.zip us)) : Binds K fd ps [] := by
  obtain ⟨oc, od, dV, kV, doc, pm, an, cdv, ct, osl, rfl, lk, hcd⟩ := F.ex
  exact .all (h dV kV doc pm an cdv ct)
/-- what isinstance asks of a class that is no tuple -/
structure InsC (K : PySem.W.Frag) (C : Addr) : Prop where
  ha : PySem.W.findIn K (.ref C) "__class__" = some (some (.builtin "object.__class__"))
  hn : PySem.W.specialIn K (.builtin "object.__class__") "__get__" = some (some (.builtin "getset_descriptor.__get__"))
  htk : PySem.W.takesIn K (.builtin "object.__class__") = some true
  hm : PySem.W.mroIn K C (.type "object") = some true
  kt : PySem.W.kitOne K (.ref C) (.type "tuple") = some false
  ki : PySem.W.kitOne K (.ref C) (.type "int") = some false
theorem kit_no {K : PySem.W.Frag} {C : Addr} (h : PySem.W.subIn K (.ref C) (.type "tuple") = some false) : PySem.W.kitOne K (.ref C) (.type "tuple") = some false := by
  unfold PySem.W.kitOne
  rw [if_neg (fun e => by first | (have := eq_of_beq e; cases this) | simp at e)]
  show (if PySem.W.kitMeta "tuple" = true then PySem.W.subIn K (.ref C) (.type "tuple") else none) = some false
  rw [if_pos (by decide +kernel)]
  exact h
theorem kit_noI {K : PySem.W.Frag} {C : Addr} (h : PySem.W.subIn K (.ref C) (.type "int") = some false) : PySem.W.kitOne K (.ref C) (.type "int") = some false := by
  unfold PySem.W.kitOne
  rw [if_neg (fun e => by first | (have := eq_of_beq e; cases this) | simp at e)]
  show (if PySem.W.kitMeta "int" = true then PySem.W.subIn K (.ref C) (.type "int") else none) = some false
  rw [if_pos (by decide +kernel)]
  exact h
theorem kit_yesV {K : PySem.W.Frag} {C : Addr} (h : PySem.W.subIn K (.ref C) (.type "ValueError") = some true) : PySem.W.kitOne K (.ref C) (.type "ValueError") = some true := by
  unfold PySem.W.kitOne
  rw [if_neg (fun e => by first | (have := eq_of_beq e; cases this) | simp at e)]
  show (if PySem.W.kitMeta "ValueError" = true then PySem.W.subIn K (.ref C) (.type "ValueError") else none) = some true
  rw [if_pos (by decide +kernel)]
  exact h
/-- __init__ of a class with one attribute: it stores what it is given -/
def spI (C : Addr) (fld : Str) (Pd : PyData → Prop) : Sp := fun vs H Q _ => ∃ (q : Option Addr) (Hk H0 : Hp) (n : Nat) (x dx : Addr) (w : V) (d : PyData), vs = [.ref x, w] ∧ H = upd (upd H0 dx (.own x)) x (.ins C dx []) ∧ H0 x = none ∧ H0 dx = none ∧ dx ≠ x ∧ Ok q n Hk H0 ∧ Dq Hk w d ∧ Pd d ∧
  ∀ Hk' H2, Gr q Hk H0 Hk' H2 → Ok q n Hk' H2 → (∃ fs, H2 x = some (.ins C dx fs)) → Q .non H2
section
variable {P : Program} {w : World} {K : PySem.W.Frag} {mg : Str → Option Value} {base : Heap}
/-- self.fld = value behind a check -/
theorem init_ok {x qual fld : Str} {st : Stmt} {f C : Addr} {fd : FuncData} {N ps : List Str} {k : Nat} {Pd : PyData → Prop} {tc : TE} (hp : ps.length = 2) (hN2 : N.length = 2) (F : FunV K x qual st f fd) (S : FnScope N ps (defScope st)) (cl : Cls K C) (na : NoAttr K C fld)
    (body : ∀ (cdv : Value) (A : Around) (outer : List Env) (s : Shared) (B0 : Hp) (E : XK), Room k (A.deeper (envOfC qual (defScope st) s.heap.objs.size f cdv)) →
      PSs (cxOf CX0 P w K mg base N qual (defScope st) f cdv A outer s B0 E).nox (defBody st) (tSeq (tDrop tc) (sFld K (tVar 0) (tVar 1) fld)))
    (hc : ∀ (q : Option Addr) (δ : List Sl) (d : PyData), Pd d → δ[1]? = some (.dat d) → E q δ tc .none) :
    FnOk P w K mg base CX0 (k + 1) f fd ps (spI C fld Pd) := by
  obtain ⟨oc, od, dV, kV, doc, pm, an, cdv, ct, osl, rfl, lk, hcd⟩ := F.ex
  refine fn_of lk hcd S (fun vs H Q E h => ?_) fun A outer s H vs Q E hr h => ?_
  · obtain ⟨_, _, _, _, _, _, _, _, rfl, _⟩ := h
    rw [hp]; rfl
  · obtain ⟨q, Hk, H0, n, a, dx, v, d, rfl, rfl, h1, h2, h3, o, dv, pd, kk⟩ := h
    refine ⟨_, (body cdv A outer s _ E hr).nox, ?_⟩
    have hka : Hk a = none := o.a.free h1
    have hkd : Hk dx = none := o.a.free h2
    have nqa : q ≠ some a := fun e => (o.j a e).ne h1
    have nqd : q ≠ some dx := fun e => (o.j dx e).ne h2
    have sg0 := start_sg (N := N) (vs := [.ref a, v]) (sls := [.adr a, .dat d]) (VS.cons (H := Hk) (s := .adr a) rfl (VS.cons (s := .dat d) dv VS.nil)) (by rw [hN2]; exact Nat.le_refl _)
    rw [hN2] at sg0
    have s1 : At q n [.adr a, .dat d] Hk H0 (L2.start N [.ref a, v]) Hk (upd (upd H0 dx (.own a)) a (.ins C dx [])) := ⟨(o.cell hkd nqd).cell hka nqa, sg0, ((Gr.refl o.a).put h2 hkd).put h1 hka⟩
    refine q_drop (hc q _ d pd rfl) s1 fun Hk1 H1 g1 a1 => ?_
    have e1 : H1 a = some (.ins C dx []) := g1.s a _ nqa upd_same
    have hk1 : Hk1 a = none := g1.f a hka (by rw [upd_same]; exact fun z => by cases z)
    refine (e_var (i := 1) rfl) _ Hk1 H1 n a1.sg a1.ok _ fun d2 v2 Hk2 H2 g2 o2 ed dv2 => ?_
    have e2 : H2 a = some (.ins C dx []) := g2.s a _ nqa e1
    have hk2 : Hk2 a = none := g2.f a hk1 (by rw [e1]; exact fun z => by cases z)
    refine ⟨.ref a, a1.sg.getA (i := 0) rfl, a, C, dx, [], rfl, e2, cl, na, by show 0 < 1000; decide, ?_⟩
    exact kk Hk2 _ ((a1.gr.trans g2).put h1 hk2) (o2.cell hk2 nqa) ⟨_, upd_same⟩
end
/-- a def that is handed an instance and says False -/
def spIns (K : PySem.W.Frag) : Sp := fun vs H Q _ => ∃ (q : Option Addr) (Hk : Hp) (n : Nat) (a C dx : Addr) (fs : List (Str × V)), vs = [.ref a] ∧ H a = some (.ins C dx fs) ∧ Cls K C ∧ InsC K C ∧ Ok q n Hk H ∧ ∀ Hk' H2, Gr q Hk H Hk' H2 → Ok q n Hk' H2 → Q (.bl false) H2
section
variable {K : PySem.W.Frag} {q : Option Addr} {n : Nat} {δ : List Sl} {A0 B0 Hk H1 : Hp} {σ : L2.St} {D : Ends} {tz : TS}
/-- if not isinstance(x, tuple) or ..: return False -/
theorem q_insNo {i : Nat} {a C dx : Addr} {fs : List (Str × V)} {tt : TT} (s : At q n δ A0 B0 σ Hk H1) (hi : δ[i]? = some (.adr a)) (e : H1 a = some (.ins C dx fs)) (cl : Cls K C) (ic : InsC K C) (k : D.rt (.bl false) H1) :
    tSeq (tIfS (tOr (tNot (tB (tCB (rIsiU K) (tCons (tVar i) (tCons (tC (.ty "tuple")) tNil))))) tt) (tRet (tC (.bl false))) tNext) tz D σ H1 := by
  refine ⟨.ref a, s.sg.getA hi, .inl ⟨.ref a, .ty "tuple", .ref C, .type "tuple", false, rfl, .ty "tuple", .base (.ins e cl ic.ha ic.hn ic.htk ic.hm), ic.kt, false, rfl, ?_⟩⟩
  exact k
end
end Cr

set_option Elab.async false
set_option linter.all false
set_option maxRecDepth 100000
set_option maxHeartbeats 800000
/-! Ledgers form a ring. -/
namespace Cr
open PySem PySem.Spec PyProof.Rows L2
end Cr

set_option Elab.async false
set_option linter.all false
set_option maxRecDepth 100000
set_option maxHeartbeats 800000
/-! Defs that raise, and trys around them. -/
namespace L2
open PySem PySem.Spec PyProof.Rows
/-- X() of an own exception class -/
theorem pmk_own0 {X : Cx} {C : Addr} {bmB : List Value} {B newId initId : String} {x : Str} {p pos : Pos} (F : ExcBaseFacts B newId initId bmB) (q : PySem.W.excIn X.K C bmB newId = true) (gC : X.mg x = some (.ref C)) (kC : PySem.W.keepIn X.K (.ref C) = true) (r : Raises X (.ref C)) (hg : Gl X x)
    (hdb : (x == ("__debug__" : Str)) = false := by decide) : PMk X (.Call (.Name x p) [] [] pos) (fun _ H Q => Q (.ref C) none H) := by
  intro pins s σ H Q I h
  refine wpAny_Call_Name_kw (ld_glob I hg gC ?_ hdb)
  refine PySem.W.callWith_K0 I.kIn kC ?_
  show wpAny _ _ (call (.ref C) []) _ _ _
  obtain ⟨bm, N, nm, qn, bs, hdct, sn, sub, ab, col, dd, k0, k1, k2, k3, k5, mN, hC, hN, hni, T⟩ := exc_obj I.kIn q
  refine wpAny_call_exc_subT F T hC hN hni (fun h' e hm => ?_) (by show 0 ≤ sizeLine; omega)
  exact mk_of I hm r h (I.hok.gone hm.new)
end L2
namespace Cr
open PySem PySem.Spec PyProof.Rows L2
/-- what a def raises: the class's name -/
abbrev RelE := Option Addr → List Sl → Nat → Str → Prop
def spE (mg : Str → Option Value) (R : RelE) : Sp := fun vs H _ E => ∃ (q : Option Addr) (Hk : Hp) (sls : List Sl) (n c : Nat) (x : Str), Ok q (n + c) Hk H ∧ VS Hk vs sls ∧ R q sls c x ∧
  ∀ C, mg x = some (.ref C) → ∀ Hk' H2, Gr q Hk H Hk' H2 → Ok q n Hk' H2 → E (.ref C) none H2
def spU (s1 s2 : Sp) : Sp := fun vs H Q E => s1 vs H Q E ∨ s2 vs H Q E
section
variable {P : Program} {w : World} {K : PySem.W.Frag} {mg : Str → Option Value} {base : Heap} {k : Nat} {f : Addr} {fd : FuncData} {ps : List Str} {sp s1 s2 : Sp} {CX : CXT}
theorem fn_lift (F : FnOk P w K mg base CX0 k f fd ps sp) : FnOk P w K mg base (L2.CX P w) k f fd ps sp := ⟨F.len, fun A outer s H args us vs Q E hr he hb hv hs => codeAny_mono (F.run A outer s H args us vs Q E hr he hb hv hs) fun r s' h => by
  cases r with
  | error e => exact h.elim
  | ok fl => cases fl <;> exact h⟩
theorem fn_or (F : FnOk P w K mg base CX k f fd ps s1) (G : FnOk P w K mg base CX k f fd ps s2) : FnOk P w K mg base CX k f fd ps (spU s1 s2) := ⟨fun vs H Q E h => by
  rcases h with h | h
  · exact F.len _ _ _ _ h
  · exact G.len _ _ _ _ h, fun A outer s H args us vs Q E hr he hb hv hs => by
  rcases hs with h | h
  · exact F.run A outer s H args us vs Q E hr he hb hv h
  · exact G.run A outer s H args us vs Q E hr he hb hv h⟩
/-- what is asked where it raises -/
abbrev FinE (mg : Str → Option Value) (q : Option Addr) (n : Nat) (A0 B0 : Hp) (x : Str) (E : XK) : Prop := ∀ C, mg x = some (.ref C) → ∀ Hk' H2, Gr q A0 B0 Hk' H2 → Ok q n Hk' H2 → E (.ref C) none H2
theorem fn_okE {x qual : Str} {st : Stmt} {N : List Str} {R : RelE} (F : Fun K x qual st f fd) (S : FnScope N ps (defScope st)) (hN : ps.length ≤ N.length) (len : ∀ q sls c x, R q sls c x → sls.length = ps.length)
    (body : ∀ (cdv : Value) (A : Around) (outer : List Env) (s : Shared) (B0 : Hp) (E : XK), Room k (A.deeper (envOfC qual (defScope st) s.heap.objs.size f cdv)) →
      ∃ t, PSs (cxOf (L2.CX P w) P w K mg base N qual (defScope st) f cdv A outer s B0 E) (defBody st) t ∧
        ∀ (q : Option Addr) (sls : List Sl) (n c : Nat) (x : Str) (A0 : Hp) (σ : L2.St) (Q : VK), R q sls c x → At q (n + c) (sls ++ List.replicate (N.length - sls.length) .any) A0 B0 σ A0 B0 → FinE mg q n A0 B0 x E → t { nx := fun _ H' => Q .non H', rt := Q } σ B0) :
    FnOk P w K mg base (L2.CX P w) (k + 1) f fd ps (spE mg R) := by
  refine F.okX S (fun vs H Q E h => ?_) (fun cdv A outer s H vs Q E hr h => ?_)
  · obtain ⟨q, Hk, sls, n, c, x, o, hv, r, _⟩ := h
    rw [hv.1]; exact len q sls c x r
  · obtain ⟨q, Hk, sls, n, c, x, o, hv, r, fin⟩ := h
    obtain ⟨t, ht, hq⟩ := body cdv A outer s H E hr
    refine ⟨t, ht, hq q sls n c x Hk (L2.start N vs) Q r ⟨o, start_sg hv (by rw [hv.1, len q sls c x r]; exact hN), Gr.refl o.a⟩ fin⟩
end
/-- an expression that raises -/
def Rs (mg : Str → Option Value) (q : Option Addr) (δ : List Sl) (te : TE) (c : Nat) (x : Str) (W : WX) : Prop :=
  ∀ (σ : L2.St) (H H1 : Hp) (n : Nat), Sg H σ δ → Ok q (n + c) H H1 → (∀ C, mg x = some (.ref C) → ∀ Hk' H2, Gr q H H1 Hk' H2 → Ok q n Hk' H2 → W (.ref C) none σ H2) → ∀ Q : VK, te σ H1 Q
section
variable {K : PySem.W.Frag} {mg : Str → Option Value} {q : Option Addr} {n : Nat} {δ : List Sl} {te ta' : TE} {ta tk : TA} {c c1 : Nat} {x : Str} {W : WX} {A0 B0 Hk H1 : Hp} {σ : L2.St} {D : Ends} {tz : TS} {Φa : List Sl → Prop} {B : RelE} {R : RelX} {s1 s2 : Sp} {Φ : PyData → Prop}
theorem Rs.cost (h : Rs mg q δ te c x W) (l : c ≤ c1) : Rs mg q δ te c1 x W := fun σ H H1 n sg o k Q => h σ H H1 n sg (o.mono (by omega)) k Q
theorem rs_call {E : XK} (ha : AJ q δ ta c1 Φa) (hr : ∀ sls, Φa sls → B q sls c x) : Rs mg q δ (tCall (spU s1 (spE mg B)) [] E ta) (c + c1) x (fun cls d _ H => E cls d H) := fun σ H H1 n sg o k Q =>
  ha σ H H1 (n + c) sg (by rw [Nat.add_assoc]; exact o) _ fun sls vs Hk H2 g o1 p hv => by
    show spU s1 (spE mg B) (vs ++ []) H2 Q E
    rw [List.append_nil]
    exact .inr ⟨q, Hk, sls, n, c, x, o1, hv, hr sls p, fun C hC Hk' H3 g' o2 => k C hC Hk' H3 (g.trans g') o2⟩
theorem rs_callS (ha : AJ q δ ta c1 Φa) (hr : ∀ sls, Φa sls → B q sls c x) : Rs mg q δ (tCallS (spU s1 (spE mg B)) (WE W) ta) (c + c1) x W := fun σ H H1 n sg o k Q =>
  ha σ H H1 (n + c) sg (by rw [Nat.add_assoc]; exact o) _ fun sls vs Hk H2 g o1 p hv =>
    .inr ⟨q, Hk, sls, n, c, x, o1, hv, hr sls p, fun C hC Hk' H3 g' o2 => k C hC Hk' H3 (g.trans g') o2⟩
theorem j_callU {E : XK} (ha : AJ q δ ta c1 Φa) (hr : ∀ sls, Φa sls → R q sls c Φ) : J q δ (tCall (spU (spX R) s2) [] E ta) (c + c1) Φ := fun σ H H1 n sg o Q k =>
  ha σ H H1 (n + c) sg (by rw [Nat.add_assoc]; exact o) _ fun sls vs Hk H2 g o1 p hv => by
    show spU (spX R) s2 (vs ++ []) H2 Q E
    rw [List.append_nil]
    exact .inl ⟨q, Hk, sls, n, c, Φ, o1, hv, hr sls p, fun d v Hk' H3 g' o2 pd dv => k d v Hk' H3 (g.trans g') o2 pd dv⟩
theorem j_callUS (ha : AJ q δ ta c1 Φa) (hr : ∀ sls, Φa sls → R q sls c Φ) : J q δ (tCallS (spU (spX R) s2) (WE W) ta) (c + c1) Φ := fun σ H H1 n sg o Q k =>
  ha σ H H1 (n + c) sg (by rw [Nat.add_assoc]; exact o) _ fun sls vs Hk H2 g o1 p hv =>
    .inl ⟨q, Hk, sls, n, c, Φ, o1, hv, hr sls p, fun d v Hk' H3 g' o2 pd dv => k d v Hk' H3 (g.trans g') o2 pd dv⟩
theorem rs_callK {E : XK} {gV : List V → List V → List V} {ss us rs : List Sl} (ha : AE q δ ta ss) (hk : AE q δ tk us) (hg : ∀ (H : Hp) (vs zs : List V), VS H vs ss → VS H zs us → VS H (gV vs zs) rs) (hr : B q rs 0 x) : Rs mg q δ (tCallK (spU s1 (spE mg B)) gV E ta tk) 0 x (fun cls d _ H => E cls d H) := fun σ H H1 n sg o k Q =>
  ha σ H H1 n sg o _ fun sls vs Hk H2 g o1 e hv => hk σ Hk H2 n (sg.mono g.k) o1 _ fun sl2 zs Hk' H3 g' o2 e2 hz => by
    subst e; subst e2
    exact .inr ⟨q, Hk', rs, n, 0, x, o2, hg Hk' vs zs (hv.mono g'.k) hz, hr, fun C hC Hk2 H4 g2 o3 => k C hC Hk2 H4 ((g.trans g').trans g2) o3⟩
/-! ### statements that raise -/
abbrev FinW (mg : Str → Option Value) (q : Option Addr) (n : Nat) (δ : List Sl) (A0 B0 Hk H1 : Hp) (x : Str) (W : WX) (σ : L2.St) : Prop := ∀ C, mg x = some (.ref C) → ∀ Hk' H2, Gr q Hk H1 Hk' H2 → At q n δ A0 B0 σ Hk' H2 → W (.ref C) none σ H2
theorem s_dropR {m : Nat} (h : Rs mg q δ te c x W) (s : At q m δ A0 B0 σ Hk H1) (hm : n + c ≤ m) (k : FinW mg q n δ A0 B0 Hk H1 x W σ) : tDrop te D σ H1 := h σ Hk H1 n s.sg (s.ok.mono hm) (fun C hC Hk' H2 g o => k C hC Hk' H2 g ⟨o, s.sg.mono g.k, s.gr.trans g⟩) _
theorem q_dropR {m : Nat} (h : Rs mg q δ te c x W) (s : At q m δ A0 B0 σ Hk H1) (hm : n + c ≤ m) (k : FinW mg q n δ A0 B0 Hk H1 x W σ) : tSeq (tDrop te) tz D σ H1 := s_dropR (D := { D with nx := tz D }) h s hm k
/-- the error leaves the def -/
theorem fin_w {E : XK} {m : Nat} {δ' : List Sl} {Hk0 H10 : Hp} (f : FinE mg q n A0 B0 x E) (l : n ≤ m) : FinW mg q m δ' A0 B0 Hk0 H10 x (fun cls d _ H => E cls d H) σ := fun C hC Hk' H2 _ a => f C hC Hk' H2 a.gr (a.ok.mono l)
/-- raise X() -/
theorem s_raise {E : XK} {m : Nat} {C : Addr} (f : FinE mg q n A0 B0 x E) (s : At q m δ A0 B0 σ Hk H1) (hm : n ≤ m) (hC : mg x = some (.ref C)) : E (.ref C) none H1 := f C hC Hk H1 s.gr (s.ok.mono hm)
theorem ref_inj {C C' : Addr} (h : mg x = some (.ref C)) (h' : mg x = some (.ref C')) : C = C' := by
  rw [h] at h'
  cases h'; rfl
/-! ### the clauses of a try -/
theorem w_as {c : Value} {i : Nat} {ts : Addr → Value → Option Addr → TS} {Wout : WX} {cls : Value} {d : Option Addr} {H : Hp} (e : PySem.W.exmOne K cls c = some true)
    (h : ∀ a, H a = none → ts a cls d { nx := fun σ' H' => D.nx (σ'.set i none) H', rt := D.rt, bk := fun σ' H' => D.bk (σ'.set i none) H', ct := fun σ' H' => D.ct (σ'.set i none) H' } (σ.set i (some (.ref a))) H) : wAs K c i ts Wout D cls d σ H :=
  ⟨true, e, fun _ => h, fun z => nomatch z⟩
/-- the clause's name is bound, then gone -/
theorem At.bound {i : Nat} {a : Addr} (s : At q n δ A0 B0 σ Hk H1) : At q n (δ.set i (.adr a)) A0 B0 (σ.set i (some (.ref a))) Hk H1 := ⟨s.ok, s.sg.set i (s := .adr a) rfl, s.gr⟩
theorem At.unbound {i : Nat} (s : At q n δ A0 B0 σ Hk H1) : At q n (δ.set i .any) A0 B0 (σ.set i none) Hk H1 := ⟨s.ok, ⟨by rw [List.length_set, List.length_set]; exact s.sg.1, fun j t e ne => by
  by_cases hj : i = j
  · subst hj
    by_cases hl : i < δ.length
    · rw [List.getElem?_set_self hl] at e
      cases e
      exact absurd rfl ne
    · rw [List.getElem?_eq_none (by rw [List.length_set]; omega)] at e; cases e
  · rw [List.getElem?_set_ne hj] at e ⊢
    exact s.sg.2 j t e ne⟩, s.gr⟩
end
/-! ### instances as data -/
def Kn (K : PySem.W.Frag) (d : PyData) : Prop := top d = true ∨ ∃ C, d = insD C ∧ Cls K C ∧ InsC K C
def deep : Nat → PyData → Bool
  | 0, d => top d
  | n + 1, .tuple ds => ds.all (deep n)
  | _ + 1, d => top d
theorem deep_top : ∀ {n : Nat} {d : PyData}, deep n d = true → top d = true
  | 0, _, h => h
  | _ + 1, .tuple _, _ => rfl
  | _ + 1, .none, _ => rfl
  | _ + 1, .bool _, _ => rfl
  | _ + 1, .int _, _ => rfl
  | _ + 1, .str _, _ => rfl
  | _ + 1, .list _, _ => rfl
  | _ + 1, .dict _, h => h
/-- what a check may be handed -/
structure Odd (K : PySem.W.Frag) (d : PyData) : Prop where
  sh : ShortT d
  kn : Kn K d
  dp : ∀ ds, d = .tuple ds → ∀ x ∈ ds, deep 1 x = true
theorem Odd.of {K : PySem.W.Frag} {d : PyData} (s : ShortT d) (h : deep 2 d = true) : Odd K d := ⟨s, .inl (deep_top h), fun ds e x hx => by
  subst e
  exact List.all_eq_true.mp h x hx⟩
theorem Odd.ins {K : PySem.W.Frag} {C : Addr} (c : Cls K C) (i : InsC K C) : Odd K (insD C) := ⟨fun ds e => by (cases e), .inr ⟨C, rfl, c, i⟩, fun ds e => by (cases e)⟩
theorem deep_pr (n : Nat) (x : Int × Int) : deep n (pr x) = true := by
  cases n with
  | zero => rfl
  | succ n => cases n <;> rfl
theorem deep_pd (n : Nat) (l : List (Int × Int)) : (pd l).all (deep n) = true := List.all_eq_true.mpr fun d hd => by
  obtain ⟨x, _, rfl⟩ := List.mem_map.mp hd
  exact deep_pr n x
theorem deep_led (n : Nat) (l : List (Int × Int)) : deep n (led l) = true := by
  cases n with
  | zero => rfl
  | succ n => exact deep_pd n l
theorem deep_ints (n : Nat) (f : List Int) : (f.map PyData.int).all (deep n) = true := List.all_eq_true.mpr fun d hd => by
  obtain ⟨x, _, rfl⟩ := List.mem_map.mp hd
  cases n <;> rfl
theorem deep_pol (n : Nat) (f : List Int) : deep n (pol f) = true := by
  cases n with
  | zero => rfl
  | succ n => exact deep_ints n f
/-! ### what the checks ask -/
def isFromD (j : Int) : PyData → Bool
  | .int i => decide (j ≤ i)
  | _ => false
def isSumsD : PyData → Bool
  | .tuple ds => decide ((0 : Int) < (ds.length : Int)) && ds.all isIntD
  | _ => false
def lenD : PyData → Nat
  | .tuple ds => ds.length
  | _ => 0
theorem len_pol (f : List Int) : lenD (pol f) = f.length := List.length_map ..
theorem pol_isSums {f : List Int} (h : f ≠ []) : isSumsD (pol f) = true := by
  have h0 := List.length_pos_iff.mpr h
  show (decide ((0 : Int) < ((f.map PyData.int).length : Int)) && (f.map PyData.int).all isIntD) = true
  rw [List.length_map, decide_eq_true (by omega), Bool.true_and]
  exact List.all_eq_true.mpr fun d hd => by
    obtain ⟨x, _, rfl⟩ := List.mem_map.mp hd
    rfl
section
variable {K : PySem.W.Frag} {q : Option Addr} {δ : List Sl} {te : TE} {d : PyData}
theorem e_isiT (h : E q δ te d) (kn : Kn K d) : E q δ (tCB (rIsiU K) (tCons te (tCons (tC (.ty "tuple")) tNil))) (.bool (isiTup d)) := by
  rcases kn with ht | ⟨C, rfl, cl, ic⟩
  · exact e_isi h (kit_tuple d) ht
  · exact fun σ H H1 m sg o Q k => h σ H H1 m sg o _ fun x v Hk H2 g o1 e dv => by
      subst e
      cases dv with
      | ins ha => exact .inl ⟨_, .ty "tuple", .ref C, .type "tuple", false, rfl, .ty "tuple", .base (.ins (g.a _ _ ha) cl ic.ha ic.hn ic.htk ic.hm), ic.kt, k _ _ Hk H2 g o1 rfl (.bl false)⟩
theorem e_isiI (h : E q δ te d) (kn : Kn K d) : E q δ (tCB (rIsiU K) (tCons te (tCons (tC (.ty "int")) tNil))) (.bool (isiInt d)) := by
  rcases kn with ht | ⟨C, rfl, cl, ic⟩
  · exact e_isi h (kit_int d) ht
  · exact fun σ H H1 m sg o Q k => h σ H H1 m sg o _ fun x v Hk H2 g o1 e dv => by
      subst e
      cases dv with
      | ins ha => exact .inl ⟨_, .ty "int", .ref C, .type "int", false, rfl, .ty "int", .base (.ins (g.a _ _ ha) cl ic.ha ic.hn ic.htk ic.hm), ic.ki, k _ _ Hk H2 g o1 rfl (.bl false)⟩
theorem int_top (h : isiInt d = true) : top d = true := by cases d <;> first | rfl | cases h
theorem kn_deep {n : Nat} (h : deep n d = true) : Kn K d := .inl (deep_top h)
/-- an instance made, told as data -/
theorem e_make {C : Addr} {fld : Str} {Pd : PyData → Prop} {E1 : XK} (h : E q δ te d) (hp : Pd d) : E q δ (tMake C (spI C fld Pd) [] E1 (tCons te tNil)) (insD C) := fun σ H H1 n sg o Q k =>
  h σ H H1 n sg o _ fun d' v Hk H2 g o2 ed dv => by
    subst ed
    intro x dx h1 h2 h3
    have hka : Hk x = none := o2.a.free h1
    refine ⟨q, Hk, H2, n, x, dx, v, _, rfl, rfl, h1, h2, h3, o2, dv, hp, fun Hk' H3 g3 o3 ⟨fs, e3⟩ => ⟨rfl, ?_⟩⟩
    have nq : q ≠ some x := fun e => (o2.j x e).ne h1
    have hH1 : H1 x = none := Classical.byContradiction fun z => g.t x z h1
    cases hk3 : Hk' x with
    | some o =>
      have e4 := g3.a x o hk3
      rw [e3] at e4
      cases e4
      exact k _ _ Hk' H3 (g.trans g3) o3 rfl (.ins hk3)
    | none =>
      have gf := (g.trans g3).freeze hH1 hk3 e3
      exact k _ _ (upd Hk' x (.ins C dx fs)) H3 gf ⟨gf.a, fun r er => by rw [upd_ne (fun z => nq (by rw [← z]; exact er))]; exact o3.kf r er, o3.j⟩ rfl (.ins upd_same)
/-! ### bad pieces -/
theorem j_catX {ta tb : TE} {c1 c2 : Nat} {P1 P2 : List PyData → Prop} {Φ : PyData → Prop} (ha : J q δ ta c1 (fun d => ∃ ds, P1 ds ∧ d = .tuple ds)) (hb : J q δ tb c2 (fun d => ∃ ds, P2 ds ∧ d = .tuple ds)) (hp : ∀ ds es, P1 ds → P2 es → ds.length + es.length ≤ 1000000 ∧ Φ (.tuple (ds ++ es))) : J q δ (tOp (rAddU K) ta tb) (c2 + c1) Φ :=
  j_op ha hb fun a b ⟨ds, p1, ea⟩ ⟨es, p2, eb⟩ => by
    subst ea; subst eb
    have z := hp ds es p1 p2
    exact (rj_catT (ds := ds) (es := es) (Φ := Φ) z.1 z.2).to fun _ _ _ _ h => .inr (.inr h)
theorem j_one {c : Nat} {Φ : PyData → Prop} (h : J q δ te c Φ) : J q δ (tTup (tCons te tNil)) c (fun d => ∃ ds, (∃ x, Φ x ∧ ds = [x]) ∧ d = .tuple ds) :=
  (j_tup (Ψ := fun ds => ∃ x, Φ x ∧ ds = [x]) ((aj_cons (c1 := c) (c2 := 0) (Φr := fun sls => sls = []) h ae_nil fun d sls pd e => ⟨[d], by rw [e]; rfl, by simp, d, pd, rfl⟩).cost (by omega)))
/-- t[:a] + (x,) + t[b:] -/
theorem j_putT {tt ti tj : TE} {ds : List PyData} {a b c : Nat} {Φ : PyData → Prop} (h1 : E q δ tt (.tuple ds)) (ha : E q δ ti (.int (a : Int))) (hb : E q δ tj (.int (b : Int))) (hd : J q δ te c Φ) (hl : ds.length ≤ 400000) :
    J q δ (tOp (rAddU K) (tOp (rAddU K) (tSl (rSlU K) tt tNoPart (tPart ti)) (tTup (tCons te tNil))) (tSl (rSlU K) tt (tPart tj) tNoPart)) c (fun x => ∃ d, Φ d ∧ x = .tuple (ds.take a ++ [d] ++ ds.drop b)) :=
  (j_catX (c1 := c) (c2 := 0) (P1 := fun es => ∃ d, Φ d ∧ es = ds.take a ++ [d]) (P2 := fun es => es = ds.drop b)
    ((j_catX (c1 := 0) (c2 := c) (P1 := fun es => es = ds.take a) (P2 := fun es => ∃ x, Φ x ∧ es = [x]) ((e_slT h1 to_none (to_some ha)).imp fun d e => ⟨_, rfl, by rw [e, cutD_to]⟩) (j_one hd) fun es fs e1 ⟨x, px, e2⟩ => by
      subst e1; subst e2
      exact ⟨by rw [List.length_take, List.length_singleton]; omega, _, ⟨x, px, rfl⟩, rfl⟩).cost (by omega))
    ((e_slT h1 (to_some hb) to_none).imp fun d e => ⟨_, rfl, by rw [e, cutD_from]⟩) fun es fs ⟨d, pd, e1⟩ e2 => by
      subst e1; subst e2
      exact ⟨by rw [List.length_append, List.length_take, List.length_singleton, List.length_drop]; omega, d, pd, rfl⟩).cost (by omega)
theorem e_putT {tt ti tj : TE} {ds : List PyData} {a b : Nat} {d : PyData} (h1 : E q δ tt (.tuple ds)) (ha : E q δ ti (.int (a : Int))) (hb : E q δ tj (.int (b : Int))) (hd : E q δ te d) (hl : ds.length ≤ 400000) :
    E q δ (tOp (rAddU K) (tOp (rAddU K) (tSl (rSlU K) tt tNoPart (tPart ti)) (tTup (tCons te tNil))) (tSl (rSlU K) tt (tPart tj) tNoPart)) (.tuple (ds.take a ++ [d] ++ ds.drop b)) :=
  (j_putT h1 ha hb hd hl).imp fun x ⟨d', e, ex⟩ => by rw [ex, e]
/-- [a, b, ..][i] -/
theorem j_ixOf {tl ti : TE} {c : Nat} {ds : List PyData} {Φ : PyData → Prop} (hl : E q δ tl (.list ds)) (hi : J q δ ti c (IntP fun x => 0 ≤ x ∧ x < (ds.length : Int))) (h : ∀ d ∈ ds, Φ d) : J q δ (tOp (rIx K) tl ti) c Φ :=
  (j_iL (c1 := 0) (c2 := c) (P := fun x => 0 ≤ x ∧ x < (ds.length : Int)) (Ψ := fun es => es = ds) (hl.imp fun d e => ⟨_, rfl, e⟩) hi fun es i he hi => by
    subst he
    obtain ⟨k, rfl⟩ : ∃ k : Nat, i = (k : Int) := ⟨i.toNat, by omega⟩
    have hk : k < es.length := by omega
    exact ⟨es[k], atI_nat (List.getElem?_eq_getElem hk), h _ (List.getElem_mem hk)⟩).cost (by omega)
theorem deep_cut {n a b : Nat} {ds : List PyData} {d : PyData} (h : ds.all (deep n) = true) (hd : deep n d = true) : deep (n + 1) (.tuple (ds.take a ++ [d] ++ ds.drop b)) = true := by
  show (ds.take a ++ [d] ++ ds.drop b).all (deep n) = true
  refine List.all_eq_true.mpr fun x hx => ?_
  have h' := List.all_eq_true.mp h
  rcases List.mem_append.mp hx with z | z
  · rcases List.mem_append.mp z with z | z
    · exact h' x (List.mem_of_mem_take z)
    · rw [List.mem_singleton.mp z]; exact hd
  · exact h' x (List.mem_of_mem_drop z)
theorem short_cut {a b : Nat} {ds : List PyData} {d : PyData} (h : ds.length ≤ 40000) : ShortT (.tuple (ds.take a ++ [d] ++ ds.drop b)) := short_tup (by rw [List.length_append, List.length_append, List.length_take, List.length_singleton, List.length_drop]; omega)
/-- one piece that is no pair with an amount -/
theorem no_led {ds : List PyData} {d : PyData} (hm : d ∈ ds) (h : ∀ y : Int × Int, y.2 ≠ 0 → d ≠ pr y) : isLedD (.tuple ds) = false := Bool.eq_false_iff.mpr fun z => by
  obtain ⟨l, hL, e⟩ := led_of z
  rw [e] at hm
  obtain ⟨y, hy, ey⟩ := List.mem_map.mp hm
  exact h y (hL.2 y hy) ey.symm
theorem led_lt2 {l : List (Int × Int)} (hL : Led l) {a b : Nat} {u v : Int × Int} (eu : l[a]? = some u) (ev : l[b]? = some v) (h : a < b) : u.1 < v.1 := by
  obtain ⟨ha, rfl⟩ := List.getElem?_eq_some_iff.mp eu
  obtain ⟨hb, rfl⟩ := List.getElem?_eq_some_iff.mp ev
  exact List.pairwise_iff_getElem.mp hL.1 a b ha hb h
theorem beq_cast (w k : Nat) : (((w : Nat) : Int) == ((k : Nat) : Int)) = (w == k) := by
  by_cases h : w = k
  · subst h; simp
  · have h1 : (((w : Nat) : Int) == ((k : Nat) : Int)) = false := by simpa using (by omega : ¬ ((w : Nat) : Int) = ((k : Nat) : Int))
    rw [h1]; symm; simpa using h
/-- two neighbours that don't ascend -/
theorem no_led2 {A B : List PyData} {u v : Int × Int} (h : ¬ u.1 < v.1) : isLedD (.tuple (A ++ [pr u, pr v] ++ B)) = false := Bool.eq_false_iff.mpr fun z => by
  obtain ⟨l, hL, e⟩ := led_of z
  have e' : A ++ [pr u, pr v] ++ B = l.map pr := e
  obtain ⟨l1, l2, rfl, e1, e2⟩ := List.map_eq_append_iff.mp e'.symm
  obtain ⟨l3, l4, rfl, e3, e4⟩ := List.map_eq_append_iff.mp e1
  have e5 : l4 = [u, v] := pd_inj (show pd l4 = pd [u, v] from e4)
  subst e5
  have hp := (List.pairwise_append.mp (List.pairwise_append.mp hL.1).1).2.1
  exact h ((List.pairwise_cons.mp hp).1 v (by simp))
theorem no_ledR {l : List (Int × Int)} (hL : Led l) (h : 1 < l.length) : isLedD (.tuple (pd l).reverse) = false := Bool.eq_false_iff.mpr fun z => by
  obtain ⟨m, hm, e⟩ := led_of z
  have e2 : l.reverse = m := pd_inj (by rw [← e]; unfold pd; rw [List.map_reverse])
  rw [← e2] at hm
  have h2 := List.pairwise_reverse.mp hm.1
  match l, h with
  | x :: y :: t, _ =>
    have a := (List.pairwise_cons.mp hL.1).1 y (by simp)
    have b := (List.pairwise_cons.mp h2).1 y (by simp)
    omega
/-! ### what a drawn piece of another kind may be -/
/-- isinstance(e, X) of the error in hand -/
def rIsEG (K : PySem.W.Frag) (cls : Value) (d : Option Addr) (a : Addr) : List V → Hp → VK → Prop := fun xs H Q => ∃ D, cls = .ref D ∧ d = none ∧ ExcC K D ∧ rIsE K D a xs H Q
theorem call_isEG {X : Cx} {a : Addr} {cls : Value} {dd : Option Addr} {oe : Obj} {pn : List (Addr × Obj)} (hz : Zc cls dd oe) (hf : ∃ vs, oe.data = .fields vs) : CallR (X.suite a ((a, oe) :: pn)) (.builtin "isinstance") (rIsEG X.K cls dd a) := by
  intro pins s σ H xs us Q I r h
  obtain ⟨D, rfl, rfl, C, h⟩ := h
  exact call_isE C hz hf pins s σ H xs us Q I r h
theorem e_isE {i : Nat} {a D : Addr} (hi : δ[i]? = some (.adr a)) (c : ExcC K D) (hk : PySem.W.kitOne K (.ref D) (.type "ValueError") = some true) : E q δ (tCB (rIsEG K (.ref D) none a) (tCons (tVar i) (tCons (tC (.ty "ValueError")) tNil))) (.bool true) := fun σ H H1 n sg o Q k =>
  ⟨.ref a, sg.getA hi, D, rfl, rfl, c, .ty "ValueError", .type "ValueError", true, rfl, (fun u r => r), hk, k _ _ H H1 (Gr.refl o.a) o rfl (.bl true)⟩
end

/-! ### a list of pieces that is bent at some of its places -/
section
variable {K : PySem.W.Frag} {q : Option Addr} {n : Nat} {δ δ' : List Sl} {te ta tb ti : TE} {c c1 c2 : Nat} {Φ : PyData → Prop} {d : PyData} {A0 B0 Hk H1 : Hp} {σ : L2.St} {D : Ends} {tz tbody : TS} {g : TG} {p : Addr} {ds : List PyData} {ΨB : List Bool → Prop}
end
section
variable {K : PySem.W.Frag} {q : Option Addr} {δ : List Sl} {wi : TI} {Φ : PyData → Prop}
theorem bools_of : ∀ {rs : List PyData}, (∀ d ∈ rs, BoolP (fun _ => True) d) → ∃ bs : List Bool, rs = bs.map .bool
  | [], _ => ⟨[], rfl⟩
  | d :: rs, h => by
    obtain ⟨bs, e⟩ := bools_of (rs := rs) fun x hx => h x (List.mem_cons_of_mem _ hx)
    obtain ⟨b, _, eb⟩ := h d List.mem_cons_self
    exact ⟨b :: bs, by rw [eb, e]; rfl⟩
theorem _root_.Cr.IE.lcd {es : List PyData} (h : IE q δ wi es) : IJ q δ wi 0 (fun items => ∃ xs : List PyData, xs = es ∧ items = xs.map id) := fun σ H H1 n sg o R k => h σ H H1 n sg o R fun items Jt Hk H2 g o' e w => k items Jt Hk H2 g o' ⟨es, rfl, by rw [List.map_id]; exact e⟩ w
end
/-! ### keys and widths judged -/
end Cr

set_option Elab.async false
set_option linter.all false
set_option maxRecDepth 100000
set_option maxHeartbeats 800000
/-! list.count(True), index(True) of lists of bools, list(..) of data -/
namespace Cr
open PySem PySem.Spec PyProof.Rows L2
section
variable {X : Cx}
/-- l.count(x) of flat values -/
def rCntV (K : PySem.W.Frag) : V → List V → Hp → VK → Prop := fun x xs H Q => ∃ (a : Addr) (ys : List V) (y : V), x = V.ref a ∧ xs = [y] ∧ SqL K H a ys ∧ flatV y = true ∧ ys.all flatV = true ∧ Q (.int (ys.countP fun z => eqV z y : Nat)) H
theorem cnt_eq {y : V} : ∀ {ys : List V} {us : List Value}, Vals ys us → ys.all flatV = true → us.countP (eqU y) = ys.countP fun z => eqV z y
  | _, _, .nil, _ => rfl
  | z :: ys, u :: us, .cons r t, f => by
    rw [List.all_cons, Bool.and_eq_true] at f
    rw [List.countP_cons, List.countP_cons, cnt_eq t f.2, eqU_of r f.1]
theorem mt_lcntV : MtR X "list.count" (rCntV X.K) := by
  intro pins s σ H x xs v us Q I rx rxs h
  obtain ⟨a, ys, y, rfl, rfl, hs, fy, fys, q⟩ := h
  cases rx
  cases rxs with
  | cons ry rt =>
    rename_i uy ut
    cases rt
    obtain ⟨its, rv, ⟨⟨cls, dd, data, sl⟩, n, ho, hc, hdn, hd⟩, hlen⟩ := I.list hs
    simp only at hc hd
    subst hc hd
    refine call_meets PySem.F.slot_list_count ⟨_, ho, rfl⟩ PySem.F.entry_list_count (PySem.F.args_list_count_2 _ _)
      (SeqAt.list_countAt a its.toArray n dd sl uy (eqU y)) ⟨ho, fun u' hu' => mem_eqAt ry fy rv fys u' (by simpa using hu'), ?_⟩
    have ec : its.toArray.toList.countP (eqU y) = ys.countP fun z => eqV z y := cnt_eq rv fys
    refine ⟨.int (ys.countP fun z => eqV z y : Nat), H, I.tok _, ⟨s.toks, ?_⟩, q⟩
    show Value.int ((its.toArray.toList.countP (eqU y) : Nat) : Int) s.toks = Value.int (((ys.countP fun z => eqV z y) : Nat) : Int) s.toks
    rw [ec]
end
section
variable {K : PySem.W.Frag} {q : Option Addr} {δ : List Sl} {te te2 : TE}
/-- bs.count(True) -/
theorem e_countB {bs : List Bool} {b : Bool} (h : E q δ te (.list (bs.map .bool))) (h2 : E q δ te2 (.bool b)) : E q δ (tBM K "list" (rCntV K) te (tCons te2 tNil)) (.int (bs.count b : Nat)) := fun σ H H1 n sg o Q k =>
  h σ H H1 n sg o _ fun d v Hk H2 g o1 e dv => by
    subst e
    obtain ⟨a, xs, rfl, h1, hd⟩ := dv.lstOf
    have e2 : xs = bs.map V.bl := DqAll.bls hd
    subst e2
    refine ⟨.inl ⟨rfl, _, .inl (.inl (o1.a _ _ h1))⟩, h2 σ Hk H2 n (sg.mono g.k) o1 _ fun d' w Hk3 H3 g3 o3 e3 dw => ?_⟩
    subst e3
    rw [dw.blOf]
    have h3 := o3.a _ _ (g3.k _ _ h1)
    refine ⟨a, bs.map V.bl, .bl b, rfl, rfl, .inl (.inl h3), rfl, List.all_eq_true.mpr fun z hz => ?_, ?_⟩
    · obtain ⟨i, _, rfl⟩ := List.mem_map.mp hz; rfl
    · rw [List.countP_map]
      exact k _ _ Hk3 H3 (g.trans g3) o3 (by rfl) (.int _)
/-- bs.index(True) -/
theorem e_indexB {bs : List Bool} {b : Bool} {j : Nat} (h : E q δ te (.list (bs.map .bool))) (h2 : E q δ te2 (.bool b)) (hj : bs[j]? = some b) (hm : ∀ m < j, bs[m]? ≠ some b) : E q δ (tBM K "list" (rIndex K) te (tCons te2 tNil)) (.int (j : Int)) := fun σ H H1 n sg o Q k =>
  h σ H H1 n sg o _ fun d v Hk H2 g o1 e dv => by
    subst e
    obtain ⟨a, xs, rfl, h1, hd⟩ := dv.lstOf
    have e2 : xs = bs.map V.bl := DqAll.bls hd
    subst e2
    refine ⟨.inl ⟨rfl, _, .inl (.inl (o1.a _ _ h1))⟩, h2 σ Hk H2 n (sg.mono g.k) o1 _ fun d' w Hk3 H3 g3 o3 e3 dw => ?_⟩
    subst e3
    rw [dw.blOf]
    have h3 := o3.a _ _ (g3.k _ _ h1)
    refine ⟨a, bs.map V.bl, .bl b, j, .bl b, rfl, rfl, .inl (.inl h3), rfl, List.all_eq_true.mpr fun z hz => ?_, by rw [List.getElem?_map, hj]; rfl, by simp [eqV], fun m z hmj hz => ?_, k _ _ Hk3 H3 (g.trans g3) o3 rfl (.int _)⟩
    · obtain ⟨i, _, rfl⟩ := List.mem_map.mp hz; rfl
    · rw [List.getElem?_map] at hz
      obtain ⟨i, hi, rfl⟩ := Option.map_eq_some_iff.mp hz
      have hne : i ≠ b := fun e => hm m hmj (by rw [← e]; exact hi)
      simp [eqV, hne]
end
/-! isinstance(e, C) of the error in hand, C an own class -/
section
variable {K : PySem.W.Frag} {q : Option Addr} {δ : List Sl}
theorem k_lcnt {X : Cx} {K : PySem.W.Frag} (hK : X.K = K) : MtR X "list.count" (rCntV K) := hK ▸ mt_lcntV
theorem kit_ownT {C D : Addr} (hd : PySem.W.hasDictIn K C = true) (ht : PySem.W.typeIn K (.ref C) = some (.type "type")) (h : PySem.W.subIn K (.ref D) (.ref C) = some true) : PySem.W.kitOne K (.ref D) (.ref C) = some true := by
  obtain ⟨cd, hc, _⟩ := PySem.W.any_some hd
  unfold PySem.W.kitOne
  split
  · rfl
  · show (if ((PySem.W.clsIn K C).isSome && PySem.W.typeIn K (.ref C) == some (.type "type")) = true then PySem.W.subIn K (.ref D) (.ref C) else none) = some true
    rw [if_pos (by rw [hc, ht]; rfl)]
    exact h
theorem kit_ownF {C D : Addr} (hd : PySem.W.hasDictIn K C = true) (ht : PySem.W.typeIn K (.ref C) = some (.type "type")) (hC : PySem.W.subIn K (.ref C) (.ref C) = some true) (h : PySem.W.subIn K (.ref D) (.ref C) = some false) : PySem.W.kitOne K (.ref D) (.ref C) = some false := by
  obtain ⟨cd, hc, _⟩ := PySem.W.any_some hd
  unfold PySem.W.kitOne
  split
  · rename_i e
    have e2 : D = C := Value.ref.inj (eq_of_beq e)
    rw [e2, hC] at h
    cases h
  · show (if ((PySem.W.clsIn K C).isSome && PySem.W.typeIn K (.ref C) == some (.type "type")) = true then PySem.W.subIn K (.ref D) (.ref C) else none) = some false
    rw [if_pos (by rw [hc, ht]; rfl)]
    exact h
theorem e_isX {i : Nat} {a D C : Addr} {b : Bool} (hi : δ[i]? = some (.adr a)) (c : ExcC K D) (hk : PySem.W.kitOne K (.ref D) (.ref C) = some b) : E q δ (tCB (rIsEG K (.ref D) none a) (tCons (tVar i) (tCons (tC (.ref C)) tNil))) (.bool b) := fun σ H H1 n sg o Q k =>
  ⟨.ref a, sg.getA hi, D, rfl, rfl, c, .ref C, .ref C, b, rfl, (fun u r => r), hk, k _ _ H H1 (Gr.refl o.a) o rfl (.bl b)⟩
end
/-! ### def f( *v ) that raises -/
section
variable {P : Program} {w : World} {K : PySem.W.Frag} {mg : Str → Option Value} {base : Heap} {k : Nat} {f : Addr} {sp s1 s2 : Sp} {CX : CXT}
end
section
variable {K : PySem.W.Frag} {mg : Str → Option Value} {q : Option Addr} {δ : List Sl} {ta : TA} {c c1 : Nat} {x : Str} {Φa : List Sl → Prop} {B : RelE} {R : RelX} {s1 s2 : Sp} {Φ : PyData → Prop}
end
/-! [a, b, ..][i] of drawn values of any kind -/
section
variable {K : PySem.W.Frag} {q : Option Addr} {δ : List Sl} {te ti : TE} {tl tr : TA} {c c1 c2 ci N : Nat} {Φ : PyData → Prop}
def AJP (q : Option Addr) (δ : List Sl) (ta : TA) (c N : Nat) (Φ : PyData → Prop) : Prop := AJ q δ ta c (fun sls => ∃ ds : List PyData, sls = ds.map Sl.dat ∧ ds.length = N ∧ ∀ x ∈ ds, Φ x)
theorem ajq_nil : AJP q δ tNil 0 0 Φ := AJ.imp ae_nil fun _ e => ⟨[], e, rfl, by simp⟩
theorem ajq_cons (h : J q δ te c1 Φ) (t : AJP q δ tr c2 N Φ) : AJP q δ (tCons te tr) (c2 + c1) (N + 1) Φ := aj_cons h t fun d sls pd ⟨ds, e2, hl, hp⟩ => ⟨d :: ds, by rw [e2]; rfl, by rw [List.length_cons, hl], fun x hx => by
  rcases List.mem_cons.mp hx with h | h
  · rw [h]; exact pd
  · exact hp x h⟩
theorem j_menuP (h : AJP q δ tl c N Φ) (hN : N ≤ 1000000) (hi : J q δ ti ci (IntP fun i => 0 ≤ i ∧ i < N)) : J q δ (tOp (rIx K) (tLst tl) ti) (ci + c) Φ := by
  refine j_iL (Ψ := fun ds => ds.length = N ∧ ∀ x ∈ ds, Φ x) (j_lst (AJ.imp h fun sls ⟨ds, e, hl, hp⟩ => ⟨ds, e, by omega, hl, hp⟩)) hi fun ds i ⟨hl, hp⟩ hi => ?_
  have hlt : i.toNat < ds.length := by omega
  refine ⟨ds[i.toNat], ?_, hp _ (List.getElem_mem hlt)⟩
  have h3 := atI_nat (List.getElem?_eq_getElem hlt)
  rw [Int.toNat_of_nonneg hi.1] at h3
  exact h3
end
section
variable {K : PySem.W.Frag} {q : Option Addr} {n : Nat} {δ : List Sl} {te ti : TE} {A0 B0 Hk H1 : Hp} {σ : L2.St} {D : Ends} {tz : TS} {d1 d2 d3 d4 d5 d6 : PyData}
theorem k_pgLst {X : Cx} {pos : Pos} {K : PySem.W.Frag} (hK : X.K = K) {es : List Expr} {k : Nat} {t : TGs} {n : Nat} (hc : X.calm = true) (h : PGs X es t)
    (hn : (assignEach es X.env).length = n := by rfl) (hst : (assignEach es X.env).findIdx? (·.1) = none := by rfl) : PG X (.Tuple es k pos) (gLst K n t) := hK ▸ pg_lst hc h hn hst
end
section
variable {mg : Str → Option Value} {q : Option Addr} {δ : List Sl} {te : TE} {ta : TA} {c : Nat} {x : Str} {W : WX}
end
/-! rows of sums judged -/
section
variable {K : PySem.W.Frag} {q : Option Addr} {δ : List Sl} {te te2 : TE} {c : Nat} {ds : List PyData}
end
section
variable {K : PySem.W.Frag} {q : Option Addr} {n : Nat} {δ : List Sl} {ta tb ti te : TE} {tr : TA} {c c1 c2 : Nat} {A0 B0 Hk H1 : Hp} {σ : L2.St} {D : Ends} {p : Addr} {ds : List PyData} {d : PyData} {Φ1 : PyData → Prop} {Φr : List Sl → Prop}
theorem aj_kn (h : E q δ te d) (hr : AJ q δ tr c Φr) : AJ q δ (tCons te tr) c (fun sls => ∃ s', Φr s' ∧ sls = .dat d :: s') := (aj_cons (c1 := 0) (c2 := c) (Φr := Φr) h hr fun d' sls e p => ⟨sls, p, by rw [e]⟩).cost (by omega)
theorem aj_dr (h : J q δ te c1 Φ1) (hr : AJ q δ tr c2 Φr) : AJ q δ (tCons te tr) (c2 + c1) (fun sls => ∃ d s', Φ1 d ∧ Φr s' ∧ sls = .dat d :: s') := aj_cons h hr fun d' sls e p => ⟨d', sls, e, p, rfl⟩
end
section
variable {K : PySem.W.Frag} {q : Option Addr} {n : Nat} {δ : List Sl} {te : TE} {c : Nat} {A0 B0 Hk H1 : Hp} {σ : L2.St} {D : Ends} {p : Addr} {ds : List PyData} {Φ : PyData → Prop}
/-- xs[j] = e at a written place -/
theorem s_putC {i j : Nat} (h : J q δ te c Φ) (s : At q (n + c) δ A0 B0 σ Hk H1) (cl : Cell q B0 Hk H1 p ds) (hi : δ[i]? = some (.adr p)) (hj : j < ds.length)
    (k : ∀ d Hk' H2, Φ d → Same Hk Hk' → At q n δ A0 B0 σ Hk' H2 → Cell q B0 Hk' H2 p (ds.set j d) → D.nx σ H2) : tAsg te (gSub (tVar i) (tC (.int (j : Int))) rSetL) D σ H1 :=
  h σ Hk H1 n s.sg s.ok _ fun d v Hk2 H2 g o pd dv => by
    have a : At q n δ A0 B0 σ Hk2 H2 := ⟨o, s.sg.mono g.k, s.gr.trans g⟩
    have cl3 := cl.go g
    obtain ⟨xs, ex, hd⟩ := cl3.ex
    refine ⟨.ref p, a.sg.getA hi, p, xs, (j : Int), j, rfl, rfl, ex, ?_, k d Hk2 _ pd g.k ⟨o.cell cl3.nk cl3.nq, a.sg, a.gr.put cl3.nb cl3.nk⟩ ⟨cl3.nk, cl3.nq, cl3.nb, xs.set j v, upd_same, DqAll.set hd j dv⟩⟩
    rw [hd.length]; unfold ixN; rw [if_pos (by omega), if_pos (by omega)]; simp
end
end Cr

set_option Elab.async false
set_option linter.all false
set_option maxRecDepth 100000
set_option maxHeartbeats 1000001
namespace Zm
open PySem PySem.Spec PyProof.Rows L2 RZ
/-! ### zip(list, tuple) as it is walked -/
def ItzN (K : PySem.W.Frag) (a b : Addr) : It where
  go i H := ∃ (xs ys : List V) (x y : V), SqL K H a xs ∧ SqT K H b ys ∧ xs[i]? = some x ∧ ys[i]? = some y
  yld i H v H' := ∃ T x y, v = .ref T ∧ H T = none ∧ H' = upd H T (.tup [x, y]) ∧ (∀ xs, SqL K H a xs → xs[i]? = some x) ∧ ∀ ys, SqT K H b ys → ys[i]? = some y
  stop i H := ∃ xs ys : List V, SqL K H a xs ∧ SqT K H b ys ∧ (xs.length ≤ i ∨ ys.length ≤ i)
theorem turn_zipN {P : Program} {w : World} {K : PySem.W.Frag} {elts : List Expr} {kk : Nat} {tpos : Pos} {a b z TI TO i1 i2 : Addr} (D : ZipApart z TI TO i1 i2 a b) :
    Turn P w K (.Tuple elts kk tpos) (ItzN K a b) [z, TI, TO, i1, i2] z (fun i h => IsZip h z TI TO .none ∧ IsPair h TI (.ref i1) (.ref i2) ∧ (∃ x y, IsPair h TO x y) ∧ h.IsListIter i1 a i ∧ h.IsTupleIter i2 b i) where
  mem := List.mem_cons_self ..
  obj := fun i h ⟨kz, kI, ⟨x, y, kO⟩, ⟨o1, e1, _, d1⟩, ⟨o2, e2, _, d2⟩⟩ c hc => by
    simp only [List.mem_cons, List.mem_nil_iff, or_false] at hc
    rcases hc with rfl | rfl | rfl | rfl | rfl
    · exact ⟨_, kz, fun v q => nomatch q⟩
    · exact ⟨_, kI, fun v q => nomatch q⟩
    · exact ⟨_, kO, fun v q => nomatch q⟩
    · exact ⟨o1, e1, fun v q => by rw [d1] at q; cases q⟩
    · exact ⟨o2, e2, fun v q => by rw [d2] at q; cases q⟩
  keep := fun i h h' ⟨kz, kI, ⟨x, y, kO⟩, k1, k2⟩ u => ⟨u z (by simp) _ kz, u TI (by simp) _ kI, ⟨x, y, u TO (by simp) _ kO⟩, k1.at fun o e => u i1 (by simp) o e, k2.at fun o e => u i2 (by simp) o e⟩
  item := by
    rintro X rfl rfl rfl hc i pins s σ H E I hf ⟨kz, kI, ⟨x0, y0, kO⟩, k1, k2⟩ ⟨xs, ys, x, y, qx, qy, hx, hy⟩
    obtain ⟨its, rv, p, _⟩ := I.list qx
    obtain ⟨its2, rv2, p2, _⟩ := I.tuple qy
    obtain ⟨u, hu, ru⟩ := rv.get hx; obtain ⟨u2, hu2, ru2⟩ := rv2.get hy
    have lz : z < s.heap.objs.size := Heap.lt_size kz
    refine next_step D kz kI kO (nx_lst (k := i) (xs := its.toArray) (x := u) (by simpa using hu)) (nx_tup (k := i) (xs := its2.toArray) (x := u2) (by simpa using hu2)) ⟨k1, p.isList⟩ ⟨k2, p2⟩ fun g z' TO' k1' k2' hT hk => ?_
    refine ⟨_, rfl, wpAny_letOwnedTupleGo_zip (s := { s with heap := g }) z' fun g2 z2 sb => ?_⟩
    have T2 : g2.get? s.heap.objs.size = some { cls := .type "tuple", data := .seq #[u, u2] } := (sb.2 _ (Nat.ne_of_gt lz)).trans hT
    have nw : ObjOk X.prog X.w (upd H s.heap.objs.size (.tup [x, y])) g2 s.heap.objs.size (.tup [x, y]) := ⟨by show 2 ≤ sizeLine; decide, [u, u2], .cons ru (.cons ru2 .nil), ⟨_, T2, rfl, _, rfl⟩⟩
    have I1 : Inv X pins σ (upd H s.heap.objs.size (.tup [x, y])) { s with heap := g2 } := I.turnedNew (t' := s.toks) (ch := [z, TI, TO, i1, i2]) (fun c o hb e => (sb.2 c fun e' => hb (by simp [e'])).trans (hk c o (fun e' => hb (by simp [e'])) (fun e' => hb (by simp [e'])) (fun e' => hb (by simp [e'])) (fun e' => hb (by simp [e'])) e)) hf (Nat.le_refl _) nw
    refine ⟨.ref s.heap.objs.size, _, I1, rfl, ⟨_, x, y, rfl, I.hok.fresh (Nat.le_refl _), rfl, fun l hl => by rw [I.list_inj hl qx]; exact hx, fun l hl => by rw [I.tuple_inj hl qy]; exact hy⟩, ⟨z2, (sb.2 _ D.TIz).trans (hk _ _ D.TIz D.TITO D.TIi1 D.TIi2 kI), ⟨u, u2, (sb.2 _ D.TOz).trans TO'⟩, k1'.at fun o e => (sb.2 _ D.i1z).trans e, k2'.at fun o e => (sb.2 _ D.i2z).trans e⟩, fun c hcm => ?_⟩
    have hlt : c < s.heap.objs.size := by
      have hcm' := hcm
      simp only [List.mem_cons, List.mem_nil_iff, or_false] at hcm'
      rcases hcm' with rfl | rfl | rfl | rfl | rfl
      · exact lz
      · exact Heap.lt_size kI
      · exact Heap.lt_size kO
      · exact k1.elim fun _ e => Heap.lt_size e.1
      · exact k2.elim fun _ e => Heap.lt_size e.1
    rw [upd_ne (Nat.ne_of_lt hlt)]; exact (hf c hcm).1
  done := by
    rintro X rfl rfl rfl hc i pins s σ H E I hf ⟨kz, kI, ⟨x0, y0, kO⟩, k1, k2⟩ ⟨xs, ys, qx, qy, hend⟩
    obtain ⟨its, rv, p, _⟩ := I.list qx
    obtain ⟨its2, rv2, p2, _⟩ := I.tuple qy
    have m1 := rv.length
    have m2 := rv2.length
    have hh := I.ok.hd hc
    refine next_stop kz (i1 := i1) (i2 := i2) (fun A' E' R hA' kont => ?_) fun g hk => ⟨rfl, I.turnedL (t' := s.toks) (ch := [z, TI, TO, i1, i2]) (fun c o hb e => hk c o (fun e' => hb (by simp [e'])) (fun e' => hb (by simp [e'])) (fun e' => hb (by simp [e'])) (fun e' => hb (by simp [e'])) e) hf⟩
    by_cases h1 : xs.length ≤ i
    · exact zip_stop1 (hA'.trans hh) D kz kI kO (nd_lst (k := i) (xs := its.toArray) (by simp; omega)) ⟨k1, p.isList⟩ kont
    · have h2 : ys.length ≤ i := by rcases hend with h | h; exact absurd h h1; exact h
      exact zip_stop2 (hA'.trans hh) D kz kI kO (nx_lst (k := i) (xs := its.toArray) (x := its[i]'(by omega)) (by first | (simp; done) | (simp; omega))) (nd_tup (k := i) (xs := its2.toArray) (by simp; omega)) ⟨k1, p.isList⟩ ⟨k2, p2⟩ kont
  self := fun A i s Q E st q => wpAny_pyIter_zip st.1 q
/-! ### the call -/
abbrev hp1N (h : Heap) (l1 : Addr) : Heap := h.push { cls := .type "list_iterator", data := .fields #[.ref l1, .int 0 0] }
abbrev hp2N (h : Heap) (l1 l2 : Addr) : Heap := (hp1N h l1).push { cls := .type "tuple_iterator", data := .fields #[.ref l2, .int 0 0] }
abbrev hp3N (h : Heap) (l1 l2 : Addr) : Heap := (hp2N h l1 l2).push { cls := .type "tuple", data := .seq #[.ref h.objs.size, .ref (hp1N h l1).objs.size] }
abbrev hp4N (h : Heap) (l1 l2 : Addr) : Heap := (hp3N h l1 l2).push { cls := .type "tuple", data := .seq #[.none, .none] }
abbrev hp5N (h : Heap) (l1 l2 : Addr) : Heap := (hp4N h l1 l2).push { cls := .type "zip", data := .fields #[.none, .bool false, .bool false, .ref (hp2N h l1 l2).objs.size, .ref (hp3N h l1 l2).objs.size] }
theorem meets_newN (l1 l2 : Addr) (xs ys : Array Value) : Meets (Builtin.«zip.__new__» ⟨[.type "zip", .ref l1, .ref l2], []⟩) (fun _ R s => s.heap.IsList l1 xs ∧ s.heap.IsTuple l2 ys ∧ R (.ok (.ret (.ref (hp4N s.heap l1 l2).objs.size))) { s with heap := hp5N s.heap l1 l2 }) :=
  .of_wp fun prog w A R s ⟨k1, k2, k⟩ => by
    obtain ⟨hp, g, d, tk, os⟩ := s; have hsub := sub_zip
    have a1 : Heap.IsList (Shared.heap ⟨hp, g, d, tk, os⟩) l1 xs := k1
    have a2 : Heap.IsTuple (Shared.heap ⟨hp.push { cls := .type "list_iterator", data := .fields #[.ref l1, .int 0 0] }, g, d, tk, os⟩) l2 ys := Heap.IsTuple.push k2 _
    wp_walk using wpAny_pyIter_list a1, wpAny_pyIter_tuple a2
    exact ⟨_, rfl, k⟩
theorem call_zipN {prog : Program} {w : World} {A : Around} {E : Value → Shared → Prop} {s : Shared} {l1 l2 : Addr} {xs ys : Array Value} {Q : Value → Shared → Prop} (k1 : s.heap.IsList l1 xs) (k2 : s.heap.IsTuple l2 ys)
    (kont : ∀ g n, n = s.heap.objs.size → IsZip g (n + 4) (n + 2) (n + 3) .none → IsPair g (n + 2) (.ref n) (.ref (n + 1)) → IsPair g (n + 3) .none .none → g.IsListIter n l1 0 → g.IsTupleIter (n + 1) l2 0 → (∀ c o, s.heap.get? c = some o → g.get? c = some o) → Q (.ref (n + 4)) { s with heap := g }) : wpAny (model prog w) A (call (.type "zip") [.ref l1, .ref l2]) Q E s := by
  refine callType_new F.called_zip (by decide) (F.typeCall_zip_2 _ _) (F.newCall_zip_2 _ _) (fun obj => F.args_object_init_3 obj _ _) F.entry_zip_new (meets_newN l1 l2 xs ys) ⟨k1, k2, ?_⟩
  have s1 : (hp1N s.heap l1).objs.size = s.heap.objs.size + 1 := Heap.size_push ..
  have s2 : (hp2N s.heap l1 l2).objs.size = s.heap.objs.size + 2 := (Heap.size_push ..).trans (by rw [s1])
  have s3 : (hp3N s.heap l1 l2).objs.size = s.heap.objs.size + 3 := (Heap.size_push ..).trans (by rw [s2])
  have s4 : (hp4N s.heap l1 l2).objs.size = s.heap.objs.size + 4 := (Heap.size_push ..).trans (by rw [s3])
  have q4 : (hp5N s.heap l1 l2).get? (hp4N s.heap l1 l2).objs.size = some _ := Heap.get?_push_size _ rfl
  have q3 : (hp5N s.heap l1 l2).get? (hp3N s.heap l1 l2).objs.size = some _ := Heap.get?_push_of_some _ (Heap.get?_push_size _ rfl)
  have q2 : (hp5N s.heap l1 l2).get? (hp2N s.heap l1 l2).objs.size = some _ := Heap.get?_push_of_some _ (Heap.get?_push_of_some _ (Heap.get?_push_size _ rfl))
  have q1 : (hp5N s.heap l1 l2).get? (hp1N s.heap l1).objs.size = some _ := Heap.get?_push_of_some _ (Heap.get?_push_of_some _ (Heap.get?_push_of_some _ (Heap.get?_push_size _ rfl)))
  have q0 : (hp5N s.heap l1 l2).get? s.heap.objs.size = some _ := Heap.get?_push_of_some _ (Heap.get?_push_of_some _ (Heap.get?_push_of_some _ (Heap.get?_push_of_some _ (Heap.get?_push_size _ rfl))))
  show _ ∧ _
  rw [s2, s3, s4] at q4; rw [s1, s2] at q2; rw [s3] at q3; rw [s1] at q1; rw [s4]
  exact ⟨⟨_, q4, rfl⟩, kont _ _ rfl q4 q2 q3 ⟨_, q0, rfl, rfl⟩ ⟨_, q1, rfl, rfl⟩ fun c o e => Heap.get?_push_of_some _ (Heap.get?_push_of_some _ (Heap.get?_push_of_some _ (Heap.get?_push_of_some _ (Heap.get?_push_of_some _ e))))⟩
def iZipN (K : PySem.W.Frag) (ta : TA) : TI := fun σ H R => ta σ H fun vs H1 => ∃ a b xs ys, vs = [.ref a, .ref b] ∧ SqL K H1 a xs ∧ SqT K H1 b ys ∧ R (ItzN K a b) H1
theorem pi_zipN {X : Cx} {K : PySem.W.Frag} {e e2 : Expr} {ta : TA} {p pos tpos : Pos} {elts : List Expr} {kk : Nat} (hK : X.K = K) (hg : Gl X "zip") (hm : X.mg "zip" = none) (ha : PA X [e, e2] ta) (hs : starEach [e, e2] X.env = (false, eval e X.env) :: starEach [e2] X.env := by rfl) (hpl : (backTo pos (starEach [e2] X.env)).any (·.1) = false := by rfl) :
    PI X (.Tuple elts kk tpos) (.Call (.Name "zip" p) [e, e2] [] pos) (iZipN K ta) := by
  subst hK
  refine ⟨fun pins s σ H R I h => Call_ (ld_blt I hg hm PyProof.Rows.boot_zip (PyProof.Rows.callWith_type1 (thn (ha.run pos pins s σ H _ I h) fun us s1 ⟨vs, H1, I1, r1, q1⟩ => ?_) hs hpl))⟩
  obtain ⟨a, b, xs, ys, rfl, qx, qy, q⟩ := q1
  obtain ⟨u1, u2, rfl, ra, rb⟩ : ∃ u1 u2, us = [u1, u2] ∧ RelV (.ref a) u1 ∧ RelV (.ref b) u2 := by
    cases r1 with
    | cons r rr => cases rr with
      | cons r' rr => cases rr; exact ⟨_, _, rfl, r, r'⟩
  cases ra; cases rb
  obtain ⟨its, rv, p1, _⟩ := I1.list qx
  obtain ⟨its2, rv2, p2, _⟩ := I1.tuple qy
  obtain ⟨o1, ho1, _⟩ := id p2
  refine call_zipN p1.isList (show s1.heap.IsTuple b its2.toArray from p2) fun g n en kz kI kO k1 k2 hk => wpAny_pyIter_zip kz ?_
  have I2 : Inv X pins σ H1 { s1 with heap := g } := I1.kept (t' := s1.toks) hk
  subst en
  refine ⟨s1.heap.objs.size + 4, [s1.heap.objs.size + 4, s1.heap.objs.size + 2, s1.heap.objs.size + 3, s1.heap.objs.size, s1.heap.objs.size + 1], _, _, H1, rfl, I2, turn_zipN (PySem.W.ktu_apart s1.heap.objs.size a b p1.lt (Heap.lt_size ho1)), ⟨kz, kI, ⟨_, _, kO⟩, k1, k2⟩, fun c hcm => ?_, q⟩
  have hd : c = s1.heap.objs.size + 4 ∨ c = s1.heap.objs.size + 2 ∨ c = s1.heap.objs.size + 3 ∨ c = s1.heap.objs.size + 0 ∨ c = s1.heap.objs.size + 1 := by simpa using hcm
  have hle : s1.heap.objs.size ≤ c := (by rcases hd with z | z | z | z | z <;> rw [z] <;> exact Nat.le_add_right _ _); exact I1.fpOk hle (I1.hok.fresh hle)
end Zm
namespace Cr
open PySem PySem.Spec PyProof.Rows L2 Zm
section
variable {K : PySem.W.Frag} {q : Option Addr} {δ : List Sl} {ta tb : TE}
theorem walk_zipN {H : Hp} {a b : Addr} {xs ys : List V} {ds es : List PyData} (np : ∀ d ∈ ds, notPair d = true) (h2 : H a = some (.lst xs)) (hd : DqAll H xs ds) (h : Tp H b ys es) (he : DqAll H ys es) : WalkD (Zm.ItzN K a b) (zipD ds es) H := fun i Hk H' s1 s2 => by
  have e := ((h.mono s1).mono s2).rd
  have e2 := s2 _ _ (s1 _ _ h2)
  have hl1 := hd.length
  have hl2 := he.length
  rw [zipD_len]
  refine ⟨fun hi => ?_, fun hi => ⟨xs, ys, SqL.of1 e2, .inl e, by omega⟩⟩
  have g1 : xs[i]? = some (xs[i]'(by omega)) := List.getElem?_eq_getElem _
  have g2 : ys[i]? = some (ys[i]'(by omega)) := List.getElem?_eq_getElem _
  refine ⟨⟨xs, ys, _, _, SqL.of1 e2, .inl e, g1, g2⟩, fun v H2 y => ?_⟩
  obtain ⟨T, x, y, rfl, hT, rfl, f1, f2⟩ := y
  obtain ⟨d1, p1, p2⟩ := hd.get' (f1 xs (SqL.of1 e2))
  obtain ⟨d2, p3, p4⟩ := he.get' (f2 ys (.inl e))
  have g := Gr.new (q := none) (o := .tup [x, y]) s2 hT
  refine ⟨_, g, _, zipD_get ds es i d1 d2 p1 p3, .tup (.inr ⟨np d1 (List.mem_of_getElem? p1), upd_same⟩) (.cons (Dq.mono (s1.trans g.k) _ _ p2) (.cons (Dq.mono (s1.trans g.k) _ _ p4) .nil))⟩
theorem ie_zipN {ds es : List PyData} (h : E q δ ta (.list ds)) (h2 : E q δ tb (.tuple es)) (np : ∀ d ∈ ds, notPair d = true := by intro d hd; obtain ⟨x, _, rfl⟩ := List.mem_map.mp hd; rfl) : IE q δ (Zm.iZipN K (tCons ta (tCons tb tNil))) (zipD ds es) := fun σ H H1 n sg o R k =>
  h σ H H1 n sg o _ fun d v Hk H2 g o1 e dv => h2 σ Hk H2 n (sg.mono g.k) o1 _ fun d' v' Hk' H3 g' o2 e' dv' => by
    subst e; subst e'
    obtain ⟨a, xs, rfl, p1, p2⟩ := (Dq.mono g'.k _ _ dv).lstOf
    obtain ⟨b, ys, rfl, p3, p4⟩ := dv'.tupOf
    exact ⟨a, b, xs, ys, rfl, SqL.of1 (g'.a _ _ p1), .inl (p3.mono g'.a).rd, k _ _ Hk' H3 (g.trans g') o2 rfl (walk_zipN np p1 p2 p3 p4)⟩
end
end Cr

set_option Elab.async false
set_option linter.all false
set_option maxRecDepth 100000
set_option maxHeartbeats 800000
/-! polynomials modulo a prime: roots are simple -/
namespace Cr
open PySem PySem.Spec PyProof.Rows L2
theorem prime_cop {p : Nat} (hp : primed p) {a : Int} (h : ¬ (p : Int) ∣ a) : Nat.Coprime p a.natAbs := by
  obtain ⟨h2, _, hd⟩ := hp
  refine Classical.byContradiction fun hne => ?_
  have hne' : Nat.gcd p a.natAbs ≠ 1 := hne
  obtain ⟨e, he⟩ := Nat.gcd_dvd_left p a.natAbs
  have hda := Nat.gcd_dvd_right p a.natAbs
  generalize Nat.gcd p a.natAbs = d at hne' he hda
  have hd0 : d ≠ 0 := fun z => by rw [z, Nat.zero_mul] at he; omega
  have he0 : e ≠ 0 := fun z => by rw [z, Nat.mul_zero] at he; omega
  by_cases hdd : d * d ≤ p
  · exact hd d (by omega) hdd (by rw [he]; exact Nat.mul_mod_right d e)
  · have hed : e < d := by
      refine Classical.byContradiction fun z => ?_
      have := Nat.mul_le_mul (Nat.le_refl d) (show d ≤ e by omega)
      omega
    have hee : e * e ≤ p := by rw [he]; exact Nat.mul_le_mul (by omega) (Nat.le_refl e)
    by_cases h1 : e = 1
    · rw [h1, Nat.mul_one] at he
      exact h (Int.ofNat_dvd_left.mpr (by rw [he]; exact hda))
    · exact hd e (by omega) hee (by rw [he]; exact Nat.mul_mod_left d e)
theorem euclid {p : Nat} (hp : primed p) {a b : Int} (h : (p : Int) ∣ a * b) : (p : Int) ∣ a ∨ (p : Int) ∣ b := by
  by_cases ha : (p : Int) ∣ a
  · exact .inl ha
  · refine .inr (Int.ofNat_dvd_left.mpr ?_)
    have h1 := Int.ofNat_dvd_left.mp h
    rw [Int.natAbs_mul] at h1
    exact (prime_cop hp ha).dvd_of_dvd_mul_left h1
theorem horn_zeroP {p : Int} (r : Int) : ∀ f : List Int, (∀ a ∈ hornL r f, p ∣ a) → ∀ a ∈ f, p ∣ a
  | [], _, a, h => by cases h
  | b :: f, h, a, ha => by
    have h0 : p ∣ evalP (b :: f) r := h _ (by show _ ∈ evalP (b :: f) r :: hornL r f; simp)
    have h1 := horn_zeroP r f (fun a ha => h a (by show _ ∈ evalP (b :: f) r :: hornL r f; simp [ha]))
    rcases List.mem_cons.mp ha with e | e
    · have z : p ∣ evalP f r := by
        cases f with
        | nil => exact Int.dvd_zero p
        | cons c f => exact h _ (by show _ ∈ evalP (b :: c :: f) r :: evalP (c :: f) r :: hornL r f; simp)
      rw [evalP_cons] at h0
      rw [e]
      have h2 := Int.dvd_sub h0 (Int.dvd_mul_of_dvd_left z (c := r))
      have e2 : evalP f r * r + b - evalP f r * r = b := by omega
      rwa [e2] at h2
    · exact h1 a e
theorem evalP_dvd {p k : Int} : ∀ g : List Int, (∀ a ∈ g, p ∣ a) → p ∣ evalP g k
  | [], _ => Int.dvd_zero p
  | c :: g, h => by
    rw [evalP_cons]
    exact Int.dvd_add (Int.dvd_mul_of_dvd_left (evalP_dvd g fun a ha => h a (by simp [ha]))) (h c (by simp))
theorem far {p : Nat} {x k : Int} (hx : 0 ≤ x ∧ x < (p : Int)) (hk : 0 ≤ k ∧ k < (p : Int)) (ne : x ≠ k) : ¬ (p : Int) ∣ x - k := fun ⟨c, e⟩ => by
  rcases Int.lt_trichotomy c 0 with h | h | h
  · have : (p : Int) * c ≤ (p : Int) * (-1) := Int.mul_le_mul_of_nonneg_left (by omega) (by omega)
    omega
  · rw [h, Int.mul_zero] at e; omega
  · have : (p : Int) * 1 ≤ (p : Int) * c := Int.mul_le_mul_of_nonneg_left (by omega) (by omega)
    omega
theorem zeroP_of_roots {p : Nat} (hp : primed p) : ∀ (keys : List Int) (f : List Int), keys.Nodup → (∀ k ∈ keys, 0 ≤ k ∧ k < (p : Int)) → f.length ≤ keys.length → (∀ k ∈ keys, (p : Int) ∣ evalP f k) → ∀ a ∈ f, (p : Int) ∣ a
  | _, [], _, _, _, _, a, h => by cases h
  | [], b :: f, _, _, hl, _, _, _ => by simp at hl
  | k :: keys, b :: f, hn, hr, hl, h, a, ha => by
    rw [List.nodup_cons] at hn
    have hk := h k (by simp)
    have hg : ∀ x ∈ keys, (p : Int) ∣ evalP (hornL k f) x := fun x hx => by
      have z := horn_val k x f b
      have z2 : (p : Int) ∣ (x - k) * evalP (hornL k f) x := by rw [← z]; exact Int.dvd_sub (h x (by simp [hx])) hk
      rcases euclid hp z2 with e | e
      · exact absurd e (far (hr x (by simp [hx])) (hr k (by simp)) fun e => hn.1 (by rw [← e]; exact hx))
      · exact e
    have hz := horn_zeroP k f (zeroP_of_roots hp keys (hornL k f) hn.2 (fun x hx => hr x (by simp [hx])) (by rw [hornL_len]; simpa using hl) hg)
    rcases List.mem_cons.mp ha with e | e
    · rw [evalP_cons] at hk
      have h2 := Int.dvd_sub hk (Int.dvd_mul_of_dvd_left (evalP_dvd (k := k) f hz) (c := k))
      have e2 : evalP f k * k + b - evalP f k * k = b := by omega
      rw [e2] at h2
      rw [e]; exact h2
    · exact hz a e
/-- a root of as many as the degree tells is simple -/
theorem simple_root {p : Nat} (hp : primed p) {f keys : List Int} {c : Int} (hc : f.getLast? = some c) (hcp : ¬ (p : Int) ∣ c) (hn : keys.Nodup) (hr : ∀ k ∈ keys, 0 ≤ k ∧ k < (p : Int)) (hl : f.length ≤ keys.length + 1) (h : ∀ k ∈ keys, (p : Int) ∣ evalP f k) {k : Int} (hk : k ∈ keys) :
    ¬ (p : Int) ∣ evalP (hornL k f).tail k := fun hz => by
  cases f with
  | nil => cases hc
  | cons b g =>
    have hz' : (p : Int) ∣ evalP (hornL k g) k := hz
    have hg : ∀ x ∈ keys, (p : Int) ∣ evalP (hornL k g) x := fun x hx => by
      by_cases e : x = k
      · rw [e]; exact hz'
      · have z := horn_val k x g b
        have z2 : (p : Int) ∣ (x - k) * evalP (hornL k g) x := by rw [← z]; exact Int.dvd_sub (h x hx) (h k hk)
        rcases euclid hp z2 with e1 | e1
        · exact absurd e1 (far (hr x hx) (hr k hk) e)
        · exact e1
    have h0 := horn_zeroP k g (zeroP_of_roots hp keys (hornL k g) hn hr (by rw [hornL_len]; simpa using hl) hg)
    cases g with
    | nil =>
      have e : b = c := by simpa using hc
      have h1 := h k hk
      rw [evalP_cons] at h1
      have e2 : evalP [] k * k + b = b := by show 0 * k + b = b; omega
      rw [e2, e] at h1
      exact hcp h1
    | cons d g =>
      rw [List.getLast?_cons_cons] at hc
      exact hcp (h0 c (List.mem_of_getLast? hc))
theorem evalP_mod {p k : Int} (hp : 0 < p) : ∀ f : List Int, Cg p (evalP (f.map fun x => x.fmod p) k) (evalP f k)
  | [] => Cg.refl _ _
  | a :: f => by
    show Cg p (evalP (f.map fun x => x.fmod p) k * k + a.fmod p) (evalP f k * k + a)
    exact ((evalP_mod hp f).mul (Cg.refl _ _)).add (cg_mod hp a)
theorem dvd_mod {p : Int} (hp : 0 < p) {a : Int} : a.fmod p = 0 ↔ p ∣ a := by
  rw [Int.fmod_eq_emod_of_nonneg _ (by omega)]
  exact ⟨Int.dvd_of_emod_eq_zero, Int.emod_eq_zero_of_dvd⟩
/-- one turn of Euclid's algorithm -/
theorem gcd_turn {a b : Nat} (h : Nat.Coprime a b) (hb : b ≠ 0) (h1 : b ≠ 1) : Nat.Coprime b (a % b) ∧ 0 < a % b ∧ a % b < b := by
  have h2 : Nat.Coprime b (a % b) := by
    show Nat.gcd b (a % b) = 1
    rw [Nat.gcd_comm, ← Nat.gcd_rec, Nat.gcd_comm]
    exact h
  refine ⟨h2, Nat.pos_of_ne_zero fun z => ?_, Nat.mod_lt _ (by omega)⟩
  rw [z] at h2
  exact h1 (by have : Nat.gcd b 0 = 1 := h2; rwa [Nat.gcd_zero_right] at this)
/-! a list or a tuple, walked -/
def iSeqE (K : PySem.W.Frag) (tl : TE) : TI := fun σ H R => iList K tl σ H R ∨ iTup K tl σ H R
theorem k_piSeq {X : Cx} {K : PySem.W.Frag} {tg l : Expr} {tl : TE} (h : X.K = K) (hl : PE X l tl) : PI X tg l (iSeqE K tl) := ⟨fun pins s σ H R I hh => by
  rcases hh with h1 | h1
  · exact (k_piList (tg := tg) h hl).run pins s σ H R I h1
  · exact (k_piTup (tg := tg) h hl).run pins s σ H R I h1⟩
section
variable {K : PySem.W.Frag} {q : Option Addr} {δ : List Sl} {te : TE} {ds : List PyData}
theorem ie_seqL (h : E q δ te (.list ds)) : IE q δ (iSeqE K te) ds := fun σ H H1 n sg o R k => .inl (ie_lst h σ H H1 n sg o R k)
theorem ie_seqT (h : E q δ te (.tuple ds)) : IE q δ (iSeqE K te) ds := fun σ H H1 n sg o R k => .inr (ie_tup h σ H H1 n sg o R k)
end
end Cr
/-! a list or a tuple, walked from its end -/
namespace Cr
open PySem PySem.Spec PyProof.Rows L2
def iRevE (K : PySem.W.Frag) (tl : TE) : TI := fun σ H R => iList K (tRevL K tl) σ H R ∨ iTup K (tRevT K tl) σ H R
theorem k_piRev {X : Cx} {K : PySem.W.Frag} {tg e : Expr} {te : TE} {k : Nat} {p1 p2 p3 pos : Pos} (h : X.K = K) (he : PE X e te) : PI X tg (.Subscript e (.Slice none none (some (.UnaryOp .USub (.Constant (.int 1) k p1) p2)) p3) pos) (iRevE K te) := ⟨fun pins s σ H R I hh => by
  rcases hh with h1 | h1
  · exact (k_piList (tg := tg) h (k_revL h he)).run pins s σ H R I h1
  · exact (k_piTup (tg := tg) h (pe_revT h he)).run pins s σ H R I h1⟩
section
variable {K : PySem.W.Frag} {q : Option Addr} {δ : List Sl} {te : TE} {ds : List PyData}
theorem ie_revL (h : E q δ te (.list ds)) : IE q δ (iRevE K te) ds.reverse := fun σ H H1 n sg o R k => .inl (ie_lst (e_revL h) σ H H1 n sg o R k)
theorem ie_revT (h : E q δ te (.tuple ds)) : IE q δ (iRevE K te) ds.reverse := fun σ H H1 n sg o R k => .inr (ie_tup (e_revT h) σ H H1 n sg o R k)
end
end Cr
/-! in, of a list of ints -/
namespace Cr
open PySem PySem.Spec PyProof.Rows L2
def rInI (K : PySem.W.Frag) : R2 := fun x y H Q => ∃ (k : Int) (a : Addr) (ns : List Int), x = .int k ∧ y = .ref a ∧ SqL K H a (ns.map V.int) ∧ Q (.bl (ns.any (· == k))) H
theorem k_inI {X : Cx} {K : PySem.W.Frag} (hK : X.K = K) : OpR X (compareOp .In) (rInI K) := by
  subst hK
  intro pins s σ H x y v u Q I rx ry h
  obtain ⟨k, a, ns, rfl, rfl, hs, q⟩ := h
  obtain ⟨t, rfl⟩ := rx
  obtain rfl : u = Value.ref a := ry
  obtain ⟨its, rv, hl, _⟩ := I.list hs
  exact in_list_ints hl.isList rv.ints ⟨.bl _, H, I, rfl, q⟩
theorem e_inI {K : PySem.W.Frag} {q : Option Addr} {δ : List Sl} {ta tb : TE} {i : Int} {ns : List Int} (h1 : E q δ ta (.int i)) (h2 : E q δ tb (.list (ns.map .int))) : E q δ (tOp (rInI K) ta tb) (.bool (ns.any (· == i))) := fun σ H H1 n sg o Q k =>
  h1 σ H H1 n sg o _ fun d v Hk H2 g o1 ed dv => h2 σ Hk H2 n (sg.mono g.k) o1 _ fun d' v' Hk' H3 g' o2 ed' dv' => by
    subst ed; subst ed'
    have e := dv.intOf
    obtain ⟨a, xs, rfl, h3, h4⟩ := dv'.lstOf
    have e2 := DqAll.ints h4
    subst e2
    exact ⟨i, a, ns, e, rfl, .inl (.inl (g'.a _ _ h3)), k _ _ Hk' H3 (g.trans g') o2 rfl (.bl _)⟩
end Cr
/-! a list of four, taken apart -/
namespace Cr
open PySem PySem.Spec PyProof.Rows L2
section
variable {K : PySem.W.Frag} {q : Option Addr} {n : Nat} {δ : List Sl} {te : TE} {d1 d2 d3 d4 : PyData} {A0 B0 Hk H1 : Hp} {σ : L2.St} {D : Ends} {tz : TS}
theorem gb_lst4 {i j l m : Nat} {vs : List Nat} (h1 : i ∈ vs) (h2 : j ∈ vs) (h3 : l ∈ vs) (h4 : m ∈ vs) : GB δ (gLst K 4 (gCons (gName i) (gCons (gName j) (gCons (gName l) (gCons (gName m) gNil))))) (.list [d1, d2, d3, d4]) ((((δ.set i (.dat d1)).set j (.dat d2)).set l (.dat d3)).set m (.dat d4)) vs := fun σ H H1 v sg s dv Q k => by
  obtain ⟨a, xs, rfl, e1, e2⟩ := dv.lstOf
  obtain ⟨x, y, z, u, rfl, dx, dy, dz, du⟩ : ∃ x y z u, xs = [x, y, z, u] ∧ Dq H x d1 ∧ Dq H y d2 ∧ Dq H z d3 ∧ Dq H u d4 := by
    cases e2 with
    | cons a b => cases b with
      | cons c d => cases d with
        | cons e f => cases f with
          | cons g h => cases h; exact ⟨_, _, _, _, rfl, a, c, e, g⟩
  refine ⟨a, _, rfl, .inl (.inl (s _ _ e1)), rfl, x, _, rfl, y, _, rfl, z, _, rfl, u, [], rfl, rfl, k _ ((((sg.set i (s := .dat d1) dx).set j (s := .dat d2) dy).set l (s := .dat d3) dz).set m (s := .dat d4) du) (by simp) fun b hb => ?_⟩
  rw [List.getElem?_set_ne (fun e => hb (by rw [← e]; exact h4)), List.getElem?_set_ne (fun e => hb (by rw [← e]; exact h3)), List.getElem?_set_ne (fun e => hb (by rw [← e]; exact h2)), List.getElem?_set_ne (fun e => hb (by rw [← e]; exact h1))]
theorem q_asgL4 {i j l m : Nat} (h : E q δ te (.list [d1, d2, d3, d4])) (s : At q n δ A0 B0 σ Hk H1)
    (k : ∀ σ' Hk' H2, Gr q Hk H1 Hk' H2 → At q n ((((δ.set i (.dat d1)).set j (.dat d2)).set l (.dat d3)).set m (.dat d4)) A0 B0 σ' Hk' H2 → tz D σ' H2) :
    tSeq (tAsg te (gLst K 4 (gCons (gName i) (gCons (gName j) (gCons (gName l) (gCons (gName m) gNil)))))) tz D σ H1 :=
  h σ Hk H1 n s.sg s.ok _ fun d v Hk2 H2 g o e dv => by
    subst e
    exact gb_lst4 (vs := [i, j, l, m]) (by simp) (by simp) (by simp) (by simp) σ Hk2 H2 v (s.sg.mono g.k) g.a dv _ fun σ2 sg2 _ _ => k σ2 Hk2 H2 g ⟨o, sg2, s.gr.trans g⟩
end
end Cr
/-! a tuple * int, of an empty tuple, too -/
namespace L2
open PySem PySem.Spec PyProof.Rows
theorem tuple_mulE (l : Addr) (n : Nat) (dd : Option Addr) (sl : Array (Option Value)) (k : Int) (u : Tok) (h0 : 0 ≤ k) (h1 : k ≤ 1000) :
    Meets (Builtin.«tuple.__mul__» ⟨[.ref l, .int k u], []⟩) (fun _ R s => s.heap.get? l = some { cls := .type "tuple", dict := dd, data := .seq #[] n, slots := sl } ∧
      R (.ok (.ret (Value.ref l))) s) :=
  .of_wp fun prog w A R s h => by
    obtain ⟨hp, g, d, tk, os⟩ := s
    obtain ⟨hl, h⟩ := h
    have f1 := AutoSeq1.idx_int
    have c0 : (decide (k < -(2 ^ 63)) || decide (k ≥ 2 ^ 63)) = false := by
      rw [Bool.or_eq_false_iff]
      exact ⟨decide_eq_false (by omega), decide_eq_false (by omega)⟩
    have c1 : ((#[] : Array Value).isEmpty || k == 1) = true := rfl
    wp_walk using wpAny_loadPart' hl
    repeat (first
      | (refine wpAny_ite_false (decide_eq_false (by rw [c0]; exact Bool.false_ne_true)) ?_; wp_walk using wpAny_loadPart' hl)
      | (refine wpAny_ite_true (decide_eq_true c1) ?_; wp_walk using wpAny_loadPart' hl))
    exact ⟨_, rfl, h⟩
def rRepTB (K : PySem.W.Frag) : R2 := fun x y H Q => rRepTA K x y H Q ∨ ∃ l k, x = .ref l ∧ y = .int k ∧ SqT K H l [] ∧ 0 ≤ k ∧ k ≤ 1000 ∧ Q (.ref l) H
theorem k_repTB {X : Cx} {K : PySem.W.Frag} (hK : X.K = K) : OpR X (binaryOp .Mult) (rRepTB K) := by
  subst hK
  intro pins s σ H x y v u Q I rx ry h
  rcases h with h | ⟨l, k, rfl, rfl, hT, h1, h2, q⟩
  · exact op_repTA pins s σ H x y v u Q I rx ry h
  cases rx
  obtain ⟨t, rfl⟩ := ry
  obtain ⟨its, r, ⟨⟨cls, dd, data, sl⟩, ho, hc, n, hd⟩, hs⟩ := I.tuple hT
  simp only at hc hd
  subst hc hd
  have hn : its = [] := List.eq_nil_of_length_eq_zero r.length.symm
  subst hn
  exact wpAny_binaryOp_repeat_ref (T := "tuple") (U := "int") (by decide) ⟨_, ho, rfl⟩ (fun s' => typeIs_int s' k t) noFill_tuple_mul F.fills_int_mul F.slot_int_rmul repeat_tuple F.slot_int_index.lookup
      (call_meets F.slot_int_rmul (typeIs_int s k t) F.entry_int_rmul (F.args_int_rmul_2 _ _) (int_rmul_tuple k t l #[] n dd sl)
        ⟨ho, rfl, ⟨_, ho, rfl⟩, call_meets F.slot_tuple_mul ⟨_, ho, rfl⟩ F.entry_tuple_mul (F.args_tuple_mul_2 _ _) (tuple_mulE l n dd sl k t h1 h2) ⟨ho, ⟨.ref l, H, I, rfl, q⟩⟩⟩)
end L2
namespace Cr
open PySem PySem.Spec PyProof.Rows L2
theorem rj_repTB {K : PySem.W.Frag} {ds : List PyData} {k : Int} {Φ : PyData → Prop} (h0 : 0 ≤ k) (h1 : k ≤ 1000) (hl : ds.length ≤ 1000) (np : lax ds = true) (hp : Φ (.tuple (List.replicate k.toNat ds).flatten)) : RJ (rRepTB K) (.tuple ds) (.int k) Φ := fun x y H H1 hx hy e1 Q kk => by
  obtain ⟨a, xs, rfl, h2, h3⟩ := hx.tupOf
  rw [hy.intOf]
  by_cases hne : ds = []
  · subst hne
    have hn : xs = [] := by cases h3; rfl
    subst hn
    refine .inr ⟨a, k, rfl, rfl, .inl (h2.mono e1).rd, h0, h1, ?_⟩
    have e2 : (List.replicate k.toNat ([] : List PyData)).flatten = [] := by
      induction k.toNat with
      | zero => rfl
      | succ m ih => rw [List.replicate_succ, List.flatten_cons, ih]; rfl
    rw [e2] at hp
    exact kk (.tuple []) _ H H1 (Gr.refl e1) hp hx
  have hn : xs ≠ [] := fun e => hne (by
    have := h3.length
    rw [e] at this
    exact List.eq_nil_of_length_eq_zero this.symm)
  refine .inl ⟨a, k, xs, rfl, rfl, .inl (h2.mono e1).rd, hn, h0, h1, by rw [h3.length]; exact hl, fun e => ?_, fun ne1 p hpp => ?_⟩
  · subst e
    have e2 : (List.replicate (1 : Int).toNat ds).flatten = ds := by simp
    rw [e2] at hp
    exact kk (.tuple ds) _ H H1 (Gr.refl e1) hp hx
  · have hall : ∀ m : Nat, DqAll H (List.replicate m xs).flatten (List.replicate m ds).flatten := fun m => by
      induction m with
      | zero => exact .nil
      | succ m ih => rw [List.replicate_succ, List.replicate_succ, List.flatten_cons, List.flatten_cons]; exact h3.append ih
    have g := Gr.new (q := none) (o := .tup (List.replicate k.toNat xs).flatten) e1 hpp
    refine kk _ _ _ _ g hp (.tup (.inr ⟨?_, upd_same⟩) (DqAll.mono g.k _ _ (hall _)))
    cases ds with
    | nil => exact absurd rfl hne
    | cons d ds => cases k.toNat with
      | zero => rfl
      | succ m => rw [List.replicate_succ, List.flatten_cons]; exact np
theorem e_repTB {K : PySem.W.Frag} {q : Option Addr} {δ : List Sl} {ta tb : TE} {ds : List PyData} {k : Int} (ha : E q δ ta (.tuple ds)) (hb : E q δ tb (.int k)) (h0 : 0 ≤ k) (h1 : k ≤ 1000) (hl : ds.length ≤ 1000) (np : lax ds = true) : E q δ (tOp (rRepTB K) ta tb) (.tuple (List.replicate k.toNat ds).flatten) := e_op ha hb (rj_repTB h0 h1 hl np rfl)
theorem j_repTB {K : PySem.W.Frag} {q : Option Addr} {δ : List Sl} {ta tb : TE} {ds : List PyData} {c : Nat} {P : Int → Prop} {Φ : PyData → Prop} (ha : E q δ ta (.tuple ds)) (hb : J q δ tb c (IntP P)) (hl : ds.length ≤ 1000) (np : lax ds = true) (hp : ∀ k, P k → (0 ≤ k ∧ k ≤ 1000) ∧ Φ (.tuple (List.replicate k.toNat ds).flatten)) : J q δ (tOp (rRepTB K) ta tb) (c + 0) Φ :=
  j_op ha hb fun a b ea ⟨k, pk, eb⟩ => by
    subst ea; subst eb
    exact rj_repTB (hp k pk).1.1 (hp k pk).1.2 hl np (hp k pk).2
end Cr
/-! primes below 500, and the others -/
namespace Cr
def compB (m : Nat) : Bool := decide (m < 2) || (List.range 23).any fun e => decide (2 ≤ e) && decide (e * e ≤ m) && decide (m % e = 0)
def chk5 (l : List Nat) : Bool := (List.range 500).all fun m => if l.contains m then primedB m else compB m
theorem prL_chk : chk5 (prL 498) = true := by decide +kernel
end Cr
namespace Cr
open PySem PySem.Spec PyProof.Rows L2
section
variable {K : PySem.W.Frag} {q : Option Addr} {n c : Nat} {δ : List Sl} {te : TE} {tt : TT} {A0 B0 Hk H1 : Hp} {σ : L2.St} {D : Ends} {tz : TS} {p : Addr} {ds : List PyData} {Φ : PyData → Prop}
theorem q_ifPut {i j : Nat} {b : Bool} {d0 : PyData} (hb : TB q δ tt b) (h : b = true → J q δ te c Φ) (s : At q (n + c) δ A0 B0 σ Hk H1) (cl : Cell q B0 Hk H1 p ds) (hi : δ[i]? = some (.adr p)) (hj : ds[j]? = some d0)
    (k : ∀ d Hk' H2, (b = true → Φ d) → (b = false → d = d0) → At q n δ A0 B0 σ Hk' H2 → Cell q B0 Hk' H2 p (ds.set j d) → tz D σ H2) :
    tSeq (tIfS tt (tAsg te (gSub (tVar i) (tC (.int (j : Int))) rSetL)) tNext) tz D σ H1 := by
  obtain ⟨hj', ej⟩ := List.getElem?_eq_some_iff.mp hj
  refine q_whenB hb s (fun hb' Hk' H2 g a => s_putC (D := { D with nx := tz D }) (h hb') a (cl.go g) hi hj' fun d Hk2 H3 pd sm a2 cl2 => k d Hk2 H3 (fun _ => pd) (fun e => by rw [hb'] at e; cases e) a2 cl2) (fun hb' Hk' H2 g a => k d0 Hk' H2 (fun e => by rw [hb'] at e; cases e) (fun _ => rfl) (a.mono (by omega)) ?_)
  rw [← ej, List.set_getElem_self]
  exact cl.go g
theorem dp_ints {H : Hp} : ∀ ns : List Int, DpAll K H (ns.map V.int) (ns.map PyData.int)
  | [] => .nil
  | i :: ns => .cons (.int i) (dp_ints ns)
theorem e_eqNil {i : Nat} {ns : List Int} (hi : δ[i]? = some (.scr K ns)) (hs : SeqAt.shaped (.list (ns.map .int)) = true) : E q δ (tOp (rEqD K) (tVar i) (tLst tNil)) (.bool (PyData.eqv (.list (ns.map .int)) (.list []))) := fun σ H H1 n sg o Q k => by
  obtain ⟨v, a, p, rfl, h⟩ := sg.2 i _ hi (fun z => by cases z)
  refine ⟨.ref p, a, (e_lst (ds := []) (ta := tNil) ae_nil (by simp)) σ H H1 n sg o _ fun d w Hk H2 g o1 ed dw => ?_⟩
  subst ed
  exact ⟨.list (ns.map .int), .list [], .lst (Same.seq (g.k.trans g.a) h) (dp_ints ns), Dq.dp K _ _ rfl (Dq.mono g.a _ _ dw), hs, rfl, k _ _ Hk H2 g o1 rfl (.bl _)⟩
theorem eqv_nil : ∀ ns : List Int, PyData.eqv (.list (ns.map .int)) (.list []) = ns.isEmpty
  | [] => rfl
  | _ :: _ => rfl
theorem shaped_intsL (ns : List Int) : SeqAt.shaped (.list (ns.map .int)) = true := by
  have h1 : PyData.canLayAll0 (ns.map .int) = true := canAll_of fun d hd => by obtain ⟨x, _, rfl⟩ := List.mem_map.mp hd; rfl
  have h2 : PyData.depthAll (ns.map .int) ≤ 1 := depthAll_le fun d hd => by
    obtain ⟨x, _, rfl⟩ := List.mem_map.mp hd
    simp [PyData.depth]
  unfold SeqAt.shaped
  rw [Bool.and_eq_true]
  refine ⟨?_, decide_eq_true ?_⟩
  · exact h1
  · rw [PyData.depth]
    omega
end
end Cr

set_option Elab.async false
set_option linter.all false
set_option maxRecDepth 100000
set_option maxHeartbeats 800000
/-! The head by one run: facts by names, and more. -/
namespace Cr
open PySem PySem.Spec PyProof.Rows L2
theorem fun_of {K : PySem.W.Frag} {x qual : Str} {st : Stmt} {kws : List (Str × V)} {f : Addr} {fd : FuncData} (F : FunD K x qual (defArgs st) (defBody st) (defScope st) [] kws f fd) : Fun K x qual st f fd := by
  obtain ⟨oc, od, dV, kV, doc, pm, an, cdv, ct, osl, e, lk, hcd, hD, hK⟩ := F.ex
  rcases hD with ⟨_, rfl⟩ | ⟨z, _⟩
  · exact ⟨⟨oc, od, kV, doc, pm, an, cdv, ct, osl, e, lk, hcd⟩, F.kp⟩
  · exact absurd rfl z
theorem funV_of {K : PySem.W.Frag} {x qual : Str} {st : Stmt} {dvs : List V} {kws : List (Str × V)} {f : Addr} {fd : FuncData} (F : FunD K x qual (defArgs st) (defBody st) (defScope st) dvs kws f fd) : FunV K x qual st f fd := by
  obtain ⟨oc, od, dV, kV, doc, pm, an, cdv, ct, osl, e, lk, hcd, hD, hK⟩ := F.ex
  exact ⟨⟨oc, od, dV, kV, doc, pm, an, cdv, ct, osl, e, lk, hcd⟩, F.kp⟩
theorem binds_of1 {K : PySem.W.Frag} {x qual : Str} {st : Stmt} {v : V} {f : Addr} {fd : FuncData} {ps : List Str} (F : FunD K x qual (defArgs st) (defBody st) (defScope st) [v] [] f fd)
    (h : ∀ (T : Addr) (kV doc pm : Value) (an : Option Addr) (cdv ct : Value) (us its : List Value), us.length = ps.length → its.length = 1 →
      ∃ k, bindArgs (PySem.W.fnOf x qual (defArgs st) (defBody st) (defScope st) (.ref T) kV doc pm an cdv ct) ⟨us, []⟩ = seqItems? (.ref T) >>= k ∧ k (some its.toArray) = pure (ps.zip (us ++ its.drop 1))) : Binds K fd ps [] := by
  obtain ⟨ds, hv, hb⟩ := F.binds1 (ps := ps) ps.length 1 (by simp) (by simp) h
  have e : ds = [] := by
    have h0 := hv.length
    exact List.length_eq_zero_iff.mp h0.symm
  rw [e] at hb
  exact hb
end Cr

namespace Lw
open PySem PySem.Spec PyProof.Rows L2 Cr
abbrev N__law_primes : List Str := ["below", "found", "n_here", "p_here"]
abbrev P__law_primes : List Str := ["below"]
theorem sc__law_primes : FnScope N__law_primes P__law_primes (defScope s__law_primes) := ⟨rfl, rfl, rfl, by decide +kernel, rfl, by decide +kernel, by decide +kernel⟩
abbrev N__law_jar : List Str := ["script", "at", "cell"]
abbrev P__law_jar : List Str := ["script", "at"]
theorem sc__law_jar : FnScope N__law_jar P__law_jar (defScope s__law_jar) := ⟨rfl, rfl, rfl, by decide +kernel, rfl, by decide +kernel, by decide +kernel⟩
abbrev N__law_gather : List Str := ["rows_here", "table", "key_here", "by_here"]
abbrev P__law_gather : List Str := ["rows_here"]
theorem sc__law_gather : FnScope N__law_gather P__law_gather (defScope s__law_gather) := ⟨rfl, rfl, rfl, by decide +kernel, rfl, by decide +kernel, by decide +kernel⟩
abbrev N__law_pick : List Str := ["jar", "below", "digit", "blend"]
abbrev P__law_pick : List Str := ["jar", "below"]
theorem sc__law_pick : FnScope N__law_pick P__law_pick (defScope s__law_pick) := ⟨rfl, rfl, rfl, by decide +kernel, rfl, by decide +kernel, by decide +kernel⟩
abbrev N__law_amount : List Str := ["jar", "most_here", "amount_here"]
abbrev P__law_amount : List Str := ["jar", "most_here"]
theorem sc__law_amount : FnScope N__law_amount P__law_amount (defScope s__law_amount) := ⟨rfl, rfl, rfl, by decide +kernel, rfl, by decide +kernel, by decide +kernel⟩
abbrev N__law_book : List Str := ["jar", "many_here", "reach", "most_here", "changes_here", "size", "k"]
abbrev P__law_book : List Str := ["jar", "many_here", "reach", "most_here"]
theorem sc__law_book : FnScope N__law_book P__law_book (defScope s__law_book) := ⟨rfl, rfl, rfl, by decide +kernel, rfl, by decide +kernel, by decide +kernel⟩
abbrev N_is_an_integer : List Str := ["value"]
abbrev P_is_an_integer : List Str := ["value"]
theorem sc_is_an_integer : FnScope N_is_an_integer P_is_an_integer (defScope s_is_an_integer) := ⟨rfl, rfl, rfl, by decide +kernel, rfl, by decide +kernel, by decide +kernel⟩
abbrev N_is_change : List Str := ["value"]
abbrev P_is_change : List Str := ["value"]
theorem sc_is_change : FnScope N_is_change P_is_change (defScope s_is_change) := ⟨rfl, rfl, rfl, by decide +kernel, rfl, by decide +kernel, by decide +kernel⟩
abbrev N_is_ledger : List Str := ["value", "ascending", "pair", "one", "other", "key", "amount"]
abbrev P_is_ledger : List Str := ["value"]
theorem sc_is_ledger : FnScope N_is_ledger P_is_ledger (defScope s_is_ledger) := ⟨rfl, rfl, rfl, by decide +kernel, rfl, by decide +kernel, by decide +kernel⟩
abbrev N_check_ledger : List Str := ["value"]
abbrev P_check_ledger : List Str := ["value"]
theorem sc_check_ledger : FnScope N_check_ledger P_check_ledger (defScope s_check_ledger) := ⟨rfl, rfl, rfl, by decide +kernel, rfl, by decide +kernel, by decide +kernel⟩
abbrev N_is_from : List Str := ["value", "least"]
abbrev P_is_from : List Str := ["value", "least"]
theorem sc_is_from : FnScope N_is_from P_is_from (defScope s_is_from) := ⟨rfl, rfl, rfl, by decide +kernel, rfl, by decide +kernel, by decide +kernel⟩
abbrev N_is_prime : List Str := ["value", "divisor"]
abbrev P_is_prime : List Str := ["value"]
theorem sc_is_prime : FnScope N_is_prime P_is_prime (defScope s_is_prime) := ⟨rfl, rfl, rfl, by decide +kernel, rfl, by decide +kernel, by decide +kernel⟩
abbrev N_check_prime : List Str := ["value"]
abbrev P_check_prime : List Str := ["value"]
theorem sc_check_prime : FnScope N_check_prime P_check_prime (defScope s_check_prime) := ⟨rfl, rfl, rfl, by decide +kernel, rfl, by decide +kernel, by decide +kernel⟩
abbrev N_summed : List Str := ["changes", "amounts", "key", "by"]
abbrev P_summed : List Str := ["changes"]
theorem sc_summed : FnScope N_summed P_summed (defScope s_summed) := ⟨rfl, rfl, rfl, by decide +kernel, rfl, by decide +kernel, by decide +kernel⟩
abbrev N_remaining : List Str := ["pairs", "prime", "found", "key", "amount"]
abbrev P_remaining : List Str := ["pairs", "prime"]
theorem sc_remaining : FnScope N_remaining P_remaining (defScope s_remaining) := ⟨rfl, rfl, rfl, by decide +kernel, rfl, by decide +kernel, by decide +kernel⟩
abbrev N_reduced : List Str := ["ledger", "prime"]
abbrev P_reduced : List Str := ["ledger", "prime"]
theorem sc_reduced : FnScope N_reduced P_reduced (defScope s_reduced) := ⟨rfl, rfl, rfl, by decide +kernel, rfl, by decide +kernel, by decide +kernel⟩
abbrev N_sums_modulo : List Str := ["ledger", "prime", "number", "result", "pairs", "keys", "terms", "_", "key", "amount", "term"]
abbrev P_sums_modulo : List Str := ["ledger", "prime", "number"]
theorem sc_sums_modulo : FnScope N_sums_modulo P_sums_modulo (defScope s_sums_modulo) := ⟨rfl, rfl, rfl, by decide +kernel, rfl, by decide +kernel, by decide +kernel⟩
abbrev N_check_residues : List Str := ["value", "prime", "number"]
abbrev P_check_residues : List Str := ["value", "prime"]
theorem sc_check_residues : FnScope N_check_residues P_check_residues (defScope s_check_residues) := ⟨rfl, rfl, rfl, by decide +kernel, rfl, by decide +kernel, by decide +kernel⟩
abbrev N_in_row : List Str := ["sums", "rule", "place", "factor", "number"]
abbrev P_in_row : List Str := ["sums", "rule", "place"]
theorem sc_in_row : FnScope N_in_row P_in_row (defScope s_in_row) := ⟨rfl, rfl, rfl, by decide +kernel, rfl, by decide +kernel, by decide +kernel⟩
abbrev N_rule_modulo : List Str := ["sums", "prime", "rests", "rule", "older", "divisor", "index", "length", "fault", "growth", "shift", "changed", "k", "factor", "number"]
abbrev P_rule_modulo : List Str := ["sums", "prime"]
theorem sc_rule_modulo : FnScope N_rule_modulo P_rule_modulo (defScope s_rule_modulo) := ⟨rfl, rfl, rfl, by decide +kernel, rfl, by decide +kernel, by decide +kernel⟩
abbrev N_inverse_modulo : List Str := ["number", "prime", "one", "other", "before", "result", "factor"]
abbrev P_inverse_modulo : List Str := ["number", "prime"]
theorem sc_inverse_modulo : FnScope N_inverse_modulo P_inverse_modulo (defScope s_inverse_modulo) := ⟨rfl, rfl, rfl, by decide +kernel, rfl, by decide +kernel, by decide +kernel⟩
abbrev N_value_of : List Str := ["polynomial", "place", "result", "number"]
abbrev P_value_of : List Str := ["polynomial", "place"]
theorem sc_value_of : FnScope N_value_of P_value_of (defScope s_value_of) := ⟨rfl, rfl, rfl, by decide +kernel, rfl, by decide +kernel, by decide +kernel⟩
abbrev N_amount_modulo : List Str := ["sums", "others", "key", "prime", "top", "factor", "number"]
abbrev P_amount_modulo : List Str := ["sums", "others", "key", "prime"]
theorem sc_amount_modulo : FnScope N_amount_modulo P_amount_modulo (defScope s_amount_modulo) := ⟨rfl, rfl, rfl, by decide +kernel, rfl, by decide +kernel, by decide +kernel⟩
abbrev N_divided : List Str := ["polynomial", "root", "numbers", "number", "coefficient"]
abbrev P_divided : List Str := ["polynomial", "root"]
theorem sc_divided : FnScope N_divided P_divided (defScope s_divided) := ⟨rfl, rfl, rfl, by decide +kernel, rfl, by decide +kernel, by decide +kernel⟩
abbrev N_told_modulo : List Str := ["sums", "prime", "rule", "length", "keys", "others", "key", "number", "rest"]
abbrev P_told_modulo : List Str := ["sums", "prime"]
theorem sc_told_modulo : FnScope N_told_modulo P_told_modulo (defScope s_told_modulo) := ⟨rfl, rfl, rfl, by decide +kernel, rfl, by decide +kernel, by decide +kernel⟩
abbrev N_rule_length_modulo : List Str := ["sums", "prime"]
abbrev P_rule_length_modulo : List Str := ["sums", "prime"]
theorem sc_rule_length_modulo : FnScope N_rule_length_modulo P_rule_length_modulo (defScope s_rule_length_modulo) := ⟨rfl, rfl, rfl, by decide +kernel, rfl, by decide +kernel, by decide +kernel⟩
abbrev N_all_told : List Str := ["sums", "prime", "key"]
abbrev P_all_told : List Str := ["sums", "prime"]
theorem sc_all_told : FnScope N_all_told P_all_told (defScope s_all_told) := ⟨rfl, rfl, rfl, by decide +kernel, rfl, by decide +kernel, by decide +kernel⟩
abbrev N__law_call : List Str := ["way", "parts", "book", "p_here", "size", "rests"]
abbrev P__law_call : List Str := ["way", "parts"]
theorem sc__law_call : FnScope N__law_call P__law_call (defScope s__law_call) := ⟨rfl, rfl, rfl, by decide +kernel, rfl, by decide +kernel, by decide +kernel⟩
abbrev N__law_told : List Str := ["way", "parts", "marks", "e"]
abbrev P__law_told : List Str := ["way", "parts"]
theorem sc__law_told : FnScope N__law_told P__law_told (defScope s__law_told) := ⟨rfl, rfl, rfl, by decide +kernel, rfl, by decide +kernel, by decide +kernel⟩
abbrev N__law_small_right : List Str := ["primes_here", "n_here"]
abbrev P__law_small_right : List Str := ["primes_here"]
theorem sc__law_small_right : FnScope N__law_small_right P__law_small_right (defScope s__law_small_right) := ⟨rfl, rfl, rfl, by decide +kernel, rfl, by decide +kernel, by decide +kernel⟩
abbrev N_Ledger__init__ : List Str := ["self", "pairs"]
abbrev P_Ledger__init__ : List Str := ["self", "pairs"]
theorem sc_Ledger__init__ : FnScope N_Ledger__init__ P_Ledger__init__ (defScope s_Ledger__init__) := ⟨rfl, rfl, rfl, by decide +kernel, rfl, by decide +kernel, by decide +kernel⟩
abbrev N__law_no_book : List Str := ["jar", "book", "spot", "before", "some", "at", "bads", "bad"]
abbrev P__law_no_book : List Str := ["jar", "book"]
theorem sc__law_no_book : FnScope N__law_no_book P__law_no_book (defScope s__law_no_book) := ⟨rfl, rfl, rfl, by decide +kernel, rfl, by decide +kernel, by decide +kernel⟩
abbrev N__law_no_prime : List Str := ["jar", "p_here", "some"]
abbrev P__law_no_prime : List Str := ["jar", "p_here"]
theorem sc__law_no_prime : FnScope N__law_no_prime P__law_no_prime (defScope s__law_no_prime) := ⟨rfl, rfl, rfl, by decide +kernel, rfl, by decide +kernel, by decide +kernel⟩
abbrev N_is_sums : List Str := ["value", "number"]
abbrev P_is_sums : List Str := ["value"]
theorem sc_is_sums : FnScope N_is_sums P_is_sums (defScope s_is_sums) := ⟨rfl, rfl, rfl, by decide +kernel, rfl, by decide +kernel, by decide +kernel⟩
abbrev N_check_sums : List Str := ["value"]
abbrev P_check_sums : List Str := ["value"]
theorem sc_check_sums : FnScope N_check_sums P_check_sums (defScope s_check_sums) := ⟨rfl, rfl, rfl, by decide +kernel, rfl, by decide +kernel, by decide +kernel⟩
abbrev N_Sums__init__ : List Str := ["self", "numbers"]
abbrev P_Sums__init__ : List Str := ["self", "numbers"]
theorem sc_Sums__init__ : FnScope N_Sums__init__ P_Sums__init__ (defScope s_Sums__init__) := ⟨rfl, rfl, rfl, by decide +kernel, rfl, by decide +kernel, by decide +kernel⟩
abbrev N__law_no_rests : List Str := ["jar", "rests", "p_here", "spot", "some", "bads", "bad"]
abbrev P__law_no_rests : List Str := ["jar", "rests", "p_here"]
theorem sc__law_no_rests : FnScope N__law_no_rests P__law_no_rests (defScope s__law_no_rests) := ⟨rfl, rfl, rfl, by decide +kernel, rfl, by decide +kernel, by decide +kernel⟩
abbrev N_law : List Str := ["script", "primes_here", "at", "jar", "p_here", "book", "way", "top", "rests", "parts", "bad", "asked", "due", "k"]
abbrev P_law : List Str := ["script"]
theorem sc_law : FnScope N_law P_law (defScope s_law) := ⟨rfl, rfl, rfl, by decide +kernel, rfl, by decide +kernel, by decide +kernel⟩
structure Tx (K : PySem.W.Frag) (mg : Str → Option Value) where
  a__law_primes : Addr
  fd__law_primes : FuncData
  F__law_primes : Fun K "_law_primes" "_law_primes" s__law_primes a__law_primes fd__law_primes
  b__law_primes : Binds K fd__law_primes P__law_primes []
  m__law_primes : mg "_law_primes" = some (.ref a__law_primes)
  a__law_jar : Addr
  fd__law_jar : FuncData
  F__law_jar : Fun K "_law_jar" "_law_jar" s__law_jar a__law_jar fd__law_jar
  b__law_jar : Binds K fd__law_jar P__law_jar []
  m__law_jar : mg "_law_jar" = some (.ref a__law_jar)
  a__law_gather : Addr
  fd__law_gather : FuncData
  F__law_gather : Fun K "_law_gather" "_law_gather" s__law_gather a__law_gather fd__law_gather
  b__law_gather : Binds K fd__law_gather P__law_gather []
  m__law_gather : mg "_law_gather" = some (.ref a__law_gather)
  a__law_pick : Addr
  fd__law_pick : FuncData
  F__law_pick : Fun K "_law_pick" "_law_pick" s__law_pick a__law_pick fd__law_pick
  b__law_pick : Binds K fd__law_pick P__law_pick []
  m__law_pick : mg "_law_pick" = some (.ref a__law_pick)
  a__law_amount : Addr
  fd__law_amount : FuncData
  F__law_amount : Fun K "_law_amount" "_law_amount" s__law_amount a__law_amount fd__law_amount
  b__law_amount : Binds K fd__law_amount P__law_amount []
  m__law_amount : mg "_law_amount" = some (.ref a__law_amount)
  a__law_book : Addr
  fd__law_book : FuncData
  F__law_book : Fun K "_law_book" "_law_book" s__law_book a__law_book fd__law_book
  b__law_book : Binds K fd__law_book P__law_book []
  m__law_book : mg "_law_book" = some (.ref a__law_book)
  a_is_an_integer : Addr
  fd_is_an_integer : FuncData
  F_is_an_integer : Fun K "is_an_integer" "is_an_integer" s_is_an_integer a_is_an_integer fd_is_an_integer
  b_is_an_integer : Binds K fd_is_an_integer P_is_an_integer []
  m_is_an_integer : mg "is_an_integer" = some (.ref a_is_an_integer)
  a_is_change : Addr
  fd_is_change : FuncData
  F_is_change : Fun K "is_change" "is_change" s_is_change a_is_change fd_is_change
  b_is_change : Binds K fd_is_change P_is_change []
  m_is_change : mg "is_change" = some (.ref a_is_change)
  a_is_ledger : Addr
  fd_is_ledger : FuncData
  F_is_ledger : Fun K "is_ledger" "is_ledger" s_is_ledger a_is_ledger fd_is_ledger
  b_is_ledger : Binds K fd_is_ledger P_is_ledger []
  m_is_ledger : mg "is_ledger" = some (.ref a_is_ledger)
  a_check_ledger : Addr
  fd_check_ledger : FuncData
  F_check_ledger : Fun K "check_ledger" "check_ledger" s_check_ledger a_check_ledger fd_check_ledger
  b_check_ledger : Binds K fd_check_ledger P_check_ledger []
  m_check_ledger : mg "check_ledger" = some (.ref a_check_ledger)
  a_is_from : Addr
  fd_is_from : FuncData
  F_is_from : Fun K "is_from" "is_from" s_is_from a_is_from fd_is_from
  b_is_from : Binds K fd_is_from P_is_from []
  m_is_from : mg "is_from" = some (.ref a_is_from)
  a_is_prime : Addr
  fd_is_prime : FuncData
  F_is_prime : Fun K "is_prime" "is_prime" s_is_prime a_is_prime fd_is_prime
  b_is_prime : Binds K fd_is_prime P_is_prime []
  m_is_prime : mg "is_prime" = some (.ref a_is_prime)
  a_check_prime : Addr
  fd_check_prime : FuncData
  F_check_prime : Fun K "check_prime" "check_prime" s_check_prime a_check_prime fd_check_prime
  b_check_prime : Binds K fd_check_prime P_check_prime []
  m_check_prime : mg "check_prime" = some (.ref a_check_prime)
  a_summed : Addr
  fd_summed : FuncData
  F_summed : Fun K "summed" "summed" s_summed a_summed fd_summed
  b_summed : Binds K fd_summed P_summed []
  m_summed : mg "summed" = some (.ref a_summed)
  a_remaining : Addr
  fd_remaining : FuncData
  F_remaining : Fun K "remaining" "remaining" s_remaining a_remaining fd_remaining
  b_remaining : Binds K fd_remaining P_remaining []
  m_remaining : mg "remaining" = some (.ref a_remaining)
  a_reduced : Addr
  fd_reduced : FuncData
  F_reduced : Fun K "reduced" "reduced" s_reduced a_reduced fd_reduced
  b_reduced : Binds K fd_reduced P_reduced []
  m_reduced : mg "reduced" = some (.ref a_reduced)
  a_sums_modulo : Addr
  fd_sums_modulo : FuncData
  F_sums_modulo : Fun K "sums_modulo" "sums_modulo" s_sums_modulo a_sums_modulo fd_sums_modulo
  b_sums_modulo : Binds K fd_sums_modulo P_sums_modulo []
  m_sums_modulo : mg "sums_modulo" = some (.ref a_sums_modulo)
  a_check_residues : Addr
  fd_check_residues : FuncData
  F_check_residues : Fun K "check_residues" "check_residues" s_check_residues a_check_residues fd_check_residues
  b_check_residues : Binds K fd_check_residues P_check_residues []
  m_check_residues : mg "check_residues" = some (.ref a_check_residues)
  a_in_row : Addr
  fd_in_row : FuncData
  F_in_row : Fun K "in_row" "in_row" s_in_row a_in_row fd_in_row
  b_in_row : Binds K fd_in_row P_in_row []
  m_in_row : mg "in_row" = some (.ref a_in_row)
  a_rule_modulo : Addr
  fd_rule_modulo : FuncData
  F_rule_modulo : Fun K "rule_modulo" "rule_modulo" s_rule_modulo a_rule_modulo fd_rule_modulo
  b_rule_modulo : Binds K fd_rule_modulo P_rule_modulo []
  m_rule_modulo : mg "rule_modulo" = some (.ref a_rule_modulo)
  a_inverse_modulo : Addr
  fd_inverse_modulo : FuncData
  F_inverse_modulo : Fun K "inverse_modulo" "inverse_modulo" s_inverse_modulo a_inverse_modulo fd_inverse_modulo
  b_inverse_modulo : Binds K fd_inverse_modulo P_inverse_modulo []
  m_inverse_modulo : mg "inverse_modulo" = some (.ref a_inverse_modulo)
  a_value_of : Addr
  fd_value_of : FuncData
  F_value_of : Fun K "value_of" "value_of" s_value_of a_value_of fd_value_of
  b_value_of : Binds K fd_value_of P_value_of []
  m_value_of : mg "value_of" = some (.ref a_value_of)
  a_amount_modulo : Addr
  fd_amount_modulo : FuncData
  F_amount_modulo : Fun K "amount_modulo" "amount_modulo" s_amount_modulo a_amount_modulo fd_amount_modulo
  b_amount_modulo : Binds K fd_amount_modulo P_amount_modulo []
  m_amount_modulo : mg "amount_modulo" = some (.ref a_amount_modulo)
  a_divided : Addr
  fd_divided : FuncData
  F_divided : Fun K "divided" "divided" s_divided a_divided fd_divided
  b_divided : Binds K fd_divided P_divided []
  m_divided : mg "divided" = some (.ref a_divided)
  a_told_modulo : Addr
  fd_told_modulo : FuncData
  F_told_modulo : Fun K "told_modulo" "told_modulo" s_told_modulo a_told_modulo fd_told_modulo
  b_told_modulo : Binds K fd_told_modulo P_told_modulo []
  m_told_modulo : mg "told_modulo" = some (.ref a_told_modulo)
  a_rule_length_modulo : Addr
  fd_rule_length_modulo : FuncData
  F_rule_length_modulo : Fun K "rule_length_modulo" "rule_length_modulo" s_rule_length_modulo a_rule_length_modulo fd_rule_length_modulo
  b_rule_length_modulo : Binds K fd_rule_length_modulo P_rule_length_modulo []
  m_rule_length_modulo : mg "rule_length_modulo" = some (.ref a_rule_length_modulo)
  a_all_told : Addr
  fd_all_told : FuncData
  F_all_told : Fun K "all_told" "all_told" s_all_told a_all_told fd_all_told
  b_all_told : Binds K fd_all_told P_all_told []
  m_all_told : mg "all_told" = some (.ref a_all_told)
  a__law_call : Addr
  fd__law_call : FuncData
  F__law_call : Fun K "_law_call" "_law_call" s__law_call a__law_call fd__law_call
  b__law_call : Binds K fd__law_call P__law_call []
  m__law_call : mg "_law_call" = some (.ref a__law_call)
  a__law_told : Addr
  fd__law_told : FuncData
  F__law_told : Fun K "_law_told" "_law_told" s__law_told a__law_told fd__law_told
  b__law_told : Binds K fd__law_told P__law_told []
  m__law_told : mg "_law_told" = some (.ref a__law_told)
  a__law_small_right : Addr
  fd__law_small_right : FuncData
  F__law_small_right : Fun K "_law_small_right" "_law_small_right" s__law_small_right a__law_small_right fd__law_small_right
  b__law_small_right : Binds K fd__law_small_right P__law_small_right []
  m__law_small_right : mg "_law_small_right" = some (.ref a__law_small_right)
  a_Ledger__init__ : Addr
  fd_Ledger__init__ : FuncData
  F_Ledger__init__ : FunV K "__init__" "Ledger.__init__" s_Ledger__init__ a_Ledger__init__ fd_Ledger__init__
  b_Ledger__init__ : Binds K fd_Ledger__init__ P_Ledger__init__ []
  C_Ledger : Addr
  M_Ledger : Mk K C_Ledger a_Ledger__init__
  m_Ledger : mg "Ledger" = some (.ref C_Ledger)
  cl_Ledger : Cls K C_Ledger
  n_Ledger : NoAttr K C_Ledger "_pairs"
  I_Ledger : InsC K C_Ledger
  a__law_no_book : Addr
  fd__law_no_book : FuncData
  F__law_no_book : Fun K "_law_no_book" "_law_no_book" s__law_no_book a__law_no_book fd__law_no_book
  b__law_no_book : Binds K fd__law_no_book P__law_no_book []
  m__law_no_book : mg "_law_no_book" = some (.ref a__law_no_book)
  a__law_no_prime : Addr
  fd__law_no_prime : FuncData
  F__law_no_prime : Fun K "_law_no_prime" "_law_no_prime" s__law_no_prime a__law_no_prime fd__law_no_prime
  b__law_no_prime : Binds K fd__law_no_prime P__law_no_prime []
  m__law_no_prime : mg "_law_no_prime" = some (.ref a__law_no_prime)
  a_is_sums : Addr
  fd_is_sums : FuncData
  F_is_sums : Fun K "is_sums" "is_sums" s_is_sums a_is_sums fd_is_sums
  b_is_sums : Binds K fd_is_sums P_is_sums []
  m_is_sums : mg "is_sums" = some (.ref a_is_sums)
  a_check_sums : Addr
  fd_check_sums : FuncData
  F_check_sums : Fun K "check_sums" "check_sums" s_check_sums a_check_sums fd_check_sums
  b_check_sums : Binds K fd_check_sums P_check_sums []
  m_check_sums : mg "check_sums" = some (.ref a_check_sums)
  a_Sums__init__ : Addr
  fd_Sums__init__ : FuncData
  F_Sums__init__ : FunV K "__init__" "Sums.__init__" s_Sums__init__ a_Sums__init__ fd_Sums__init__
  b_Sums__init__ : Binds K fd_Sums__init__ P_Sums__init__ []
  C_Sums : Addr
  M_Sums : Mk K C_Sums a_Sums__init__
  m_Sums : mg "Sums" = some (.ref C_Sums)
  cl_Sums : Cls K C_Sums
  n_Sums : NoAttr K C_Sums "_numbers"
  I_Sums : InsC K C_Sums
  a__law_no_rests : Addr
  fd__law_no_rests : FuncData
  F__law_no_rests : Fun K "_law_no_rests" "_law_no_rests" s__law_no_rests a__law_no_rests fd__law_no_rests
  b__law_no_rests : Binds K fd__law_no_rests P__law_no_rests []
  m__law_no_rests : mg "_law_no_rests" = some (.ref a__law_no_rests)
  a_law : Addr
  fd_law : FuncData
  F_law : Fun K "law" "law" s_law a_law fd_law
  b_law : Binds K fd_law P_law []
  m_law : mg "law" = some (.ref a_law)
  e_InvalidLedger : Addr
  g_InvalidLedger : mg "InvalidLedger" = some (.ref e_InvalidLedger)
  u_InvalidLedger : PySem.W.subIn K (.ref e_InvalidLedger) (.type "BaseException") = some true
  t_InvalidLedger : PySem.W.typeIn K (.ref e_InvalidLedger) = some (.type "type")
  h_InvalidLedger : PySem.W.hasDictIn K e_InvalidLedger = true
  e_InvalidNumber : Addr
  g_InvalidNumber : mg "InvalidNumber" = some (.ref e_InvalidNumber)
  u_InvalidNumber : PySem.W.subIn K (.ref e_InvalidNumber) (.type "BaseException") = some true
  t_InvalidNumber : PySem.W.typeIn K (.ref e_InvalidNumber) = some (.type "type")
  h_InvalidNumber : PySem.W.hasDictIn K e_InvalidNumber = true
  e_InvalidPrime : Addr
  g_InvalidPrime : mg "InvalidPrime" = some (.ref e_InvalidPrime)
  u_InvalidPrime : PySem.W.subIn K (.ref e_InvalidPrime) (.type "BaseException") = some true
  t_InvalidPrime : PySem.W.typeIn K (.ref e_InvalidPrime) = some (.type "type")
  h_InvalidPrime : PySem.W.hasDictIn K e_InvalidPrime = true
  e_InvalidResidues : Addr
  g_InvalidResidues : mg "InvalidResidues" = some (.ref e_InvalidResidues)
  u_InvalidResidues : PySem.W.subIn K (.ref e_InvalidResidues) (.type "BaseException") = some true
  t_InvalidResidues : PySem.W.typeIn K (.ref e_InvalidResidues) = some (.type "type")
  h_InvalidResidues : PySem.W.hasDictIn K e_InvalidResidues = true
  e_OtherLength : Addr
  g_OtherLength : mg "OtherLength" = some (.ref e_OtherLength)
  u_OtherLength : PySem.W.subIn K (.ref e_OtherLength) (.type "BaseException") = some true
  t_OtherLength : PySem.W.typeIn K (.ref e_OtherLength) = some (.type "type")
  h_OtherLength : PySem.W.hasDictIn K e_OtherLength = true
  e_SumsError : Addr
  g_SumsError : mg "SumsError" = some (.ref e_SumsError)
  u_SumsError : PySem.W.subIn K (.ref e_SumsError) (.type "BaseException") = some true
  t_SumsError : PySem.W.typeIn K (.ref e_SumsError) = some (.type "type")
  h_SumsError : PySem.W.hasDictIn K e_SumsError = true
  x_InvalidLedger : PySem.W.excIn K e_InvalidLedger [.type "ValueError", .type "Exception", .type "BaseException", .type "object"] "ValueError.__new__" = true
  k_InvalidLedger : PySem.W.keepIn K (.ref e_InvalidLedger) = true
  E_InvalidLedger : ExcC K e_InvalidLedger
  v_InvalidLedger : PySem.W.kitOne K (.ref e_InvalidLedger) (.type "ValueError") = some true
  x_InvalidNumber : PySem.W.excIn K e_InvalidNumber [.type "ValueError", .type "Exception", .type "BaseException", .type "object"] "ValueError.__new__" = true
  k_InvalidNumber : PySem.W.keepIn K (.ref e_InvalidNumber) = true
  E_InvalidNumber : ExcC K e_InvalidNumber
  v_InvalidNumber : PySem.W.kitOne K (.ref e_InvalidNumber) (.type "ValueError") = some true
  x_InvalidPrime : PySem.W.excIn K e_InvalidPrime [.type "ValueError", .type "Exception", .type "BaseException", .type "object"] "ValueError.__new__" = true
  k_InvalidPrime : PySem.W.keepIn K (.ref e_InvalidPrime) = true
  E_InvalidPrime : ExcC K e_InvalidPrime
  v_InvalidPrime : PySem.W.kitOne K (.ref e_InvalidPrime) (.type "ValueError") = some true
  x_InvalidResidues : PySem.W.excIn K e_InvalidResidues [.type "ValueError", .type "Exception", .type "BaseException", .type "object"] "ValueError.__new__" = true
  k_InvalidResidues : PySem.W.keepIn K (.ref e_InvalidResidues) = true
  E_InvalidResidues : ExcC K e_InvalidResidues
  v_InvalidResidues : PySem.W.kitOne K (.ref e_InvalidResidues) (.type "ValueError") = some true
  x_OtherLength : PySem.W.excIn K e_OtherLength [.type "ValueError", .type "Exception", .type "BaseException", .type "object"] "ValueError.__new__" = true
  k_OtherLength : PySem.W.keepIn K (.ref e_OtherLength) = true
  E_OtherLength : ExcC K e_OtherLength
  v_OtherLength : PySem.W.kitOne K (.ref e_OtherLength) (.type "ValueError") = some true
  s_InvalidLedger_InvalidLedger : PySem.W.subIn K (.ref e_InvalidLedger) (.ref e_InvalidLedger) = some true
  s_InvalidLedger_InvalidNumber : PySem.W.subIn K (.ref e_InvalidLedger) (.ref e_InvalidNumber) = some false
  s_InvalidLedger_InvalidPrime : PySem.W.subIn K (.ref e_InvalidLedger) (.ref e_InvalidPrime) = some false
  s_InvalidLedger_InvalidResidues : PySem.W.subIn K (.ref e_InvalidLedger) (.ref e_InvalidResidues) = some false
  s_InvalidLedger_OtherLength : PySem.W.subIn K (.ref e_InvalidLedger) (.ref e_OtherLength) = some false
  s_InvalidLedger_SumsError : PySem.W.subIn K (.ref e_InvalidLedger) (.ref e_SumsError) = some true
  s_InvalidNumber_InvalidLedger : PySem.W.subIn K (.ref e_InvalidNumber) (.ref e_InvalidLedger) = some false
  s_InvalidNumber_InvalidNumber : PySem.W.subIn K (.ref e_InvalidNumber) (.ref e_InvalidNumber) = some true
  s_InvalidNumber_InvalidPrime : PySem.W.subIn K (.ref e_InvalidNumber) (.ref e_InvalidPrime) = some false
  s_InvalidNumber_InvalidResidues : PySem.W.subIn K (.ref e_InvalidNumber) (.ref e_InvalidResidues) = some false
  s_InvalidNumber_OtherLength : PySem.W.subIn K (.ref e_InvalidNumber) (.ref e_OtherLength) = some false
  s_InvalidNumber_SumsError : PySem.W.subIn K (.ref e_InvalidNumber) (.ref e_SumsError) = some true
  s_InvalidPrime_InvalidLedger : PySem.W.subIn K (.ref e_InvalidPrime) (.ref e_InvalidLedger) = some false
  s_InvalidPrime_InvalidNumber : PySem.W.subIn K (.ref e_InvalidPrime) (.ref e_InvalidNumber) = some false
  s_InvalidPrime_InvalidPrime : PySem.W.subIn K (.ref e_InvalidPrime) (.ref e_InvalidPrime) = some true
  s_InvalidPrime_InvalidResidues : PySem.W.subIn K (.ref e_InvalidPrime) (.ref e_InvalidResidues) = some false
  s_InvalidPrime_OtherLength : PySem.W.subIn K (.ref e_InvalidPrime) (.ref e_OtherLength) = some false
  s_InvalidPrime_SumsError : PySem.W.subIn K (.ref e_InvalidPrime) (.ref e_SumsError) = some true
  s_InvalidResidues_InvalidLedger : PySem.W.subIn K (.ref e_InvalidResidues) (.ref e_InvalidLedger) = some false
  s_InvalidResidues_InvalidNumber : PySem.W.subIn K (.ref e_InvalidResidues) (.ref e_InvalidNumber) = some false
  s_InvalidResidues_InvalidPrime : PySem.W.subIn K (.ref e_InvalidResidues) (.ref e_InvalidPrime) = some false
  s_InvalidResidues_InvalidResidues : PySem.W.subIn K (.ref e_InvalidResidues) (.ref e_InvalidResidues) = some true
  s_InvalidResidues_OtherLength : PySem.W.subIn K (.ref e_InvalidResidues) (.ref e_OtherLength) = some false
  s_InvalidResidues_SumsError : PySem.W.subIn K (.ref e_InvalidResidues) (.ref e_SumsError) = some true
  s_OtherLength_InvalidLedger : PySem.W.subIn K (.ref e_OtherLength) (.ref e_InvalidLedger) = some false
  s_OtherLength_InvalidNumber : PySem.W.subIn K (.ref e_OtherLength) (.ref e_InvalidNumber) = some false
  s_OtherLength_InvalidPrime : PySem.W.subIn K (.ref e_OtherLength) (.ref e_InvalidPrime) = some false
  s_OtherLength_InvalidResidues : PySem.W.subIn K (.ref e_OtherLength) (.ref e_InvalidResidues) = some false
  s_OtherLength_OtherLength : PySem.W.subIn K (.ref e_OtherLength) (.ref e_OtherLength) = some true
  s_OtherLength_SumsError : PySem.W.subIn K (.ref e_OtherLength) (.ref e_SumsError) = some true
  z_ValueError : mg "ValueError" = none
  z_abs : mg "abs" = none
  z_all : mg "all" = none
  z_bool : mg "bool" = none
  z_enumerate : mg "enumerate" = none
  z_int : mg "int" = none
  z_isinstance : mg "isinstance" = none
  z_len : mg "len" = none
  z_list : mg "list" = none
  z_max : mg "max" = none
  z_min : mg "min" = none
  z_range : mg "range" = none
  z_sorted : mg "sorted" = none
  z_sum : mg "sum" = none
  z_tuple : mg "tuple" = none
  z_zip : mg "zip" = none
def g_kb_all_told_0_prime_sums {α : Type} (us ws : List α) : List α := match us, ws with
  | [], [k0, k1] => [k1, k0]
  | _, _ => []
theorem kb_all_told_0_prime_sums {K : PySem.W.Frag} {f : Addr} {fd : FuncData} (F : Fun K "all_told" "all_told" s_all_told f fd) : KBinds K fd P_all_told ["prime", "sums"] g_kb_all_told_0_prime_sums g_kb_all_told_0_prime_sums where
  to := fun s us ws _ hl => by
    obtain ⟨oc, od, kV, doc, pm, an, cdv, ct, osl, rfl, lk, hcd⟩ := F.ex
    unfold g_kb_all_told_0_prime_sums at hl ⊢
    split at hl
    · exact .of_eq rfl
    · exact absurd hl (by decide)
  rel := fun {vs us zs ws} h1 h2 => by
    rcases h1 with _ | ⟨_, _⟩ <;> rcases h2 with _ | ⟨rk0, _ | ⟨rk1, _ | ⟨_, _⟩⟩⟩ <;> first | exact (.cons rk1 (.cons rk0 .nil)) | exact .nil
theorem v_kb_all_told_0_prime_sums {H : Hp} {uk0 uk1 : Sl} : ∀ vs zs : List V, VS H vs [] → VS H zs [uk0, uk1] → VS H (g_kb_all_told_0_prime_sums vs zs) [uk1, uk0] := by
  intro vs zs h1 h2
  have za := VS.inv0 h1
  subst za
  obtain ⟨wk0, tk0, rfl, qk0, rk0⟩ := VS.inv1 h2
  obtain ⟨wk1, tk1, rfl, qk1, rk1⟩ := VS.inv1 rk0
  have zb := VS.inv0 rk1
  subst zb
  exact (VS.cons qk1 (VS.cons qk0 VS.nil))
def g_kb_reduced_0_prime_ledger {α : Type} (us ws : List α) : List α := match us, ws with
  | [], [k0, k1] => [k1, k0]
  | _, _ => []
theorem kb_reduced_0_prime_ledger {K : PySem.W.Frag} {f : Addr} {fd : FuncData} (F : Fun K "reduced" "reduced" s_reduced f fd) : KBinds K fd P_reduced ["prime", "ledger"] g_kb_reduced_0_prime_ledger g_kb_reduced_0_prime_ledger where
  to := fun s us ws _ hl => by
    obtain ⟨oc, od, kV, doc, pm, an, cdv, ct, osl, rfl, lk, hcd⟩ := F.ex
    unfold g_kb_reduced_0_prime_ledger at hl ⊢
    split at hl
    · exact .of_eq rfl
    · exact absurd hl (by decide)
  rel := fun {vs us zs ws} h1 h2 => by
    rcases h1 with _ | ⟨_, _⟩ <;> rcases h2 with _ | ⟨rk0, _ | ⟨rk1, _ | ⟨_, _⟩⟩⟩ <;> first | exact (.cons rk1 (.cons rk0 .nil)) | exact .nil
theorem v_kb_reduced_0_prime_ledger {H : Hp} {uk0 uk1 : Sl} : ∀ vs zs : List V, VS H vs [] → VS H zs [uk0, uk1] → VS H (g_kb_reduced_0_prime_ledger vs zs) [uk1, uk0] := by
  intro vs zs h1 h2
  have za := VS.inv0 h1
  subst za
  obtain ⟨wk0, tk0, rfl, qk0, rk0⟩ := VS.inv1 h2
  obtain ⟨wk1, tk1, rfl, qk1, rk1⟩ := VS.inv1 rk0
  have zb := VS.inv0 rk1
  subst zb
  exact (VS.cons qk1 (VS.cons qk0 VS.nil))
def g_kb_rule_length_modulo_0_prime_sums {α : Type} (us ws : List α) : List α := match us, ws with
  | [], [k0, k1] => [k1, k0]
  | _, _ => []
theorem kb_rule_length_modulo_0_prime_sums {K : PySem.W.Frag} {f : Addr} {fd : FuncData} (F : Fun K "rule_length_modulo" "rule_length_modulo" s_rule_length_modulo f fd) : KBinds K fd P_rule_length_modulo ["prime", "sums"] g_kb_rule_length_modulo_0_prime_sums g_kb_rule_length_modulo_0_prime_sums where
  to := fun s us ws _ hl => by
    obtain ⟨oc, od, kV, doc, pm, an, cdv, ct, osl, rfl, lk, hcd⟩ := F.ex
    unfold g_kb_rule_length_modulo_0_prime_sums at hl ⊢
    split at hl
    · exact .of_eq rfl
    · exact absurd hl (by decide)
  rel := fun {vs us zs ws} h1 h2 => by
    rcases h1 with _ | ⟨_, _⟩ <;> rcases h2 with _ | ⟨rk0, _ | ⟨rk1, _ | ⟨_, _⟩⟩⟩ <;> first | exact (.cons rk1 (.cons rk0 .nil)) | exact .nil
theorem v_kb_rule_length_modulo_0_prime_sums {H : Hp} {uk0 uk1 : Sl} : ∀ vs zs : List V, VS H vs [] → VS H zs [uk0, uk1] → VS H (g_kb_rule_length_modulo_0_prime_sums vs zs) [uk1, uk0] := by
  intro vs zs h1 h2
  have za := VS.inv0 h1
  subst za
  obtain ⟨wk0, tk0, rfl, qk0, rk0⟩ := VS.inv1 h2
  obtain ⟨wk1, tk1, rfl, qk1, rk1⟩ := VS.inv1 rk0
  have zb := VS.inv0 rk1
  subst zb
  exact (VS.cons qk1 (VS.cons qk0 VS.nil))
def g_kb_sums_modulo_0_number_prime_ledger {α : Type} (us ws : List α) : List α := match us, ws with
  | [], [k0, k1, k2] => [k2, k1, k0]
  | _, _ => []
theorem kb_sums_modulo_0_number_prime_ledger {K : PySem.W.Frag} {f : Addr} {fd : FuncData} (F : Fun K "sums_modulo" "sums_modulo" s_sums_modulo f fd) : KBinds K fd P_sums_modulo ["number", "prime", "ledger"] g_kb_sums_modulo_0_number_prime_ledger g_kb_sums_modulo_0_number_prime_ledger where
  to := fun s us ws _ hl => by
    obtain ⟨oc, od, kV, doc, pm, an, cdv, ct, osl, rfl, lk, hcd⟩ := F.ex
    unfold g_kb_sums_modulo_0_number_prime_ledger at hl ⊢
    split at hl
    · exact .of_eq rfl
    · exact absurd hl (by decide)
  rel := fun {vs us zs ws} h1 h2 => by
    rcases h1 with _ | ⟨_, _⟩ <;> rcases h2 with _ | ⟨rk0, _ | ⟨rk1, _ | ⟨rk2, _ | ⟨_, _⟩⟩⟩⟩ <;> first | exact (.cons rk2 (.cons rk1 (.cons rk0 .nil))) | exact .nil
theorem v_kb_sums_modulo_0_number_prime_ledger {H : Hp} {uk0 uk1 uk2 : Sl} : ∀ vs zs : List V, VS H vs [] → VS H zs [uk0, uk1, uk2] → VS H (g_kb_sums_modulo_0_number_prime_ledger vs zs) [uk2, uk1, uk0] := by
  intro vs zs h1 h2
  have za := VS.inv0 h1
  subst za
  obtain ⟨wk0, tk0, rfl, qk0, rk0⟩ := VS.inv1 h2
  obtain ⟨wk1, tk1, rfl, qk1, rk1⟩ := VS.inv1 rk0
  obtain ⟨wk2, tk2, rfl, qk2, rk2⟩ := VS.inv1 rk1
  have zb := VS.inv0 rk2
  subst zb
  exact (VS.cons qk2 (VS.cons qk1 (VS.cons qk0 VS.nil)))
def g_kb_told_modulo_0_prime_sums {α : Type} (us ws : List α) : List α := match us, ws with
  | [], [k0, k1] => [k1, k0]
  | _, _ => []
theorem kb_told_modulo_0_prime_sums {K : PySem.W.Frag} {f : Addr} {fd : FuncData} (F : Fun K "told_modulo" "told_modulo" s_told_modulo f fd) : KBinds K fd P_told_modulo ["prime", "sums"] g_kb_told_modulo_0_prime_sums g_kb_told_modulo_0_prime_sums where
  to := fun s us ws _ hl => by
    obtain ⟨oc, od, kV, doc, pm, an, cdv, ct, osl, rfl, lk, hcd⟩ := F.ex
    unfold g_kb_told_modulo_0_prime_sums at hl ⊢
    split at hl
    · exact .of_eq rfl
    · exact absurd hl (by decide)
  rel := fun {vs us zs ws} h1 h2 => by
    rcases h1 with _ | ⟨_, _⟩ <;> rcases h2 with _ | ⟨rk0, _ | ⟨rk1, _ | ⟨_, _⟩⟩⟩ <;> first | exact (.cons rk1 (.cons rk0 .nil)) | exact .nil
theorem v_kb_told_modulo_0_prime_sums {H : Hp} {uk0 uk1 : Sl} : ∀ vs zs : List V, VS H vs [] → VS H zs [uk0, uk1] → VS H (g_kb_told_modulo_0_prime_sums vs zs) [uk1, uk0] := by
  intro vs zs h1 h2
  have za := VS.inv0 h1
  subst za
  obtain ⟨wk0, tk0, rfl, qk0, rk0⟩ := VS.inv1 h2
  obtain ⟨wk1, tk1, rfl, qk1, rk1⟩ := VS.inv1 rk0
  have zb := VS.inv0 rk1
  subst zb
  exact (VS.cons qk1 (VS.cons qk0 VS.nil))
section
variable {P : Program} {w : World} {K : PySem.W.Frag} {mg : Str → Option Value} {base : Heap}
/-! ### _law_primes -/
def R__law_primes : RelX := fun _ sls c Φ => c = 0 ∧ ∃ b : Nat, b ≤ 1000 ∧ sls = [.dat (.int ((b + 2 : Nat) : Int))] ∧ Φ = fun d => d = .list (((prL b).map fun n : Nat => (n : Int)).map .int)
theorem ok__law_primes (T : Tx K mg) : FnOk P w K mg base CX0 1 T.a__law_primes T.fd__law_primes P__law_primes (spX R__law_primes) := by
  refine fn_ok T.F__law_primes sc__law_primes (by decide) (fun q sls c Φ h => by obtain ⟨_, b, _, rfl, _⟩ := h; rfl) fun cdv A outer s B0 Ew hr => ⟨_,
    (pss_cons (ps_set (i := 1) sc__law_primes.nd rfl (Or.inl rfl) (pe_lst pa_nil))
      (pss_cons (ps_for PassesOwn.never rfl (pi_range2 rfl T.z_range (pa_cons pe_int (pa_cons (pv 0) pa_nil))) (pg_name (i := 2) sc__law_primes.nd rfl (Or.inr rfl)) (pss_one (ps_if (pt_cmpR (k_eqD (K := K) rfl hr.units) (pe_lc (own := [("p_here", 3)]) rfl sc__law_primes.nd (k_piList (K := K) rfl (pv 1)) (blkOk_by (own := [("p_here", 3)]) (N := N__law_primes) (sc := defScope s__law_primes) (by decide +kernel)) (fun _ _ _ _ _ => (pg_name (i := 3) sc__law_primes.nd rfl (Or.inl rfl))) (fun _ _ _ _ _ => (pts_one (PW.pt (pw_and (pt_cmpR op_le (pe_op op_mulU (pv 3) (pv 3)) (pv 2) (nomark _)) (pw_and1 (pt_cmpR (k_eqD (K := K) rfl hr.units) (pe_op op_modN (pe_callTy call_intQ (by rfl) T.z_int (by decide +kernel) (pa_cons (pv 2) pa_nil)) (pv 3)) pe_int (nomark _))))))) (fun _ _ _ _ _ => (pv 3))) (pe_lst pa_nil) (nomark _)) (pss_one (ps_expr (pe_bm PySem.F.plainAttrs_list PySem.F.slot_list_append PySem.F.type_list_append mt_append (pv 1) (pa_cons (pv 2) pa_nil)))) pss_nil)))
      (pss_one (ps_ret (pv 1))))), fun q sls n c Φ A0 σ Q hR hA fin => ?_⟩
  obtain ⟨rfl, b, hb, rfl, rfl⟩ := hR
  refine q_newL (i := 1) hA fun p H1 a1 cl1 => ?_
  refine q_for (n := n) (c := 0) (ie_rng2 (i := 2) (j := ((b + 2 : Nat) : Int)) e_int (e_var rfl) (by omega)) a1 fun items HkW H2 e g2 a2 => ?_
  subst e
  refine ⟨fun i σ' Hk' H' => Same HkW Hk' ∧ At q n [.dat (.int ((b + 2 : Nat) : Int)), .adr p, .any, .any] A0 B0 σ' Hk' H' ∧ Cell q B0 Hk' H' p (((prL i).map fun n : Nat => (n : Int)).map .int), ⟨Same.refl _, a2, cl1.go g2⟩, fun i σ' Hk' H' h => ⟨h.1, h.2.1.ok.a⟩, ?_, ?_⟩
  · rintro i d σ' Hk' H' ed ⟨h2, st, cl⟩ v Hk3 H3 g3 dv
    obtain ⟨hi, rfl⟩ := rng_get' ed
    refine gb_name (vs := [2]) (by simp) σ' Hk3 H3 v (st.sg.mono g3.k) g3.a dv _ fun σ2 sg2 _ _ => ?_
    have st2 : At q n _ A0 B0 σ2 Hk3 H3 := ⟨st.ok.go g3, sg2, st.gr.trans g3.none_to⟩
    have hlen := prL_len i
    have hsub : ∀ q ∈ prL i, 2 ≤ q ∧ q < i + 2 := prL_lt i
    refine s_ifC (i := 1) (b := (prL i).all (fun q => !(decide (q * q ≤ i + 2) && (i + 2) % q == 0))) (tb_test (e_is (e_eqNilL (f := ((prL i).filter fun q => decide (q * q ≤ i + 2) && (i + 2) % q == 0).map fun n : Nat => (n : Int)) (e_is (e_lc (vs := [3]) (emb := fun n : Nat => PyData.int (n : Int)) (xs := prL i) ((ie_lst (ds := ((prL i).map fun n : Nat => (n : Int)).map .int) (e_var rfl)).is (by rw [List.map_map]; rfl)) (fun q => decide (q * q ≤ i + 2) && (i + 2) % q == 0) (fun n => .int (n : Int)) (by omega) fun q hq => ⟨_, gb_name (by simp), ?_, fun _ => e_var rfl⟩) (by rw [List.map_map]; rfl))) (by rw [filter_none]))) st2 (cl.go g3.none_to) rfl (fun hb' Hk4 H4 g4 a4 cl4 => ?_) (fun hb' Hk4 H4 g4 a4 cl4 => ?_)
    · have h2 := hsub q hq
      refine tb_is (tb_and (a := decide (q * q ≤ i + 2)) (b := (i + 2) % q == 0) (tb_is (tb_test (e_leI (e_mulI (e_var rfl) (e_var rfl) (wide_mul (a := 12) (b := 12) (by omega) (by omega) (by omega) (by omega) (by omega))) (e_var rfl))) ?_) fun _ => tb_is (tb_test (e_eqDI (e_mod (e_toInt (e_var rfl)) (e_var rfl) (by omega)) e_int)) ?_) rfl
      · rw [decide_eq_decide]
        constructor
        · intro z
          have z2 : (q : Int) * (q : Int) ≤ ((i + 2 : Nat) : Int) := by omega
          exact_mod_cast z2
        · intro z
          have z2 : (q : Int) * (q : Int) ≤ ((i + 2 : Nat) : Int) := by exact_mod_cast z
          omega
      · rw [show (2 : Int) + (i : Int) = ((i + 2 : Nat) : Int) by omega, Int.fmod_eq_emod_of_nonneg _ (by omega)]
        have e : (((i + 2) % q : Nat) : Int) = ((i + 2 : Nat) : Int) % (q : Int) := Int.natCast_emod (i + 2) q
        rw [← e]
        by_cases z : (i + 2) % q = 0
        · rw [z]; rfl
        · rw [beq_eq_false_iff_ne.mpr z]
          exact beq_eq_false_iff_ne.mpr (by omega)
    · refine s_append (n := n) (c := 0) (Φ := fun d => d = .int ((i + 2 : Nat) : Int)) (e_is (e_var rfl) (by congr 1; omega)) a4 cl4 rfl (by rw [List.length_map, List.length_map]; omega) fun d Hk5 H5 ed s5 a5 cl5 => ⟨Hk5, ((h2.trans g3.k).trans g4.k).trans s5, a5.forget 2, ?_⟩
      have e : prL (i + 1) = prL i ++ [i + 2] := by
        show (if _ then _ else _) = _
        rw [if_pos hb']
      rw [e, List.map_append, List.map_append]
      rw [ed] at cl5
      exact cl5
    · have e : prL (i + 1) = prL i := by
        show (if _ then _ else _) = _
        rw [if_neg (by rw [hb']; simp)]
      exact ⟨Hk4, (h2.trans g3.k).trans g4.k, a4.forget 2, by rw [e]; exact cl4⟩
  · rintro σ' Hk' H' ⟨h2, st, cl⟩
    rw [rng_len, show (((b + 2 : Nat) : Int) - 2).toNat = b by omega] at cl
    obtain ⟨Hk5, s5, st5⟩ := st.freeze (i := 1) cl rfl
    exact s_retE (d := .list (((prL b).map fun n : Nat => (n : Int)).map .int)) (e_var rfl) st5 (Nat.le_refl _) fin rfl
/-! ### _law_jar -/

theorem ok__law_jar (T : Tx K mg) : FnOk P w K mg base CX0 1 T.a__law_jar T.fd__law_jar P__law_jar (spMk K) := by
  refine T.F__law_jar.ok sc__law_jar (fun vs H Q Ew h => by obtain ⟨a, ns, t, rfl, _⟩ := h; rfl) (fun cdv A outer s H vs Q Ew hr h => ?_)
  obtain ⟨a, ns, t, rfl, hS, h0, h1, k⟩ := h
  refine ⟨_, (pss_cons (ps_set (i := 2) sc__law_jar.nd rfl (Or.inl rfl) (pe_ifExp (pt_cmpR op_lt (pv 1) (pe_callB (k_len (K := K) rfl) (by rfl) T.z_len (by decide +kernel) (pa_cons (pv 0) pa_nil)) (nomark _)) (pe_ix (k_ix (K := K) rfl) (pv 0) (pv 1) (fun _ _ => rfl)) pe_int))
      (pss_one (ps_ret (pe_lst (pa_cons (pe_callB (call_maxQ rfl) (by rfl) T.z_max (by decide +kernel) (pa_cons pe_int (pa_cons (pe_op op_sub (pe_callB call_absQ (by rfl) T.z_abs (by decide +kernel) (pa_cons (pv 2) pa_nil)) (pe_op op_powW pe_int pe_int)) pa_nil))) (pa_cons (pe_op (k_addU (K := K) rfl) (pe_op (k_addU (K := K) rfl) (pe_op op_mulU (pe_op op_modN (pe_callTy call_intQ (by rfl) T.z_int (by decide +kernel) (pa_cons (pv 2) pa_nil)) (pe_op (k_addU (K := K) rfl) (pe_op op_powW pe_int pe_int) pe_int)) pe_int) (pe_op op_mulU pe_int (pv 1))) pe_int) (pa_cons pe_int pa_nil))))))), ?_⟩
  have hA : At none 0 [.scr K ns, .dat (.int t), .any] H H (L2.start N__law_jar [.ref a, .int t]) H H := ⟨⟨Same.refl _, fun p e => (by cases e), fun p e => (by cases e)⟩, start_sg (N := N__law_jar) (VS.cons (s := .scr K ns) ⟨a, rfl, hS⟩ (VS.cons (s := .dat (.int t)) (.int t) VS.nil)) (by show 2 ≤ 3; decide), Gr.refl (Same.refl _)⟩
  refine q_asg (n := 0) (c := 0) (Φ := fun x => ∃ v : Int, x = .int v) ?_ hA fun d σ1 Hk1 H1 ⟨v, e⟩ g1 a1 => ?_
  · by_cases ht : t < ns.length
    · have hv : atI ns t = some (ns[t.toNat]'(by omega)) := by
        have h2 := atI_nat (List.getElem?_eq_getElem (show t.toNat < ns.length by omega))
        rw [Int.toNat_of_nonneg h0] at h2; exact h2
      exact (e_if (b := true) (tb_is (tb_test (e_ltI (e_var rfl) (e_lenS rfl))) (decide_eq_true ht)) (fun _ => e_iS rfl (e_var rfl) hv) (fun h => by cases h)).imp fun d e => ⟨_, e⟩
    · exact (e_if (b := false) (d := .int 0) (tb_is (tb_test (e_ltI (e_var rfl) (e_lenS rfl))) (decide_eq_false ht)) (fun h => by cases h) (fun _ => e_int)).imp fun d e => ⟨_, e⟩
  · subst e
    obtain ⟨m1, em1⟩ : ∃ m : Int, m = (10 : Int) ^ (37 : Int).toNat + 139 := ⟨_, rfl⟩
    have hm1 : 0 < m1 ∧ m1 < 2 ^ 130 := by rw [em1]; exact ⟨by decide, by decide⟩
    have b1 := fmod_in (a := v) hm1.1
    obtain ⟨x, ex⟩ : ∃ x : Int, x = (if (if v < 0 then -v else v) - (10 : Int) ^ (18 : Int).toNat > 0 then (if v < 0 then -v else v) - (10 : Int) ^ (18 : Int).toNat else 0) := ⟨_, rfl⟩
    have E1 := e_max (q := none) (δ := [.scr K ns, .dat (.int t), .dat (.int v)]) (e_int (i := 0)) (e_subI (e_abs (e_var (i := 2) rfl)) (e_pow (e_int (i := 10)) (e_int (i := 18)) (pow_ok (a := 4) (by decide) (by omega) (by omega) (by omega))))
    rw [← ex] at E1
    have E2 := e_addI (q := none) (K := K) (δ := [.scr K ns, .dat (.int t), .dat (.int v)]) (e_addI (K := K) (e_mulI (e_mod (j := m1) (e_intI (e_var (i := 2) rfl)) (e_is (e_addI (K := K) (e_pow (e_int (i := 10)) (e_int (i := 37)) (pow_ok (a := 4) (by decide) (by omega) (by omega) (by omega))) (e_int (i := 139))) (by rw [em1])) (by omega)) (e_int (i := 83)) (wide_mul (a := 130) (b := 7) (by omega) (by decide) (by omega) (by omega) (by omega))) (e_mulI (e_int (i := 61)) (e_var (i := 1) rfl) (wide_mul (a := 6) (b := 11) (by decide) (by omega) (by omega) (by omega) (by omega)))) (e_int (i := 23))
    obtain ⟨y, ey⟩ : ∃ y : Int, y = v.fmod m1 * 83 + 61 * t + 23 := ⟨_, rfl⟩
    rw [← ey] at E2
    refine s_retLst (n := 0) (ds := [.int x, .int y, .int 0]) (ae_cons E1 (ae_cons E2 (ae_cons e_int ae_nil))) (by simp) a1 fun p vs Hk2 H2 g2 hp hv => ?_
    have hvs := DqAll.ints (ns := [x, y, 0]) hv
    subst hvs
    have gg := (g1.trans g2).trans (Gr.cell (q := none) (o := .lst [.int x, .int y, .int 0]) g2.a hp)
    refine k p _ (fun b o h => gg.s b o (fun z => by cases z) h) ?_ ⟨x, y, 0, upd_same, by omega, by omega, by omega, by omega⟩
    cases hH : H p with
    | none => rfl
    | some o => exact absurd hp ((g1.trans g2).t p (by rw [hH]; exact fun z => by cases z))
/-! ### _law_gather -/
def R__law_gather : RelX := fun _ sls c Φ => c = 0 ∧ ∃ cs : List (Int × Int), cs.length ≤ 100000 ∧ sls = [.dat (.list (pd cs))] ∧ Φ = fun x => x = led (gather cs)
theorem ok__law_gather (T : Tx K mg) : FnOk P w K mg base CX0 1 T.a__law_gather T.fd__law_gather P__law_gather (spX R__law_gather) := by
  refine fn_ok T.F__law_gather sc__law_gather (by decide) (fun q sls c Φ h => by obtain ⟨_, l, _, rfl, _⟩ := h; rfl) fun cdv A outer s B0 Ew hr => ?_
  have hu := hu_of hr
  refine ⟨_,
    (pss_cons (ps_set (i := 1) sc__law_gather.nd rfl (Or.inr rfl) pe_dnewK)
      (pss_cons (ps_for PassesOwn.never rfl (k_piList (K := K) rfl (pv 0)) (k_pgTup (K := K) (n := 2) rfl rfl (pgs_cons (pg_name (i := 2) sc__law_gather.nd rfl (Or.inl rfl)) (pgs_cons (pg_name (i := 3) sc__law_gather.nd rfl (Or.inl rfl)) pgs_nil))) (pss_one (ps_dput hu (pv 1) (pv 2) (pe_op (k_addU (K := K) rfl) (pe_dget2 hu (pv 1) (pv 2) pe_int ⟨rfl, rfl, rfl, rfl⟩) (pv 3)) rfl)))
      (pss_one (ps_ret (pe_callTy (k_tup (K := K) rfl) (by rfl) T.z_tuple (by decide +kernel) (pa_cons (pe_lc (own := [("key_here", 2)]) rfl sc__law_gather.nd (k_piList (K := K) rfl (pe_callB (call_sortedDIa rfl) (by rfl) T.z_sorted (by decide +kernel) (pa_cons (pv 1) pa_nil))) (blkOk_by (own := [("key_here", 2)]) (N := N__law_gather) (sc := defScope s__law_gather) (by decide +kernel)) (fun _ _ _ _ _ => (pg_name (i := 2) sc__law_gather.nd rfl (Or.inl rfl))) (fun _ _ _ _ _ => (pts_one (pt_cmpR (k_neD (K := K) rfl hr.units) (pe_dget hu (pv 1) (pv 2) (fun _ _ => rfl)) pe_int (nomark _)))) (fun _ _ _ _ _ => (Cr.pe_tup (pa_cons (pv 2) (pa_cons (pe_dget hu (pv 1) (pv 2) (fun _ _ => rfl)) pa_nil))))) pa_nil)))))), fun q sls n c Φ A0 σ Q hR hA fin => ?_⟩
  obtain ⟨rfl, l, hl, rfl, rfl⟩ := hR
  exact read_summed l hl hA fin
/-! ### _law_pick -/
abbrev R__law_pick : RelX := R_pick
theorem ok__law_pick (T : Tx K mg) : FnOk P w K mg base CX0 1 T.a__law_pick T.fd__law_pick P__law_pick (spX R__law_pick) := by
  refine fn_ok T.F__law_pick sc__law_pick (by decide) (fun q sls c Φ h => by obtain ⟨_, p, b, _, _, _, rfl, _⟩ := h; rfl) fun cdv A outer s B0 Ew hr => ⟨_,
    (pss_cons (ps_if (pt_cmpR op_gt (pe_ix (k_ix (K := K) rfl) (pv 0) pe_int (fun _ _ => rfl)) pe_int (nomark _)) (pss_cons (ps_set (i := 2) sc__law_pick.nd rfl (Or.inl rfl) (pe_op op_modN (pe_callTy call_intQ (by rfl) T.z_int (by decide +kernel) (pa_cons (pe_ix (k_ix (K := K) rfl) (pv 0) pe_int (fun _ _ => rfl)) pa_nil)) (pv 1)))
      (pss_cons (ps_asg (pe_op op_fdivW (pe_ix (k_ix (K := K) rfl) (pv 0) pe_int (fun _ _ => rfl)) (pv 1)) (pg_sub (pv 0) pe_int set_list))
      (pss_one (ps_ret (pv 2))))) pss_nil)
      (pss_cons (ps_asg (pe_op (k_addU (K := K) rfl) (pe_ix (k_ix (K := K) rfl) (pv 0) pe_int (fun _ _ => rfl)) pe_int) (pg_sub (pv 0) pe_int set_list))
      (pss_cons (ps_set (i := 3) sc__law_pick.nd rfl (Or.inl rfl) (pe_op op_modN (pe_op op_powW (pe_callTy call_intQ (by rfl) T.z_int (by decide +kernel) (pa_cons (pe_op (k_addU (K := K) rfl) (pe_ix (k_ix (K := K) rfl) (pv 0) pe_int (fun _ _ => rfl)) (pe_op op_mulU pe_int (pe_ix (k_ix (K := K) rfl) (pv 0) pe_int (fun _ _ => rfl)))) pa_nil)) pe_int) (pe_op (k_addU (K := K) rfl) (pe_op op_powW pe_int pe_int) pe_int)))
      (pss_cons (ps_set (i := 3) sc__law_pick.nd rfl (Or.inl rfl) (pe_op op_modN (pe_op op_powW (pe_callTy call_intQ (by rfl) T.z_int (by decide +kernel) (pa_cons (pe_op (k_addU (K := K) rfl) (pv 3) (pe_op op_mulU pe_int (pe_ix (k_ix (K := K) rfl) (pv 0) pe_int (fun _ _ => rfl)))) pa_nil)) pe_int) (pe_op (k_addU (K := K) rfl) (pe_op op_powW pe_int pe_int) pe_int)))
      (pss_one (ps_ret (pe_op op_modN (pe_op op_fdivW (pv 3) pe_int) (pv 1)))))))), fun q sls n c Φ A0 σ Q hR hA fin => ?_⟩
  obtain ⟨rfl, p, b, rfl, hb, hb2, rfl, rfl⟩ := hR
  exact read_pick hb hb2 hA fin
/-! ### _law_amount -/
def R__law_amount : RelX := fun q sls c Φ => c = 1 ∧ ∃ (p : Addr) (m : Int), q = some p ∧ 1 ≤ m ∧ m < 2 ^ 60 ∧ sls = [.adr p, .dat (.int m)] ∧ Φ = IntP fun i => i ≠ 0 ∧ -m ≤ i ∧ i ≤ m
theorem ok__law_amount (T : Tx K mg) : FnOk P w K mg base CX0 2 T.a__law_amount T.fd__law_amount P__law_amount (spX R__law_amount) := by
  have G__law_pick := ok__law_pick (P := P) (w := w) (base := base) T
  refine fn_ok T.F__law_amount sc__law_amount (by decide) (fun q sls c Φ h => by obtain ⟨_, p, m, _, _, _, rfl, _⟩ := h; rfl) fun cdv A outer s B0 Ew hr => ⟨_,
    (pss_cons (ps_set (i := 2) sc__law_amount.nd rfl (Or.inl rfl) (pe_op op_sub (pe_call G__law_pick (hr.mono (by decide)) (by rfl) T.m__law_pick T.F__law_pick.kp T.b__law_pick .nil pass0 (pa_cons (pv 0) (pa_cons (pe_op op_mulU pe_int (pv 1)) pa_nil))) (pv 1)))
      (pss_one (ps_ret (pe_ifExp (pt_cmpR op_ge (pv 2) pe_int (nomark _)) (pe_op (k_addU (K := K) rfl) (pv 2) pe_int) (pv 2))))), fun q sls n c Φ A0 σ Q hR hA fin => ?_⟩
  obtain ⟨rfl, p, m, rfl, h1, h2, rfl, rfl⟩ := hR
  refine q_asg (n := n) (c := 1) ((j_subI (Φ := IntP fun i => -m ≤ i ∧ i < m) (j_pick rfl (e_mulI e_int (e_var rfl) (wide_mul (a := 2) (b := 60) (by decide) (by omega) (by omega) (by omega) (by omega))) (by omega) (by omega)) (e_var rfl).intP fun i j hi hj => ⟨i - j, by omega, rfl⟩).cost (by omega)) hA fun d σ1 Hk1 H1 ⟨i, hi, ed⟩ g1 a1 => ?_
  subst ed
  by_cases h0 : 0 ≤ i
  · exact s_ret (n := n) (c := 0) (Φ := fun x => x = .int (i + 1)) (e_if (b := true) (tb_is (tb_test (e_geI (e_var rfl) e_int)) (decide_eq_true h0)) (fun _ => e_addI (e_var rfl) e_int) (fun h => by cases h)) a1 (by omega) fin fun d e => ⟨i + 1, by omega, e⟩
  · exact s_ret (n := n) (c := 0) (Φ := fun x => x = .int i) (e_if (b := false) (tb_is (tb_test (e_geI (e_var rfl) e_int)) (decide_eq_false h0)) (fun h => by cases h) (fun _ => e_var rfl)) a1 (by omega) fin fun d e => ⟨i, by omega, e⟩
/-! ### _law_book -/
def R__law_book : RelX := fun q sls c Φ => c = 1000 ∧ ∃ (p : Addr) (m r a : Int), q = some p ∧ 0 ≤ m ∧ m ≤ 400 ∧ 0 ≤ r ∧ r < 2 ^ 50 ∧ 1 ≤ a ∧ a < 2 ^ 50 ∧ sls = [.adr p, .dat (.int m), .dat (.int r), .dat (.int a)] ∧ Φ = fun d => ∃ l, Led l ∧ (l.length : Int) ≤ m ∧ (∀ x ∈ l, -r ≤ x.1 ∧ x.1 ≤ r) ∧ Bd 60 l ∧ d = led l
theorem j_bookS {δ : List Sl} {i : Nat} {p : Addr} {E0 : XK} {tm tr ta : TE} {cm cr ca : Nat} {M : Int} (hi : δ[i]? = some (.adr p)) (hM : M ≤ 400) (hm : J (some p) δ tm cm (IntP fun x => 0 ≤ x ∧ x ≤ M)) (hr : J (some p) δ tr cr (IntP fun x => 0 ≤ x ∧ x < 10 ^ 15)) (ha : J (some p) δ ta ca (IntP fun x => 1 ≤ x ∧ x < 10 ^ 15)) :
    J (some p) δ (tCall (spX R__law_book) [] E0 (tCons (tVar i) (tCons tm (tCons tr (tCons ta tNil))))) (1000 + (ca + cr + cm)) (fun d => ∃ l, Led l ∧ Kb 50 60 l ∧ (l.length : Int) ≤ M ∧ d = led l) :=
  j_callD (R := R__law_book) (c := 1000) (c1 := ca + cr + cm) (Φa := fun sls => ∃ m r a : Int, (0 ≤ m ∧ m ≤ M) ∧ (0 ≤ r ∧ r < 10 ^ 15) ∧ (1 ≤ a ∧ a < 10 ^ 15) ∧ sls = [.adr p, .dat (.int m), .dat (.int r), .dat (.int a)]) (aj_adr (Φr := fun sls => ∃ m r a : Int, (0 ≤ m ∧ m ≤ M) ∧ (0 ≤ r ∧ r < 10 ^ 15) ∧ (1 ≤ a ∧ a < 10 ^ 15) ∧ sls = [.dat (.int m), .dat (.int r), .dat (.int a)]) hi (aj_int (c1 := cm) (c2 := ca + cr) (Φr := fun sls => ∃ r a : Int, (0 ≤ r ∧ r < 10 ^ 15) ∧ (1 ≤ a ∧ a < 10 ^ 15) ∧ sls = [.dat (.int r), .dat (.int a)]) hm (aj_int (c1 := cr) (c2 := ca) (Φr := fun sls => ∃ a : Int, (1 ≤ a ∧ a < 10 ^ 15) ∧ sls = [.dat (.int a)]) hr ((aj_int (c1 := ca) (c2 := 0) (Φr := fun sls => sls = []) ha ae_nil fun i sls hi e => ⟨i, hi, by rw [e]⟩).cost (by omega)) fun i sls hi ⟨b, hb, e⟩ => ⟨i, b, hi, hb, by rw [e]⟩) fun i sls hi ⟨x, b, hx, hb, e⟩ => ⟨i, x, b, hi, hx, hb, by rw [e]⟩) fun sls ⟨i, x, b, hi, hx, hb, e⟩ => ⟨i, x, b, hi, hx, hb, by rw [e]⟩) fun sls ⟨i, x, b, hi, hx, hb, e⟩ => ⟨_, ⟨rfl, p, i, x, b, rfl, hi.1, by omega, by omega, by omega, by omega, by omega, e, rfl⟩, fun d ⟨l, h1, h2, h3, h4, h5⟩ => ⟨l, h1, fun y hy => ⟨by have z := h3 y hy; omega, (h4 y hy).2⟩, by omega, h5⟩⟩
theorem ok__law_book (T : Tx K mg) : FnOk P w K mg base CX0 3 T.a__law_book T.fd__law_book P__law_book (spX R__law_book) := by
  have G__law_amount := ok__law_amount (P := P) (w := w) (base := base) T
  have G__law_gather := ok__law_gather (P := P) (w := w) (base := base) T
  have G__law_pick := ok__law_pick (P := P) (w := w) (base := base) T
  refine fn_ok T.F__law_book sc__law_book (by decide) (fun q sls c Φ h => by obtain ⟨_, p, m, r, a, _, _, _, _, _, _, _, rfl, _⟩ := h; rfl) fun cdv A outer s B0 Ew hr => ⟨_,
    (pss_cons (ps_par (i := 4) (j := 5) (by rfl) sc__law_book.nd rfl rfl (by decide) rfl rfl (pa_cons (pe_lst pa_nil) (pa_cons (pe_ifExp (pt_cmpR op_gt (pv 3) (pe_op op_powW pe_int pe_int) (nomark _)) (pe_op op_fdivW (pv 3) pe_int) (pv 3)) pa_nil)) (by rfl))
      (pss_cons (ps_for PassesOwn.never rfl (pi_range1 rfl T.z_range (pa_cons (pe_call G__law_pick (hr.mono (by decide)) (by rfl) T.m__law_pick T.F__law_pick.kp T.b__law_pick .nil pass0 (pa_cons (pv 0) (pa_cons (pe_op (k_addU (K := K) rfl) (pv 1) pe_int) pa_nil))) pa_nil)) (pg_name (i := 6) sc__law_book.nd rfl (Or.inl rfl)) (pss_one (ps_expr (pe_bm PySem.F.plainAttrs_list PySem.F.slot_list_append PySem.F.type_list_append mt_append (pv 4) (pa_cons (Cr.pe_tup (pa_cons (pe_op op_sub (pe_call G__law_pick (hr.mono (by decide)) (by rfl) T.m__law_pick T.F__law_pick.kp T.b__law_pick .nil pass0 (pa_cons (pv 0) (pa_cons (pe_op (k_addU (K := K) rfl) (pe_op op_mulU pe_int (pv 2)) pe_int) pa_nil))) (pv 2)) (pa_cons (pe_call G__law_amount (hr.mono (by decide)) (by rfl) T.m__law_amount T.F__law_amount.kp T.b__law_amount .nil pass0 (pa_cons (pv 0) (pa_cons (pv 5) pa_nil))) pa_nil))) pa_nil)))))
      (pss_one (ps_ret (pe_call G__law_gather (hr.mono (by decide)) (by rfl) T.m__law_gather T.F__law_gather.kp T.b__law_gather .nil pass0 (pa_cons (pv 4) pa_nil)))))), fun q sls n c Φ A0 σ Q hR hA fin => ?_⟩
  obtain ⟨rfl, p, m, r, a, rfl, hm0, hm, hr0, hr2, ha0, ha, rfl, rfl⟩ := hR
  refine q_parNew (n := n + 1000) (c := 0) (Φ := fun x => ∃ z : Int, (1 ≤ z ∧ z ≤ a) ∧ x = .int z) ?_ hA fun l d σ1 Hk1 H1 ⟨z, hz, ed⟩ a1 cl => ?_
  · by_cases hb : a > (10 : Int) ^ (9 : Int).toNat
    · have hb' : (1000000000 : Int) < a := hb
      exact (e_if (b := true) (d := .int (a / 64)) (tb_is (tb_test (e_gtI (e_var rfl) (e_pow e_int e_int (pow_ok (a := 4) (by decide) (by omega) (by omega) (by omega))))) (decide_eq_true hb)) (fun _ => e_fdiv (e_var rfl) e_int (wide_div (b := 8) (by omega) (by decide) (by omega) (by omega))) (fun h => by cases h)).imp fun d e => ⟨a / 64, by omega, e⟩
    · exact (e_if (b := false) (d := .int a) (tb_is (tb_test (e_gtI (e_var rfl) (e_pow e_int e_int (pow_ok (a := 4) (by decide) (by omega) (by omega) (by omega))))) (decide_eq_false hb)) (fun h => by cases h) (fun _ => e_var rfl)).imp fun d e => ⟨a, by omega, e⟩
  subst ed
  refine q_for (n := n + 990) (c := 1) (Ψ := fun items => ∃ k : Nat, (k : Int) ≤ m ∧ items = rng 0 k) (ij_rng1 (j_pick rfl (e_addI (e_var rfl) e_int) (by omega) (by omega)) fun j hj => ⟨by omega, j.toNat, by omega, rfl⟩) (a1.mono (by omega)) fun items HkW H2 ⟨k, hk, ei⟩ g2 a2 => ?_
  subst ei
  have cl2 := cl.go g2
  refine ⟨fun i σ' Hk' H' => Same HkW Hk' ∧ i ≤ k ∧ ∃ cs : List (Int × Int), cs.length = i ∧ (∀ x ∈ cs, -r ≤ x.1 ∧ x.1 ≤ r) ∧ Amt a cs ∧ At (some p) (n + 2 * (k - i)) [.adr p, .dat (.int m), .dat (.int r), .dat (.int a), .adr l, .dat (.int z), .any] A0 B0 σ' Hk' H' ∧ Cell (some p) B0 Hk' H' l (pd cs), ⟨Same.refl _, Nat.zero_le _, [], rfl, by simp, (by intro x hx; cases hx), a2.mono (by omega), cl2⟩, fun i σ' Hk' H' h => ⟨h.1, by obtain ⟨_, _, cs, _, _, _, st, _⟩ := h; exact st.ok.a⟩, ?_, ?_⟩
  · rintro i d σ' Hk' H' ed ⟨h2, hik, cs, hlen, hkeys, hamt, st, cl3⟩ v Hk2 H3 g3 dv
    obtain ⟨hi, rfl⟩ := rng_get' ed
    refine gb_name (vs := [6]) (by simp) σ' Hk2 H3 v (st.sg.mono g3.k) g3.a dv _ fun σ2 sg2 _ _ => ?_
    have st2 : At (some p) (n + 2 * (k - i)) _ A0 B0 σ2 Hk2 H3 := ⟨st.ok.go g3, sg2, st.gr.trans g3.none_to⟩
    have cl4 := cl3.go g3.none_to
    refine s_append (n := n + 2 * (k - (i + 1))) (c := 2) (Φ := fun x => ∃ y : Int × Int, (-r ≤ y.1 ∧ y.1 ≤ r) ∧ (-a ≤ y.2 ∧ y.2 ≤ a) ∧ x = pr y) ?_ (st2.mono (by omega)) cl4 rfl (by rw [pd_len]; omega) fun d Hk3 H4 ⟨y, hy1, hy2, ed⟩ s3 a3 cl5 => ⟨Hk3, (h2.trans g3.k).trans s3, by omega, cs ++ [y], ?_, ?_, ?_, a3.forget 6, ?_⟩
    · refine (j_tup (c := 2) (Ψ := fun ds => ∃ y : Int × Int, (-r ≤ y.1 ∧ y.1 ≤ r) ∧ (-a ≤ y.2 ∧ y.2 ≤ a) ∧ ds = [.int y.1, .int y.2]) ?_).imp fun d ⟨ds, ⟨y, h1, h2, e⟩, e2⟩ => ⟨y, h1, h2, by rw [e2, e]; rfl⟩
      refine ((aj_cons (c1 := 1) (c2 := 1) (Φ1 := IntP fun i => -r ≤ i ∧ i ≤ r) (Φr := fun sls => ∃ y : Int, (-a ≤ y ∧ y ≤ a) ∧ sls = [.dat (.int y)]) (Φ' := fun sls => ∃ y : Int × Int, (-r ≤ y.1 ∧ y.1 ≤ r) ∧ (-a ≤ y.2 ∧ y.2 ≤ a) ∧ sls = [.dat (.int y.1), .dat (.int y.2)]) ?_ ?_ fun d sls ⟨i, hi, e⟩ ⟨y, hy, e2⟩ => ⟨(i, y), hi, hy, by rw [e, e2]⟩)).imp fun sls ⟨y, h1, h2, e⟩ => ⟨[.int y.1, .int y.2], e, by simp, y, h1, h2, rfl⟩
      · exact (j_subI (j_pick rfl (e_addI (e_mulI e_int (e_var rfl) (wide_mul (a := 2) (b := 50) (by decide) (by omega) (by omega) (by omega) (by omega))) e_int) (by omega) (by omega)) (e_var rfl).intP fun i j hi hj => ⟨i - j, by omega, rfl⟩).cost (by omega)
      · refine ((aj_cons (c1 := 1) (c2 := 0) (Φ1 := IntP fun i => i ≠ 0 ∧ -z ≤ i ∧ i ≤ z) (j_call (R := R__law_amount) (ae_adr rfl (ae_cons (e_var rfl) ae_nil)) fun sls e => ⟨rfl, p, z, rfl, hz.1, by omega, e, rfl⟩) ae_nil fun d sls ⟨i, hi, e⟩ e2 => ⟨i, by omega, by rw [e, e2]⟩)).cost (by omega)
    · rw [List.length_append, hlen]; rfl
    · intro x hx
      rcases List.mem_append.mp hx with h | h
      · exact hkeys x h
      · rw [List.mem_singleton.mp h]; exact hy1
    · intro x hx
      rcases List.mem_append.mp hx with h | h
      · exact hamt x h
      · rw [List.mem_singleton.mp h]; exact hy2
    · rw [ed] at cl5
      show Cell (some p) B0 Hk3 H4 l ((cs ++ [y]).map pr)
      rw [List.map_append]; exact cl5
  · rintro σ' Hk' H' ⟨h2, _, cs, hlen, hkeys, hamt, st, cl3⟩
    rw [rng_len] at hlen
    obtain ⟨Hk2, s2, st2⟩ := st.freeze (i := 4) cl3 rfl
    refine s_ret (n := n) (c := 0) (Φ := fun x => x = led (gather cs)) (j_call (R := R__law_gather) (ae_cons (e_var rfl) ae_nil) fun sls e => ⟨rfl, cs, by omega, e, rfl⟩) st2 (by omega) fin fun d e => ⟨gather cs, gather_led cs, ?_, fun x hx => gather_keys (P := fun k => -r ≤ k ∧ k ≤ r) hkeys x hx, fun x hx => ?_, e⟩
    · have := gather_len cs; omega
    · have hk1 := gather_keys (P := fun k => -r ≤ k ∧ k ≤ r) hkeys x hx
      have hk2 := (gather_mem cs x).mp hx
      have hk3 := tot_bound (by omega) hamt x.1
      rw [← hk2.1] at hk3
      have hk4 : a * (cs.length : Int) ≤ 2 ^ 50 * 400 := Int.mul_le_mul (by omega) (by omega) (by omega) (by omega)
      constructor <;> omega
/-! ### is_an_integer -/
def R_is_an_integer (K : PySem.W.Frag) : RelX := fun _ sls c Φ => c = 0 ∧ ∃ d, Kn K d ∧ sls = [.dat d] ∧ Φ = fun x => x = .bool (isIntD d)
theorem ok_is_an_integer (T : Tx K mg) : FnOk P w K mg base CX0 1 T.a_is_an_integer T.fd_is_an_integer P_is_an_integer (spX (R_is_an_integer K)) := by
  refine fn_ok T.F_is_an_integer sc_is_an_integer (by decide) (fun q sls c Φ h => by obtain ⟨_, d, _, rfl, _⟩ := h; rfl) fun cdv A outer s B0 Ew hr => ⟨_,
    (pss_one (ps_ret (pe_and (pe_callB (k_isi (K := K) rfl) (by rfl) T.z_isinstance (by decide +kernel) (pa_cons (pv 0) (pa_cons (pe_bltn (v := .ty "int") (by rfl) T.z_int (by decide +kernel) rfl) pa_nil))) (pe_one (pe_not (pe_callB (k_isi (K := K) rfl) (by rfl) T.z_isinstance (by decide +kernel) (pa_cons (pv 0) (pa_cons (pe_bltn (v := .ty "bool") (by rfl) T.z_bool (by decide +kernel) rfl) pa_nil)))))))), fun q sls n c Φ A0 σ Q hR hA fin => ?_⟩
  obtain ⟨rfl, d, kn, rfl, rfl⟩ := hR
  exact s_retE (e_andV (e_isiI (e_var rfl) kn) (fun hi => e_notV (e_isi (e_var rfl) (kit_bool d) (int_top hi)))) hA (Nat.le_refl _) fin (by rw [isInt_eq])
/-! ### is_change -/
def R_is_change (K : PySem.W.Frag) : RelX := fun _ sls c Φ => c = 0 ∧ ∃ d, deep 1 d = true ∧ sls = [.dat d] ∧ Φ = fun x => x = .bool (isChangeD d)
theorem ok_is_change (T : Tx K mg) : FnOk P w K mg base CX0 2 T.a_is_change T.fd_is_change P_is_change (spX (R_is_change K)) := by
  have G_is_an_integer := ok_is_an_integer (P := P) (w := w) (base := base) T
  refine fn_ok T.F_is_change sc_is_change (by decide) (fun q sls c Φ h => by obtain ⟨_, d, _, rfl, _⟩ := h; rfl) fun cdv A outer s B0 Ew hr => ⟨_,
    (pss_one (ps_ret (pe_and (pe_callB (k_isi (K := K) rfl) (by rfl) T.z_isinstance (by decide +kernel) (pa_cons (pv 0) (pa_cons (pe_bltn (v := .ty "tuple") (by rfl) T.z_tuple (by decide +kernel) rfl) pa_nil))) (pe_and (pe_cmpR (k_eqD (K := K) rfl hr.units) (pe_callB (k_len (K := K) rfl) (by rfl) T.z_len (by decide +kernel) (pa_cons (pv 0) pa_nil)) pe_int (nomark _)) (pe_and (pe_call G_is_an_integer (hr.mono (by decide)) (by rfl) T.m_is_an_integer T.F_is_an_integer.kp T.b_is_an_integer .nil pass0 (pa_cons (pe_ix (k_ix (K := K) rfl) (pv 0) pe_int (fun _ _ => rfl)) pa_nil)) (pe_one (pe_call G_is_an_integer (hr.mono (by decide)) (by rfl) T.m_is_an_integer T.F_is_an_integer.kp T.b_is_an_integer .nil pass0 (pa_cons (pe_ix (k_ix (K := K) rfl) (pv 0) pe_int (fun _ _ => rfl)) pa_nil)))))))), fun q sls n c Φ A0 σ Q hR hA fin => ?_⟩
  obtain ⟨rfl, d, hdp, rfl, rfl⟩ := hR
  have htop := deep_top hdp
  refine s_retE (d := .bool (isChangeD d)) ?_ hA (Nat.le_refl _) fin rfl
  have nonT : isiTup d = false → isChangeD d = false := fun h => by cases d <;> first | rfl | cases h
  by_cases ht : isiTup d = true
  · obtain ⟨ds, rfl⟩ : ∃ ds, d = .tuple ds := by
      cases d with
      | tuple ds => exact ⟨ds, rfl⟩
      | _ => cases ht
    refine e_is (e_andV (b := (ds.length == 2) && (isChangeD (.tuple ds))) (e_isi (e_var rfl) (kit_tuple _)) fun _ => e_andV (e_is (e_eqDI (e_lenT (e_var rfl)) e_int) ?_) fun h2 => ?_) ?_
    · by_cases h : ds.length = 2
      · rw [h]; rfl
      · rw [show (ds.length == 2) = false by simpa using h, show ((ds.length : Int) == 2) = false by simpa using (by omega : ¬ (ds.length : Int) = 2)]
    · have hl : ds.length = 2 := by simpa using h2
      obtain ⟨a, b, rfl⟩ : ∃ a b, ds = [a, b] := by
        match ds, hl with
        | [a, b], _ => exact ⟨a, b, rfl⟩
      have hall : top a = true ∧ top b = true := by simpa [deep] using hdp
      refine e_is (e_andV (j_call (R := R_is_an_integer K) (ae_cons (e_iT (e_var rfl) e_int rfl) ae_nil) fun sls e => ⟨rfl, a, .inl hall.1, e, rfl⟩) fun _ => j_call (R := R_is_an_integer K) (ae_cons (e_iT (e_var rfl) e_int rfl) ae_nil) fun sls e => ⟨rfl, b, .inl hall.2, e, rfl⟩) ?_
      cases a <;> cases b <;> rfl
    · by_cases h : ds.length = 2
      · rw [show (ds.length == 2) = true by simpa using h]; rfl
      · have hc : isChangeD (.tuple ds) = false := Bool.eq_false_iff.mpr fun z => by
          obtain ⟨x, e⟩ := change_pr z
          cases e
          exact h rfl
        rw [hc, show (ds.length == 2) = false by simpa using h]; rfl
  · have hf : isiTup d = false := by simpa using ht
    rw [nonT hf]
    exact e_andNo (e_is (e_isi (e_var rfl) (kit_tuple d) htop) (by rw [hf]))
/-! ### is_ledger -/
def R_is_ledger (K : PySem.W.Frag) : RelX := fun _ sls c Φ => c = 0 ∧ ∃ d, Odd K d ∧ sls = [.dat d] ∧ Φ = fun x => x = .bool (isLedD d)
theorem ok_is_ledger (T : Tx K mg) : FnOk P w K mg base CX0 3 T.a_is_ledger T.fd_is_ledger P_is_ledger (spX (R_is_ledger K)) := by
  have G_is_change := ok_is_change (P := P) (w := w) (base := base) T
  refine fn_ok T.F_is_ledger sc_is_ledger (by decide) (fun q sls c Φ h => by obtain ⟨_, d, _, rfl, _⟩ := h; rfl) fun cdv A outer s B0 Ew hr => ⟨_,
    (pss_cons (ps_if (PW.pt (pw_or (pt_not (pt_val (pe_callB (k_isi (K := K) rfl) (by rfl) T.z_isinstance (by decide +kernel) (pa_cons (pv 0) (pa_cons (pe_bltn (v := .ty "tuple") (by rfl) T.z_tuple (by decide +kernel) rfl) pa_nil))))) (pw_or1 (pt_not (pt_val (pe_callB (k_all (K := K) rfl rfl) (by rfl) T.z_all (by decide +kernel) (pa_cons (pe_lc (own := [("pair", 2)]) rfl sc_is_ledger.nd (k_piTup (K := K) rfl (pv 0)) (blkOk_by (own := [("pair", 2)]) (N := N_is_ledger) (sc := defScope s_is_ledger) (by decide +kernel)) (fun _ _ _ _ _ => (pg_name (i := 2) sc_is_ledger.nd rfl (Or.inl rfl))) (fun _ _ _ _ _ => pts_nil) (fun _ _ _ _ _ => (pe_call G_is_change (hr.mono (by decide)) (by rfl) T.m_is_change T.F_is_change.kp T.b_is_change .nil pass0 (pa_cons (pv 2) pa_nil)))) pa_nil))))))) (pss_one (ps_ret pe_bl)) pss_nil)
      (pss_cons (ps_set (i := 1) sc_is_ledger.nd rfl (Or.inl rfl) (pe_callB (k_all (K := K) rfl rfl) (by rfl) T.z_all (by decide +kernel) (pa_cons (pe_lc (own := [("one", 3), ("other", 4)]) rfl sc_is_ledger.nd (Zm.pi_zipS (K := K) rfl (by rfl) T.z_zip (pa_cons (pv 0) (pa_cons (pe_slice (k_sl (K := K) rfl) (pv 0) (po_some pe_int) po_none) pa_nil))) (blkOk_by (own := [("one", 3), ("other", 4)]) (N := N_is_ledger) (sc := defScope s_is_ledger) (by decide +kernel)) (fun _ _ _ _ _ => (k_pgTup (K := K) (n := 2) rfl rfl (pgs_cons (pg_name (i := 3) sc_is_ledger.nd rfl (Or.inl rfl)) (pgs_cons (pg_name (i := 4) sc_is_ledger.nd rfl (Or.inl rfl)) pgs_nil)))) (fun _ _ _ _ _ => pts_nil) (fun _ _ _ _ _ => (pe_cmpR op_lt (pe_ix (k_ix (K := K) rfl) (pv 3) pe_int (fun _ _ => rfl)) (pe_ix (k_ix (K := K) rfl) (pv 4) pe_int (fun _ _ => rfl)) (nomark _)))) pa_nil)))
      (pss_one (ps_ret (pe_and (pv 1) (pe_one (pe_callB (k_all (K := K) rfl rfl) (by rfl) T.z_all (by decide +kernel) (pa_cons (pe_lc (own := [("key", 5), ("amount", 6)]) rfl sc_is_ledger.nd (k_piTup (K := K) rfl (pv 0)) (blkOk_by (own := [("key", 5), ("amount", 6)]) (N := N_is_ledger) (sc := defScope s_is_ledger) (by decide +kernel)) (fun _ _ _ _ _ => (k_pgTup (K := K) (n := 2) rfl rfl (pgs_cons (pg_name (i := 5) sc_is_ledger.nd rfl (Or.inl rfl)) (pgs_cons (pg_name (i := 6) sc_is_ledger.nd rfl (Or.inl rfl)) pgs_nil)))) (fun _ _ _ _ _ => pts_nil) (fun _ _ _ _ _ => (pe_cmpR (k_neD (K := K) rfl hr.units) (pv 6) pe_int (nomark _)))) pa_nil)))))))), fun q sls n c Φ A0 σ Q hR hA fin => ?_⟩
  obtain ⟨rfl, d, od, rfl, rfl⟩ := hR
  have first : isiTup d = false → isLedD d = false := fun h => by cases d <;> first | rfl | cases h
  by_cases ht : isiTup d = true
  · obtain ⟨ds, rfl⟩ : ∃ ds, d = .tuple ds := by
      cases d with
      | tuple ds => exact ⟨ds, rfl⟩
      | _ => cases ht
    have hlen := od.sh ds rfl
    refine q_whenB (b := !(ds.all isChangeD)) (tb_is (tb_or (b := !(ds.all isChangeD)) (tb_not (tb_B (e_isi (e_var rfl) (kit_tuple _)))) fun _ => tb_not (tb_B (e_is (e_all (bs := ds.map isChangeD) (e_is (e_lc1 (vs := [2]) (emb := id) (xs := ds) (by rw [List.map_id]; exact ie_tup (e_var rfl)) (fun x => .bool (isChangeD x)) (by omega) fun x hx => ⟨_, gb_name (by simp), j_call (R := R_is_change K) (ae_cons (e_var rfl) ae_nil) fun sls e => ⟨rfl, x, od.dp ds rfl x hx, e, rfl⟩⟩) (by rw [bools_map]))) (by rw [all_id_map])))) (by rw [ht]; rfl)) hA (fun hb Hk1 H1 g1 a1 => ?_) (fun hb Hk1 H1 g1 a1 => ?_)
    · refine s_retE (d := .bool false) e_bl a1 (Nat.le_refl _) fin ?_
      have : isLedD (.tuple ds) = false := by
        show (ds.all isChangeD && _) = false
        rw [show ds.all isChangeD = false by simpa using hb, Bool.false_and]
      rw [this]
    · obtain ⟨l, rfl⟩ := changes_pd (ds := ds) (by simpa using hb)
      rw [pd_len] at hlen
      refine q_asgE (d := .bool (asc l)) (e_is (e_all (bs := (adj l).map fun p => decide (p.1.1 < p.2.1)) (e_is (e_lc1 (vs := [3, 4]) (emb := fun p : (Int × Int) × (Int × Int) => .tuple [pr p.1, pr p.2]) (xs := adj l) (by rw [← zip_adj]; exact ie_zipS (e_var rfl) (e_slT (e_var rfl) (to_some e_int) to_none)) (fun p => .bool (decide (p.1.1 < p.2.1))) ?_ fun p hp => ⟨_, gb_tup2 (by simp) (by simp), e_ltI (e_iT (ds := [.int p.1.1, .int p.1.2]) (e_var rfl) e_int rfl) (e_iT (ds := [.int p.2.1, .int p.2.2]) (e_var rfl) e_int rfl)⟩) (by rw [bools_map]))) (by rw [all_id_map]; rfl)) a1 fun σ2 Hk2 H2 g2 a2 => ?_
      · show (l.zip (l.drop 1)).length ≤ 1000000
        rw [List.length_zip]; omega
      refine s_retE (d := .bool (asc l && nz l)) (e_andV (e_var rfl) fun _ => e_is (e_all (bs := l.map fun x => !(x.2 == 0)) (e_is (e_lc1 (vs := [5, 6]) (emb := pr) (xs := l) (ie_tup (e_var rfl)) (fun x => .bool (!(x.2 == 0))) (by omega) fun x hx => ⟨_, gb_tup2 (by simp) (by simp), e_neDI (e_var rfl) e_int⟩) (by rw [bools_map]))) (by rw [all_id_map]; rfl)) a2 (Nat.le_refl _) fin ?_
      show _ = PyData.bool (isLedD (led l))
      rw [isLed_led]
  · have hf : isiTup d = false := by simpa using ht
    refine q_whenB (b := true) (tb_is (tb_or (b := true) (tb_not (tb_B (e_isiT (e_var rfl) od.kn))) fun h => by rw [hf] at h; cases h) (by rw [hf]; rfl)) hA (fun hb Hk1 H1 g1 a1 => ?_) (fun hb => by cases hb)
    exact s_retE (d := .bool false) e_bl a1 (Nat.le_refl _) fin (by rw [first hf])
/-! ### check_ledger -/
def R_check_ledger : RelX := fun _ sls c Φ => c = 0 ∧ ∃ l, Led l ∧ l.length ≤ 100000 ∧ sls = [.dat (led l)] ∧ Φ = fun x => x = .none
theorem ok_check_ledger (T : Tx K mg) : FnOk P w K mg base CX0 4 T.a_check_ledger T.fd_check_ledger P_check_ledger (spX R_check_ledger) := by
  have G_is_ledger := ok_is_ledger (P := P) (w := w) (base := base) T
  refine fn_ok T.F_check_ledger sc_check_ledger (by decide) (fun q sls c Φ h => by obtain ⟨_, l, _, _, rfl, _⟩ := h; rfl) fun cdv A outer s B0 Ew hr => ⟨_,
    (pss_one (ps_if (pt_not (pt_val (pe_call G_is_ledger (hr.mono (by decide)) (by rfl) T.m_is_ledger T.F_is_ledger.kp T.b_is_ledger .nil pass0 (pa_cons (pv 0) pa_nil)))) (pss_one ps_never) pss_nil)), fun q sls n c Φ A0 σ Q hR hA fin => ?_⟩
  obtain ⟨rfl, l, hL, hl, rfl, rfl⟩ := hR
  exact s_ifNo (tb_is (tb_not (tb_B (j_call (R := R_is_ledger K) (ae_cons (e_var rfl) ae_nil) fun sls e => ⟨rfl, led l, Odd.of (fun ds e => by cases e; rw [pd_len]; exact hl) (deep_led 2 l), e, rfl⟩))) (by rw [led_isLed hL]; rfl)) hA fun Hk' H2 g a => s_end a (Nat.le_refl _) fin rfl
/-! ### check_ledger, where it raises -/
def B_check_ledger (K : PySem.W.Frag) : RelE := fun _ sls c x => c = 0 ∧ ∃ d, Odd K d ∧ isLedD d = false ∧ sls = [.dat d] ∧ x = "InvalidLedger"
theorem ck_ledger {K : PySem.W.Frag} {mg : Str → Option Value} {q : Option Addr} {δ : List Sl} {te : TE} {d : PyData} {E0 : XK} (h : isLedD d = true) (o : Odd K d) (ed : E q δ te d) : E q δ (tCall (spU (spX R_check_ledger) (spE mg (B_check_ledger K))) [] E0 (tCons te tNil)) .none := by
  obtain ⟨ds, rfl⟩ : ∃ ds, d = .tuple ds := by
    cases d with
    | tuple ds => exact ⟨ds, rfl⟩
    | _ => cases h
  obtain ⟨l, hL, rfl⟩ := led_of h
  exact j_callU (R := R_check_ledger) (c := 0) (ae_cons ed ae_nil) fun sls e => ⟨rfl, l, hL, by have := o.sh _ rfl; rwa [pd_len] at this, e, rfl⟩
theorem ox_check_ledger (T : Tx K mg) : FnOk P w K mg base (L2.CX P w) 4 T.a_check_ledger T.fd_check_ledger P_check_ledger (spE mg (B_check_ledger K)) := by
  have G_is_ledger := ok_is_ledger (P := P) (w := w) (base := base) T
  refine fn_okE T.F_check_ledger sc_check_ledger (by decide) (fun q sls c x h => by obtain ⟨_, d, _, _, rfl, _⟩ := h; rfl) fun cdv A outer s B0 Ew hr => ⟨_,
    (pss_one (ps_if (pt_not (pt_val (pe_call G_is_ledger (hr.mono (by decide)) (by rfl) T.m_is_ledger T.F_is_ledger.kp T.b_is_ledger .nil pass0 (pa_cons (pv 0) pa_nil)))) (pss_one (ps_raise rfl (takes_of (E := Ew) rfl rfl rfl rfl) (pmk_own0 PySem.F.excBase_ValueError T.x_InvalidLedger T.g_InvalidLedger T.k_InvalidLedger (raises_own T.u_InvalidLedger T.t_InvalidLedger) rfl))) pss_nil)), fun q sls n c x A0 σ Q hR hA fin => ?_⟩
  obtain ⟨rfl, d, kn, hd, rfl, rfl⟩ := hR
  exact s_ifB (b := true) (tb_is (tb_not (tb_B (j_call (R := R_is_ledger K) (ae_cons (e_var rfl) ae_nil) fun sls e => ⟨rfl, d, kn, e, rfl⟩))) (by rw [hd]; rfl)) hA (fun _ Hk1 H1 g1 a1 => s_raise fin a1 (Nat.le_refl _) T.g_InvalidLedger) (fun h => by cases h)
/-! ### is_from -/
def R_is_from (K : PySem.W.Frag) : RelX := fun _ sls c Φ => c = 0 ∧ ∃ d j, Kn K d ∧ sls = [.dat d, .dat (.int j)] ∧ Φ = fun x => x = .bool (isFromD j d)
theorem ok_is_from (T : Tx K mg) : FnOk P w K mg base CX0 2 T.a_is_from T.fd_is_from P_is_from (spX (R_is_from K)) := by
  have G_is_an_integer := ok_is_an_integer (P := P) (w := w) (base := base) T
  refine fn_ok T.F_is_from sc_is_from (by decide) (fun q sls c Φ h => by obtain ⟨_, d, j, _, rfl, _⟩ := h; rfl) fun cdv A outer s B0 Ew hr => ⟨_,
    (pss_one (ps_ret (pe_and (pe_call G_is_an_integer (hr.mono (by decide)) (by rfl) T.m_is_an_integer T.F_is_an_integer.kp T.b_is_an_integer .nil pass0 (pa_cons (pv 0) pa_nil)) (pe_one (pe_cmpR op_ge (pv 0) (pv 1) (nomark _)))))), fun q sls n c Φ A0 σ Q hR hA fin => ?_⟩
  obtain ⟨rfl, d, j, kn, rfl, rfl⟩ := hR
  refine s_retE (d := .bool (isFromD j d)) ?_ hA (Nat.le_refl _) fin rfl
  by_cases h : isIntD d = true
  · obtain ⟨i, rfl⟩ : ∃ i, d = .int i := by
      cases d with
      | int i => exact ⟨i, rfl⟩
      | _ => cases h
    exact e_is (e_andV (a := true) (b := decide (j ≤ i)) (j_call (R := R_is_an_integer K) (ae_cons (e_var rfl) ae_nil) fun sls e => ⟨rfl, .int i, kn, e, rfl⟩) (fun _ => e_geI (e_var rfl) (e_var rfl))) rfl
  · have hf : isIntD d = false := by simpa using h
    have hz : isFromD j d = false := by cases d <;> first | rfl | cases hf
    rw [hz]
    exact e_andNo (e_is (j_call (R := R_is_an_integer K) (c := 0) (Φ := fun x => x = .bool (isIntD d)) (ae_cons (e_var rfl) ae_nil) fun sls e => ⟨rfl, d, kn, e, rfl⟩) (by rw [hf]))
/-! ### is_prime -/
/-- what is_prime answers -/
def PrJ (d : PyData) (v : Bool) : Prop := (∃ m : Nat, d = .int (m : Int) ∧ 2 ≤ m ∧ m < 2 ^ 20 ∧ (v = true → ∀ e, 2 ≤ e → e * e ≤ m → m % e ≠ 0) ∧ (v = false → ∃ e, 2 ≤ e ∧ e * e ≤ m ∧ m % e = 0)) ∨ (isFromD 2 d = false ∧ v = false)
def R_is_prime (K : PySem.W.Frag) : RelX := fun _ sls c Φ => c = 0 ∧ ∃ d v, Kn K d ∧ PrJ d v ∧ sls = [.dat d] ∧ Φ = fun x => x = .bool v
theorem ok_is_prime (T : Tx K mg) : FnOk P w K mg base CX0 3 T.a_is_prime T.fd_is_prime P_is_prime (spX (R_is_prime K)) := by
  have G_is_from := ok_is_from (P := P) (w := w) (base := base) T
  refine fn_ok T.F_is_prime sc_is_prime (by decide) (fun q sls c Φ h => by obtain ⟨_, d, v, _, _, rfl, _⟩ := h; rfl) fun cdv A outer s B0 Ew hr => ⟨_,
    (pss_cons (ps_if (pt_not (pt_val (pe_call G_is_from (hr.mono (by decide)) (by rfl) T.m_is_from T.F_is_from.kp T.b_is_from .nil pass0 (pa_cons (pv 0) (pa_cons pe_int pa_nil))))) (pss_one (ps_ret pe_bl)) pss_nil)
      (pss_cons (ps_set (i := 1) sc_is_prime.nd rfl (Or.inl rfl) pe_int)
      (pss_cons (ps_while PassesOwn.never (pt_cmpR op_le (pe_op op_mulU (pv 1) (pv 1)) (pv 0) (nomark _)) (pss_cons (ps_if (pt_cmpR (k_eqD (K := K) rfl hr.units) (pe_op op_modN (pv 0) (pv 1)) pe_int (nomark _)) (pss_one (ps_ret pe_bl)) pss_nil)
      (pss_one (ps_set (i := 1) sc_is_prime.nd rfl (Or.inl rfl) (pe_op (k_addU (K := K) rfl) (pv 1) (pe_ifExp (pt_cmpR (k_eqD (K := K) rfl hr.units) (pv 1) pe_int (nomark _)) pe_int pe_int))))))
      (pss_one (ps_ret pe_bl))))), fun q sls n c Φ A0 σ Q hR hA fin => ?_⟩
  obtain ⟨rfl, d, v, kn, hv, rfl, rfl⟩ := hR
  rcases hv with ⟨p, rfl, hp2, hpl, hvt, hvf⟩ | ⟨hf, rfl⟩
  · refine q_ifNo (tb_is (tb_not (tb_B (j_call (R := R_is_from K) (c := 0) (Φ := fun x => x = .bool (isFromD 2 (.int (p : Int)))) (ae_cons (e_var rfl) (ae_cons e_int ae_nil)) fun sls e => ⟨rfl, .int (p : Int), 2, kn, e, rfl⟩))) (by rw [show isFromD 2 (.int (p : Int)) = decide ((2 : Int) ≤ (p : Int)) from rfl, decide_eq_true (by omega)]; rfl)) hA fun Hk1 H1 g1 a1 => ?_
    refine q_asgE (i := 1) e_int a1 fun σ2 Hk2 H2 g2 a2 => ?_
    refine q_while (q := q) (A0 := A0) (B0 := B0) (fun m σ' Hk' H' => ∃ d : Nat, 2 ≤ d ∧ d ≤ 1100 ∧ d + m = 1100 ∧ (d = 2 ∨ d % 2 = 1) ∧ (∀ e, 2 ≤ e → e < d → p % e ≠ 0) ∧ At q n [.dat (.int (p : Int)), .dat (.int (d : Int))] A0 B0 σ' Hk' H') 1098 ⟨2, by omega, by omega, by omega, .inl rfl, fun e h1 h2 => by omega, a2⟩ fun m σ' Hk' H' ⟨d, hd2, hd1, hm, hodd, htr, st⟩ => ?_
    refine ⟨_, decide ((d : Int) * (d : Int) ≤ (p : Int)), n, tb_test (e_leI (e_mulI (e_var rfl) (e_var rfl) (wide_mul (a := 12) (b := 12) (by omega) (by omega) (by omega) (by omega) (by omega))) (e_var rfl)), st, fun hz Hk3 H3 g3 a3 => ?_, fun hz Hk3 H3 g3 a3 => ?_⟩
    · have hz' : (d : Int) * (d : Int) ≤ (p : Int) := of_decide_eq_true hz
      have hz2 : d * d ≤ p := by exact_mod_cast hz'
      have hd3 : d ≤ 1024 := by
        by_cases z : d ≤ 1024
        · exact z
        · have := Nat.mul_le_mul (show 1024 ≤ d by omega) (show 1024 ≤ d by omega)
          omega
      have hmod : ((p : Int).fmod (d : Int) == 0) = (p % d == 0) := by
        rw [Int.fmod_eq_emod_of_nonneg _ (by omega)]
        have : ((p % d : Nat) : Int) = (p : Int) % (d : Int) := Int.natCast_emod p d
        rw [← this]
        exact beq_cast (p % d) 0
      refine q_whenB (b := p % d == 0) (tb_is (tb_test (e_eqDI (e_mod (e_var rfl) (e_var rfl) (by omega)) e_int)) hmod) a3 (fun hb Hk4 H4 g4 a4 => ?_) (fun hb Hk4 H4 g4 a4 => ?_)
      · have h0 : p % d = 0 := by simpa using hb
        refine s_retE (d := .bool false) e_bl a4 (Nat.le_refl _) fin ?_
        cases v with
        | true => exact absurd h0 (hvt rfl d hd2 hz2)
        | false => rfl
      have h0 : p % d ≠ 0 := by simpa using hb
      refine s_asgE (i := 1) (d := .int ((d + (if d = 2 then 1 else 2) : Nat) : Int)) (e_is (e_addI (e_var rfl) (e_if (b := ((d : Int) == 2)) (d := .int (if d = 2 then 1 else 2)) (tb_test (e_eqDI (e_var rfl) e_int)) (fun h => ?_) (fun h => ?_))) (by split <;> simp)) a4 fun σ5 Hk5 H5 g5 a5 => ⟨m - (if d = 2 then 1 else 2), Hk5, by split <;> omega, d + (if d = 2 then 1 else 2), by split <;> omega, by split <;> omega, by split <;> omega, by split <;> omega, fun e h1 h2 => ?_, a5⟩
      · have : d = 2 := by
          have z : (d : Int) = 2 := by simpa using h
          omega
        rw [if_pos this]
        exact e_int
      · have : ¬ d = 2 := by
          have z : ¬ (d : Int) = 2 := by simpa using h
          omega
        rw [if_neg this]
        exact e_int
      · by_cases he : e < d
        · exact htr e h1 he
        · by_cases he2 : e = d
          · rw [he2]; exact h0
          · split at h2
            · omega
            · rename_i hd22
              have he3 : e = d + 1 := by omega
              have he4 : e % 2 = 0 := by omega
              intro hz3
              exact htr 2 (by omega) (by omega) (Nat.mod_eq_zero_of_dvd (Nat.dvd_trans (Nat.dvd_of_mod_eq_zero he4) (Nat.dvd_of_mod_eq_zero hz3)))
    · have hz' : ¬ (d : Int) * (d : Int) ≤ (p : Int) := of_decide_eq_false hz
      have hz2 : ¬ d * d ≤ p := fun z => hz' (by exact_mod_cast z)
      refine s_retE (d := .bool true) e_bl a3 (Nat.le_refl _) fin ?_
      cases v with
      | true => rfl
      | false =>
        obtain ⟨e, h1, h2, h3⟩ := hvf rfl
        have : e < d := by
          refine Classical.byContradiction fun z => hz2 ?_
          have := Nat.mul_le_mul (show d ≤ e by omega) (show d ≤ e by omega)
          omega
        exact absurd h3 (htr e h1 this)
  · refine q_whenB (b := true) (tb_is (tb_not (tb_B (j_call (R := R_is_from K) (c := 0) (Φ := fun x => x = .bool (isFromD 2 d)) (ae_cons (e_var rfl) (ae_cons e_int ae_nil)) fun sls e => ⟨rfl, d, 2, kn, e, rfl⟩))) (by rw [hf]; rfl)) hA (fun _ Hk1 H1 g1 a1 => s_retE (d := .bool false) e_bl a1 (Nat.le_refl _) fin rfl) (fun h => by cases h)
/-! ### check_prime -/
def R_check_prime : RelX := fun _ sls c Φ => c = 0 ∧ ∃ p : Nat, primed p ∧ sls = [.dat (.int (p : Int))] ∧ Φ = fun d => d = .none
theorem prj_of {p : Nat} (h : primed p) : PrJ (.int (p : Int)) true := .inl ⟨p, rfl, h.1, by have := h.2.1; omega, fun _ => h.2.2, fun z => by cases z⟩
theorem ok_check_prime (T : Tx K mg) : FnOk P w K mg base CX0 4 T.a_check_prime T.fd_check_prime P_check_prime (spX R_check_prime) := by
  have G_is_prime := ok_is_prime (P := P) (w := w) (base := base) T
  refine fn_ok T.F_check_prime sc_check_prime (by decide) (fun q sls c Φ h => by obtain ⟨_, p, _, rfl, _⟩ := h; rfl) fun cdv A outer s B0 Ew hr => ⟨_,
    (pss_one (ps_if (pt_not (pt_val (pe_call G_is_prime (hr.mono (by decide)) (by rfl) T.m_is_prime T.F_is_prime.kp T.b_is_prime .nil pass0 (pa_cons (pv 0) pa_nil)))) (pss_one ps_never) pss_nil)), fun q sls n c Φ A0 σ Q hR hA fin => ?_⟩
  obtain ⟨rfl, p, hp, rfl, rfl⟩ := hR
  exact s_ifNo (tb_is (tb_not (tb_B (j_call (R := R_is_prime K) (ae_cons (e_var rfl) ae_nil) fun sls e => ⟨rfl, _, true, .inl rfl, prj_of hp, e, rfl⟩))) rfl) hA fun Hk' H2 g a => s_end a (Nat.le_refl _) fin rfl
/-! ### check_prime, where it raises -/
def B_check_prime (K : PySem.W.Frag) : RelE := fun _ sls c x => c = 0 ∧ ∃ d, Kn K d ∧ PrJ d false ∧ sls = [.dat d] ∧ x = "InvalidPrime"
theorem ck_prime {K : PySem.W.Frag} {mg : Str → Option Value} {q : Option Addr} {δ : List Sl} {te : TE} {p : Nat} {E0 : XK} (h : primed p) (ed : E q δ te (.int (p : Int))) : E q δ (tCall (spU (spX R_check_prime) (spE mg (B_check_prime K))) [] E0 (tCons te tNil)) .none :=
  j_callU (R := R_check_prime) (c := 0) (ae_cons ed ae_nil) fun sls e => ⟨rfl, p, h, e, rfl⟩
theorem ox_check_prime (T : Tx K mg) : FnOk P w K mg base (L2.CX P w) 4 T.a_check_prime T.fd_check_prime P_check_prime (spE mg (B_check_prime K)) := by
  have G_is_prime := ok_is_prime (P := P) (w := w) (base := base) T
  refine fn_okE T.F_check_prime sc_check_prime (by decide) (fun q sls c x h => by obtain ⟨_, d, _, _, rfl, _⟩ := h; rfl) fun cdv A outer s B0 Ew hr => ⟨_,
    (pss_one (ps_if (pt_not (pt_val (pe_call G_is_prime (hr.mono (by decide)) (by rfl) T.m_is_prime T.F_is_prime.kp T.b_is_prime .nil pass0 (pa_cons (pv 0) pa_nil)))) (pss_one (ps_raise rfl (takes_of (E := Ew) rfl rfl rfl rfl) (pmk_own0 PySem.F.excBase_ValueError T.x_InvalidPrime T.g_InvalidPrime T.k_InvalidPrime (raises_own T.u_InvalidPrime T.t_InvalidPrime) rfl))) pss_nil)), fun q sls n c x A0 σ Q hR hA fin => ?_⟩
  obtain ⟨rfl, d, kn, hv, rfl, rfl⟩ := hR
  exact s_ifB (b := true) (tb_is (tb_not (tb_B (j_call (R := R_is_prime K) (ae_cons (e_var rfl) ae_nil) fun sls e => ⟨rfl, d, false, kn, hv, e, rfl⟩))) rfl) hA (fun _ Hk1 H1 g1 a1 => s_raise fin a1 (Nat.le_refl _) T.g_InvalidPrime) (fun h => by cases h)
/-! ### summed -/
def R_summed : RelX := fun _ sls c Φ => c = 0 ∧ ∃ cs : List (Int × Int), cs.length ≤ 100000 ∧ sls = [.dat (.list (pd cs))] ∧ Φ = fun x => x = led (gather cs)
theorem ok_summed (T : Tx K mg) : FnOk P w K mg base CX0 1 T.a_summed T.fd_summed P_summed (spX R_summed) := by
  refine fn_ok T.F_summed sc_summed (by decide) (fun q sls c Φ h => by obtain ⟨_, l, _, rfl, _⟩ := h; rfl) fun cdv A outer s B0 Ew hr => ?_
  have hu := hu_of hr
  refine ⟨_,
    (pss_cons (ps_set (i := 1) sc_summed.nd rfl (Or.inr rfl) pe_dnewK)
      (pss_cons (ps_for PassesOwn.never rfl (k_piList (K := K) rfl (pv 0)) (k_pgTup (K := K) (n := 2) rfl rfl (pgs_cons (pg_name (i := 2) sc_summed.nd rfl (Or.inl rfl)) (pgs_cons (pg_name (i := 3) sc_summed.nd rfl (Or.inl rfl)) pgs_nil))) (pss_one (ps_dput hu (pv 1) (pv 2) (pe_op (k_addU (K := K) rfl) (pe_dget2 hu (pv 1) (pv 2) pe_int ⟨rfl, rfl, rfl, rfl⟩) (pv 3)) rfl)))
      (pss_one (ps_ret (pe_callTy (k_tup (K := K) rfl) (by rfl) T.z_tuple (by decide +kernel) (pa_cons (pe_lc (own := [("key", 2)]) rfl sc_summed.nd (k_piList (K := K) rfl (pe_callB (call_sortedDIa rfl) (by rfl) T.z_sorted (by decide +kernel) (pa_cons (pv 1) pa_nil))) (blkOk_by (own := [("key", 2)]) (N := N_summed) (sc := defScope s_summed) (by decide +kernel)) (fun _ _ _ _ _ => (pg_name (i := 2) sc_summed.nd rfl (Or.inl rfl))) (fun _ _ _ _ _ => (pts_one (pt_cmpR (k_neD (K := K) rfl hr.units) (pe_dget hu (pv 1) (pv 2) (fun _ _ => rfl)) pe_int (nomark _)))) (fun _ _ _ _ _ => (Cr.pe_tup (pa_cons (pv 2) (pa_cons (pe_dget hu (pv 1) (pv 2) (fun _ _ => rfl)) pa_nil))))) pa_nil)))))), fun q sls n c Φ A0 σ Q hR hA fin => ?_⟩
  obtain ⟨rfl, l, hl, rfl, rfl⟩ := hR
  exact read_summed l hl hA fin
/-! ### remaining -/
def R_remaining : RelX := fun _ sls c Φ => c = 0 ∧ ∃ (l : List (Int × Int)) (p : Int) (d : PyData), (d = led l ∨ d = .list (pd l)) ∧ l.length ≤ 100000 ∧ 0 < p ∧ sls = [.dat d, .dat (.int p)] ∧ Φ = fun d => d = led (rem p l)
theorem ok_remaining (T : Tx K mg) : FnOk P w K mg base CX0 2 T.a_remaining T.fd_remaining P_remaining (spX R_remaining) := by
  have G_summed := ok_summed (P := P) (w := w) (base := base) T
  refine fn_ok T.F_remaining sc_remaining (by decide) (fun q sls c Φ h => by obtain ⟨_, l, p, d, _, _, _, rfl, _⟩ := h; rfl) fun cdv A outer s B0 Ew hr => ⟨_,
    (pss_cons (ps_set (i := 2) sc_remaining.nd rfl (Or.inl rfl) (pe_call G_summed (hr.mono (by decide)) (by rfl) T.m_summed T.F_summed.kp T.b_summed .nil pass0 (pa_cons (pe_lc (own := [("key", 3), ("amount", 4)]) rfl sc_remaining.nd (k_piSeq (K := K) rfl (pv 0)) (blkOk_by (own := [("key", 3), ("amount", 4)]) (N := N_remaining) (sc := defScope s_remaining) (by decide +kernel)) (fun _ _ _ _ _ => (k_pgTup (K := K) (n := 2) rfl rfl (pgs_cons (pg_name (i := 3) sc_remaining.nd rfl (Or.inl rfl)) (pgs_cons (pg_name (i := 4) sc_remaining.nd rfl (Or.inl rfl)) pgs_nil)))) (fun _ _ _ _ _ => pts_nil) (fun _ _ _ _ _ => (Cr.pe_tup (pa_cons (pe_op op_modN (pv 3) (pv 1)) (pa_cons (pv 4) pa_nil))))) pa_nil)))
      (pss_one (ps_ret (pe_callTy (k_tup (K := K) rfl) (by rfl) T.z_tuple (by decide +kernel) (pa_cons (pe_lc (own := [("key", 3), ("amount", 4)]) rfl sc_remaining.nd (k_piTup (K := K) rfl (pv 2)) (blkOk_by (own := [("key", 3), ("amount", 4)]) (N := N_remaining) (sc := defScope s_remaining) (by decide +kernel)) (fun _ _ _ _ _ => (k_pgTup (K := K) (n := 2) rfl rfl (pgs_cons (pg_name (i := 3) sc_remaining.nd rfl (Or.inl rfl)) (pgs_cons (pg_name (i := 4) sc_remaining.nd rfl (Or.inl rfl)) pgs_nil)))) (fun _ _ _ _ _ => (pts_one (pt_cmpR (k_neD (K := K) rfl hr.units) (pe_op op_modN (pv 4) (pv 1)) pe_int (nomark _)))) (fun _ _ _ _ _ => (Cr.pe_tup (pa_cons (pv 3) (pa_cons (pe_op op_modN (pv 4) (pv 1)) pa_nil))))) pa_nil))))), fun q sls n c Φ A0 σ Q hR hA fin => ?_⟩
  obtain ⟨rfl, l, p, d, hd, hl, hp, rfl, rfl⟩ := hR
  have walk : ∀ {δ : List Sl}, δ[0]? = some (.dat d) → IE q δ (iSeqE K (tVar 0)) (pd l) := fun h => by
    rcases hd with e | e
    · exact ie_seqT (by rw [e] at h; exact e_var h)
    · exact ie_seqL (by rw [e] at h; exact e_var h)
  refine q_asgE (i := 2) (d := led (gather (l.map fun x => (x.1.fmod p, x.2)))) (j_call (R := R_summed) (c := 0) (ae_cons (e_lcPd (l := l) (i := 3) (j := 4) (walk rfl) (fun x => (x.1.fmod p, x.2)) (by omega) fun x hx => e_pr (e_mod (e_var rfl) (e_var rfl) (by omega)) (e_var rfl)) ae_nil) fun sls e => ⟨rfl, _, by rw [List.length_map]; omega, e, rfl⟩) hA fun σ1 Hk1 H1 g1 a1 => ?_
  have hg := gather_len (l.map fun x => (x.1.fmod p, x.2))
  rw [List.length_map] at hg
  exact s_retE (d := led (rem p l)) (e_tupL (e_is (e_lc (vs := [3, 4]) (emb := pr) (xs := gather (l.map fun x => (x.1.fmod p, x.2))) (ie_tup (e_var rfl)) (fun x => !(x.2.fmod p == 0)) (fun x => pr (x.1, x.2.fmod p)) (by omega) fun x hx => ⟨_, gb_tup2 (by simp) (by simp), tb_test (e_neDI (e_mod (e_var rfl) (e_var rfl) (by omega)) e_int), fun _ => e_pr (e_var rfl) (e_mod (e_var rfl) (e_var rfl) (by omega))⟩) (by unfold rem remL pd; rw [List.map_map]; rfl))) a1 (Nat.le_refl _) fin rfl
/-! ### reduced -/
def R_reduced : RelX := fun _ sls c Φ => c = 0 ∧ ∃ (l : List (Int × Int)) (p : Nat), Led l ∧ l.length ≤ 1000 ∧ primed p ∧ sls = [.dat (led l), .dat (.int (p : Int))] ∧ Φ = fun d => d = led (rem (p : Int) l)
theorem ok_reduced (T : Tx K mg) : FnOk P w K mg base CX0 5 T.a_reduced T.fd_reduced P_reduced (spX R_reduced) := by
  have G_check_ledger := ok_check_ledger (P := P) (w := w) (base := base) T
  have G_check_prime := ok_check_prime (P := P) (w := w) (base := base) T
  have G_remaining := ok_remaining (P := P) (w := w) (base := base) T
  refine fn_ok T.F_reduced sc_reduced (by decide) (fun q sls c Φ h => by obtain ⟨_, l, p, _, _, _, rfl, _⟩ := h; rfl) fun cdv A outer s B0 Ew hr => ⟨_,
    (pss_cons (ps_expr (pe_call G_check_ledger (hr.mono (by decide)) (by rfl) T.m_check_ledger T.F_check_ledger.kp T.b_check_ledger .nil pass0 (pa_cons (pv 0) pa_nil)))
      (pss_cons (ps_expr (pe_call G_check_prime (hr.mono (by decide)) (by rfl) T.m_check_prime T.F_check_prime.kp T.b_check_prime .nil pass0 (pa_cons (pv 1) pa_nil)))
      (pss_one (ps_ret (pe_call G_remaining (hr.mono (by decide)) (by rfl) T.m_remaining T.F_remaining.kp T.b_remaining .nil pass0 (pa_cons (pv 0) (pa_cons (pv 1) pa_nil))))))), fun q sls n c Φ A0 σ Q hR hA fin => ?_⟩
  obtain ⟨rfl, l, p, hL, hl, hp, rfl, rfl⟩ := hR
  refine q_drop (j_call (R := R_check_ledger) (ae_cons (e_var rfl) ae_nil) fun sls e => ⟨rfl, l, hL, by omega, e, rfl⟩) hA fun Hk1 H1 g1 a1 => ?_
  refine q_drop (j_call (R := R_check_prime) (ae_cons (e_var rfl) ae_nil) fun sls e => ⟨rfl, p, hp, e, rfl⟩) a1 fun Hk2 H2 g2 a2 => ?_
  exact s_retE (j_call (R := R_remaining) (c := 0) (Φ := fun d => d = led (rem (p : Int) l)) (ae_cons (e_var rfl) (ae_cons (e_var rfl) ae_nil)) fun sls e => ⟨rfl, l, (p : Int), led l, .inl rfl, by omega, by have := hp.1; omega, e, rfl⟩) a2 (Nat.le_refl _) fin rfl
/-! ### reduced, where it raises -/
def PB (K : PySem.W.Frag) (d : PyData) : Prop := Kn K d ∧ PrJ d false
def B_reduced (K : PySem.W.Frag) : RelE := fun _ sls c x => c = 0 ∧ ∃ d0 d1, Odd K d0 ∧ sls = [.dat d0, .dat d1] ∧ ((isLedD d0 = false ∧ x = "InvalidLedger") ∨ (isLedD d0 = true ∧ PB K d1 ∧ x = "InvalidPrime"))
theorem ox_reduced (T : Tx K mg) : FnOk P w K mg base (L2.CX P w) 5 T.a_reduced T.fd_reduced P_reduced (spE mg (B_reduced K)) := by
  have U_check_ledger := fn_or (fn_lift (ok_check_ledger (P := P) (w := w) (base := base) T)) (ox_check_ledger (P := P) (w := w) (base := base) T)
  have U_check_prime := fn_or (fn_lift (ok_check_prime (P := P) (w := w) (base := base) T)) (ox_check_prime (P := P) (w := w) (base := base) T)
  refine fn_okE T.F_reduced sc_reduced (by decide) (fun q sls c x h => by obtain ⟨_, d0, d1, _, rfl, _⟩ := h; rfl) fun cdv A outer s B0 Ew hr => ⟨_,
    (pss_cons (ps_expr (pe_call U_check_ledger (hr.mono (by decide)) (by rfl) T.m_check_ledger T.F_check_ledger.kp T.b_check_ledger .nil (passes_call (W := fun cls d _ H => Ew cls d H) (E := Ew) (takes_of rfl rfl rfl rfl) fun _ _ _ _ h => h) (pa_cons (pv 0) pa_nil)))
      (pss_cons (ps_expr (pe_call U_check_prime (hr.mono (by decide)) (by rfl) T.m_check_prime T.F_check_prime.kp T.b_check_prime .nil (passes_call (W := fun cls d _ H => Ew cls d H) (E := Ew) (takes_of rfl rfl rfl rfl) fun _ _ _ _ h => h) (pa_cons (pv 1) pa_nil)))
      (pss_one ps_never))), fun q sls n c x A0 σ Q hR hA fin => ?_⟩
  obtain ⟨rfl, d0, d1, o0, rfl, h⟩ := hR
  rcases h with ⟨h0, rfl⟩ | ⟨h0, h1, rfl⟩
  · exact q_dropR (rs_call (c := 0) (B := B_check_ledger K) (ae_cons (e_var rfl) ae_nil) fun sls es => ⟨rfl, d0, o0, h0, es, rfl⟩) hA (Nat.le_refl _) (fin_w fin (Nat.le_refl _))
  · refine q_drop (ck_ledger h0 o0 (e_var rfl)) hA fun Hk1 H1 g1 a1 => ?_
    exact q_dropR (rs_call (c := 0) (B := B_check_prime K) (ae_cons (e_var rfl) ae_nil) fun sls es => ⟨rfl, d1, h1.1, h1.2, es, rfl⟩) a1 (Nat.le_refl _) (fin_w fin (Nat.le_refl _))
/-! ### sums_modulo -/
def R_sums_modulo : RelX := fun _ sls c Φ => c = 0 ∧ ∃ (l : List (Int × Int)) (p m : Nat), Led l ∧ l.length ≤ 1000 ∧ primed p ∧ 1 ≤ m ∧ m ≤ p ∧ sls = [.dat (led l), .dat (.int (p : Int)), .dat (.int (m : Int))] ∧ Φ = fun d => d = pol (psm (p : Int) l m)
theorem ok_sums_modulo (T : Tx K mg) : FnOk P w K mg base CX0 5 T.a_sums_modulo T.fd_sums_modulo P_sums_modulo (spX R_sums_modulo) := by
  have G_check_ledger := ok_check_ledger (P := P) (w := w) (base := base) T
  have G_check_prime := ok_check_prime (P := P) (w := w) (base := base) T
  have G_is_from := ok_is_from (P := P) (w := w) (base := base) T
  have G_remaining := ok_remaining (P := P) (w := w) (base := base) T
  refine fn_ok T.F_sums_modulo sc_sums_modulo (by decide) (fun q sls c Φ h => by obtain ⟨_, l, p, m, _, _, _, _, _, rfl, _⟩ := h; rfl) fun cdv A outer s B0 Ew hr => ⟨_,
    (pss_cons (ps_expr (pe_call G_check_ledger (hr.mono (by decide)) (by rfl) T.m_check_ledger T.F_check_ledger.kp T.b_check_ledger .nil pass0 (pa_cons (pv 0) pa_nil)))
      (pss_cons (ps_expr (pe_call G_check_prime (hr.mono (by decide)) (by rfl) T.m_check_prime T.F_check_prime.kp T.b_check_prime .nil pass0 (pa_cons (pv 1) pa_nil)))
      (pss_cons (ps_if (PW.pt (pw_or (pt_not (pt_val (pe_call G_is_from (hr.mono (by decide)) (by rfl) T.m_is_from T.F_is_from.kp T.b_is_from .nil pass0 (pa_cons (pv 2) (pa_cons pe_int pa_nil))))) (pw_or1 (pt_cmpR op_gt (pv 2) (pv 1) (nomark _))))) (pss_one ps_never) pss_nil)
      (pss_cons (ps_set (i := 3) sc_sums_modulo.nd rfl (Or.inl rfl) (pe_lst pa_nil))
      (pss_cons (ps_set (i := 4) sc_sums_modulo.nd rfl (Or.inl rfl) (pe_call G_remaining (hr.mono (by decide)) (by rfl) T.m_remaining T.F_remaining.kp T.b_remaining .nil pass0 (pa_cons (pv 0) (pa_cons (pv 1) pa_nil))))
      (pss_cons (ps_setLc (i := 5) (own := [("key", 8), ("amount", 9)]) rfl sc_sums_modulo.nd rfl rfl (sw_true rfl rfl rfl (by decide +kernel)) (k_piTup (K := K) rfl (pv 4)) (blkOk_by (own := [("key", 8), ("amount", 9)]) (N := N_sums_modulo) (sc := defScope s_sums_modulo) (by decide +kernel)) (fun _ _ _ _ _ => (k_pgTup (K := K) (n := 2) rfl rfl (pgs_cons (pg_name (i := 8) sc_sums_modulo.nd rfl (Or.inl rfl)) (pgs_cons (pg_name (i := 9) sc_sums_modulo.nd rfl (Or.inl rfl)) pgs_nil)))) (fun _ _ _ _ _ => pts_nil) (fun _ _ _ _ _ => (pv 8)))
      (pss_cons (ps_setLc (i := 6) (own := [("key", 8), ("amount", 9)]) rfl sc_sums_modulo.nd rfl rfl (sw_true rfl rfl rfl (by decide +kernel)) (k_piTup (K := K) rfl (pv 4)) (blkOk_by (own := [("key", 8), ("amount", 9)]) (N := N_sums_modulo) (sc := defScope s_sums_modulo) (by decide +kernel)) (fun _ _ _ _ _ => (k_pgTup (K := K) (n := 2) rfl rfl (pgs_cons (pg_name (i := 8) sc_sums_modulo.nd rfl (Or.inl rfl)) (pgs_cons (pg_name (i := 9) sc_sums_modulo.nd rfl (Or.inl rfl)) pgs_nil)))) (fun _ _ _ _ _ => pts_nil) (fun _ _ _ _ _ => (pv 9)))
      (pss_cons (ps_for PassesOwn.never rfl (pi_range1 rfl T.z_range (pa_cons (pv 2) pa_nil)) (pg_name (i := 7) sc_sums_modulo.nd rfl (Or.inl rfl)) (pss_cons (ps_expr (pe_bm PySem.F.plainAttrs_list PySem.F.slot_list_append PySem.F.type_list_append mt_append (pv 3) (pa_cons (pe_op op_modN (pe_callB (k_sum (K := K) rfl rfl) (by rfl) T.z_sum (by decide +kernel) (pa_cons (pv 6) pa_nil)) (pv 1)) pa_nil)))
      (pss_one (ps_setLc (i := 6) (own := [("term", 10), ("key", 8)]) rfl sc_sums_modulo.nd rfl rfl (sw_true rfl rfl rfl (by decide +kernel)) (k_piZip (K := K) rfl rfl T.z_zip (pa_cons (pv 6) (pa_cons (pv 5) pa_nil))) (blkOk_by (own := [("term", 10), ("key", 8)]) (N := N_sums_modulo) (sc := defScope s_sums_modulo) (by decide +kernel)) (fun _ _ _ _ _ => (k_pgTup (K := K) (n := 2) rfl rfl (pgs_cons (pg_name (i := 10) sc_sums_modulo.nd rfl (Or.inl rfl)) (pgs_cons (pg_name (i := 8) sc_sums_modulo.nd rfl (Or.inl rfl)) pgs_nil)))) (fun _ _ _ _ _ => pts_nil) (fun _ _ _ _ _ => (pe_op op_modN (pe_op op_mulU (pv 10) (pv 8)) (pv 1)))))))
      (pss_one (ps_ret (pe_callTy (k_tup (K := K) rfl) (by rfl) T.z_tuple (by decide +kernel) (pa_cons (pv 3) pa_nil)))))))))))), fun q sls n c Φ A0 σ Q hR hA fin => ?_⟩
  obtain ⟨rfl, l, p, m, hL, hl, hp, hm1, hm2, rfl, rfl⟩ := hR
  have hp2 := hp.1
  have hp3 := hp.2.1
  have hp0 : (0 : Int) < (p : Int) := by omega
  refine q_drop (j_call (R := R_check_ledger) (ae_cons (e_var rfl) ae_nil) fun sls e => ⟨rfl, l, hL, by omega, e, rfl⟩) hA fun Hk1 H1 g1 a1 => ?_
  refine q_drop (j_call (R := R_check_prime) (ae_cons (e_var rfl) ae_nil) fun sls e => ⟨rfl, p, hp, e, rfl⟩) a1 fun Hk2 H2 g2 a2 => ?_
  refine q_ifNo (tb_is (tb_or (a := false) (tb_is (tb_not (tb_B (j_call (R := R_is_from K) (c := 0) (Φ := fun x => x = .bool (decide ((1 : Int) ≤ (m : Int)))) (ae_cons (e_var rfl) (ae_cons e_int ae_nil)) fun sls e => ⟨rfl, .int (m : Int), 1, .inl rfl, e, rfl⟩))) (by rw [decide_eq_true (by omega)]; rfl)) fun _ => tb_is (tb_test (e_gtI (e_var rfl) (e_var rfl))) (decide_eq_false (by omega))) rfl) a2 fun Hk3 H3 g3 a3 => ?_
  refine q_newL (i := 3) a3 fun r H4 a4 cl4 => ?_
  refine q_asgE (i := 4) (d := led (rem (p : Int) l)) (j_call (R := R_remaining) (c := 0) (ae_cons (e_var rfl) (ae_cons (e_var rfl) ae_nil)) fun sls e => ⟨rfl, l, (p : Int), led l, .inl rfl, by omega, hp0, e, rfl⟩) a4 fun σ5 Hk5 H5 g5 a5 => ?_
  have cl5 := cl4.go g5
  obtain ⟨b, eb⟩ : ∃ b, b = rem (p : Int) l := ⟨_, rfl⟩
  rw [← eb] at a5
  have hbl : b.length ≤ 1000 := by have := rem_len (p : Int) l; rw [eb]; omega
  have hbr : ∀ x ∈ b, (0 ≤ x.1 ∧ x.1 < (p : Int)) ∧ 0 < x.2 ∧ x.2 < (p : Int) := fun x hx => rem_range hp0 (by rw [← eb]; exact hx)
  refine q_asgE (i := 5) (d := .list ((b.map fun x : Int × Int => x.1).map .int)) (e_is (e_lc1 (vs := [8, 9]) (emb := pr) (xs := b) (ie_tup (e_var rfl)) (fun x => .int x.1) (by omega) fun x hx => ⟨_, gb_tup2 (by simp) (by simp), e_var rfl⟩) (by rw [List.map_map]; rfl)) a5 fun σ6 Hk6 H6 g6 a6 => ?_
  have cl6 := cl5.go g6
  refine q_asgE (i := 6) (d := .list ((b.map fun x => tmr (p : Int) (fun x => x.2) x 0).map .int)) (e_is (e_lc1 (vs := [8, 9]) (emb := pr) (xs := b) (ie_tup (e_var rfl)) (fun x => .int x.2) (by omega) fun x hx => ⟨_, gb_tup2 (by simp) (by simp), e_var rfl⟩) (by rw [List.map_map]; rfl)) a6 fun σ7 Hk7 H7 g7 a7 => ?_
  have cl7 := cl6.go g7
  refine q_for (n := n) (c := 0) (ie_rng1 (e_var rfl) (by omega) (by omega)) a7 fun items HkW H8 e g8 a8 => ?_
  subst e
  refine ⟨fun i σ' Hk' H' => Same HkW Hk' ∧ At q n [.dat (led l), .dat (.int (p : Int)), .dat (.int (m : Int)), .adr r, .dat (led b), .dat (.list ((b.map fun x : Int × Int => x.1).map .int)), .dat (.list ((b.map fun x => tmr (p : Int) (fun x => x.2) x i).map .int)), .any, .any, .any, .any] A0 B0 σ' Hk' H' ∧ Cell q B0 Hk' H' r ((psm (p : Int) l i).map .int), ⟨Same.refl _, a8, cl7.go g8⟩, fun i σ' Hk' H' h => ⟨h.1, h.2.1.ok.a⟩, ?_, ?_⟩
  · rintro i d σ' Hk' H' ed ⟨h4, st, cl⟩ v Hk9 H9 g9 dv
    obtain ⟨hi, rfl⟩ := rng_get' ed
    refine gb_name (vs := [7]) (by simp) σ' Hk9 H9 v (st.sg.mono g9.k) g9.a dv _ fun σ2 sg2 _ _ => ?_
    have st2 : At q n _ A0 B0 σ2 Hk9 H9 := ⟨st.ok.go g9, sg2, st.gr.trans g9.none_to⟩
    refine q_append (n := n) (c := 0) (Φ := fun d => d = .int ((psum l i).fmod (p : Int))) (e_is (e_mod (e_sum (e_var rfl)) (e_var rfl) (by omega)) ?_) st2 (cl.go g9.none_to) rfl (by rw [List.length_map, psm_len]; omega) fun d Hk10 H10 ed s10 a10 cl10 => ?_
    · rw [tmr_sum hp0 i fun x _ => Cg.refl _ _, eb, (psum_rem hp0 l i).mod hp0]
    refine s_asgE (i := 6) (d := .list ((b.map fun x => tmr (p : Int) (fun x => x.2) x (i + 1)).map .int)) (e_is (e_lc1 (vs := [10, 8]) (emb := fun x => pr (tmr (p : Int) (fun x => x.2) x i, x.1)) (xs := b) ((ie_zipL (e_var rfl) (e_var rfl)).is (zip_two b _ _)) (fun x => .int ((tmr (p : Int) (fun x => x.2) x i * x.1).fmod (p : Int))) (by omega) fun x hx => ⟨_, gb_tup2 (by simp) (by simp), e_mod (e_mulI (e_var rfl) (e_var rfl) (wide_mul (a := 12) (b := 12) (by have := tmr_range (p := (p : Int)) (x := x) (f := fun x => x.2) hp0 ⟨by have := hbr x hx; omega, by have := hbr x hx; omega⟩ i; omega) (by have := hbr x hx; omega) (by omega) (by omega) (by omega))) (e_var rfl) (by omega)⟩) (by rw [List.map_map]; rfl)) a10 fun σ11 Hk11 H11 g11 a11 => ⟨Hk11, ((h4.trans g9.k).trans s10).trans g11.k, a11.forget 7, ?_⟩
    have cl11 := cl10.go g11
    rw [ed] at cl11
    rw [psm_succ, List.map_append]; exact cl11
  · rintro σ' Hk' H' ⟨h4, st, cl⟩
    rw [rng_len, Int.toNat_natCast] at cl
    obtain ⟨Hk9, s9, st9⟩ := st.freeze (i := 3) cl rfl
    exact s_retE (d := pol (psm (p : Int) l m)) (e_tupL (e_var rfl)) st9 (Nat.le_refl _) fin rfl
/-! ### sums_modulo, where it raises -/
def B_sums_modulo (K : PySem.W.Frag) : RelE := fun _ sls c x => c = 0 ∧ ∃ d0 d1 d2, Odd K d0 ∧ sls = [.dat d0, .dat d1, .dat d2] ∧ ((isLedD d0 = false ∧ x = "InvalidLedger") ∨ (isLedD d0 = true ∧ PB K d1 ∧ x = "InvalidPrime") ∨ (isLedD d0 = true ∧ (∃ p : Nat, primed p ∧ d1 = .int (p : Int) ∧ ((Kn K d2 ∧ isFromD 1 d2 = false) ∨ ∃ m : Int, (p : Int) < m ∧ d2 = .int m)) ∧ x = "InvalidNumber"))
theorem ox_sums_modulo (T : Tx K mg) : FnOk P w K mg base (L2.CX P w) 5 T.a_sums_modulo T.fd_sums_modulo P_sums_modulo (spE mg (B_sums_modulo K)) := by
  have U_check_ledger := fn_or (fn_lift (ok_check_ledger (P := P) (w := w) (base := base) T)) (ox_check_ledger (P := P) (w := w) (base := base) T)
  have U_check_prime := fn_or (fn_lift (ok_check_prime (P := P) (w := w) (base := base) T)) (ox_check_prime (P := P) (w := w) (base := base) T)
  have G_is_from := ok_is_from (P := P) (w := w) (base := base) T
  refine fn_okE T.F_sums_modulo sc_sums_modulo (by decide) (fun q sls c x h => by obtain ⟨_, d0, d1, d2, _, rfl, _⟩ := h; rfl) fun cdv A outer s B0 Ew hr => ⟨_,
    (pss_cons (ps_expr (pe_call U_check_ledger (hr.mono (by decide)) (by rfl) T.m_check_ledger T.F_check_ledger.kp T.b_check_ledger .nil (passes_call (W := fun cls d _ H => Ew cls d H) (E := Ew) (takes_of rfl rfl rfl rfl) fun _ _ _ _ h => h) (pa_cons (pv 0) pa_nil)))
      (pss_cons (ps_expr (pe_call U_check_prime (hr.mono (by decide)) (by rfl) T.m_check_prime T.F_check_prime.kp T.b_check_prime .nil (passes_call (W := fun cls d _ H => Ew cls d H) (E := Ew) (takes_of rfl rfl rfl rfl) fun _ _ _ _ h => h) (pa_cons (pv 1) pa_nil)))
      (pss_cons (ps_if (PW.pt (pw_or (pt_not (pt_val (pe_call G_is_from (hr.mono (by decide)) (by rfl) T.m_is_from T.F_is_from.kp T.b_is_from .nil pass0 (pa_cons (pv 2) (pa_cons pe_int pa_nil))))) (pw_or1 (pt_cmpR op_gt (pv 2) (pv 1) (nomark _))))) (pss_one (ps_raise rfl (takes_of (E := Ew) rfl rfl rfl rfl) (pmk_own0 PySem.F.excBase_ValueError T.x_InvalidNumber T.g_InvalidNumber T.k_InvalidNumber (raises_own T.u_InvalidNumber T.t_InvalidNumber) rfl))) pss_nil)
      (pss_cons ps_never
      (pss_cons ps_never
      (pss_cons ps_never
      (pss_cons ps_never
      (pss_cons ps_never
      (pss_one ps_never))))))))), fun q sls n c x A0 σ Q hR hA fin => ?_⟩
  obtain ⟨rfl, d0, d1, d2, o0, rfl, h⟩ := hR
  rcases h with ⟨h0, rfl⟩ | ⟨h0, h1, rfl⟩ | ⟨h0, ⟨p, hp, rfl, h2⟩, rfl⟩
  · exact q_dropR (rs_call (c := 0) (B := B_check_ledger K) (ae_cons (e_var rfl) ae_nil) fun sls es => ⟨rfl, d0, o0, h0, es, rfl⟩) hA (Nat.le_refl _) (fin_w fin (Nat.le_refl _))
  · refine q_drop (ck_ledger h0 o0 (e_var rfl)) hA fun Hk1 H1 g1 a1 => ?_
    exact q_dropR (rs_call (c := 0) (B := B_check_prime K) (ae_cons (e_var rfl) ae_nil) fun sls es => ⟨rfl, d1, h1.1, h1.2, es, rfl⟩) a1 (Nat.le_refl _) (fin_w fin (Nat.le_refl _))
  · refine q_drop (ck_ledger h0 o0 (e_var rfl)) hA fun Hk1 H1 g1 a1 => ?_
    refine q_drop (ck_prime hp (e_var rfl)) a1 fun Hk2 H2 g2 a2 => ?_
    rcases h2 with ⟨kn, hf⟩ | ⟨m, hm, rfl⟩
    · exact q_whenB (b := true) (tb_is (tb_or (a := true) (b := true) (tb_is (tb_not (tb_B (j_call (R := R_is_from K) (c := 0) (Φ := fun x => x = .bool (isFromD 1 d2)) (ae_cons (e_var rfl) (ae_cons e_int ae_nil)) fun sls e => ⟨rfl, d2, 1, kn, e, rfl⟩))) (by rw [hf]; rfl)) fun h => by cases h) rfl) a2 (fun _ Hk3 H3 g3 a3 => s_raise fin a3 (Nat.le_refl _) T.g_InvalidNumber) (fun h => by cases h)
    · have hp2 := hp.1
      exact q_whenB (b := true) (tb_is (tb_or (a := false) (b := true) (tb_is (tb_not (tb_B (j_call (R := R_is_from K) (c := 0) (Φ := fun x => x = .bool (isFromD 1 (.int m))) (ae_cons (e_var rfl) (ae_cons e_int ae_nil)) fun sls e => ⟨rfl, .int m, 1, .inl rfl, e, rfl⟩))) (by rw [show isFromD 1 (.int m) = decide ((1 : Int) ≤ m) from rfl, decide_eq_true (by omega)]; rfl)) fun _ => tb_is (tb_test (e_gtI (e_var rfl) (e_var rfl))) (decide_eq_true hm)) rfl) a2 (fun _ Hk3 H3 g3 a3 => s_raise fin a3 (Nat.le_refl _) T.g_InvalidNumber) (fun h => by cases h)
/-! ### check_residues -/
def R_check_residues : RelX := fun _ sls c Φ => c = 0 ∧ ∃ (f : List Int) (P : Nat), 1 ≤ f.length ∧ f.length ≤ P ∧ P < 1000 ∧ (∀ x ∈ f, 0 ≤ x ∧ x < (P : Int)) ∧ sls = [.dat (pol f), .dat (.int (P : Int))] ∧ Φ = fun d => d = .none
theorem ok_check_residues (T : Tx K mg) : FnOk P w K mg base CX0 2 T.a_check_residues T.fd_check_residues P_check_residues (spX R_check_residues) := by
  have G_is_an_integer := ok_is_an_integer (P := P) (w := w) (base := base) T
  refine fn_ok T.F_check_residues sc_check_residues (by decide) (fun q sls c Φ h => by obtain ⟨_, f, P, _, _, _, _, rfl, _⟩ := h; rfl) fun cdv A outer s B0 Ew hr => ⟨_,
    (pss_cons (ps_if (PW.pt (pw_or (pt_not (pt_val (pe_callB (k_isi (K := K) rfl) (by rfl) T.z_isinstance (by decide +kernel) (pa_cons (pv 0) (pa_cons (pe_bltn (v := .ty "tuple") (by rfl) T.z_tuple (by decide +kernel) rfl) pa_nil))))) (pw_or1 (pt_not (pt_chain op_le op_le pe_int (pe_callB (k_len (K := K) rfl) (by rfl) T.z_len (by decide +kernel) (pa_cons (pv 0) pa_nil)) (pv 1)))))) (pss_one ps_never) pss_nil)
      (pss_one (ps_if (pt_not (pt_val (pe_callB (k_all (K := K) rfl rfl) (by rfl) T.z_all (by decide +kernel) (pa_cons (pe_lc (own := [("number", 2)]) rfl sc_check_residues.nd (k_piTup (K := K) rfl (pv 0)) (blkOk_by (own := [("number", 2)]) (N := N_check_residues) (sc := defScope s_check_residues) (by decide +kernel)) (fun _ _ _ _ _ => (pg_name (i := 2) sc_check_residues.nd rfl (Or.inl rfl))) (fun _ _ _ _ _ => pts_nil) (fun _ _ _ _ _ => (pe_and (pe_call G_is_an_integer (hr.mono (by decide)) (by rfl) T.m_is_an_integer T.F_is_an_integer.kp T.b_is_an_integer .nil pass0 (pa_cons (pv 2) pa_nil)) (pe_one (pe_chain op_le op_lt pe_int (pv 2) (pv 1)))))) pa_nil)))) (pss_one ps_never) pss_nil))), fun q sls n c Φ A0 σ Q hR hA fin => ?_⟩
  obtain ⟨rfl, f, P, h1, h2, h3, hr, rfl, rfl⟩ := hR
  refine q_ifNo (tb_is (tb_or (a := false) (tb_is (tb_not (tb_B (e_isi (e_var rfl) (kit_tuple _)))) rfl) fun _ => tb_is (tb_not (tb_test (e_chainI (g := fun i j => decide (i ≤ j)) (g' := fun i j => decide (i ≤ j)) e_int (e_is (e_lenT (e_var rfl)) (d1 := .int ((f.length : Nat) : Int)) (by rw [pol_len])) fun _ => e_var rfl))) (b := false) (by simp; omega)) rfl) hA fun Hk1 H1 g1 a1 => ?_
  refine s_ifNo (tb_is (tb_not (tb_B (e_all (bs := f.map fun x => (true && (decide (0 ≤ x) && decide (x < (P : Int))))) (e_is (e_lc1 (vs := [2]) (emb := PyData.int) (xs := f) (ie_tup (e_var rfl)) (fun x => .bool (true && (decide (0 ≤ x) && decide (x < (P : Int))))) (by omega) fun x hx => ⟨_, gb_name (by simp), e_andV (j_call (R := R_is_an_integer K) (ae_cons (e_var rfl) ae_nil) fun sls e => ⟨rfl, .int x, .inl rfl, e, rfl⟩) fun _ => e_chainI (g := fun i j => decide (i ≤ j)) (g' := fun i j => decide (i < j)) e_int (e_var rfl) fun _ => e_var rfl⟩) (by rw [List.map_map]; rfl))))) ?_) a1 fun Hk' H2 g a => s_end a (Nat.le_refl _) fin rfl
  have hall : (f.map fun x => (true && (decide (0 ≤ x) && decide (x < (P : Int))))).all id = true := by
    rw [List.all_map]
    refine List.all_eq_true.mpr fun x hx => ?_
    have := hr x hx
    show (true && (decide (0 ≤ x) && decide (x < (P : Int)))) = true
    rw [decide_eq_true this.1, decide_eq_true this.2]
    rfl
  rw [hall]
  rfl
/-! ### check_residues, where it raises -/
def inRD (P : Nat) : PyData → Bool
  | .int i => decide (0 ≤ i) && decide (i < (P : Int))
  | _ => false
def resD (P : Nat) : PyData → Bool
  | .tuple ds => (decide ((1 : Int) ≤ (ds.length : Int)) && decide ((ds.length : Int) ≤ (P : Int))) && ds.all (inRD P)
  | _ => false
theorem rests_of {P : Nat} : ∀ {ds : List PyData}, ds.all (inRD P) = true → ∃ f : List Int, (∀ x ∈ f, 0 ≤ x ∧ x < (P : Int)) ∧ ds = f.map PyData.int
  | [], _ => ⟨[], by simp, rfl⟩
  | d :: ds, h => by
    rw [List.all_cons, Bool.and_eq_true] at h
    obtain ⟨f, hf, rfl⟩ := rests_of h.2
    cases d with
    | int i =>
      have h1 : (decide (0 ≤ i) && decide (i < (P : Int))) = true := h.1
      rw [Bool.and_eq_true] at h1
      refine ⟨i :: f, fun x hx => ?_, rfl⟩
      rcases List.mem_cons.mp hx with e | e
      · rw [e]; exact ⟨of_decide_eq_true h1.1, of_decide_eq_true h1.2⟩
      · exact hf x e
    | _ => cases h.1
theorem res_pol {P : Nat} {d : PyData} (h : resD P d = true) : ∃ f : List Int, 1 ≤ f.length ∧ f.length ≤ P ∧ (∀ x ∈ f, 0 ≤ x ∧ x < (P : Int)) ∧ d = pol f := by
  cases d with
  | tuple ds =>
    have h' : ((decide ((1 : Int) ≤ (ds.length : Int)) && decide ((ds.length : Int) ≤ (P : Int))) && ds.all (inRD P)) = true := h
    rw [Bool.and_eq_true, Bool.and_eq_true] at h'
    obtain ⟨f, hf, rfl⟩ := rests_of h'.2
    have h1 := of_decide_eq_true h'.1.1
    have h2 := of_decide_eq_true h'.1.2
    rw [List.length_map] at h1 h2
    exact ⟨f, by omega, by omega, hf, rfl⟩
  | _ => cases h
def B_check_residues (K : PySem.W.Frag) : RelE := fun _ sls c x => c = 0 ∧ ∃ (d : PyData) (P : Nat), Odd K d ∧ resD P d = false ∧ sls = [.dat d, .dat (.int (P : Int))] ∧ x = "InvalidResidues"
theorem ck_residues {K : PySem.W.Frag} {mg : Str → Option Value} {q : Option Addr} {δ : List Sl} {te tp : TE} {d : PyData} {P : Nat} {E0 : XK} (h : resD P d = true) (hP : P < 1000) (ed : E q δ te d) (ep : E q δ tp (.int (P : Int))) : E q δ (tCall (spU (spX R_check_residues) (spE mg (B_check_residues K))) [] E0 (tCons te (tCons tp tNil))) .none := by
  obtain ⟨f, h1, h2, h3, rfl⟩ := res_pol h
  exact j_callU (R := R_check_residues) (c := 0) (ae_cons ed (ae_cons ep ae_nil)) fun sls e => ⟨rfl, f, P, h1, h2, hP, h3, e, rfl⟩
theorem ox_check_residues (T : Tx K mg) : FnOk P w K mg base (L2.CX P w) 2 T.a_check_residues T.fd_check_residues P_check_residues (spE mg (B_check_residues K)) := by
  have G_is_an_integer := ok_is_an_integer (P := P) (w := w) (base := base) T
  refine fn_okE T.F_check_residues sc_check_residues (by decide) (fun q sls c x h => by obtain ⟨_, d, P, _, _, rfl, _⟩ := h; rfl) fun cdv A outer s B0 Ew hr => ⟨_,
    (pss_cons (ps_if (PW.pt (pw_or (pt_not (pt_val (pe_callB (k_isi (K := K) rfl) (by rfl) T.z_isinstance (by decide +kernel) (pa_cons (pv 0) (pa_cons (pe_bltn (v := .ty "tuple") (by rfl) T.z_tuple (by decide +kernel) rfl) pa_nil))))) (pw_or1 (pt_not (pt_chain op_le op_le pe_int (pe_callB (k_len (K := K) rfl) (by rfl) T.z_len (by decide +kernel) (pa_cons (pv 0) pa_nil)) (pv 1)))))) (pss_one (ps_raise rfl (takes_of (E := Ew) rfl rfl rfl rfl) (pmk_own0 PySem.F.excBase_ValueError T.x_InvalidResidues T.g_InvalidResidues T.k_InvalidResidues (raises_own T.u_InvalidResidues T.t_InvalidResidues) rfl))) pss_nil)
      (pss_one (ps_if (pt_not (pt_val (pe_callB (k_all (K := K) rfl rfl) (by rfl) T.z_all (by decide +kernel) (pa_cons (pe_lc (own := [("number", 2)]) rfl sc_check_residues.nd (k_piTup (K := K) rfl (pv 0)) (blkOk_by (own := [("number", 2)]) (N := N_check_residues) (sc := defScope s_check_residues) (by decide +kernel)) (fun _ _ _ _ _ => (pg_name (i := 2) sc_check_residues.nd rfl (Or.inl rfl))) (fun _ _ _ _ _ => pts_nil) (fun _ _ _ _ _ => (pe_and (pe_call G_is_an_integer (hr.mono (by decide)) (by rfl) T.m_is_an_integer T.F_is_an_integer.kp T.b_is_an_integer .nil pass0 (pa_cons (pv 2) pa_nil)) (pe_one (pe_chain op_le op_lt pe_int (pv 2) (pv 1)))))) pa_nil)))) (pss_one (ps_raise rfl (takes_of (E := Ew) rfl rfl rfl rfl) (pmk_own0 PySem.F.excBase_ValueError T.x_InvalidResidues T.g_InvalidResidues T.k_InvalidResidues (raises_own T.u_InvalidResidues T.t_InvalidResidues) rfl))) pss_nil))), fun q sls n c x A0 σ Q hR hA fin => ?_⟩
  obtain ⟨rfl, d, P, od, hd, rfl, rfl⟩ := hR
  by_cases ht : isiTup d = true
  · obtain ⟨ds, rfl⟩ : ∃ ds, d = .tuple ds := by
      cases d with
      | tuple ds => exact ⟨ds, rfl⟩
      | _ => cases ht
    have hlen := od.sh ds rfl
    have hd' : ((decide ((1 : Int) ≤ (ds.length : Int)) && decide ((ds.length : Int) ≤ (P : Int))) && ds.all (inRD P)) = false := hd
    refine q_whenB (b := !(decide ((1 : Int) ≤ (ds.length : Int)) && decide ((ds.length : Int) ≤ (P : Int)))) (tb_is (tb_or (a := false) (tb_is (tb_not (tb_B (e_isi (e_var rfl) (kit_tuple _)))) rfl) fun _ => tb_not (tb_test (e_chainI (g := fun i j => decide (i ≤ j)) (g' := fun i j => decide (i ≤ j)) e_int (e_lenT (ds := ds) (e_var rfl)) fun _ => e_var rfl))) rfl) hA (fun _ Hk1 H1 g1 a1 => s_raise fin a1 (Nat.le_refl _) T.g_InvalidResidues) (fun hb Hk1 H1 g1 a1 => ?_)
    have hb' : (decide ((1 : Int) ≤ (ds.length : Int)) && decide ((ds.length : Int) ≤ (P : Int))) = true := by simpa using hb
    rw [hb', Bool.true_and] at hd'
    refine s_ifB (b := true) (tb_is (tb_not (tb_B (e_all (bs := ds.map (inRD P)) (e_is (e_lc1 (vs := [2]) (emb := id) (xs := ds) (by rw [List.map_id]; exact ie_tup (e_var rfl)) (fun x => .bool (inRD P x)) (by omega) fun x hx => ⟨_, gb_name (by simp), ?_⟩) (by rw [bools_map]))))) (by rw [all_id_map, hd']; rfl)) a1 (fun _ Hk2 H2 g2 a2 => s_raise fin a2 (Nat.le_refl _) T.g_InvalidResidues) (fun h => by cases h)
    have kn := kn_deep (K := K) (od.dp ds rfl x hx)
    by_cases hi : isIntD x = true
    · obtain ⟨i, rfl⟩ : ∃ i, x = .int i := by
        cases x with
        | int i => exact ⟨i, rfl⟩
        | _ => cases hi
      exact e_is (e_andV (a := true) (b := decide ((0 : Int) ≤ i) && decide (i < (P : Int))) (j_call (R := R_is_an_integer K) (ae_cons (e_var rfl) ae_nil) fun sls e => ⟨rfl, .int i, kn, e, rfl⟩) fun _ => e_chainI (g := fun i j => decide (i ≤ j)) (g' := fun i j => decide (i < j)) e_int (e_var rfl) fun _ => e_var rfl) rfl
    · have hf : isIntD x = false := by simpa using hi
      have hz : inRD P x = false := by cases x <;> first | rfl | cases hf
      rw [hz]
      exact e_andNo (e_is (j_call (R := R_is_an_integer K) (c := 0) (Φ := fun y => y = .bool (isIntD x)) (ae_cons (e_var rfl) ae_nil) fun sls e => ⟨rfl, x, kn, e, rfl⟩) (by rw [hf]))
  · have hf : isiTup d = false := by simpa using ht
    exact q_whenB (b := true) (tb_is (tb_or (a := true) (b := true) (tb_is (tb_not (tb_B (e_isiT (e_var rfl) od.kn))) (by rw [hf]; rfl)) fun h => by cases h) rfl) hA (fun _ Hk1 H1 g1 a1 => s_raise fin a1 (Nat.le_refl _) T.g_InvalidResidues) (fun h => by cases h)
/-! ### in_row -/
def R_in_row : RelX := fun _ sls c Φ => c = 0 ∧ ∃ (r s : List Int) (a : Int), CB 20 r ∧ CB 20 s ∧ r.length ≤ 1000 ∧ s.length ≤ 1000 ∧ sls = [.dat (.list (s.map .int)), .dat (.list (r.map .int)), .dat (.int a)] ∧ Φ = IntP fun _ => True
theorem cut_ints (s : List Int) (lo hi : Option Int) : ∃ t : List Int, Cr.cutD (s.map .int) lo hi = t.map .int ∧ (∀ x ∈ t, x ∈ s) ∧ t.length ≤ s.length := by
  unfold Cr.cutD
  refine ⟨_, by rw [← List.map_drop, ← List.map_take], fun x hx => List.mem_of_mem_drop (List.mem_of_mem_take hx), ?_⟩
  rw [List.length_take, List.length_drop]
  omega
theorem ok_in_row (T : Tx K mg) : FnOk P w K mg base CX0 1 T.a_in_row T.fd_in_row P_in_row (spX R_in_row) := by
  refine fn_ok T.F_in_row sc_in_row (by decide) (fun q sls c Φ h => by obtain ⟨_, r, s, a, _, _, _, _, rfl, _⟩ := h; rfl) fun cdv A outer s B0 Ew hr => ⟨_,
    (pss_one (ps_ret (pe_callB (k_sum (K := K) rfl rfl) (by rfl) T.z_sum (by decide +kernel) (pa_cons (pe_lc (own := [("factor", 3), ("number", 4)]) rfl sc_in_row.nd (k_piZip (K := K) rfl rfl T.z_zip (pa_cons (pv 1) (pa_cons (pe_slice (k_sl (K := K) rfl) (pv 0) (po_some (pv 2)) (po_some (pe_op (k_addU (K := K) rfl) (pv 2) (pe_callB (k_len (K := K) rfl) (by rfl) T.z_len (by decide +kernel) (pa_cons (pv 1) pa_nil))))) pa_nil))) (blkOk_by (own := [("factor", 3), ("number", 4)]) (N := N_in_row) (sc := defScope s_in_row) (by decide +kernel)) (fun _ _ _ _ _ => (k_pgTup (K := K) (n := 2) rfl rfl (pgs_cons (pg_name (i := 3) sc_in_row.nd rfl (Or.inl rfl)) (pgs_cons (pg_name (i := 4) sc_in_row.nd rfl (Or.inl rfl)) pgs_nil)))) (fun _ _ _ _ _ => pts_nil) (fun _ _ _ _ _ => (pe_op op_mulU (pv 3) (pv 4)))) pa_nil)))), fun q sls n c Φ A0 σ Q hR hA fin => ?_⟩
  obtain ⟨rfl, r, s, a, hr, hs, hrl, hsl, rfl, rfl⟩ := hR
  obtain ⟨t, et, ht, htl⟩ := cut_ints s (some a) (some (a + (r.length : Int)))
  exact s_ret (n := n) (c := 0) (Φ := IntP fun _ => True) ((e_sum (ns := (r.zip t).map fun x => x.1 * x.2) (e_is (e_lc1 (vs := [3, 4]) (emb := pr) (xs := r.zip t) ((ie_zipL (ds := r.map .int) (es := t.map .int) (e_var rfl) (e_is (e_slL (ds := s.map .int) (e_var rfl) (to_some (e_var rfl)) (to_some (e_addI (e_var rfl) (e_is (e_lenL (ds := r.map .int) (e_var rfl)) (d1 := .int (r.length : Int)) (by rw [List.length_map]))))) (by rw [et]))).is (zipD_ints _ _)) (fun x => .int (x.1 * x.2)) (by rw [List.length_zip]; omega) fun x hx => ⟨_, gb_tup2 (by simp) (by simp), e_mulI (e_var rfl) (e_var rfl) (wide_mul (a := 20) (b := 20) (hr _ (List.of_mem_zip (a := x.1) (b := x.2) hx).1) (hs _ (ht _ (List.of_mem_zip (a := x.1) (b := x.2) hx).2)) (by omega) (by omega) (by omega))⟩) (by rw [List.map_map]; rfl))).imp fun d e => ⟨_, trivial, e⟩) hA (by omega) fin fun d h => h
/-! ### rule_modulo -/
def RuleP (P : Nat) (r : List Int) : Prop := (∀ x ∈ r, 0 ≤ x ∧ x < (P : Int)) ∧ ∃ c, r.getLast? = some c ∧ c ≠ 0
def R_rule_modulo : RelX := fun _ sls c Φ => c = 0 ∧ ∃ (f : List Int) (P : Nat), primed P ∧ f.length ≤ 400 ∧ CB 20 f ∧ sls = [.dat (pol f), .dat (.int (P : Int))] ∧ Φ = fun d => ∃ r : List Int, RuleP P r ∧ r.length ≤ f.length + 1 ∧ d = .list (r.map .int)
theorem rep_one0 (m : Nat) : (List.replicate m [PyData.int 0]).flatten = (List.replicate m (0 : Int)).map .int := by
  induction m with
  | zero => rfl
  | succ m ih => rw [List.replicate_succ, List.flatten_cons, ih]; rfl
theorem rp_mul {P : Nat} (hp : primed P) {a b : Int} (ha : 0 < a ∧ a < (P : Int)) (hb : 0 < b ∧ b < (P : Int)) : (a * b).fmod (P : Int) ≠ 0 := fun z => by
  have h2 := hp.1
  rcases euclid hp ((dvd_mod (by omega)).mp z) with h | h
  · exact far (p := P) (x := a) (k := 0) (by omega) (by omega) (by omega) (by rw [Int.sub_zero]; exact h)
  · exact far (p := P) (x := b) (k := 0) (by omega) (by omega) (by omega) (by rw [Int.sub_zero]; exact h)
theorem ok_rule_modulo (T : Tx K mg) : FnOk P w K mg base CX0 2 T.a_rule_modulo T.fd_rule_modulo P_rule_modulo (spX R_rule_modulo) := by
  have G_in_row := ok_in_row (P := P) (w := w) (base := base) T
  refine fn_ok T.F_rule_modulo sc_rule_modulo (by decide) (fun q sls c Φ h => by obtain ⟨_, f, P, _, _, _, rfl, _⟩ := h; rfl) fun cdv A outer s B0 Ew hr => ⟨_,
    (pss_cons (ps_setLc (i := 2) (own := [("number", 14)]) rfl sc_rule_modulo.nd rfl rfl (sw_true rfl rfl rfl (by decide +kernel)) (k_piTup (K := K) rfl (pv 0)) (blkOk_by (own := [("number", 14)]) (N := N_rule_modulo) (sc := defScope s_rule_modulo) (by decide +kernel)) (fun _ _ _ _ _ => (pg_name (i := 14) sc_rule_modulo.nd rfl (Or.inl rfl))) (fun _ _ _ _ _ => pts_nil) (fun _ _ _ _ _ => (pe_op op_modN (pv 14) (pv 1))))
      (pss_cons (ps_set (i := 3) sc_rule_modulo.nd rfl (Or.inl rfl) (pe_lst (pa_cons pe_int pa_nil)))
      (pss_cons (ps_set (i := 4) sc_rule_modulo.nd rfl (Or.inl rfl) (pe_lst pa_nil))
      (pss_cons (ps_set (i := 5) sc_rule_modulo.nd rfl (Or.inr rfl) pe_int)
      (pss_cons (ps_for PassesOwn.never rfl (pi_range1 rfl T.z_range (pa_cons (pe_callB (k_len (K := K) rfl) (by rfl) T.z_len (by decide +kernel) (pa_cons (pv 2) pa_nil)) pa_nil)) (pg_name (i := 6) sc_rule_modulo.nd rfl (Or.inl rfl)) (pss_cons (ps_set (i := 7) sc_rule_modulo.nd rfl (Or.inl rfl) (pe_op op_sub (pe_callB (k_len (K := K) rfl) (by rfl) T.z_len (by decide +kernel) (pa_cons (pv 3) pa_nil)) pe_int))
      (pss_cons (ps_set (i := 8) sc_rule_modulo.nd rfl (Or.inl rfl) (pe_op op_modN (pe_call G_in_row (hr.mono (by decide)) (by rfl) T.m_in_row T.F_in_row.kp T.b_in_row .nil pass0 (pa_cons (pv 2) (pa_cons (pv 3) (pa_cons (pe_op op_sub (pv 6) (pv 7)) pa_nil)))) (pv 1)))
      (pss_cons (ps_if (pt_cmpR (k_eqD (K := K) rfl hr.units) (pv 8) pe_int (nomark _)) (pss_one ps_continue) pss_nil)
      (pss_cons (ps_set (i := 9) sc_rule_modulo.nd rfl (Or.inl rfl) (pe_callB (call_maxQ rfl) (by rfl) T.z_max (by decide +kernel) (pa_cons pe_int (pa_cons (pe_op op_sub (pe_op (k_addU (K := K) rfl) (pv 6) pe_int) (pe_op op_mulU pe_int (pv 7))) pa_nil))))
      (pss_cons (ps_set (i := 10) sc_rule_modulo.nd rfl (Or.inl rfl) (pe_callB (call_maxQ rfl) (by rfl) T.z_max (by decide +kernel) (pa_cons pe_int (pa_cons (pe_op op_sub (pe_op op_sub (pe_op op_mulU pe_int (pv 7)) (pv 6)) pe_int) pa_nil))))
      (pss_cons (ps_set (i := 11) sc_rule_modulo.nd rfl (Or.inl rfl) (pe_op (k_addU (K := K) rfl) (pe_op op_mulU (pe_lst (pa_cons pe_int pa_nil)) (pv 9)) (pe_lc (own := [("factor", 13)]) rfl sc_rule_modulo.nd (k_piList (K := K) rfl (pv 3)) (blkOk_by (own := [("factor", 13)]) (N := N_rule_modulo) (sc := defScope s_rule_modulo) (by decide +kernel)) (fun _ _ _ _ _ => (pg_name (i := 13) sc_rule_modulo.nd rfl (Or.inl rfl))) (fun _ _ _ _ _ => pts_nil) (fun _ _ _ _ _ => (pe_op op_modN (pe_op op_mulU (pv 5) (pv 13)) (pv 1))))))
      (pss_cons (ps_for PassesOwn.never rfl (k_enumL (K := K) rfl rfl T.z_enumerate (pa_cons (pv 4) pa_nil)) (k_pgTup (K := K) (n := 2) rfl rfl (pgs_cons (pg_name (i := 12) sc_rule_modulo.nd rfl (Or.inl rfl)) (pgs_cons (pg_name (i := 13) sc_rule_modulo.nd rfl (Or.inl rfl)) pgs_nil))) (pss_one (ps_asg (pe_op op_modN (pe_op op_sub (pe_ix (k_ix (K := K) rfl) (pv 11) (pe_op (k_addU (K := K) rfl) (pv 10) (pv 12)) (fun _ _ => rfl)) (pe_op op_mulU (pv 8) (pv 13))) (pv 1)) (pg_sub (pv 11) (pe_op (k_addU (K := K) rfl) (pv 10) (pv 12)) set_list))))
      (pss_cons (ps_if (pt_cmpR op_gt (pv 9) pe_int (nomark _)) (pss_cons (ps_set (i := 4) sc_rule_modulo.nd rfl (Or.inl rfl) (pv 3))
      (pss_one (ps_set (i := 5) sc_rule_modulo.nd rfl (Or.inr rfl) (pv 8)))) pss_nil)
      (pss_one (ps_set (i := 3) sc_rule_modulo.nd rfl (Or.inl rfl) (pv 11))))))))))))
      (pss_one (ps_ret (pv 3)))))))), fun q sls n c Φ A0 σ Q hR hA fin => ?_⟩
  obtain ⟨rfl, f, P, hP, hfl, hfB, rfl, rfl⟩ := hR
  have hP2 := hP.1
  have hP3 := hP.2.1
  refine q_asgE (i := 2) (d := .list ((f.map fun x => x.fmod (P : Int)).map .int)) (e_is (e_lc1 (vs := [14]) (emb := PyData.int) (xs := f) (ie_tup (e_var rfl)) (fun x => .int (x.fmod (P : Int))) (by omega) fun x hx => ⟨_, gb_name (by simp), e_mod (e_var rfl) (e_var rfl) (by omega)⟩) (by rw [List.map_map]; rfl)) hA fun σ1 Hk1 H1 g1 a1 => ?_
  obtain ⟨s, es⟩ : ∃ s : List Int, s = f.map fun x => x.fmod (P : Int) := ⟨_, rfl⟩
  have hsl : s.length = f.length := by rw [es, List.length_map]
  have hsr : ∀ x ∈ s, 0 ≤ x ∧ x < (P : Int) := fun x hx => by
    rw [es] at hx
    obtain ⟨y, _, rfl⟩ := List.mem_map.mp hx
    exact mod_range (by omega) y
  have cb : ∀ {r : List Int}, (∀ x ∈ r, 0 ≤ x ∧ x < (P : Int)) → CB 20 r := fun h x hx => by have := h x hx; omega
  rw [← es] at a1
  refine q_asgE (i := 3) (d := .list [.int 1]) (e_lst (ds := [.int 1]) (ae_cons e_int ae_nil)) a1 fun σ2 Hk2 H2 g2 a2 => ?_
  refine q_asgE (i := 4) (d := .list []) (e_lst (ds := []) ae_nil) a2 fun σ3 Hk3 H3 g3 a3 => ?_
  refine q_asgE (i := 5) (d := .int 1) e_int a3 fun σ4 Hk4 H4 g4 a4 => ?_
  refine q_for (n := n) (c := 0) (ie_rng1 (j := (s.length : Int)) (e_is (e_lenL (ds := s.map .int) (e_var rfl)) (by rw [List.length_map])) (by omega) (by omega)) a4 fun items HkW H5 e g5 a5 => ?_
  subst e
  refine ⟨fun i σ' Hk' H' => Same HkW Hk' ∧ ∃ (L : Nat) (r o : List Int) (dv : Int), r.length = L + 1 ∧ o.length + L ≤ i + 1 ∧ L ≤ i ∧ RuleP P r ∧ (∀ x ∈ o, 0 ≤ x ∧ x < (P : Int)) ∧ (0 < dv ∧ dv < (P : Int)) ∧ At q n [.dat (pol f), .dat (.int (P : Int)), .dat (.list (s.map .int)), .dat (.list (r.map .int)), .dat (.list (o.map .int)), .dat (.int dv), .any, .any, .any, .any, .any, .any, .any, .any, .any] A0 B0 σ' Hk' H', ⟨Same.refl _, 0, [1], [], 1, rfl, by simp, Nat.le_refl _, ⟨fun x hx => by rw [List.mem_singleton.mp hx]; omega, 1, rfl, by decide⟩, (fun x hx => by cases hx), by omega, a5⟩, fun i σ' Hk' H' h => ⟨h.1, by obtain ⟨_, L, r, o, dv, _, _, _, _, _, _, st⟩ := h; exact st.ok.a⟩, ?_, ?_⟩
  · rintro i d σ' Hk' H' ed ⟨h2, L, r, o, dv, hrl, hol, hLi, hR, ho, hdv, st⟩ v Hk6 H6 g6 dv6
    obtain ⟨hi', rfl⟩ := rng_get' ed
    have hi : i < s.length := by rw [Int.toNat_natCast] at hi'; exact hi'
    obtain ⟨hRr, c0, hc0, hcn⟩ := hR
    refine gb_name (vs := [6]) (by simp) σ' Hk6 H6 v (st.sg.mono g6.k) g6.a dv6 _ fun σ7 sg7 _ _ => ?_
    have st7 : At q n [.dat (pol f), .dat (.int (P : Int)), .dat (.list (s.map .int)), .dat (.list (r.map .int)), .dat (.list (o.map .int)), .dat (.int dv), .dat (.int (0 + (i : Int))), .any, .any, .any, .any, .any, .any, .any, .any] A0 B0 σ7 Hk6 H6 := ⟨st.ok.go g6, sg7, st.gr.trans g6.none_to⟩
    have sm6 := h2.trans g6.k
    refine q_asgE (i := 7) (d := .int (L : Int)) (e_is (e_subI (e_is (e_lenL (ds := r.map .int) (e_var rfl)) (d1 := .int (r.length : Int)) (by rw [List.length_map])) e_int) (congrArg PyData.int (by omega))) st7 fun σ8 Hk8 H8 g8 a8 => ?_
    refine q_asg (i := 8) (n := n) (c := 0) (Φ := IntP fun x => 0 ≤ x ∧ x < (P : Int)) ((j_modI (c1 := 0) (c2 := 0) (P1 := fun _ => True) (P2 := fun x => x = (P : Int)) (j_call (R := R_in_row) (c := 0) (c1 := 0) (Φ := IntP fun _ => True) (ae_cons (e_var rfl) (ae_cons (e_var rfl) (ae_cons (e_subI (e_var rfl) (e_var rfl)) ae_nil))) fun sls e => ⟨rfl, r, s, 0 + (i : Int) - (L : Int), cb hRr, cb hsr, by omega, by omega, e, rfl⟩) (e_var rfl).intP (fun j hj => by rw [hj]; omega) fun x j hj h0 h1 => by rw [hj] at h1; exact ⟨h0, h1⟩).cost (by omega)) a8 fun d σ9 Hk9 H9 ⟨ft, hft, ed⟩ g9 a9 => ?_
    subst ed
    have sm9 := (sm6.trans g8.k).trans g9.k
    refine q_whenB (b := ft == 0) (tb_test (e_eqDI (e_var rfl) e_int)) a9 (fun hb Hk10 H10 g10 a10 => ?_) (fun hb Hk10 H10 g10 a10 => ?_)
    · exact ⟨Hk10, sm9.trans g10.k, L, r, o, dv, hrl, by omega, by omega, ⟨hRr, c0, hc0, hcn⟩, ho, hdv, ((a10.forget 6).forget 7).forget 8⟩
    have hf0 : 0 < ft := by
      have : ¬ ft = 0 := by simpa using hb
      omega
    obtain ⟨G, eG⟩ : ∃ G : Nat, G = i + 1 - 2 * L := ⟨_, rfl⟩
    obtain ⟨S, eS⟩ : ∃ S : Nat, S = 2 * L - (i + 1) := ⟨_, rfl⟩
    have two : ∀ {δ : List Sl}, δ[7]? = some (.dat (.int (L : Int))) → E q δ (tOp rMulU (tC (.int 2)) (tVar 7)) (.int (2 * (L : Int))) := fun h => e_mulI e_int (e_var h) (wide_mul (a := 20) (b := 20) (by omega) (by omega) (by omega) (by omega) (by omega))
    refine q_asgE (i := 9) (d := .int (G : Int)) (e_is (e_max e_int (e_subI (e_addI (e_var rfl) e_int) (two rfl))) (congrArg PyData.int (by split <;> omega))) a10 fun σ11 Hk11 H11 g11 a11 => ?_
    refine q_asgE (i := 10) (d := .int (S : Int)) (e_is (e_max e_int (e_subI (e_subI (two rfl) (e_var rfl)) e_int)) (congrArg PyData.int (by split <;> omega))) a11 fun σ12 Hk12 H12 g12 a12 => ?_
    refine q_newCat (i := 11) (ds := (List.replicate G 0).map .int) (es := (r.map fun x => (dv * x).fmod (P : Int)).map .int) (e_is (e_rep (ds := [.int 0]) (n := (G : Int)) (e_lst (ds := [.int 0]) (ae_cons e_int ae_nil)) (e_var rfl) (by omega) (by omega) (by simp; omega)) (by rw [Int.toNat_natCast, rep_one0])) (e_is (e_lc1 (vs := [13]) (emb := PyData.int) (xs := r) (ie_lst (e_var rfl)) (fun x => .int ((dv * x).fmod (P : Int))) (by omega) fun x hx => ⟨_, gb_name (by simp), e_mod (e_mulI (e_var rfl) (e_var rfl) (wide_mul (a := 20) (b := 20) (by omega) (by have := hRr x hx; omega) (by omega) (by omega) (by omega))) (e_var rfl) (by omega)⟩) (by rw [List.map_map]; rfl)) (by simp; omega) a12 fun cc σ13 Hk13 H13 _ s13 a13 cl13 => ?_
    have sm13 := (((sm9.trans g10.k).trans g11.k).trans g12.k).trans s13
    obtain ⟨x0, ex0⟩ : ∃ x0 : List Int, x0 = List.replicate G 0 ++ r.map fun x => (dv * x).fmod (P : Int) := ⟨_, rfl⟩
    rw [← List.map_append, ← ex0] at cl13
    have hx0l : x0.length = G + (L + 1) := by rw [ex0, List.length_append, List.length_replicate, List.length_map, hrl]
    have hx0r : ∀ x ∈ x0, 0 ≤ x ∧ x < (P : Int) := fun x hx => by
      rw [ex0] at hx
      rcases List.mem_append.mp hx with h | h
      · rw [(List.mem_replicate.mp h).2]; omega
      · obtain ⟨y, _, rfl⟩ := List.mem_map.mp h
        exact mod_range (by omega) _
    have hc0r : 0 < c0 ∧ c0 < (P : Int) := by have := hRr c0 (List.mem_of_getLast? hc0); omega
    have hx0c : x0[G + L]? = some ((dv * c0).fmod (P : Int)) := by
      rw [ex0, List.getElem?_append_right (by rw [List.length_replicate]; omega), List.length_replicate, List.getElem?_map]
      rw [List.getLast?_eq_getElem?, hrl] at hc0
      rw [show G + L - G = L + 1 - 1 by omega, hc0]
      rfl
    have hcc := rp_mul hP hdv hc0r
    refine q_for (n := n) (c := 0) (ie_enumL (e_var rfl)) a13 fun items HkZ H14 e g14 a14 => ?_
    subst e
    refine ⟨fun t σ' Hk' H' => Same HkZ Hk' ∧ ∃ ys : List Int, ys.length = G + (L + 1) ∧ (∀ x ∈ ys, 0 ≤ x ∧ x < (P : Int)) ∧ ys[G + L]? = some ((dv * c0).fmod (P : Int)) ∧ At q n [.dat (pol f), .dat (.int (P : Int)), .dat (.list (s.map .int)), .dat (.list (r.map .int)), .dat (.list (o.map .int)), .dat (.int dv), .dat (.int (0 + (i : Int))), .dat (.int (L : Int)), .dat (.int ft), .dat (.int (G : Int)), .dat (.int (S : Int)), .adr cc, .any, .any, .any] A0 B0 σ' Hk' H' ∧ Cell q B0 Hk' H' cc (ys.map .int), ⟨Same.refl _, x0, hx0l, hx0r, hx0c, a14, cl13.go g14⟩, fun t σ' Hk' H' h => ⟨h.1, by obtain ⟨_, ys, _, _, _, st, _⟩ := h; exact st.ok.a⟩, ?_, ?_⟩
    · rintro t d σ' Hk' H' ed ⟨h4, ys, hyl, hyr, hyc, st5, cl5⟩ v4 Hk15 H15 g15 dv15
      obtain ⟨x, ex, rfl⟩ : ∃ x, o[t]? = some x ∧ d = .tuple [.int (t : Int), .int x] := by
        have htl : t < o.length := by
          have := (List.getElem?_eq_some_iff.mp ed).1
          rw [enumD_len, List.length_map] at this
          exact this
        have e2 := enumD_get (ds := o.map PyData.int) (i := t) (d := .int o[t]) (by rw [List.getElem?_map, List.getElem?_eq_getElem htl]; rfl)
        rw [ed] at e2
        exact ⟨o[t], List.getElem?_eq_getElem htl, Option.some.inj e2⟩
      have hto : t < o.length := (List.getElem?_eq_some_iff.mp ex).1
      have hxo := ho x (List.mem_of_getElem? ex)
      refine gb_tup2 (vs := [12, 13]) (by simp) (by simp) σ' Hk15 H15 v4 (st5.sg.mono g15.k) g15.a dv15 _ fun σ16 sg16 _ _ => ?_
      have st6 : At q n [.dat (pol f), .dat (.int (P : Int)), .dat (.list (s.map .int)), .dat (.list (r.map .int)), .dat (.list (o.map .int)), .dat (.int dv), .dat (.int (0 + (i : Int))), .dat (.int (L : Int)), .dat (.int ft), .dat (.int (G : Int)), .dat (.int (S : Int)), .adr cc, .dat (.int (t : Int)), .dat (.int x), .any] A0 B0 σ16 Hk15 H15 := ⟨st5.ok.go g15, sg16, st5.gr.trans g15.none_to⟩
      have cl6 := cl5.go g15.none_to
      have hSt : S + t < ys.length := by rw [hyl]; omega
      have hSt2 : S + t ≠ G + L := by omega
      obtain ⟨y, ey⟩ : ∃ y, ys[S + t]? = some y := ⟨ys[S + t], List.getElem?_eq_getElem hSt⟩
      have hyy := hyr y (List.mem_of_getElem? ey)
      have ix : ∀ {δ : List Sl}, δ[10]? = some (.dat (.int (S : Int))) → δ[12]? = some (.dat (.int (t : Int))) → E q δ (tOp (rAddU K) (tVar 10) (tVar 12)) (.int ((S + t : Nat) : Int)) := fun h1 h2 => e_is (e_addI (e_var h1) (e_var h2)) (congrArg PyData.int (by omega))
      refine s_setCE (n := n) (c := 0) (j := S + t) (Φ := fun d => d = .int ((y - ft * x).fmod (P : Int))) (e_mod (e_subI (e_iL (ds := ys.map .int) (e_var rfl) (ix rfl rfl) (atI_nat (by rw [List.getElem?_map, ey]; rfl))) (e_mulI (e_var rfl) (e_var rfl) (wide_mul (a := 20) (b := 20) (by omega) (by omega) (by omega) (by omega) (by omega)))) (e_var rfl) (by omega)) st6 cl6 rfl (fun d e => by rw [e]; rfl) (ix rfl rfl) rfl (by rw [List.length_map]; exact hSt) fun d Hk17 H17 ed s17 a17 cl17 => ?_
      subst ed
      refine ⟨Hk17, (h4.trans g15.k).trans s17, ys.set (S + t) ((y - ft * x).fmod (P : Int)), by rw [List.length_set]; exact hyl, fun z hz => ?_, by rw [List.getElem?_set_ne hSt2]; exact hyc, (a17.forget 12).forget 13, by rw [List.map_set]; exact cl17⟩
      rcases List.mem_or_eq_of_mem_set hz with h | h
      · exact hyr z h
      · rw [h]; exact mod_range (by omega) _
    · rintro σ' Hk' H' ⟨h4, ys, hyl, hyr, hyc, st5, cl5⟩
      obtain ⟨Hk18, s18, a18⟩ := st5.freeze (i := 11) cl5 rfl
      have sm18 := ((sm13.trans g14.k).trans h4).trans s18
      have hylast : ys.getLast? = some ((dv * c0).fmod (P : Int)) := by
        rw [List.getLast?_eq_getElem?, hyl, show G + (L + 1) - 1 = G + L by omega]
        exact hyc
      refine q_whenB (b := decide ((0 : Int) < (G : Int))) (tb_test (e_gtI (e_var rfl) e_int)) a18 (fun hb2 Hk19 H19 g19 a19 => ?_) (fun hb2 Hk19 H19 g19 a19 => ?_)
      · have hG : 0 < G := by have := of_decide_eq_true hb2; omega
        refine q_asgE (i := 4) (d := .list (r.map .int)) (e_var rfl) a19 fun σ20 Hk20 H20 g20 a20 => ?_
        refine s_asgE (i := 5) (d := .int ft) (e_var rfl) a20 fun σ21 Hk21 H21 g21 a21 => ?_
        refine s_asgE (i := 3) (d := .list (ys.map .int)) (e_var rfl) a21 fun σ22 Hk22 H22 g22 a22 => ?_
        exact ⟨Hk22, (((sm18.trans g19.k).trans g20.k).trans g21.k).trans g22.k, G + L, ys, r, ft, by omega, by omega, by omega, ⟨hyr, _, hylast, hcc⟩, hRr, ⟨hf0, hft.2⟩, (((((a22.forget 6).forget 7).forget 8).forget 9).forget 10).forget 11⟩
      · have hG : G = 0 := by have := of_decide_eq_false hb2; omega
        refine s_asgE (i := 3) (d := .list (ys.map .int)) (e_var rfl) a19 fun σ22 Hk22 H22 g22 a22 => ?_
        exact ⟨Hk22, (sm18.trans g19.k).trans g22.k, L, ys, o, dv, by omega, by omega, by omega, ⟨hyr, _, hylast, hcc⟩, ho, hdv, (((((a22.forget 6).forget 7).forget 8).forget 9).forget 10).forget 11⟩
  · rintro σ' Hk' H' ⟨h2, L, r, o, dv, hrl, hol, hLi, hR, ho, hdv, st⟩
    rw [rng_len, Int.toNat_natCast] at hLi
    exact s_ret (n := n) (c := 0) (Φ := fun d => ∃ r : List Int, RuleP P r ∧ r.length ≤ f.length + 1 ∧ d = .list (r.map .int)) ((e_var rfl).imp fun d e => ⟨r, hR, by omega, e⟩) st (by omega) fin fun d h => h
/-! ### inverse_modulo -/
def R_inverse_modulo : RelX := fun _ sls c Φ => c = 0 ∧ ∃ (a P : Nat), primed P ∧ 0 < a ∧ a < P ∧ sls = [.dat (.int (a : Int)), .dat (.int (P : Int))] ∧ Φ = IntP fun x => 0 ≤ x ∧ x < (P : Int)
theorem log_small {i : Int} {v : Nat} (h0 : 0 < v) (h : v < 1024) : CDivW i (v : Int) := by
  refine ⟨by omega, ?_⟩
  have : Nat.log2 v < 10 := (Nat.log2_lt (by omega)).mpr h
  show Nat.log2 ((v : Int).natAbs) < 9000
  rw [Int.natAbs_natCast]
  omega
theorem ok_inverse_modulo (T : Tx K mg) : FnOk P w K mg base CX0 1 T.a_inverse_modulo T.fd_inverse_modulo P_inverse_modulo (spX R_inverse_modulo) := by
  refine fn_ok T.F_inverse_modulo sc_inverse_modulo (by decide) (fun q sls c Φ h => by obtain ⟨_, a, P, _, _, _, rfl, _⟩ := h; rfl) fun cdv A outer s B0 Ew hr => ⟨_,
    (pss_cons (ps_par (i := 2) (j := 3) (by rfl) sc_inverse_modulo.nd rfl rfl (by decide) rfl rfl (pa_cons (pv 1) (pa_cons (pv 0) pa_nil)) (by rfl))
      (pss_cons (ps_asg (Cr.pe_tup (pa_cons pe_int (pa_cons pe_int pa_nil))) (k_pgTup (K := K) (n := 2) rfl rfl (pgs_cons (pg_name (i := 4) sc_inverse_modulo.nd rfl (Or.inl rfl)) (pgs_cons (pg_name (i := 5) sc_inverse_modulo.nd rfl (Or.inl rfl)) pgs_nil))))
      (pss_cons (ps_while PassesOwn.never (pt_cmpR (k_neD (K := K) rfl hr.units) (pv 3) pe_int (nomark _)) (pss_cons (ps_set (i := 6) sc_inverse_modulo.nd rfl (Or.inl rfl) (pe_op op_fdivW (pv 2) (pv 3)))
      (pss_cons (ps_par (i := 2) (j := 3) (by rfl) sc_inverse_modulo.nd rfl rfl (by decide) rfl rfl (pa_cons (pv 3) (pa_cons (pe_op op_sub (pv 2) (pe_op op_mulU (pv 6) (pv 3))) pa_nil)) (by rfl))
      (pss_one (ps_par (i := 4) (j := 5) (by rfl) sc_inverse_modulo.nd rfl rfl (by decide) rfl rfl (pa_cons (pv 5) (pa_cons (pe_op op_sub (pv 4) (pe_op op_mulU (pv 6) (pv 5))) pa_nil)) (by rfl))))))
      (pss_one (ps_ret (pe_op op_modN (pv 5) (pv 1))))))), fun q sls n c Φ A0 σ Q hR hA fin => ?_⟩
  obtain ⟨rfl, a, P, hP, ha0, haP, rfl, rfl⟩ := hR
  have hP2 := hP.1
  have hP3 := hP.2.1
  have hco : Nat.Coprime P a := by
    have := prime_cop hP (a := (a : Int)) (fun z => by
      have z2 := Int.ofNat_dvd_left.mp z
      rw [Int.natAbs_natCast] at z2
      have := Nat.le_of_dvd ha0 z2
      omega)
    rwa [Int.natAbs_natCast] at this
  refine q_par (n := n) (c := 0) (i := 2) (j := 3) (Ψ := fun x y => x = .int (P : Int) ∧ y = .int (a : Int)) (AE.to (ae_cons (e_var rfl) (ae_cons (e_var rfl) ae_nil)) ⟨_, _, rfl, rfl, rfl⟩) hA fun x y σ1 Hk1 H1 ⟨ex, ey⟩ g1 a1 => ?_
  subst ex; subst ey
  refine q_asgT2 (n := n) (c := 0) (i := 4) (j := 5) (Ψ := fun x y => x = .int 0 ∧ y = .int 1) (AE.to (ae_cons e_int (ae_cons e_int ae_nil)) ⟨_, _, rfl, rfl, rfl⟩) a1 fun x y σ2 Hk2 H2 ⟨ex, ey⟩ g2 a2 => ?_
  subst ex; subst ey
  refine q_while (q := q) (A0 := A0) (B0 := B0) (fun m σ' Hk' H' => ∃ (u v t : Nat) (b r : Int), m = v ∧ 0 < v ∧ u < 1024 ∧ v < 1024 ∧ t + v ≤ 1024 ∧ Nat.Coprime u v ∧ b.natAbs < 2 ^ (20 * (t + 1)) ∧ r.natAbs < 2 ^ (20 * (t + 1)) ∧ At q n [.dat (.int (a : Int)), .dat (.int (P : Int)), .dat (.int (u : Int)), .dat (.int (v : Int)), .dat (.int b), .dat (.int r), .any] A0 B0 σ' Hk' H') a ⟨P, a, 0, 0, 1, rfl, ha0, by omega, by omega, by omega, hco, by decide, by decide, a2⟩ fun m σ' Hk' H' ⟨u, v, t, b, r, em, hv0, hu, hv, htv, huv, hb, hr, st⟩ => ?_
  refine ⟨_, !((v : Int) == 1), n, tb_test (e_neDI (e_var rfl) e_int), st, fun hz Hk3 H3 g3 a3 => ?_, fun hz Hk3 H3 g3 a3 => ?_⟩
  · have hv1 : v ≠ 1 := fun z => by rw [z] at hz; simp at hz
    obtain ⟨hc2, hm0, hm1⟩ := gcd_turn huv (by omega) hv1
    have hq : u / v < 1024 := Nat.lt_of_le_of_lt (Nat.div_le_self u v) hu
    have hdm := Nat.div_add_mod u v
    have hqa : ((u / v : Nat) : Int).natAbs < 2 ^ 10 := by rw [Int.natAbs_natCast]; omega
    refine q_asgE (i := 6) (d := .int ((u / v : Nat) : Int)) (e_is (e_fdiv (e_var rfl) (e_var rfl) (log_small hv0 hv)) (congrArg PyData.int (Int.natCast_ediv u v).symm)) a3 fun σ4 Hk4 H4 g4 a4 => ?_
    refine q_par (n := n) (c := 0) (i := 2) (j := 3) (Ψ := fun x y => x = .int (v : Int) ∧ y = .int ((u % v : Nat) : Int)) (AE.to (ae_cons (e_var rfl) (ae_cons (e_is (e_subI (e_var rfl) (e_mulI (e_var rfl) (e_var rfl) (wide_mul (a := 10) (b := 10) hqa (by omega) (by omega) (by omega) (by omega)))) (congrArg PyData.int (by
      have e1 : ((v * (u / v) : Nat) : Int) + ((u % v : Nat) : Int) = (u : Int) := by rw [← Int.natCast_add, hdm]
      rw [Int.natCast_mul] at e1
      rw [Int.mul_comm]
      omega))) ae_nil)) ⟨_, _, rfl, rfl, rfl⟩) a4 fun x y σ5 Hk5 H5 ⟨ex, ey⟩ g5 a5 => ?_
    subst ex; subst ey
    have hpow : 2 ^ (20 * (t + 1 + 1)) = 2 ^ (20 * (t + 1)) * 2 ^ 20 := by rw [← Nat.pow_add]; congr 1
    have hr2 : (b - ((u / v : Nat) : Int) * r).natAbs < 2 ^ (20 * (t + 1 + 1)) := by
      have e1 := Int.natAbs_sub_le b (((u / v : Nat) : Int) * r)
      rw [Int.natAbs_mul, Int.natAbs_natCast] at e1
      have e2 : (u / v) * r.natAbs ≤ 1024 * r.natAbs := Nat.mul_le_mul (by omega) (Nat.le_refl _)
      rw [hpow]
      omega
    refine s_par (n := n) (c := 0) (i := 4) (j := 5) (Ψ := fun x y => x = .int r ∧ y = .int (b - ((u / v : Nat) : Int) * r)) (AE.to (ae_cons (e_var rfl) (ae_cons (e_subI (e_var rfl) (e_mulI (e_var rfl) (e_var rfl) (wide_mul (a := 10) (b := 20 * (t + 1)) hqa hr (by omega) (by omega) (by omega)))) ae_nil)) ⟨_, _, rfl, rfl, rfl⟩) a5 fun x y σ6 Hk6 H6 ⟨ex, ey⟩ g6 a6 => ?_
    subst ex; subst ey
    exact ⟨u % v, Hk6, by omega, v, u % v, t + 1, r, b - ((u / v : Nat) : Int) * r, rfl, hm0, hv, by omega, by omega, hc2, by rw [hpow]; omega, hr2, a6.forget 6⟩
  · exact s_ret (n := n) (c := 0) (Φ := IntP fun x => 0 ≤ x ∧ x < (P : Int)) ((e_mod (e_var rfl) (e_var rfl) (by omega)).imp fun d e => ⟨_, mod_range (by omega) _, e⟩) a3 (by omega) fin fun d h => h
/-! ### value_of -/
def R_value_of : RelX := fun _ sls c Φ => c = 0 ∧ ∃ (f : List Int) (x : Int) (B : Nat) (dd : PyData), (dd = pol f ∨ dd = .list (f.map .int)) ∧ CB B f ∧ B ≤ 100000 ∧ f.length ≤ 1000 ∧ x.natAbs < 2 ^ 60 ∧ sls = [.dat dd, .dat (.int x)] ∧ Φ = fun d => d = .int (evalP f x)
theorem ok_value_of (T : Tx K mg) : FnOk P w K mg base CX0 1 T.a_value_of T.fd_value_of P_value_of (spX R_value_of) := by
  refine fn_ok T.F_value_of sc_value_of (by decide) (fun q sls c Φ h => by obtain ⟨_, f, x, B, dd, _, _, _, _, _, rfl, _⟩ := h; rfl) fun cdv A outer s B0 Ew hr => ⟨_,
    (pss_cons (ps_set (i := 2) sc_value_of.nd rfl (Or.inl rfl) pe_int)
      (pss_cons (ps_for PassesOwn.never rfl (k_piRev (K := K) rfl (pv 0)) (pg_name (i := 3) sc_value_of.nd rfl (Or.inl rfl)) (pss_one (ps_set (i := 2) sc_value_of.nd rfl (Or.inl rfl) (pe_op (k_addU (K := K) rfl) (pe_op op_mulU (pv 2) (pv 1)) (pv 3)))))
      (pss_one (ps_ret (pv 2))))), fun q sls n c Φ A0 σ Q hR hA fin => ?_⟩
  obtain ⟨rfl, f, x, B, dd, hdd, hB, hB2, hl, hx, rfl, rfl⟩ := hR
  have walk : ∀ {δ : List Sl}, δ[0]? = some (.dat dd) → IE q δ (iRevE K (tVar 0)) (f.map PyData.int).reverse := fun h => by
    rcases hdd with e | e
    · exact ie_revT (by rw [e] at h; exact e_var h)
    · exact ie_revL (by rw [e] at h; exact e_var h)
  refine q_asgE e_int hA fun σ1 Hk1 H1 g1 a1 => ?_
  refine q_for (n := n) (c := 0) (walk rfl) a1 fun items HkW H2 e g2 a2 => ?_
  subst e
  refine ⟨fun i σ' Hk' H' => Same HkW Hk' ∧ At q n [.dat dd, .dat (.int x), .dat (.int (evalP (f.drop (f.length - i)) x)), .any] A0 B0 σ' Hk' H', ⟨Same.refl _, by rw [Nat.sub_zero, List.drop_length]; exact a2⟩, fun i σ' Hk' H' h => ⟨h.1, h.2.ok.a⟩, ?_, ?_⟩
  · rintro i d σ' Hk' H' ed ⟨h2, st⟩ v Hk2 H3 g3 dv
    have hi : i < f.length := by
      have z := (List.getElem?_eq_some_iff.mp ed).1
      simpa using z
    have ej : f.length - (i + 1) < f.length := by omega
    obtain rfl : d = .int f[f.length - (i + 1)] := by
      rw [← List.map_reverse, List.getElem?_map, List.getElem?_reverse hi] at ed
      rw [show f.length - 1 - i = f.length - (i + 1) by omega, List.getElem?_eq_getElem ej] at ed
      exact (Option.some.inj ed).symm
    have ec : f.drop (f.length - (i + 1)) = f[f.length - (i + 1)] :: f.drop (f.length - i) := by
      rw [List.drop_eq_getElem_cons ej]
      congr 2
      omega
    refine gb_name (vs := [3]) (by simp) σ' Hk2 H3 v (st.sg.mono g3.k) g3.a dv _ fun σ2 sg2 _ _ => ?_
    have st2 : At q n _ A0 B0 σ2 Hk2 H3 := ⟨st.ok.go g3, sg2, st.gr.trans g3.none_to⟩
    have bd := evalP_bound hx (f := f.drop (f.length - i)) (B := B) fun b hb => hB b (List.mem_of_mem_drop hb)
    have bl : (f.drop (f.length - i)).length ≤ 1000 := by rw [List.length_drop]; omega
    refine s_asgE (d := .int (evalP (f.drop (f.length - (i + 1))) x)) (e_is (e_addI (e_mulI (e_var rfl) (e_var rfl) (wide_mul (a := B + 61 * (f.drop (f.length - i)).length + 1) (Nat.lt_of_lt_of_le bd (Nat.pow_le_pow_right (by decide) (by omega))) hx (by omega) (by omega) (by omega))) (e_var rfl)) (by rw [ec]; rfl)) st2 fun σ3 Hk3 H4 g4 a4 => ⟨Hk3, (h2.trans g3.k).trans g4.k, a4.forget 3⟩
  · rintro σ' Hk' H' ⟨h2, st⟩
    rw [List.length_reverse, pol_len, Nat.sub_self, List.drop_zero] at st
    exact s_retE (e_var rfl) st (Nat.le_refl _) fin rfl
/-! ### amount_modulo -/
def R_amount_modulo : RelX := fun _ sls c Φ => c = 0 ∧ ∃ (s o : List Int) (k : Int) (P : Nat), primed P ∧ CB 12 s ∧ CB 12 o ∧ s.length ≤ 400 ∧ o.length ≤ 400 ∧ k.natAbs < 2 ^ 12 ∧ (¬ (P : Int) ∣ evalP o k) ∧ sls = [.dat (pol s), .dat (.list (o.map .int)), .dat (.int k), .dat (.int (P : Int))] ∧ Φ = IntP fun _ => True
theorem ok_amount_modulo (T : Tx K mg) : FnOk P w K mg base CX0 2 T.a_amount_modulo T.fd_amount_modulo P_amount_modulo (spX R_amount_modulo) := by
  have G_inverse_modulo := ok_inverse_modulo (P := P) (w := w) (base := base) T
  have G_value_of := ok_value_of (P := P) (w := w) (base := base) T
  refine fn_ok T.F_amount_modulo sc_amount_modulo (by decide) (fun q sls c Φ h => by obtain ⟨_, s, o, k, P, _, _, _, _, _, _, _, rfl, _⟩ := h; rfl) fun cdv A outer s B0 Ew hr => ⟨_,
    (pss_cons (ps_set (i := 4) sc_amount_modulo.nd rfl (Or.inl rfl) (pe_callB (k_sum (K := K) rfl rfl) (by rfl) T.z_sum (by decide +kernel) (pa_cons (pe_lc (own := [("factor", 5), ("number", 6)]) rfl sc_amount_modulo.nd (Zm.pi_zipN (K := K) rfl (by rfl) T.z_zip (pa_cons (pv 1) (pa_cons (pv 0) pa_nil))) (blkOk_by (own := [("factor", 5), ("number", 6)]) (N := N_amount_modulo) (sc := defScope s_amount_modulo) (by decide +kernel)) (fun _ _ _ _ _ => (k_pgTup (K := K) (n := 2) rfl rfl (pgs_cons (pg_name (i := 5) sc_amount_modulo.nd rfl (Or.inl rfl)) (pgs_cons (pg_name (i := 6) sc_amount_modulo.nd rfl (Or.inl rfl)) pgs_nil)))) (fun _ _ _ _ _ => pts_nil) (fun _ _ _ _ _ => (pe_op op_mulU (pv 5) (pv 6)))) pa_nil)))
      (pss_one (ps_ret (pe_op op_modN (pe_op op_mulU (pv 4) (pe_call G_inverse_modulo (hr.mono (by decide)) (by rfl) T.m_inverse_modulo T.F_inverse_modulo.kp T.b_inverse_modulo .nil pass0 (pa_cons (pe_op op_modN (pe_call G_value_of (hr.mono (by decide)) (by rfl) T.m_value_of T.F_value_of.kp T.b_value_of .nil pass0 (pa_cons (pv 1) (pa_cons (pv 2) pa_nil))) (pv 3)) (pa_cons (pv 3) pa_nil)))) (pv 3))))), fun q sls n c Φ A0 σ Q hR hA fin => ?_⟩
  obtain ⟨rfl, s, o, k, P, hP, hs, ho, hsl, hol, hk, hdv, rfl, rfl⟩ := hR
  have hP2 := hP.1
  have hP3 := hP.2.1
  have ez : (o.zip s).length ≤ 400 := by rw [List.length_zip]; omega
  have hb : ((o.zip s).map fun x : Int × Int => x.1 * x.2).sum.natAbs < 2 ^ (24 + 10 + 1) := sum_bits (fun x hx => by
    obtain ⟨y, hy, rfl⟩ := List.mem_map.mp hx
    have h1 := ho _ (List.of_mem_zip (a := y.1) (b := y.2) hy).1
    have h2 := hs _ (List.of_mem_zip (a := y.1) (b := y.2) hy).2
    rw [Int.natAbs_mul]
    have := Nat.mul_lt_mul'' h1 h2
    omega) (by rw [List.length_map]; omega)
  refine q_asgE (i := 4) (d := .int ((o.zip s).map fun x : Int × Int => x.1 * x.2).sum) (e_sum (e_is (e_lc1 (vs := [5, 6]) (emb := pr) (xs := o.zip s) ((ie_zipN (ds := o.map .int) (es := s.map .int) (e_var rfl) (e_var rfl)).is (zipD_ints _ _)) (fun x => .int (x.1 * x.2)) (by omega) fun x hx => ⟨_, gb_tup2 (by simp) (by simp), e_mulI (e_var rfl) (e_var rfl) (wide_mul (a := 12) (b := 12) (ho _ (List.of_mem_zip (a := x.1) (b := x.2) hx).1) (hs _ (List.of_mem_zip (a := x.1) (b := x.2) hx).2) (by omega) (by omega) (by omega))⟩) (by rw [List.map_map]; rfl))) hA fun σ1 Hk1 H1 g1 a1 => ?_
  obtain ⟨top, et⟩ : ∃ top : Int, top = ((o.zip s).map fun x : Int × Int => x.1 * x.2).sum := ⟨_, rfl⟩
  rw [← et] at a1 hb
  obtain ⟨hv0, hvP⟩ := mod_range (p := (P : Int)) (by omega) (evalP o k)
  have hv1 : (evalP o k).fmod (P : Int) ≠ 0 := fun z => hdv ((dvd_mod (by omega)).mp z)
  obtain ⟨a, ea⟩ : ∃ a : Nat, (evalP o k).fmod (P : Int) = (a : Int) := ⟨((evalP o k).fmod (P : Int)).toNat, by omega⟩
  exact s_ret (n := n) (c := 0) (Φ := IntP fun _ => True) ((j_modI (c1 := 0) (c2 := 0) (P1 := fun _ => True) (P2 := fun x => x = (P : Int)) (j_mulI (c1 := 0) (c2 := 0) (P1 := fun x => x = top) (P2 := fun x => 0 ≤ x ∧ x < (P : Int)) (Φ := IntP fun _ => True) (e_var rfl).intP (j_call (R := R_inverse_modulo) (c := 0) (c1 := 0) (ae_cons (e_is (e_mod (j_call (R := R_value_of) (c := 0) (c1 := 0) (Φ := fun d => d = .int (evalP o k)) (ae_cons (e_var rfl) (ae_cons (e_var rfl) ae_nil)) fun sls e => ⟨rfl, o, k, 12, _, .inr rfl, ho, by omega, by omega, by omega, e, rfl⟩) (e_var rfl) (by omega)) (congrArg PyData.int ea)) (ae_cons (e_var rfl) ae_nil)) fun sls e => ⟨rfl, a, P, hP, by omega, by omega, e, rfl⟩) (fun x y hx hy => by rw [hx]; exact wide_mul (a := 35) (b := 12) hb (by omega) (by omega) (by omega) (by omega)) fun x y _ _ => ⟨_, trivial, rfl⟩) (e_var rfl).intP (fun j hj => by rw [hj]; omega) fun x j hj h0 h1 => trivial).cost (by omega)) a1 (by omega) fin fun d h => h
/-! ### divided -/
def R_divided : RelX := fun _ sls c Φ => c = 0 ∧ ∃ (f : List Int) (x : Int) (B : Nat) (dd : PyData), (dd = pol f ∨ dd = .list (f.map .int)) ∧ CB B f ∧ B ≤ 100000 ∧ f.length ≤ 1000 ∧ x.natAbs < 2 ^ 60 ∧ sls = [.dat dd, .dat (.int x)] ∧ Φ = fun d => d = .tuple [pol (hornL x f).tail, .int (evalP f x)]
theorem ok_divided (T : Tx K mg) : FnOk P w K mg base CX0 1 T.a_divided T.fd_divided P_divided (spX R_divided) := by
  refine fn_ok T.F_divided sc_divided (by decide) (fun q sls c Φ h => by obtain ⟨_, f, x, B, dd, _, _, _, _, _, rfl, _⟩ := h; rfl) fun cdv A outer s B0 Ew hr => ⟨_,
    (pss_cons (ps_set (i := 2) sc_divided.nd rfl (Or.inl rfl) (pe_lst pa_nil))
      (pss_cons (ps_set (i := 3) sc_divided.nd rfl (Or.inl rfl) pe_int)
      (pss_cons (ps_for PassesOwn.never rfl (k_piRev (K := K) rfl (pv 0)) (pg_name (i := 4) sc_divided.nd rfl (Or.inl rfl)) (pss_cons (ps_set (i := 3) sc_divided.nd rfl (Or.inl rfl) (pe_op (k_addU (K := K) rfl) (pe_op op_mulU (pv 3) (pv 1)) (pv 4)))
      (pss_one (ps_expr (pe_bm PySem.F.plainAttrs_list PySem.F.slot_list_append PySem.F.type_list_append mt_append (pv 2) (pa_cons (pv 3) pa_nil))))))
      (pss_one (ps_ret (Cr.pe_tup (pa_cons (pe_callTy (k_tup (K := K) rfl) (by rfl) T.z_tuple (by decide +kernel) (pa_cons (pe_backL (K := K) rfl (pv 2)) pa_nil)) (pa_cons (pv 3) pa_nil)))))))), fun q sls n c Φ A0 σ Q hR hA fin => ?_⟩
  obtain ⟨rfl, f, x, B, dd, hdd, hB, hB2, hl, hx, rfl, rfl⟩ := hR
  have walk : ∀ {δ : List Sl}, δ[0]? = some (.dat dd) → IE q δ (iRevE K (tVar 0)) (f.map PyData.int).reverse := fun h => by
    rcases hdd with e | e
    · exact ie_revT (by rw [e] at h; exact e_var h)
    · exact ie_revL (by rw [e] at h; exact e_var h)
  refine q_newL (i := 2) hA fun p H0 a0 cl0 => ?_
  refine q_asgE e_int a0 fun σ1 Hk1 H1 g1 a1 => ?_
  refine q_for (n := n) (c := 0) (walk rfl) a1 fun items HkW H2 e g2 a2 => ?_
  subst e
  refine ⟨fun i σ' Hk' H' => Same HkW Hk' ∧ At q n [.dat dd, .dat (.int x), .adr p, .dat (.int (evalP (f.drop (f.length - i)) x)), .any] A0 B0 σ' Hk' H' ∧ Cell q B0 Hk' H' p ((hornL x (f.drop (f.length - i))).reverse.map .int), ⟨Same.refl _, by rw [Nat.sub_zero, List.drop_length]; exact a2, by rw [Nat.sub_zero, List.drop_length]; exact (cl0.go g1).go g2⟩, fun i σ' Hk' H' h => ⟨h.1, h.2.1.ok.a⟩, ?_, ?_⟩
  · rintro i d σ' Hk' H' ed ⟨h2, st, cl⟩ v Hk2 H3 g3 dv
    have hi : i < f.length := by
      have z := (List.getElem?_eq_some_iff.mp ed).1
      simpa using z
    have ej : f.length - (i + 1) < f.length := by omega
    obtain rfl : d = .int f[f.length - (i + 1)] := by
      rw [← List.map_reverse, List.getElem?_map, List.getElem?_reverse hi] at ed
      rw [show f.length - 1 - i = f.length - (i + 1) by omega, List.getElem?_eq_getElem ej] at ed
      exact (Option.some.inj ed).symm
    have ec : f.drop (f.length - (i + 1)) = f[f.length - (i + 1)] :: f.drop (f.length - i) := by
      rw [List.drop_eq_getElem_cons ej]
      congr 2
      omega
    refine gb_name (vs := [4]) (by simp) σ' Hk2 H3 v (st.sg.mono g3.k) g3.a dv _ fun σ2 sg2 _ _ => ?_
    have st2 : At q n _ A0 B0 σ2 Hk2 H3 := ⟨st.ok.go g3, sg2, st.gr.trans g3.none_to⟩
    have bd := evalP_bound hx (f := f.drop (f.length - i)) (B := B) fun b hb => hB b (List.mem_of_mem_drop hb)
    have bl : (f.drop (f.length - i)).length ≤ 1000 := by rw [List.length_drop]; omega
    refine q_asgE (i := 3) (d := .int (evalP (f.drop (f.length - (i + 1))) x)) (e_is (e_addI (e_mulI (e_var rfl) (e_var rfl) (wide_mul (a := B + 61 * (f.drop (f.length - i)).length + 1) (Nat.lt_of_lt_of_le bd (Nat.pow_le_pow_right (by decide) (by omega))) hx (by omega) (by omega) (by omega))) (e_var rfl)) (by rw [ec]; rfl)) st2 fun σ3 Hk3 H4 g4 a4 => ?_
    refine s_append (n := n) (c := 0) (Φ := fun d => d = .int (evalP (f.drop (f.length - (i + 1))) x)) (e_var rfl) a4 ((cl.go g3.none_to).go g4) rfl (by rw [List.length_map, List.length_reverse, hornL_len]; omega) fun d Hk5 H5 ed s5 a5 cl5 => ⟨Hk5, ((h2.trans g3.k).trans g4.k).trans s5, a5.forget 4, ?_⟩
    rw [ed] at cl5
    have eh : (hornL x (f.drop (f.length - (i + 1)))).reverse = (hornL x (f.drop (f.length - i))).reverse ++ [evalP (f.drop (f.length - (i + 1))) x] := by
      rw [ec]
      show (_ :: hornL x (f.drop (f.length - i))).reverse = _
      rw [List.reverse_cons]
    rw [eh, List.map_append]; exact cl5
  · rintro σ' Hk' H' ⟨h2, st, cl⟩
    rw [List.length_reverse, pol_len, Nat.sub_self, List.drop_zero] at st cl
    obtain ⟨Hk5, s5, st5⟩ := st.freeze (i := 2) cl rfl
    exact s_retE (d := .tuple [pol (hornL x f).tail, .int (evalP f x)]) (e_tup (ds := [pol (hornL x f).tail, .int (evalP f x)]) (ae_cons (e_is (e_tupL (e_backL (e_var rfl))) (by rw [tail_back]; rfl)) (ae_cons (e_var rfl) ae_nil))) st5 (Nat.le_refl _) fin rfl
/-! ### told_modulo -/
theorem cg_dvd {p a b : Int} (h : Cg p a b) (hz : p ∣ a) : p ∣ b := by
  obtain ⟨c, e⟩ := h
  have e2 : b = a - p * c := by omega
  rw [e2]
  exact Int.dvd_sub hz (Int.dvd_mul_right p c)
def R_told_modulo : RelX := fun _ sls c Φ => c = 0 ∧ ∃ (f : List Int) (P : Nat), primed P ∧ 1 ≤ f.length ∧ f.length ≤ 400 ∧ f.length ≤ P ∧ (∀ x ∈ f, 0 ≤ x ∧ x < (P : Int)) ∧ sls = [.dat (pol f), .dat (.int (P : Int))] ∧ Φ = fun d => True
theorem ok_told_modulo (T : Tx K mg) : FnOk P w K mg base CX0 5 T.a_told_modulo T.fd_told_modulo P_told_modulo (spX R_told_modulo) := by
  have G_amount_modulo := ok_amount_modulo (P := P) (w := w) (base := base) T
  have G_check_prime := ok_check_prime (P := P) (w := w) (base := base) T
  have G_check_residues := ok_check_residues (P := P) (w := w) (base := base) T
  have G_divided := ok_divided (P := P) (w := w) (base := base) T
  have G_rule_modulo := ok_rule_modulo (P := P) (w := w) (base := base) T
  have G_value_of := ok_value_of (P := P) (w := w) (base := base) T
  refine fn_ok T.F_told_modulo sc_told_modulo (by decide) (fun q sls c Φ h => by obtain ⟨_, f, P, _, _, _, _, _, rfl, _⟩ := h; rfl) fun cdv A outer s B0 Ew hr => ⟨_,
    (pss_cons (ps_expr (pe_call G_check_prime (hr.mono (by decide)) (by rfl) T.m_check_prime T.F_check_prime.kp T.b_check_prime .nil pass0 (pa_cons (pv 1) pa_nil)))
      (pss_cons (ps_expr (pe_call G_check_residues (hr.mono (by decide)) (by rfl) T.m_check_residues T.F_check_residues.kp T.b_check_residues .nil pass0 (pa_cons (pv 0) (pa_cons (pv 1) pa_nil))))
      (pss_cons (ps_set (i := 2) sc_told_modulo.nd rfl (Or.inr rfl) (pe_call G_rule_modulo (hr.mono (by decide)) (by rfl) T.m_rule_modulo T.F_rule_modulo.kp T.b_rule_modulo .nil pass0 (pa_cons (pv 0) (pa_cons (pv 1) pa_nil))))
      (pss_cons (ps_set (i := 3) sc_told_modulo.nd rfl (Or.inl rfl) (pe_op op_sub (pe_callB (k_len (K := K) rfl) (by rfl) T.z_len (by decide +kernel) (pa_cons (pv 2) pa_nil)) pe_int))
      (pss_cons (ps_if (pt_cmpR op_gt (pe_op op_mulU pe_int (pv 3)) (pe_callB (k_len (K := K) rfl) (by rfl) T.z_len (by decide +kernel) (pa_cons (pv 0) pa_nil)) (nomark _)) (pss_one (ps_ret pe_non)) pss_nil)
      (pss_cons (ps_setLc (i := 4) (own := [("key", 6)]) rfl sc_told_modulo.nd rfl rfl (sw_true rfl rfl rfl (by decide +kernel)) (pi_range1 rfl T.z_range (pa_cons (pv 1) pa_nil)) (blkOk_by (own := [("key", 6)]) (N := N_told_modulo) (sc := defScope s_told_modulo) (by decide +kernel)) (fun _ _ _ _ _ => (pg_name (i := 6) sc_told_modulo.nd rfl (Or.inl rfl))) (fun _ _ _ _ _ => (pts_one (pt_cmpR (k_eqD (K := K) rfl hr.units) (pe_op op_modN (pe_call G_value_of (hr.mono (by decide)) (by rfl) T.m_value_of T.F_value_of.kp T.b_value_of .nil pass0 (pa_cons (pv 2) (pa_cons (pv 6) pa_nil))) (pv 1)) pe_int (nomark _)))) (fun _ _ _ _ _ => (pv 6)))
      (pss_cons (ps_if (pt_cmpR op_lt (pe_callB (k_len (K := K) rfl) (by rfl) T.z_len (by decide +kernel) (pa_cons (pv 4) pa_nil)) (pv 3) (nomark _)) (pss_one (ps_ret pe_non)) pss_nil)
      (pss_cons (ps_setLc (i := 5) (own := [("key", 6)]) rfl sc_told_modulo.nd rfl rfl (sw_true rfl rfl rfl (by decide +kernel)) (k_piList (K := K) rfl (pv 4)) (blkOk_by (own := [("key", 6)]) (N := N_told_modulo) (sc := defScope s_told_modulo) (by decide +kernel)) (fun _ _ _ _ _ => (pg_name (i := 6) sc_told_modulo.nd rfl (Or.inl rfl))) (fun _ _ _ _ _ => pts_nil) (fun _ _ _ _ _ => (pe_lc (own := [("number", 7)]) rfl sc_told_modulo.nd (k_piTup (K := K) rfl (pe_ix (k_ix (K := K) rfl) (pe_call G_divided (hr.mono (by decide)) (by rfl) T.m_divided T.F_divided.kp T.b_divided .nil pass0 (pa_cons (pv 2) (pa_cons (pv 6) pa_nil))) pe_int (fun _ _ => rfl))) (by show BlkOk N_told_modulo ⟨_, _, _, _, _⟩ _ _; exact blkOk_by (own := [("number", 7)]) rfl) (fun _ _ _ _ _ => (pg_name (i := 7) sc_told_modulo.nd rfl (Or.inl rfl))) (fun _ _ _ _ _ => pts_nil) (fun _ _ _ _ _ => (pe_op op_modN (pv 7) (pv 1))))))
      (pss_one (ps_ret (pe_callTy (k_tup (K := K) rfl) (by rfl) T.z_tuple (by decide +kernel) (pa_cons (pe_lc (own := [("key", 6), ("rest", 8)]) rfl sc_told_modulo.nd (k_piZip (K := K) rfl rfl T.z_zip (pa_cons (pv 4) (pa_cons (pv 5) pa_nil))) (blkOk_by (own := [("key", 6), ("rest", 8)]) (N := N_told_modulo) (sc := defScope s_told_modulo) (by decide +kernel)) (fun _ _ _ _ _ => (k_pgTup (K := K) (n := 2) rfl rfl (pgs_cons (pg_name (i := 6) sc_told_modulo.nd rfl (Or.inl rfl)) (pgs_cons (pg_name (i := 8) sc_told_modulo.nd rfl (Or.inl rfl)) pgs_nil)))) (fun _ _ _ _ _ => pts_nil) (fun _ _ _ _ _ => (Cr.pe_tup (pa_cons (pv 6) (pa_cons (pe_call G_amount_modulo (hr.mono (by decide)) (by rfl) T.m_amount_modulo T.F_amount_modulo.kp T.b_amount_modulo .nil pass0 (pa_cons (pv 0) (pa_cons (pv 8) (pa_cons (pv 6) (pa_cons (pv 1) pa_nil))))) pa_nil))))) pa_nil)))))))))))), fun q sls n c Φ A0 σ Q hR hA fin => ?_⟩
  obtain ⟨rfl, f, P, hP, hf1, hfl, hfP, hr, rfl, rfl⟩ := hR
  have hP2 := hP.1
  have hP3 := hP.2.1
  have cb : ∀ {r : List Int} {b : Nat}, 10 ≤ b → (∀ x ∈ r, 0 ≤ x ∧ x < (P : Int)) → CB b r := fun hb h x hx => by
    have := h x hx
    exact Nat.lt_of_lt_of_le (show x.natAbs < 2 ^ 10 by omega) (Nat.pow_le_pow_right (by decide) hb)
  refine q_drop (j_call (R := R_check_prime) (ae_cons (e_var rfl) ae_nil) fun sls e => ⟨rfl, P, hP, e, rfl⟩) hA fun Hk1 H1 g1 a1 => ?_
  refine q_drop (j_call (R := R_check_residues) (ae_cons (e_var rfl) (ae_cons (e_var rfl) ae_nil)) fun sls e => ⟨rfl, f, P, by omega, by omega, by omega, hr, e, rfl⟩) a1 fun Hk2 H2 g2 a2 => ?_
  refine q_asg (i := 2) (n := n) (c := 0) (Φ := fun d => ∃ r : List Int, RuleP P r ∧ r.length ≤ f.length + 1 ∧ d = .list (r.map .int)) (j_call (R := R_rule_modulo) (c := 0) (c1 := 0) (ae_cons (e_var rfl) (ae_cons (e_var rfl) ae_nil)) fun sls e => ⟨rfl, f, P, hP, by omega, cb (by omega) hr, e, rfl⟩) a2 fun d σ3 Hk3 H3 ⟨r, ⟨hRr, c0, hc0, hcn⟩, hrl, ed⟩ g3 a3 => ?_
  subst ed
  have hr1 : 1 ≤ r.length := by
    have := List.length_pos_of_mem (List.mem_of_getLast? hc0)
    omega
  have hcp : ¬ (P : Int) ∣ c0 := fun z => by
    have h1 := hRr c0 (List.mem_of_getLast? hc0)
    exact far (p := P) (x := c0) (k := 0) h1 (by omega) hcn (by rw [Int.sub_zero]; exact z)
  obtain ⟨L, eL⟩ : ∃ L : Nat, L = r.length - 1 := ⟨_, rfl⟩
  refine q_asgE (i := 3) (d := .int (L : Int)) (e_is (e_subI (e_is (e_lenL (ds := r.map .int) (e_var rfl)) (d1 := .int (r.length : Int)) (by rw [List.length_map])) e_int) (congrArg PyData.int (by omega))) a3 fun σ4 Hk4 H4 g4 a4 => ?_
  refine q_whenB (b := decide ((f.length : Int) < 2 * (L : Int))) (tb_test (e_gtI (e_mulI e_int (e_var rfl) (wide_mul (a := 12) (b := 12) (by omega) (by omega) (by omega) (by omega) (by omega))) (e_is (e_lenT (e_var rfl)) (d1 := .int ((f.length : Nat) : Int)) (by rw [pol_len])))) a4 (fun _ Hk5 H5 g5 a5 => s_retE (d := .none) e_non a5 (Nat.le_refl _) fin trivial) fun hb5 Hk5 H5 g5 a5 => ?_
  have vo : ∀ {δ : List Sl} {k : Nat} {E0 : XK}, k < P → δ[2]? = some (.dat (.list (r.map .int))) → δ[6]? = some (.dat (.int (0 + (k : Int)))) → E q δ (tCall (spX R_value_of) [] E0 (tCons (tVar 2) (tCons (tVar 6) tNil))) (.int (evalP r (0 + (k : Int)))) := fun {δ} {k} {E0} hk h2 h6 => j_call (R := R_value_of) (c := 0) (c1 := 0) (Φ := fun d => d = .int (evalP r (0 + (k : Int)))) (ae_cons (e_var h2) (ae_cons (e_var h6) ae_nil)) fun sls e => ⟨rfl, r, 0 + (k : Int), 12, _, .inr rfl, cb (by omega) hRr, by omega, by omega, by omega, e, rfl⟩
  obtain ⟨ks, eks⟩ : ∃ ks : List Nat, ks = (List.range P).filter fun k : Nat => (evalP r (0 + (k : Int))).fmod (P : Int) == 0 := ⟨_, rfl⟩
  have hks : ∀ k ∈ ks, k < P ∧ (P : Int) ∣ evalP r (0 + (k : Int)) := fun k hk => by
    rw [eks] at hk
    have h := List.mem_filter.mp hk
    exact ⟨List.mem_range.mp h.1, (dvd_mod (by omega)).mp (by simpa using h.2)⟩
  have hksl : ks.length ≤ P := by
    rw [eks]
    have := List.length_filter_le (fun k : Nat => (evalP r (0 + (k : Int))).fmod (P : Int) == 0) (List.range P)
    rwa [List.length_range] at this
  have hnd : ks.Nodup := by rw [eks]; exact List.nodup_range.filter _
  refine q_asgE (i := 4) (d := .list (ks.map fun k : Nat => .int (0 + (k : Int)))) (e_is (e_lc (vs := [6]) (emb := fun k : Nat => PyData.int (0 + (k : Int))) (xs := List.range P) ((ie_rng1 (j := (P : Int)) (e_var rfl) (by omega) (by omega)).is (by rw [Int.toNat_natCast]; rfl)) (fun k : Nat => (evalP r (0 + (k : Int))).fmod (P : Int) == 0) (fun k : Nat => .int (0 + (k : Int))) (by rw [List.length_range]; omega) fun k hk => ⟨_, gb_name (by simp), tb_test (e_eqDI (e_mod (vo (List.mem_range.mp hk) rfl rfl) (e_var rfl) (by omega)) e_int), fun _ => e_var rfl⟩) (by rw [eks])) a5 fun σ6 Hk6 H6 g6 a6 => ?_
  refine q_whenB (b := decide ((ks.length : Int) < (L : Int))) (tb_test (e_ltI (e_is (e_lenL (e_var rfl)) (d1 := .int (ks.length : Int)) (by rw [List.length_map])) (e_var rfl))) a6 (fun _ Hk7 H7 g7 a7 => s_retE (d := .none) e_non a7 (Nat.le_refl _) fin trivial) fun hb7 Hk7 H7 g7 a7 => ?_
  have hLk : L ≤ ks.length := by have := of_decide_eq_false hb7; omega
  have hL2 : 2 * L ≤ f.length := by have := of_decide_eq_false hb5; omega
  have hoth : ∀ k ∈ ks, ¬ (P : Int) ∣ evalP (((hornL (0 + (k : Int)) r).tail).map fun x => x.fmod (P : Int)) (0 + (k : Int)) := fun k hk hz => by
    have h1 := simple_root hP (f := r) (keys := ks.map fun k : Nat => (0 + (k : Int))) hc0 hcp (hnd.map _ fun a b hab e => hab (by omega)) (fun x hx => by
      obtain ⟨y, hy, rfl⟩ := List.mem_map.mp hx
      have := hks y hy
      omega) (by rw [List.length_map]; omega) (fun x hx => by
      obtain ⟨y, hy, rfl⟩ := List.mem_map.mp hx
      exact (hks y hy).2) (List.mem_map_of_mem hk)
    exact h1 (cg_dvd (evalP_mod (p := (P : Int)) (k := 0 + (k : Int)) (by omega) _) hz)
  obtain ⟨oth, eoth⟩ : ∃ oth : Nat → List Int, oth = fun k : Nat => ((hornL (0 + (k : Int)) r).tail).map fun x => x.fmod (P : Int) := ⟨_, rfl⟩
  have htl : ∀ k : Nat, (hornL (0 + (k : Int)) r).tail.length ≤ 400 := fun k => by rw [List.length_tail, hornL_len]; omega
  refine q_asgE (i := 5) (d := .list (ks.map fun k : Nat => .list ((oth k).map .int))) (e_lc1 (vs := [6]) (emb := fun k : Nat => PyData.int (0 + (k : Int))) (xs := ks) (ie_lst (e_var rfl)) (fun k : Nat => .list ((oth k).map .int)) (by omega) fun k hk => ⟨_, gb_name (by simp), e_is (e_lc1 (vs := [7]) (emb := PyData.int) (xs := (hornL (0 + (k : Int)) r).tail) (ie_tup (e_iT (ds := [pol (hornL (0 + (k : Int)) r).tail, .int (evalP r (0 + (k : Int)))]) (d := pol (hornL (0 + (k : Int)) r).tail) (j_call (R := R_divided) (c := 0) (c1 := 0) (Φ := fun d => d = .tuple [pol (hornL (0 + (k : Int)) r).tail, .int (evalP r (0 + (k : Int)))]) (ae_cons (e_var rfl) (ae_cons (e_var rfl) ae_nil)) fun sls e => ⟨rfl, r, 0 + (k : Int), 12, _, .inr rfl, cb (by omega) hRr, by omega, by omega, by have := hks k hk; omega, e, rfl⟩) e_int rfl)) (fun x => .int (x.fmod (P : Int))) (by have := htl k; omega) fun x hx => ⟨_, gb_name (by simp), e_mod (e_var rfl) (e_var rfl) (by omega)⟩) (by rw [eoth, List.map_map]; rfl)⟩) a7 fun σ8 Hk8 H8 g8 a8 => ?_
  refine s_ret (n := n) (c := 0) (Φ := fun _ => True) ((j_cb1 (c := 0) (Ψ := fun d => ∃ ds, d = .list ds) ((j_lcD (c := 0) (c1 := 0) (N := 1000) (emb := fun k : Nat => PyData.tuple [.int (0 + (k : Int)), .list ((oth k).map .int)]) (vs := [6, 8]) (Ψ := fun xs : List Nat => xs = ks) (Φ := fun _ => True) (fun σ H H1 n sg o R k => ((ie_zipL (ds := ks.map fun k : Nat => .int (0 + (k : Int))) (es := ks.map fun k : Nat => .list ((oth k).map .int)) (e_var rfl) (e_var rfl)).is (zipD_map _ _ ks)) σ H H1 n sg o R fun items Jt Hk H2 g o' e w => k items Jt Hk H2 g o' ⟨ks, rfl, e⟩ w) (fun xs e => by rw [e]; omega) (by omega) fun xs hxs k hk => ⟨_, gb_tup2 (by simp) (by simp), (j_tup (c := 0) (Ψ := fun _ => True) ((aj_pair (c1 := 0) (c2 := 0) (Ψ1 := fun _ => True) (Ψ2 := IntP fun _ => True) ((e_var rfl).imp fun _ _ => trivial) (j_call (R := R_amount_modulo) (c := 0) (c1 := 0) (ae_cons (e_var rfl) (ae_cons (e_var rfl) (ae_cons (e_var rfl) (ae_cons (e_var rfl) ae_nil)))) fun sls e => ⟨rfl, f, oth k, 0 + (k : Int), P, hP, cb (by omega) hr, cb (by omega) (fun x hx => ?_), by omega, ?_, ?_, ?_, e, rfl⟩)).imp fun sls ⟨a, b, e, _, _⟩ => ⟨[a, b], by rw [e]; rfl, by show 2 ≤ 1000000; omega, trivial⟩)).imp fun _ _ => trivial⟩).imp fun d ⟨xs, ds, _, _, _, e⟩ => ⟨ds, e⟩) fun d ⟨ds, e⟩ => by rw [e]; exact rc_tupL trivial).cost (by omega)) a8 (by omega) fin fun d h => h
  · rw [eoth] at hx
    obtain ⟨y, _, rfl⟩ := List.mem_map.mp hx
    exact mod_range (by omega) y
  · rw [eoth, List.length_map]; exact htl k
  · have := hks k (by rw [← hxs]; exact hk)
    omega
  · rw [eoth]; exact hoth k (by rw [← hxs]; exact hk)
/-! ### told_modulo, where it raises -/
def B_told_modulo (K : PySem.W.Frag) : RelE := fun _ sls c x => c = 0 ∧ ∃ d0 d1, sls = [.dat d0, .dat d1] ∧ ((PB K d1 ∧ x = "InvalidPrime") ∨ (∃ p : Nat, primed p ∧ d1 = .int (p : Int) ∧ Odd K d0 ∧ resD p d0 = false ∧ x = "InvalidResidues"))
theorem ox_told_modulo (T : Tx K mg) : FnOk P w K mg base (L2.CX P w) 5 T.a_told_modulo T.fd_told_modulo P_told_modulo (spE mg (B_told_modulo K)) := by
  have U_check_prime := fn_or (fn_lift (ok_check_prime (P := P) (w := w) (base := base) T)) (ox_check_prime (P := P) (w := w) (base := base) T)
  have U_check_residues := fn_or (fn_lift (ok_check_residues (P := P) (w := w) (base := base) T)) (ox_check_residues (P := P) (w := w) (base := base) T)
  refine fn_okE T.F_told_modulo sc_told_modulo (by decide) (fun q sls c x h => by obtain ⟨_, d0, d1, rfl, _⟩ := h; rfl) fun cdv A outer s B0 Ew hr => ⟨_,
    (pss_cons (ps_expr (pe_call U_check_prime (hr.mono (by decide)) (by rfl) T.m_check_prime T.F_check_prime.kp T.b_check_prime .nil (passes_call (W := fun cls d _ H => Ew cls d H) (E := Ew) (takes_of rfl rfl rfl rfl) fun _ _ _ _ h => h) (pa_cons (pv 1) pa_nil)))
      (pss_cons (ps_expr (pe_call U_check_residues (hr.mono (by decide)) (by rfl) T.m_check_residues T.F_check_residues.kp T.b_check_residues .nil (passes_call (W := fun cls d _ H => Ew cls d H) (E := Ew) (takes_of rfl rfl rfl rfl) fun _ _ _ _ h => h) (pa_cons (pv 0) (pa_cons (pv 1) pa_nil))))
      (pss_cons ps_never
      (pss_cons ps_never
      (pss_cons ps_never
      (pss_cons ps_never
      (pss_cons ps_never
      (pss_cons ps_never
      (pss_one ps_never))))))))), fun q sls n c x A0 σ Q hR hA fin => ?_⟩
  obtain ⟨rfl, d0, d1, rfl, h⟩ := hR
  rcases h with ⟨h1, rfl⟩ | ⟨p, hp, rfl, o0, h0, rfl⟩
  · exact q_dropR (rs_call (c := 0) (B := B_check_prime K) (ae_cons (e_var rfl) ae_nil) fun sls es => ⟨rfl, d1, h1.1, h1.2, es, rfl⟩) hA (Nat.le_refl _) (fin_w fin (Nat.le_refl _))
  · refine q_drop (ck_prime hp (e_var rfl)) hA fun Hk1 H1 g1 a1 => ?_
    exact q_dropR (rs_call (c := 0) (B := B_check_residues K) (ae_cons (e_var rfl) (ae_cons (e_var rfl) ae_nil)) fun sls es => ⟨rfl, d0, p, o0, h0, es, rfl⟩) a1 (Nat.le_refl _) (fin_w fin (Nat.le_refl _))
/-! ### rule_length_modulo -/
def R_rule_length_modulo : RelX := fun _ sls c Φ => c = 0 ∧ ∃ (f : List Int) (P : Nat), primed P ∧ 1 ≤ f.length ∧ f.length ≤ 400 ∧ f.length ≤ P ∧ (∀ x ∈ f, 0 ≤ x ∧ x < (P : Int)) ∧ sls = [.dat (pol f), .dat (.int (P : Int))] ∧ Φ = fun d => True
theorem ok_rule_length_modulo (T : Tx K mg) : FnOk P w K mg base CX0 5 T.a_rule_length_modulo T.fd_rule_length_modulo P_rule_length_modulo (spX R_rule_length_modulo) := by
  have G_check_prime := ok_check_prime (P := P) (w := w) (base := base) T
  have G_check_residues := ok_check_residues (P := P) (w := w) (base := base) T
  have G_rule_modulo := ok_rule_modulo (P := P) (w := w) (base := base) T
  refine fn_ok T.F_rule_length_modulo sc_rule_length_modulo (by decide) (fun q sls c Φ h => by obtain ⟨_, f, P, _, _, _, _, _, rfl, _⟩ := h; rfl) fun cdv A outer s B0 Ew hr => ⟨_,
    (pss_cons (ps_expr (pe_call G_check_prime (hr.mono (by decide)) (by rfl) T.m_check_prime T.F_check_prime.kp T.b_check_prime .nil pass0 (pa_cons (pv 1) pa_nil)))
      (pss_cons (ps_expr (pe_call G_check_residues (hr.mono (by decide)) (by rfl) T.m_check_residues T.F_check_residues.kp T.b_check_residues .nil pass0 (pa_cons (pv 0) (pa_cons (pv 1) pa_nil))))
      (pss_one (ps_ret (pe_op op_sub (pe_callB (k_len (K := K) rfl) (by rfl) T.z_len (by decide +kernel) (pa_cons (pe_call G_rule_modulo (hr.mono (by decide)) (by rfl) T.m_rule_modulo T.F_rule_modulo.kp T.b_rule_modulo .nil pass0 (pa_cons (pv 0) (pa_cons (pv 1) pa_nil))) pa_nil)) pe_int))))), fun q sls n c Φ A0 σ Q hR hA fin => ?_⟩
  obtain ⟨rfl, f, P, hP, hf1, hfl, hfP, hr, rfl, rfl⟩ := hR
  have hP2 := hP.1
  have hP3 := hP.2.1
  refine q_drop (j_call (R := R_check_prime) (ae_cons (e_var rfl) ae_nil) fun sls e => ⟨rfl, P, hP, e, rfl⟩) hA fun Hk1 H1 g1 a1 => ?_
  refine q_drop (j_call (R := R_check_residues) (ae_cons (e_var rfl) (ae_cons (e_var rfl) ae_nil)) fun sls e => ⟨rfl, f, P, by omega, by omega, by omega, hr, e, rfl⟩) a1 fun Hk2 H2 g2 a2 => ?_
  exact s_ret (n := n) (c := 0) (Φ := fun _ => True) ((j_subI (c1 := 0) (c2 := 0) (P1 := fun _ => True) (P2 := fun _ => True) (Φ := fun _ => True) (j_cb1 (c := 0) (j_call (R := R_rule_modulo) (c := 0) (c1 := 0) (ae_cons (e_var rfl) (ae_cons (e_var rfl) ae_nil)) fun sls e => ⟨rfl, f, P, hP, by omega, (fun x hx => by have := hr x hx; omega), e, rfl⟩) fun d ⟨r, _, _, e⟩ => by rw [e]; exact rc_lenL ⟨_, trivial, rfl⟩) (e_int.imp fun d e => ⟨_, trivial, e⟩) fun _ _ _ _ => trivial).cost (by omega)) a2 (by omega) fin fun d h => h
/-! ### rule_length_modulo, where it raises -/
def B_rule_length_modulo (K : PySem.W.Frag) : RelE := B_told_modulo K
theorem ox_rule_length_modulo (T : Tx K mg) : FnOk P w K mg base (L2.CX P w) 5 T.a_rule_length_modulo T.fd_rule_length_modulo P_rule_length_modulo (spE mg (B_rule_length_modulo K)) := by
  have U_check_prime := fn_or (fn_lift (ok_check_prime (P := P) (w := w) (base := base) T)) (ox_check_prime (P := P) (w := w) (base := base) T)
  have U_check_residues := fn_or (fn_lift (ok_check_residues (P := P) (w := w) (base := base) T)) (ox_check_residues (P := P) (w := w) (base := base) T)
  refine fn_okE T.F_rule_length_modulo sc_rule_length_modulo (by decide) (fun q sls c x h => by obtain ⟨_, d0, d1, rfl, _⟩ := h; rfl) fun cdv A outer s B0 Ew hr => ⟨_,
    (pss_cons (ps_expr (pe_call U_check_prime (hr.mono (by decide)) (by rfl) T.m_check_prime T.F_check_prime.kp T.b_check_prime .nil (passes_call (W := fun cls d _ H => Ew cls d H) (E := Ew) (takes_of rfl rfl rfl rfl) fun _ _ _ _ h => h) (pa_cons (pv 1) pa_nil)))
      (pss_cons (ps_expr (pe_call U_check_residues (hr.mono (by decide)) (by rfl) T.m_check_residues T.F_check_residues.kp T.b_check_residues .nil (passes_call (W := fun cls d _ H => Ew cls d H) (E := Ew) (takes_of rfl rfl rfl rfl) fun _ _ _ _ h => h) (pa_cons (pv 0) (pa_cons (pv 1) pa_nil))))
      (pss_one ps_never))), fun q sls n c x A0 σ Q hR hA fin => ?_⟩
  obtain ⟨rfl, d0, d1, rfl, h⟩ := hR
  rcases h with ⟨h1, rfl⟩ | ⟨p, hp, rfl, o0, h0, rfl⟩
  · exact q_dropR (rs_call (c := 0) (B := B_check_prime K) (ae_cons (e_var rfl) ae_nil) fun sls es => ⟨rfl, d1, h1.1, h1.2, es, rfl⟩) hA (Nat.le_refl _) (fin_w fin (Nat.le_refl _))
  · refine q_drop (ck_prime hp (e_var rfl)) hA fun Hk1 H1 g1 a1 => ?_
    exact q_dropR (rs_call (c := 0) (B := B_check_residues K) (ae_cons (e_var rfl) (ae_cons (e_var rfl) ae_nil)) fun sls es => ⟨rfl, d0, p, o0, h0, es, rfl⟩) a1 (Nat.le_refl _) (fin_w fin (Nat.le_refl _))
/-! ### all_told -/
def R_all_told : RelX := fun _ sls c Φ => c = 0 ∧ ∃ (f : List Int) (P : Nat), primed P ∧ f.length = P ∧ (∀ x ∈ f, 0 ≤ x ∧ x < (P : Int)) ∧ sls = [.dat (pol f), .dat (.int (P : Int))] ∧ Φ = fun d => d = led (rem (P : Int) (allT P f))
theorem ok_all_told (T : Tx K mg) : FnOk P w K mg base CX0 5 T.a_all_told T.fd_all_told P_all_told (spX R_all_told) := by
  have G_check_prime := ok_check_prime (P := P) (w := w) (base := base) T
  have G_check_residues := ok_check_residues (P := P) (w := w) (base := base) T
  have G_remaining := ok_remaining (P := P) (w := w) (base := base) T
  have G_value_of := ok_value_of (P := P) (w := w) (base := base) T
  refine fn_ok T.F_all_told sc_all_told (by decide) (fun q sls c Φ h => by obtain ⟨_, f, P, _, _, _, rfl, _⟩ := h; rfl) fun cdv A outer s B0 Ew hr => ⟨_,
    (pss_cons (ps_expr (pe_call G_check_prime (hr.mono (by decide)) (by rfl) T.m_check_prime T.F_check_prime.kp T.b_check_prime .nil pass0 (pa_cons (pv 1) pa_nil)))
      (pss_cons (ps_expr (pe_call G_check_residues (hr.mono (by decide)) (by rfl) T.m_check_residues T.F_check_residues.kp T.b_check_residues .nil pass0 (pa_cons (pv 0) (pa_cons (pv 1) pa_nil))))
      (pss_cons (ps_if (pt_cmpR op_lt (pe_callB (k_len (K := K) rfl) (by rfl) T.z_len (by decide +kernel) (pa_cons (pv 0) pa_nil)) (pv 1) (nomark _)) (pss_one ps_never) pss_nil)
      (pss_one (ps_ret (pe_call G_remaining (hr.mono (by decide)) (by rfl) T.m_remaining T.F_remaining.kp T.b_remaining .nil pass0 (pa_cons (pe_lc (own := [("key", 2)]) rfl sc_all_told.nd (pi_range1 rfl T.z_range (pa_cons (pv 1) pa_nil)) (blkOk_by (own := [("key", 2)]) (N := N_all_told) (sc := defScope s_all_told) (by decide +kernel)) (fun _ _ _ _ _ => (pg_name (i := 2) sc_all_told.nd rfl (Or.inl rfl))) (fun _ _ _ _ _ => pts_nil) (fun _ _ _ _ _ => (Cr.pe_tup (pa_cons (pv 2) (pa_cons (pe_op op_sub (pe_ix (k_ix (K := K) rfl) (pv 0) pe_int (fun _ _ => rfl)) (pe_call G_value_of (hr.mono (by decide)) (by rfl) T.m_value_of T.F_value_of.kp T.b_value_of .nil pass0 (pa_cons (pe_revT (K := K) rfl (pv 0)) (pa_cons (pv 2) pa_nil)))) pa_nil))))) (pa_cons (pv 1) pa_nil)))))))), fun q sls n c Φ A0 σ Q hR hA fin => ?_⟩
  obtain ⟨rfl, f, P, hP, hf, hr, rfl, rfl⟩ := hR
  have hP2 := hP.1
  have hP3 := hP.2.1
  have hfB : CB 12 f := fun a ha => by
    have := hr a ha
    omega
  refine q_drop (j_call (R := R_check_prime) (ae_cons (e_var rfl) ae_nil) fun sls e => ⟨rfl, P, hP, e, rfl⟩) hA fun Hk1 H1 g1 a1 => ?_
  refine q_drop (j_call (R := R_check_residues) (ae_cons (e_var rfl) (ae_cons (e_var rfl) ae_nil)) fun sls e => ⟨rfl, f, P, by omega, by omega, by omega, hr, e, rfl⟩) a1 fun Hk2 H2 g2 a2 => ?_
  refine q_ifNo (tb_is (tb_test (e_ltI (e_is (e_lenT (e_var rfl)) (d1 := .int ((f.length : Nat) : Int)) (by rw [pol_len])) (e_var rfl))) (decide_eq_false (by omega))) a2 fun Hk3 H3 g3 a3 => ?_
  refine s_retE (j_call (R := R_remaining) (c := 0) (Φ := fun d => d = led (rem (P : Int) (allT P f))) (ae_cons (d := .list (pd (allT P f))) (e_is (e_lcR (i := 2) (m := P) (e_var rfl) rfl (by omega) (fun k : Nat => pr ((k : Int), allV P f (k : Int))) fun k hk => ?_) (by unfold allT pd; rw [List.map_map]; rfl)) (ae_cons (e_var rfl) ae_nil)) fun sls e => ⟨rfl, allT P f, (P : Int), _, .inr rfl, by unfold allT; rw [List.length_map, List.length_range]; omega, by omega, e, rfl⟩) a3 (Nat.le_refl _) fin rfl
  refine e_pr (e_is (e_var rfl) (by rw [Int.zero_add])) (e_is (e_subI (e_iT (ds := f.map .int) (e_var rfl) e_int (at_ints0 (f := f) (k := 0) (by omega))) (j_call (R := R_value_of) (c := 0) (Φ := fun d => d = .int (evalP f.reverse (0 + (k : Int)))) (ae_cons (e_is (e_revT (e_var rfl)) (d1 := pol f.reverse) (by unfold pol; rw [List.map_reverse])) (ae_cons (e_var rfl) ae_nil)) fun sls e => ⟨rfl, f.reverse, 0 + (k : Int), 12, _, .inl rfl, fun a ha => hfB a (List.mem_reverse.mp ha), by omega, by rw [List.length_reverse]; omega, by omega, e, rfl⟩)) ?_)
  rw [Int.zero_add]
  rfl
/-! ### all_told, where it raises -/
def B_all_told (K : PySem.W.Frag) : RelE := fun q sls c x => B_told_modulo K q sls c x ∨ (c = 0 ∧ ∃ d0 d1, sls = [.dat d0, .dat d1] ∧ ∃ p : Nat, primed p ∧ d1 = .int (p : Int) ∧ resD p d0 = true ∧ lenD d0 < p ∧ x = "OtherLength")
theorem ox_all_told (T : Tx K mg) : FnOk P w K mg base (L2.CX P w) 5 T.a_all_told T.fd_all_told P_all_told (spE mg (B_all_told K)) := by
  have U_check_prime := fn_or (fn_lift (ok_check_prime (P := P) (w := w) (base := base) T)) (ox_check_prime (P := P) (w := w) (base := base) T)
  have U_check_residues := fn_or (fn_lift (ok_check_residues (P := P) (w := w) (base := base) T)) (ox_check_residues (P := P) (w := w) (base := base) T)
  refine fn_okE T.F_all_told sc_all_told (by decide) (fun q sls c x h => h.elim (fun ⟨_, d0, d1, e, _⟩ => by subst e; rfl) (fun ⟨_, d0, d1, e, _⟩ => by subst e; rfl)) fun cdv A outer s B0 Ew hr => ⟨_,
    (pss_cons (ps_expr (pe_call U_check_prime (hr.mono (by decide)) (by rfl) T.m_check_prime T.F_check_prime.kp T.b_check_prime .nil (passes_call (W := fun cls d _ H => Ew cls d H) (E := Ew) (takes_of rfl rfl rfl rfl) fun _ _ _ _ h => h) (pa_cons (pv 1) pa_nil)))
      (pss_cons (ps_expr (pe_call U_check_residues (hr.mono (by decide)) (by rfl) T.m_check_residues T.F_check_residues.kp T.b_check_residues .nil (passes_call (W := fun cls d _ H => Ew cls d H) (E := Ew) (takes_of rfl rfl rfl rfl) fun _ _ _ _ h => h) (pa_cons (pv 0) (pa_cons (pv 1) pa_nil))))
      (pss_cons (ps_if (pt_cmpR op_lt (pe_callB (k_len (K := K) rfl) (by rfl) T.z_len (by decide +kernel) (pa_cons (pv 0) pa_nil)) (pv 1) (nomark _)) (pss_one (ps_raise rfl (takes_of (E := Ew) rfl rfl rfl rfl) (pmk_own0 PySem.F.excBase_ValueError T.x_OtherLength T.g_OtherLength T.k_OtherLength (raises_own T.u_OtherLength T.t_OtherLength) rfl))) pss_nil)
      (pss_one ps_never)))), fun q sls n c x A0 σ Q hR hA fin => ?_⟩
  rcases hR with ⟨rfl, d0, d1, rfl, h⟩ | ⟨rfl, d0, d1, rfl, p, hp, rfl, h0, hl, rfl⟩
  · rcases h with ⟨h1, rfl⟩ | ⟨p, hp, rfl, o0, h0, rfl⟩
    · exact q_dropR (rs_call (c := 0) (B := B_check_prime K) (ae_cons (e_var rfl) ae_nil) fun sls es => ⟨rfl, d1, h1.1, h1.2, es, rfl⟩) hA (Nat.le_refl _) (fin_w fin (Nat.le_refl _))
    · refine q_drop (ck_prime hp (e_var rfl)) hA fun Hk1 H1 g1 a1 => ?_
      exact q_dropR (rs_call (c := 0) (B := B_check_residues K) (ae_cons (e_var rfl) (ae_cons (e_var rfl) ae_nil)) fun sls es => ⟨rfl, d0, p, o0, h0, es, rfl⟩) a1 (Nat.le_refl _) (fin_w fin (Nat.le_refl _))
  · refine q_drop (ck_prime hp (e_var rfl)) hA fun Hk1 H1 g1 a1 => ?_
    refine q_drop (ck_residues h0 hp.2.1 (e_var rfl) (e_var rfl)) a1 fun Hk2 H2 g2 a2 => ?_
    obtain ⟨f, hf1, hf2, hf3, rfl⟩ := res_pol h0
    rw [len_pol] at hl
    exact q_whenB (b := true) (tb_is (tb_test (e_ltI (e_is (e_lenT (ds := f.map .int) (e_var rfl)) (d1 := .int ((f.length : Nat) : Int)) (by rw [List.length_map])) (e_var rfl))) (decide_eq_true (by omega))) a2 (fun _ Hk3 H3 g3 a3 => s_raise fin a3 (Nat.le_refl _) T.g_OtherLength) (fun h => by cases h)
/-! ### _law_call -/
def GB (d : PyData) : Prop := ∃ l : List (Int × Int), Led l ∧ l.length ≤ 400 ∧ d = led l
def GP (d : PyData) : Prop := ∃ p : Nat, primed p ∧ d = .int (p : Int)
def GZ (b d : PyData) : Prop := ∃ p m : Nat, primed p ∧ 1 ≤ m ∧ m ≤ p ∧ b = .int (p : Int) ∧ d = .int (m : Int)
def GT (b e : PyData) : Prop := ∃ (p : Nat) (f : List Int), primed p ∧ (1 ≤ f.length ∧ f.length ≤ 400) ∧ f.length ≤ p ∧ (∀ x ∈ f, 0 ≤ x ∧ x < (p : Int)) ∧ b = .int (p : Int) ∧ e = pol f
def GA (b e : PyData) : Prop := ∃ (p : Nat) (f : List Int), primed p ∧ f.length = p ∧ (∀ x ∈ f, 0 ≤ x ∧ x < (p : Int)) ∧ b = .int (p : Int) ∧ e = pol f
def GoodC : Nat → List PyData → Prop
  | 0, [a, b, d, e] => GB a ∧ GP b
  | 1, [a, b, d, e] => GB a ∧ GP b
  | 2, [a, b, d, e] => GB a ∧ GZ b d
  | 3, [a, b, d, e] => GB a ∧ GZ b d
  | 4, [a, b, d, e] => GT b e
  | 5, [a, b, d, e] => GT b e
  | 6, [a, b, d, e] => GT b e
  | 7, [a, b, d, e] => GT b e
  | 8, [a, b, d, e] => GA b e
  | 9, [a, b, d, e] => GA b e
  | _, _ => False
def BadC (K : PySem.W.Frag) : Nat → List PyData → Str → Prop
  | 0, [a, b, d, e], x => B_reduced K none [.dat a, .dat b] 0 x
  | 1, [a, b, d, e], x => B_reduced K none [.dat a, .dat b] 0 x
  | 2, [a, b, d, e], x => B_sums_modulo K none [.dat a, .dat b, .dat d] 0 x
  | 3, [a, b, d, e], x => B_sums_modulo K none [.dat a, .dat b, .dat d] 0 x
  | 4, [a, b, d, e], x => B_told_modulo K none [.dat e, .dat b] 0 x
  | 5, [a, b, d, e], x => B_told_modulo K none [.dat e, .dat b] 0 x
  | 6, [a, b, d, e], x => B_rule_length_modulo K none [.dat e, .dat b] 0 x
  | 7, [a, b, d, e], x => B_rule_length_modulo K none [.dat e, .dat b] 0 x
  | 8, [a, b, d, e], x => B_all_told K none [.dat e, .dat b] 0 x
  | 9, [a, b, d, e], x => B_all_told K none [.dat e, .dat b] 0 x
  | _, _, _ => False
def R__law_call : RelX := fun _ sls c Φ => c = 0 ∧ ∃ (w : Nat) (ds : List PyData), GoodC w ds ∧ sls = [.dat (.int (w : Int)), .dat (.list ds)] ∧ Φ = fun d => d = .none
theorem ok__law_call (T : Tx K mg) : FnOk P w K mg base CX0 6 T.a__law_call T.fd__law_call P__law_call (spX R__law_call) := by
  have G_all_told := ok_all_told (P := P) (w := w) (base := base) T
  have G_reduced := ok_reduced (P := P) (w := w) (base := base) T
  have G_rule_length_modulo := ok_rule_length_modulo (P := P) (w := w) (base := base) T
  have G_sums_modulo := ok_sums_modulo (P := P) (w := w) (base := base) T
  have G_told_modulo := ok_told_modulo (P := P) (w := w) (base := base) T
  refine fn_ok T.F__law_call sc__law_call (by decide) (fun q sls c Φ h => by obtain ⟨_, w, ds, _, rfl, _⟩ := h; rfl) fun cdv A outer s B0 Ew hr => ⟨_,
    (pss_cons (ps_asg (pv 1) (k_pgLst (K := K) (n := 4) rfl rfl (pgs_cons (pg_name (i := 2) sc__law_call.nd rfl (Or.inl rfl)) (pgs_cons (pg_name (i := 3) sc__law_call.nd rfl (Or.inl rfl)) (pgs_cons (pg_name (i := 4) sc__law_call.nd rfl (Or.inl rfl)) (pgs_cons (pg_name (i := 5) sc__law_call.nd rfl (Or.inl rfl)) pgs_nil))))))
      (pss_one (ps_if (pt_cmpR (k_eqD (K := K) rfl hr.units) (pv 0) pe_int (nomark _)) (pss_one (ps_expr (pe_call G_reduced (hr.mono (by decide)) (by rfl) T.m_reduced T.F_reduced.kp T.b_reduced .nil pass0 (pa_cons (pv 2) (pa_cons (pv 3) pa_nil))))) (pss_one (ps_if (pt_cmpR (k_eqD (K := K) rfl hr.units) (pv 0) pe_int (nomark _)) (pss_one (ps_expr (pe_callK0 G_reduced (hr.mono (by decide)) (by rfl) T.m_reduced T.F_reduced.kp (kb_reduced_0_prime_ledger T.F_reduced) pass0 (pk_cons (pv 3) (pk_cons (pv 2) pk_nil))))) (pss_one (ps_if (pt_cmpR (k_eqD (K := K) rfl hr.units) (pv 0) pe_int (nomark _)) (pss_one (ps_expr (pe_call G_sums_modulo (hr.mono (by decide)) (by rfl) T.m_sums_modulo T.F_sums_modulo.kp T.b_sums_modulo .nil pass0 (pa_cons (pv 2) (pa_cons (pv 3) (pa_cons (pv 4) pa_nil)))))) (pss_one (ps_if (pt_cmpR (k_eqD (K := K) rfl hr.units) (pv 0) pe_int (nomark _)) (pss_one (ps_expr (pe_callK0 G_sums_modulo (hr.mono (by decide)) (by rfl) T.m_sums_modulo T.F_sums_modulo.kp (kb_sums_modulo_0_number_prime_ledger T.F_sums_modulo) pass0 (pk_cons (pv 4) (pk_cons (pv 3) (pk_cons (pv 2) pk_nil)))))) (pss_one (ps_if (pt_cmpR (k_eqD (K := K) rfl hr.units) (pv 0) pe_int (nomark _)) (pss_one (ps_expr (pe_call G_told_modulo (hr.mono (by decide)) (by rfl) T.m_told_modulo T.F_told_modulo.kp T.b_told_modulo .nil pass0 (pa_cons (pv 5) (pa_cons (pv 3) pa_nil))))) (pss_one (ps_if (pt_cmpR (k_eqD (K := K) rfl hr.units) (pv 0) pe_int (nomark _)) (pss_one (ps_expr (pe_callK0 G_told_modulo (hr.mono (by decide)) (by rfl) T.m_told_modulo T.F_told_modulo.kp (kb_told_modulo_0_prime_sums T.F_told_modulo) pass0 (pk_cons (pv 3) (pk_cons (pv 5) pk_nil))))) (pss_one (ps_if (pt_cmpR (k_eqD (K := K) rfl hr.units) (pv 0) pe_int (nomark _)) (pss_one (ps_expr (pe_call G_rule_length_modulo (hr.mono (by decide)) (by rfl) T.m_rule_length_modulo T.F_rule_length_modulo.kp T.b_rule_length_modulo .nil pass0 (pa_cons (pv 5) (pa_cons (pv 3) pa_nil))))) (pss_one (ps_if (pt_cmpR (k_eqD (K := K) rfl hr.units) (pv 0) pe_int (nomark _)) (pss_one (ps_expr (pe_callK0 G_rule_length_modulo (hr.mono (by decide)) (by rfl) T.m_rule_length_modulo T.F_rule_length_modulo.kp (kb_rule_length_modulo_0_prime_sums T.F_rule_length_modulo) pass0 (pk_cons (pv 3) (pk_cons (pv 5) pk_nil))))) (pss_one (ps_if (pt_cmpR (k_eqD (K := K) rfl hr.units) (pv 0) pe_int (nomark _)) (pss_one (ps_expr (pe_call G_all_told (hr.mono (by decide)) (by rfl) T.m_all_told T.F_all_told.kp T.b_all_told .nil pass0 (pa_cons (pv 5) (pa_cons (pv 3) pa_nil))))) (pss_one (ps_expr (pe_callK0 G_all_told (hr.mono (by decide)) (by rfl) T.m_all_told T.F_all_told.kp (kb_all_told_0_prime_sums T.F_all_told) pass0 (pk_cons (pv 3) (pk_cons (pv 5) pk_nil)))))))))))))))))))))))), fun q sls n c Φ A0 σ Q hR hA fin => ?_⟩
  obtain ⟨rfl, w, ds, h, rfl, rfl⟩ := hR
  match w, ds, h with
  | 0, [a, b, d, e], h =>
    obtain ⟨⟨la, hLa, hla, rfl⟩, ⟨p, hp, rfl⟩⟩ := h
    refine q_asgL4 (d1 := led la) (d2 := .int (p : Int)) (d3 := d) (d4 := e) (e_var rfl) hA fun σ0 Hk0 H0 g0 a0 => ?_
    refine s_ifB (b := true) (tb_is (tb_test (e_eqDI (e_var rfl) e_int)) rfl) a0 (fun _ Hk1 H1 g1 a1 => ?_) (fun h => by cases h)
    exact s_drop (c := 0) (j_call (R := R_reduced) (c := 0) (ae_cons (e_var rfl) (ae_cons (e_var rfl) ae_nil)) fun sls es => ⟨rfl, la, p, hLa, by omega, hp, es, rfl⟩) a1 fun Hk' H2 g a => s_end a (Nat.le_refl _) fin rfl
  | 1, [a, b, d, e], h =>
    obtain ⟨⟨la, hLa, hla, rfl⟩, ⟨p, hp, rfl⟩⟩ := h
    refine q_asgL4 (d1 := led la) (d2 := .int (p : Int)) (d3 := d) (d4 := e) (e_var rfl) hA fun σ0 Hk0 H0 g0 a0 => ?_
    refine s_ifB (b := false) (tb_is (tb_test (e_eqDI (e_var rfl) e_int)) rfl) a0 (fun h => by cases h) (fun _ Hk1 H1 g1 a1 => ?_)
    refine s_ifB (b := true) (tb_is (tb_test (e_eqDI (e_var rfl) e_int)) rfl) a1 (fun _ Hk2 H2 g2 a2 => ?_) (fun h => by cases h)
    exact s_drop (c := 0) (j_callK (R := R_reduced) (c := 0) (gS := fun _ _ => [.dat (led la), .dat (.int (p : Int))]) ae_nil (ae_cons (e_var rfl) (ae_cons (e_var rfl) ae_nil)) (fun H vs zs s u h1 h2 e1 e2 => by subst e1; subst e2; exact v_kb_reduced_0_prime_ledger vs zs h1 h2) fun ss us _ _ => ⟨rfl, la, p, hLa, by omega, hp, rfl, rfl⟩) a2 fun Hk' H2 g a => s_end a (Nat.le_refl _) fin rfl
  | 2, [a, b, d, e], h =>
    obtain ⟨⟨la, hLa, hla, rfl⟩, ⟨p, m, hp, hm1, hm2, rfl, rfl⟩⟩ := h
    refine q_asgL4 (d1 := led la) (d2 := .int (p : Int)) (d3 := .int (m : Int)) (d4 := e) (e_var rfl) hA fun σ0 Hk0 H0 g0 a0 => ?_
    refine s_ifB (b := false) (tb_is (tb_test (e_eqDI (e_var rfl) e_int)) rfl) a0 (fun h => by cases h) (fun _ Hk1 H1 g1 a1 => ?_)
    refine s_ifB (b := false) (tb_is (tb_test (e_eqDI (e_var rfl) e_int)) rfl) a1 (fun h => by cases h) (fun _ Hk2 H2 g2 a2 => ?_)
    refine s_ifB (b := true) (tb_is (tb_test (e_eqDI (e_var rfl) e_int)) rfl) a2 (fun _ Hk3 H3 g3 a3 => ?_) (fun h => by cases h)
    exact s_drop (c := 0) (j_call (R := R_sums_modulo) (c := 0) (ae_cons (e_var rfl) (ae_cons (e_var rfl) (ae_cons (e_var rfl) ae_nil))) fun sls es => ⟨rfl, la, p, m, hLa, by omega, hp, hm1, hm2, es, rfl⟩) a3 fun Hk' H2 g a => s_end a (Nat.le_refl _) fin rfl
  | 3, [a, b, d, e], h =>
    obtain ⟨⟨la, hLa, hla, rfl⟩, ⟨p, m, hp, hm1, hm2, rfl, rfl⟩⟩ := h
    refine q_asgL4 (d1 := led la) (d2 := .int (p : Int)) (d3 := .int (m : Int)) (d4 := e) (e_var rfl) hA fun σ0 Hk0 H0 g0 a0 => ?_
    refine s_ifB (b := false) (tb_is (tb_test (e_eqDI (e_var rfl) e_int)) rfl) a0 (fun h => by cases h) (fun _ Hk1 H1 g1 a1 => ?_)
    refine s_ifB (b := false) (tb_is (tb_test (e_eqDI (e_var rfl) e_int)) rfl) a1 (fun h => by cases h) (fun _ Hk2 H2 g2 a2 => ?_)
    refine s_ifB (b := false) (tb_is (tb_test (e_eqDI (e_var rfl) e_int)) rfl) a2 (fun h => by cases h) (fun _ Hk3 H3 g3 a3 => ?_)
    refine s_ifB (b := true) (tb_is (tb_test (e_eqDI (e_var rfl) e_int)) rfl) a3 (fun _ Hk4 H4 g4 a4 => ?_) (fun h => by cases h)
    exact s_drop (c := 0) (j_callK (R := R_sums_modulo) (c := 0) (gS := fun _ _ => [.dat (led la), .dat (.int (p : Int)), .dat (.int (m : Int))]) ae_nil (ae_cons (e_var rfl) (ae_cons (e_var rfl) (ae_cons (e_var rfl) ae_nil))) (fun H vs zs s u h1 h2 e1 e2 => by subst e1; subst e2; exact v_kb_sums_modulo_0_number_prime_ledger vs zs h1 h2) fun ss us _ _ => ⟨rfl, la, p, m, hLa, by omega, hp, hm1, hm2, rfl, rfl⟩) a4 fun Hk' H2 g a => s_end a (Nat.le_refl _) fin rfl
  | 4, [a, b, d, e], h =>
    obtain ⟨p, f, hp, hf, hfp, hfr, rfl, rfl⟩ := h
    refine q_asgL4 (d1 := a) (d2 := .int (p : Int)) (d3 := d) (d4 := pol f) (e_var rfl) hA fun σ0 Hk0 H0 g0 a0 => ?_
    refine s_ifB (b := false) (tb_is (tb_test (e_eqDI (e_var rfl) e_int)) rfl) a0 (fun h => by cases h) (fun _ Hk1 H1 g1 a1 => ?_)
    refine s_ifB (b := false) (tb_is (tb_test (e_eqDI (e_var rfl) e_int)) rfl) a1 (fun h => by cases h) (fun _ Hk2 H2 g2 a2 => ?_)
    refine s_ifB (b := false) (tb_is (tb_test (e_eqDI (e_var rfl) e_int)) rfl) a2 (fun h => by cases h) (fun _ Hk3 H3 g3 a3 => ?_)
    refine s_ifB (b := false) (tb_is (tb_test (e_eqDI (e_var rfl) e_int)) rfl) a3 (fun h => by cases h) (fun _ Hk4 H4 g4 a4 => ?_)
    refine s_ifB (b := true) (tb_is (tb_test (e_eqDI (e_var rfl) e_int)) rfl) a4 (fun _ Hk5 H5 g5 a5 => ?_) (fun h => by cases h)
    exact s_drop (c := 0) (j_call (R := R_told_modulo) (c := 0) (ae_cons (e_var rfl) (ae_cons (e_var rfl) ae_nil)) fun sls es => ⟨rfl, f, p, hp, hf.1, hf.2, hfp, hfr, es, rfl⟩) a5 fun Hk' H2 g a => s_end a (Nat.le_refl _) fin rfl
  | 5, [a, b, d, e], h =>
    obtain ⟨p, f, hp, hf, hfp, hfr, rfl, rfl⟩ := h
    refine q_asgL4 (d1 := a) (d2 := .int (p : Int)) (d3 := d) (d4 := pol f) (e_var rfl) hA fun σ0 Hk0 H0 g0 a0 => ?_
    refine s_ifB (b := false) (tb_is (tb_test (e_eqDI (e_var rfl) e_int)) rfl) a0 (fun h => by cases h) (fun _ Hk1 H1 g1 a1 => ?_)
    refine s_ifB (b := false) (tb_is (tb_test (e_eqDI (e_var rfl) e_int)) rfl) a1 (fun h => by cases h) (fun _ Hk2 H2 g2 a2 => ?_)
    refine s_ifB (b := false) (tb_is (tb_test (e_eqDI (e_var rfl) e_int)) rfl) a2 (fun h => by cases h) (fun _ Hk3 H3 g3 a3 => ?_)
    refine s_ifB (b := false) (tb_is (tb_test (e_eqDI (e_var rfl) e_int)) rfl) a3 (fun h => by cases h) (fun _ Hk4 H4 g4 a4 => ?_)
    refine s_ifB (b := false) (tb_is (tb_test (e_eqDI (e_var rfl) e_int)) rfl) a4 (fun h => by cases h) (fun _ Hk5 H5 g5 a5 => ?_)
    refine s_ifB (b := true) (tb_is (tb_test (e_eqDI (e_var rfl) e_int)) rfl) a5 (fun _ Hk6 H6 g6 a6 => ?_) (fun h => by cases h)
    exact s_drop (c := 0) (j_callK (R := R_told_modulo) (c := 0) (gS := fun _ _ => [.dat (pol f), .dat (.int (p : Int))]) ae_nil (ae_cons (e_var rfl) (ae_cons (e_var rfl) ae_nil)) (fun H vs zs s u h1 h2 e1 e2 => by subst e1; subst e2; exact v_kb_told_modulo_0_prime_sums vs zs h1 h2) fun ss us _ _ => ⟨rfl, f, p, hp, hf.1, hf.2, hfp, hfr, rfl, rfl⟩) a6 fun Hk' H2 g a => s_end a (Nat.le_refl _) fin rfl
  | 6, [a, b, d, e], h =>
    obtain ⟨p, f, hp, hf, hfp, hfr, rfl, rfl⟩ := h
    refine q_asgL4 (d1 := a) (d2 := .int (p : Int)) (d3 := d) (d4 := pol f) (e_var rfl) hA fun σ0 Hk0 H0 g0 a0 => ?_
    refine s_ifB (b := false) (tb_is (tb_test (e_eqDI (e_var rfl) e_int)) rfl) a0 (fun h => by cases h) (fun _ Hk1 H1 g1 a1 => ?_)
    refine s_ifB (b := false) (tb_is (tb_test (e_eqDI (e_var rfl) e_int)) rfl) a1 (fun h => by cases h) (fun _ Hk2 H2 g2 a2 => ?_)
    refine s_ifB (b := false) (tb_is (tb_test (e_eqDI (e_var rfl) e_int)) rfl) a2 (fun h => by cases h) (fun _ Hk3 H3 g3 a3 => ?_)
    refine s_ifB (b := false) (tb_is (tb_test (e_eqDI (e_var rfl) e_int)) rfl) a3 (fun h => by cases h) (fun _ Hk4 H4 g4 a4 => ?_)
    refine s_ifB (b := false) (tb_is (tb_test (e_eqDI (e_var rfl) e_int)) rfl) a4 (fun h => by cases h) (fun _ Hk5 H5 g5 a5 => ?_)
    refine s_ifB (b := false) (tb_is (tb_test (e_eqDI (e_var rfl) e_int)) rfl) a5 (fun h => by cases h) (fun _ Hk6 H6 g6 a6 => ?_)
    refine s_ifB (b := true) (tb_is (tb_test (e_eqDI (e_var rfl) e_int)) rfl) a6 (fun _ Hk7 H7 g7 a7 => ?_) (fun h => by cases h)
    exact s_drop (c := 0) (j_call (R := R_rule_length_modulo) (c := 0) (ae_cons (e_var rfl) (ae_cons (e_var rfl) ae_nil)) fun sls es => ⟨rfl, f, p, hp, hf.1, hf.2, hfp, hfr, es, rfl⟩) a7 fun Hk' H2 g a => s_end a (Nat.le_refl _) fin rfl
  | 7, [a, b, d, e], h =>
    obtain ⟨p, f, hp, hf, hfp, hfr, rfl, rfl⟩ := h
    refine q_asgL4 (d1 := a) (d2 := .int (p : Int)) (d3 := d) (d4 := pol f) (e_var rfl) hA fun σ0 Hk0 H0 g0 a0 => ?_
    refine s_ifB (b := false) (tb_is (tb_test (e_eqDI (e_var rfl) e_int)) rfl) a0 (fun h => by cases h) (fun _ Hk1 H1 g1 a1 => ?_)
    refine s_ifB (b := false) (tb_is (tb_test (e_eqDI (e_var rfl) e_int)) rfl) a1 (fun h => by cases h) (fun _ Hk2 H2 g2 a2 => ?_)
    refine s_ifB (b := false) (tb_is (tb_test (e_eqDI (e_var rfl) e_int)) rfl) a2 (fun h => by cases h) (fun _ Hk3 H3 g3 a3 => ?_)
    refine s_ifB (b := false) (tb_is (tb_test (e_eqDI (e_var rfl) e_int)) rfl) a3 (fun h => by cases h) (fun _ Hk4 H4 g4 a4 => ?_)
    refine s_ifB (b := false) (tb_is (tb_test (e_eqDI (e_var rfl) e_int)) rfl) a4 (fun h => by cases h) (fun _ Hk5 H5 g5 a5 => ?_)
    refine s_ifB (b := false) (tb_is (tb_test (e_eqDI (e_var rfl) e_int)) rfl) a5 (fun h => by cases h) (fun _ Hk6 H6 g6 a6 => ?_)
    refine s_ifB (b := false) (tb_is (tb_test (e_eqDI (e_var rfl) e_int)) rfl) a6 (fun h => by cases h) (fun _ Hk7 H7 g7 a7 => ?_)
    refine s_ifB (b := true) (tb_is (tb_test (e_eqDI (e_var rfl) e_int)) rfl) a7 (fun _ Hk8 H8 g8 a8 => ?_) (fun h => by cases h)
    exact s_drop (c := 0) (j_callK (R := R_rule_length_modulo) (c := 0) (gS := fun _ _ => [.dat (pol f), .dat (.int (p : Int))]) ae_nil (ae_cons (e_var rfl) (ae_cons (e_var rfl) ae_nil)) (fun H vs zs s u h1 h2 e1 e2 => by subst e1; subst e2; exact v_kb_rule_length_modulo_0_prime_sums vs zs h1 h2) fun ss us _ _ => ⟨rfl, f, p, hp, hf.1, hf.2, hfp, hfr, rfl, rfl⟩) a8 fun Hk' H2 g a => s_end a (Nat.le_refl _) fin rfl
  | 8, [a, b, d, e], h =>
    obtain ⟨p, f, hp, hf, hfr, rfl, rfl⟩ := h
    refine q_asgL4 (d1 := a) (d2 := .int (p : Int)) (d3 := d) (d4 := pol f) (e_var rfl) hA fun σ0 Hk0 H0 g0 a0 => ?_
    refine s_ifB (b := false) (tb_is (tb_test (e_eqDI (e_var rfl) e_int)) rfl) a0 (fun h => by cases h) (fun _ Hk1 H1 g1 a1 => ?_)
    refine s_ifB (b := false) (tb_is (tb_test (e_eqDI (e_var rfl) e_int)) rfl) a1 (fun h => by cases h) (fun _ Hk2 H2 g2 a2 => ?_)
    refine s_ifB (b := false) (tb_is (tb_test (e_eqDI (e_var rfl) e_int)) rfl) a2 (fun h => by cases h) (fun _ Hk3 H3 g3 a3 => ?_)
    refine s_ifB (b := false) (tb_is (tb_test (e_eqDI (e_var rfl) e_int)) rfl) a3 (fun h => by cases h) (fun _ Hk4 H4 g4 a4 => ?_)
    refine s_ifB (b := false) (tb_is (tb_test (e_eqDI (e_var rfl) e_int)) rfl) a4 (fun h => by cases h) (fun _ Hk5 H5 g5 a5 => ?_)
    refine s_ifB (b := false) (tb_is (tb_test (e_eqDI (e_var rfl) e_int)) rfl) a5 (fun h => by cases h) (fun _ Hk6 H6 g6 a6 => ?_)
    refine s_ifB (b := false) (tb_is (tb_test (e_eqDI (e_var rfl) e_int)) rfl) a6 (fun h => by cases h) (fun _ Hk7 H7 g7 a7 => ?_)
    refine s_ifB (b := false) (tb_is (tb_test (e_eqDI (e_var rfl) e_int)) rfl) a7 (fun h => by cases h) (fun _ Hk8 H8 g8 a8 => ?_)
    refine s_ifB (b := true) (tb_is (tb_test (e_eqDI (e_var rfl) e_int)) rfl) a8 (fun _ Hk9 H9 g9 a9 => ?_) (fun h => by cases h)
    exact s_drop (c := 0) (j_call (R := R_all_told) (c := 0) (ae_cons (e_var rfl) (ae_cons (e_var rfl) ae_nil)) fun sls es => ⟨rfl, f, p, hp, hf, hfr, es, rfl⟩) a9 fun Hk' H2 g a => s_end a (Nat.le_refl _) fin rfl
  | 9, [a, b, d, e], h =>
    obtain ⟨p, f, hp, hf, hfr, rfl, rfl⟩ := h
    refine q_asgL4 (d1 := a) (d2 := .int (p : Int)) (d3 := d) (d4 := pol f) (e_var rfl) hA fun σ0 Hk0 H0 g0 a0 => ?_
    refine s_ifB (b := false) (tb_is (tb_test (e_eqDI (e_var rfl) e_int)) rfl) a0 (fun h => by cases h) (fun _ Hk1 H1 g1 a1 => ?_)
    refine s_ifB (b := false) (tb_is (tb_test (e_eqDI (e_var rfl) e_int)) rfl) a1 (fun h => by cases h) (fun _ Hk2 H2 g2 a2 => ?_)
    refine s_ifB (b := false) (tb_is (tb_test (e_eqDI (e_var rfl) e_int)) rfl) a2 (fun h => by cases h) (fun _ Hk3 H3 g3 a3 => ?_)
    refine s_ifB (b := false) (tb_is (tb_test (e_eqDI (e_var rfl) e_int)) rfl) a3 (fun h => by cases h) (fun _ Hk4 H4 g4 a4 => ?_)
    refine s_ifB (b := false) (tb_is (tb_test (e_eqDI (e_var rfl) e_int)) rfl) a4 (fun h => by cases h) (fun _ Hk5 H5 g5 a5 => ?_)
    refine s_ifB (b := false) (tb_is (tb_test (e_eqDI (e_var rfl) e_int)) rfl) a5 (fun h => by cases h) (fun _ Hk6 H6 g6 a6 => ?_)
    refine s_ifB (b := false) (tb_is (tb_test (e_eqDI (e_var rfl) e_int)) rfl) a6 (fun h => by cases h) (fun _ Hk7 H7 g7 a7 => ?_)
    refine s_ifB (b := false) (tb_is (tb_test (e_eqDI (e_var rfl) e_int)) rfl) a7 (fun h => by cases h) (fun _ Hk8 H8 g8 a8 => ?_)
    refine s_ifB (b := false) (tb_is (tb_test (e_eqDI (e_var rfl) e_int)) rfl) a8 (fun h => by cases h) (fun _ Hk9 H9 g9 a9 => ?_)
    exact s_drop (c := 0) (j_callK (R := R_all_told) (c := 0) (gS := fun _ _ => [.dat (pol f), .dat (.int (p : Int))]) ae_nil (ae_cons (e_var rfl) (ae_cons (e_var rfl) ae_nil)) (fun H vs zs s u h1 h2 e1 e2 => by subst e1; subst e2; exact v_kb_all_told_0_prime_sums vs zs h1 h2) fun ss us _ _ => ⟨rfl, f, p, hp, hf, hfr, rfl, rfl⟩) a9 fun Hk' H2 g a => s_end a (Nat.le_refl _) fin rfl
/-! ### _law_call, where it raises -/
def B__law_call (K : PySem.W.Frag) : RelE := fun _ sls c x => c = 0 ∧ ∃ (w : Nat) (ds : List PyData), BadC K w ds x ∧ sls = [.dat (.int (w : Int)), .dat (.list ds)]
theorem ox__law_call (T : Tx K mg) : FnOk P w K mg base (L2.CX P w) 6 T.a__law_call T.fd__law_call P__law_call (spE mg (B__law_call K)) := by
  have U_all_told := fn_or (fn_lift (ok_all_told (P := P) (w := w) (base := base) T)) (ox_all_told (P := P) (w := w) (base := base) T)
  have U_reduced := fn_or (fn_lift (ok_reduced (P := P) (w := w) (base := base) T)) (ox_reduced (P := P) (w := w) (base := base) T)
  have U_rule_length_modulo := fn_or (fn_lift (ok_rule_length_modulo (P := P) (w := w) (base := base) T)) (ox_rule_length_modulo (P := P) (w := w) (base := base) T)
  have U_sums_modulo := fn_or (fn_lift (ok_sums_modulo (P := P) (w := w) (base := base) T)) (ox_sums_modulo (P := P) (w := w) (base := base) T)
  have U_told_modulo := fn_or (fn_lift (ok_told_modulo (P := P) (w := w) (base := base) T)) (ox_told_modulo (P := P) (w := w) (base := base) T)
  refine fn_okE T.F__law_call sc__law_call (by decide) (fun q sls c x h => by obtain ⟨_, w, ds, _, rfl⟩ := h; rfl) fun cdv A outer s B0 Ew hr => ⟨_,
    (pss_cons (ps_asg (pv 1) (k_pgLst (K := K) (n := 4) rfl rfl (pgs_cons (pg_name (i := 2) sc__law_call.nd rfl (Or.inl rfl)) (pgs_cons (pg_name (i := 3) sc__law_call.nd rfl (Or.inl rfl)) (pgs_cons (pg_name (i := 4) sc__law_call.nd rfl (Or.inl rfl)) (pgs_cons (pg_name (i := 5) sc__law_call.nd rfl (Or.inl rfl)) pgs_nil))))))
      (pss_one (ps_if (pt_cmpR (k_eqD (K := K) rfl hr.units) (pv 0) pe_int (nomark _)) (pss_one (ps_expr (pe_call U_reduced (hr.mono (by decide)) (by rfl) T.m_reduced T.F_reduced.kp T.b_reduced .nil (passes_call (W := fun cls d _ H => Ew cls d H) (E := Ew) (takes_of rfl rfl rfl rfl) fun _ _ _ _ h => h) (pa_cons (pv 2) (pa_cons (pv 3) pa_nil))))) (pss_one (ps_if (pt_cmpR (k_eqD (K := K) rfl hr.units) (pv 0) pe_int (nomark _)) (pss_one (ps_expr (pe_callK0 U_reduced (hr.mono (by decide)) (by rfl) T.m_reduced T.F_reduced.kp (kb_reduced_0_prime_ledger T.F_reduced) (passes_call (W := fun cls d _ H => Ew cls d H) (E := Ew) (takes_of rfl rfl rfl rfl) fun _ _ _ _ h => h) (pk_cons (pv 3) (pk_cons (pv 2) pk_nil))))) (pss_one (ps_if (pt_cmpR (k_eqD (K := K) rfl hr.units) (pv 0) pe_int (nomark _)) (pss_one (ps_expr (pe_call U_sums_modulo (hr.mono (by decide)) (by rfl) T.m_sums_modulo T.F_sums_modulo.kp T.b_sums_modulo .nil (passes_call (W := fun cls d _ H => Ew cls d H) (E := Ew) (takes_of rfl rfl rfl rfl) fun _ _ _ _ h => h) (pa_cons (pv 2) (pa_cons (pv 3) (pa_cons (pv 4) pa_nil)))))) (pss_one (ps_if (pt_cmpR (k_eqD (K := K) rfl hr.units) (pv 0) pe_int (nomark _)) (pss_one (ps_expr (pe_callK0 U_sums_modulo (hr.mono (by decide)) (by rfl) T.m_sums_modulo T.F_sums_modulo.kp (kb_sums_modulo_0_number_prime_ledger T.F_sums_modulo) (passes_call (W := fun cls d _ H => Ew cls d H) (E := Ew) (takes_of rfl rfl rfl rfl) fun _ _ _ _ h => h) (pk_cons (pv 4) (pk_cons (pv 3) (pk_cons (pv 2) pk_nil)))))) (pss_one (ps_if (pt_cmpR (k_eqD (K := K) rfl hr.units) (pv 0) pe_int (nomark _)) (pss_one (ps_expr (pe_call U_told_modulo (hr.mono (by decide)) (by rfl) T.m_told_modulo T.F_told_modulo.kp T.b_told_modulo .nil (passes_call (W := fun cls d _ H => Ew cls d H) (E := Ew) (takes_of rfl rfl rfl rfl) fun _ _ _ _ h => h) (pa_cons (pv 5) (pa_cons (pv 3) pa_nil))))) (pss_one (ps_if (pt_cmpR (k_eqD (K := K) rfl hr.units) (pv 0) pe_int (nomark _)) (pss_one (ps_expr (pe_callK0 U_told_modulo (hr.mono (by decide)) (by rfl) T.m_told_modulo T.F_told_modulo.kp (kb_told_modulo_0_prime_sums T.F_told_modulo) (passes_call (W := fun cls d _ H => Ew cls d H) (E := Ew) (takes_of rfl rfl rfl rfl) fun _ _ _ _ h => h) (pk_cons (pv 3) (pk_cons (pv 5) pk_nil))))) (pss_one (ps_if (pt_cmpR (k_eqD (K := K) rfl hr.units) (pv 0) pe_int (nomark _)) (pss_one (ps_expr (pe_call U_rule_length_modulo (hr.mono (by decide)) (by rfl) T.m_rule_length_modulo T.F_rule_length_modulo.kp T.b_rule_length_modulo .nil (passes_call (W := fun cls d _ H => Ew cls d H) (E := Ew) (takes_of rfl rfl rfl rfl) fun _ _ _ _ h => h) (pa_cons (pv 5) (pa_cons (pv 3) pa_nil))))) (pss_one (ps_if (pt_cmpR (k_eqD (K := K) rfl hr.units) (pv 0) pe_int (nomark _)) (pss_one (ps_expr (pe_callK0 U_rule_length_modulo (hr.mono (by decide)) (by rfl) T.m_rule_length_modulo T.F_rule_length_modulo.kp (kb_rule_length_modulo_0_prime_sums T.F_rule_length_modulo) (passes_call (W := fun cls d _ H => Ew cls d H) (E := Ew) (takes_of rfl rfl rfl rfl) fun _ _ _ _ h => h) (pk_cons (pv 3) (pk_cons (pv 5) pk_nil))))) (pss_one (ps_if (pt_cmpR (k_eqD (K := K) rfl hr.units) (pv 0) pe_int (nomark _)) (pss_one (ps_expr (pe_call U_all_told (hr.mono (by decide)) (by rfl) T.m_all_told T.F_all_told.kp T.b_all_told .nil (passes_call (W := fun cls d _ H => Ew cls d H) (E := Ew) (takes_of rfl rfl rfl rfl) fun _ _ _ _ h => h) (pa_cons (pv 5) (pa_cons (pv 3) pa_nil))))) (pss_one (ps_expr (pe_callK0 U_all_told (hr.mono (by decide)) (by rfl) T.m_all_told T.F_all_told.kp (kb_all_told_0_prime_sums T.F_all_told) (passes_call (W := fun cls d _ H => Ew cls d H) (E := Ew) (takes_of rfl rfl rfl rfl) fun _ _ _ _ h => h) (pk_cons (pv 3) (pk_cons (pv 5) pk_nil)))))))))))))))))))))))), fun q sls n c x A0 σ Q hR hA fin => ?_⟩
  obtain ⟨rfl, w, ds, h, rfl⟩ := hR
  match w, ds, h with
  | 0, [a, b, d, e], h =>
    refine q_asgL4 (d1 := a) (d2 := b) (d3 := d) (d4 := e) (e_var rfl) hA fun σ0 Hk0 H0 g0 a0 => ?_
    refine s_ifB (b := true) (tb_is (tb_test (e_eqDI (e_var rfl) e_int)) rfl) a0 (fun _ Hk1 H1 g1 a1 => ?_) (fun h => by cases h)
    exact s_dropR (rs_call (c := 0) (B := B_reduced K) (ae_cons (e_var rfl) (ae_cons (e_var rfl) ae_nil)) fun sls es => by subst es; exact h) a1 (Nat.le_refl _) (fin_w fin (Nat.le_refl _))
  | 1, [a, b, d, e], h =>
    refine q_asgL4 (d1 := a) (d2 := b) (d3 := d) (d4 := e) (e_var rfl) hA fun σ0 Hk0 H0 g0 a0 => ?_
    refine s_ifB (b := false) (tb_is (tb_test (e_eqDI (e_var rfl) e_int)) rfl) a0 (fun h => by cases h) (fun _ Hk1 H1 g1 a1 => ?_)
    refine s_ifB (b := true) (tb_is (tb_test (e_eqDI (e_var rfl) e_int)) rfl) a1 (fun _ Hk2 H2 g2 a2 => ?_) (fun h => by cases h)
    exact s_dropR (rs_callK (B := B_reduced K) (rs := [.dat (a), .dat (b)]) ae_nil (ae_cons (e_var rfl) (ae_cons (e_var rfl) ae_nil)) (fun H vs zs h1 h2 => v_kb_reduced_0_prime_ledger vs zs h1 h2) (show B_reduced K q [.dat (a), .dat (b)] 0 x from h)) a2 (Nat.le_refl _) (fin_w fin (Nat.le_refl _))
  | 2, [a, b, d, e], h =>
    refine q_asgL4 (d1 := a) (d2 := b) (d3 := d) (d4 := e) (e_var rfl) hA fun σ0 Hk0 H0 g0 a0 => ?_
    refine s_ifB (b := false) (tb_is (tb_test (e_eqDI (e_var rfl) e_int)) rfl) a0 (fun h => by cases h) (fun _ Hk1 H1 g1 a1 => ?_)
    refine s_ifB (b := false) (tb_is (tb_test (e_eqDI (e_var rfl) e_int)) rfl) a1 (fun h => by cases h) (fun _ Hk2 H2 g2 a2 => ?_)
    refine s_ifB (b := true) (tb_is (tb_test (e_eqDI (e_var rfl) e_int)) rfl) a2 (fun _ Hk3 H3 g3 a3 => ?_) (fun h => by cases h)
    exact s_dropR (rs_call (c := 0) (B := B_sums_modulo K) (ae_cons (e_var rfl) (ae_cons (e_var rfl) (ae_cons (e_var rfl) ae_nil))) fun sls es => by subst es; exact h) a3 (Nat.le_refl _) (fin_w fin (Nat.le_refl _))
  | 3, [a, b, d, e], h =>
    refine q_asgL4 (d1 := a) (d2 := b) (d3 := d) (d4 := e) (e_var rfl) hA fun σ0 Hk0 H0 g0 a0 => ?_
    refine s_ifB (b := false) (tb_is (tb_test (e_eqDI (e_var rfl) e_int)) rfl) a0 (fun h => by cases h) (fun _ Hk1 H1 g1 a1 => ?_)
    refine s_ifB (b := false) (tb_is (tb_test (e_eqDI (e_var rfl) e_int)) rfl) a1 (fun h => by cases h) (fun _ Hk2 H2 g2 a2 => ?_)
    refine s_ifB (b := false) (tb_is (tb_test (e_eqDI (e_var rfl) e_int)) rfl) a2 (fun h => by cases h) (fun _ Hk3 H3 g3 a3 => ?_)
    refine s_ifB (b := true) (tb_is (tb_test (e_eqDI (e_var rfl) e_int)) rfl) a3 (fun _ Hk4 H4 g4 a4 => ?_) (fun h => by cases h)
    exact s_dropR (rs_callK (B := B_sums_modulo K) (rs := [.dat (a), .dat (b), .dat (d)]) ae_nil (ae_cons (e_var rfl) (ae_cons (e_var rfl) (ae_cons (e_var rfl) ae_nil))) (fun H vs zs h1 h2 => v_kb_sums_modulo_0_number_prime_ledger vs zs h1 h2) (show B_sums_modulo K q [.dat (a), .dat (b), .dat (d)] 0 x from h)) a4 (Nat.le_refl _) (fin_w fin (Nat.le_refl _))
  | 4, [a, b, d, e], h =>
    refine q_asgL4 (d1 := a) (d2 := b) (d3 := d) (d4 := e) (e_var rfl) hA fun σ0 Hk0 H0 g0 a0 => ?_
    refine s_ifB (b := false) (tb_is (tb_test (e_eqDI (e_var rfl) e_int)) rfl) a0 (fun h => by cases h) (fun _ Hk1 H1 g1 a1 => ?_)
    refine s_ifB (b := false) (tb_is (tb_test (e_eqDI (e_var rfl) e_int)) rfl) a1 (fun h => by cases h) (fun _ Hk2 H2 g2 a2 => ?_)
    refine s_ifB (b := false) (tb_is (tb_test (e_eqDI (e_var rfl) e_int)) rfl) a2 (fun h => by cases h) (fun _ Hk3 H3 g3 a3 => ?_)
    refine s_ifB (b := false) (tb_is (tb_test (e_eqDI (e_var rfl) e_int)) rfl) a3 (fun h => by cases h) (fun _ Hk4 H4 g4 a4 => ?_)
    refine s_ifB (b := true) (tb_is (tb_test (e_eqDI (e_var rfl) e_int)) rfl) a4 (fun _ Hk5 H5 g5 a5 => ?_) (fun h => by cases h)
    exact s_dropR (rs_call (c := 0) (B := B_told_modulo K) (ae_cons (e_var rfl) (ae_cons (e_var rfl) ae_nil)) fun sls es => by subst es; exact h) a5 (Nat.le_refl _) (fin_w fin (Nat.le_refl _))
  | 5, [a, b, d, e], h =>
    refine q_asgL4 (d1 := a) (d2 := b) (d3 := d) (d4 := e) (e_var rfl) hA fun σ0 Hk0 H0 g0 a0 => ?_
    refine s_ifB (b := false) (tb_is (tb_test (e_eqDI (e_var rfl) e_int)) rfl) a0 (fun h => by cases h) (fun _ Hk1 H1 g1 a1 => ?_)
    refine s_ifB (b := false) (tb_is (tb_test (e_eqDI (e_var rfl) e_int)) rfl) a1 (fun h => by cases h) (fun _ Hk2 H2 g2 a2 => ?_)
    refine s_ifB (b := false) (tb_is (tb_test (e_eqDI (e_var rfl) e_int)) rfl) a2 (fun h => by cases h) (fun _ Hk3 H3 g3 a3 => ?_)
    refine s_ifB (b := false) (tb_is (tb_test (e_eqDI (e_var rfl) e_int)) rfl) a3 (fun h => by cases h) (fun _ Hk4 H4 g4 a4 => ?_)
    refine s_ifB (b := false) (tb_is (tb_test (e_eqDI (e_var rfl) e_int)) rfl) a4 (fun h => by cases h) (fun _ Hk5 H5 g5 a5 => ?_)
    refine s_ifB (b := true) (tb_is (tb_test (e_eqDI (e_var rfl) e_int)) rfl) a5 (fun _ Hk6 H6 g6 a6 => ?_) (fun h => by cases h)
    exact s_dropR (rs_callK (B := B_told_modulo K) (rs := [.dat (e), .dat (b)]) ae_nil (ae_cons (e_var rfl) (ae_cons (e_var rfl) ae_nil)) (fun H vs zs h1 h2 => v_kb_told_modulo_0_prime_sums vs zs h1 h2) (show B_told_modulo K q [.dat (e), .dat (b)] 0 x from h)) a6 (Nat.le_refl _) (fin_w fin (Nat.le_refl _))
  | 6, [a, b, d, e], h =>
    refine q_asgL4 (d1 := a) (d2 := b) (d3 := d) (d4 := e) (e_var rfl) hA fun σ0 Hk0 H0 g0 a0 => ?_
    refine s_ifB (b := false) (tb_is (tb_test (e_eqDI (e_var rfl) e_int)) rfl) a0 (fun h => by cases h) (fun _ Hk1 H1 g1 a1 => ?_)
    refine s_ifB (b := false) (tb_is (tb_test (e_eqDI (e_var rfl) e_int)) rfl) a1 (fun h => by cases h) (fun _ Hk2 H2 g2 a2 => ?_)
    refine s_ifB (b := false) (tb_is (tb_test (e_eqDI (e_var rfl) e_int)) rfl) a2 (fun h => by cases h) (fun _ Hk3 H3 g3 a3 => ?_)
    refine s_ifB (b := false) (tb_is (tb_test (e_eqDI (e_var rfl) e_int)) rfl) a3 (fun h => by cases h) (fun _ Hk4 H4 g4 a4 => ?_)
    refine s_ifB (b := false) (tb_is (tb_test (e_eqDI (e_var rfl) e_int)) rfl) a4 (fun h => by cases h) (fun _ Hk5 H5 g5 a5 => ?_)
    refine s_ifB (b := false) (tb_is (tb_test (e_eqDI (e_var rfl) e_int)) rfl) a5 (fun h => by cases h) (fun _ Hk6 H6 g6 a6 => ?_)
    refine s_ifB (b := true) (tb_is (tb_test (e_eqDI (e_var rfl) e_int)) rfl) a6 (fun _ Hk7 H7 g7 a7 => ?_) (fun h => by cases h)
    exact s_dropR (rs_call (c := 0) (B := B_rule_length_modulo K) (ae_cons (e_var rfl) (ae_cons (e_var rfl) ae_nil)) fun sls es => by subst es; exact h) a7 (Nat.le_refl _) (fin_w fin (Nat.le_refl _))
  | 7, [a, b, d, e], h =>
    refine q_asgL4 (d1 := a) (d2 := b) (d3 := d) (d4 := e) (e_var rfl) hA fun σ0 Hk0 H0 g0 a0 => ?_
    refine s_ifB (b := false) (tb_is (tb_test (e_eqDI (e_var rfl) e_int)) rfl) a0 (fun h => by cases h) (fun _ Hk1 H1 g1 a1 => ?_)
    refine s_ifB (b := false) (tb_is (tb_test (e_eqDI (e_var rfl) e_int)) rfl) a1 (fun h => by cases h) (fun _ Hk2 H2 g2 a2 => ?_)
    refine s_ifB (b := false) (tb_is (tb_test (e_eqDI (e_var rfl) e_int)) rfl) a2 (fun h => by cases h) (fun _ Hk3 H3 g3 a3 => ?_)
    refine s_ifB (b := false) (tb_is (tb_test (e_eqDI (e_var rfl) e_int)) rfl) a3 (fun h => by cases h) (fun _ Hk4 H4 g4 a4 => ?_)
    refine s_ifB (b := false) (tb_is (tb_test (e_eqDI (e_var rfl) e_int)) rfl) a4 (fun h => by cases h) (fun _ Hk5 H5 g5 a5 => ?_)
    refine s_ifB (b := false) (tb_is (tb_test (e_eqDI (e_var rfl) e_int)) rfl) a5 (fun h => by cases h) (fun _ Hk6 H6 g6 a6 => ?_)
    refine s_ifB (b := false) (tb_is (tb_test (e_eqDI (e_var rfl) e_int)) rfl) a6 (fun h => by cases h) (fun _ Hk7 H7 g7 a7 => ?_)
    refine s_ifB (b := true) (tb_is (tb_test (e_eqDI (e_var rfl) e_int)) rfl) a7 (fun _ Hk8 H8 g8 a8 => ?_) (fun h => by cases h)
    exact s_dropR (rs_callK (B := B_rule_length_modulo K) (rs := [.dat (e), .dat (b)]) ae_nil (ae_cons (e_var rfl) (ae_cons (e_var rfl) ae_nil)) (fun H vs zs h1 h2 => v_kb_rule_length_modulo_0_prime_sums vs zs h1 h2) (show B_rule_length_modulo K q [.dat (e), .dat (b)] 0 x from h)) a8 (Nat.le_refl _) (fin_w fin (Nat.le_refl _))
  | 8, [a, b, d, e], h =>
    refine q_asgL4 (d1 := a) (d2 := b) (d3 := d) (d4 := e) (e_var rfl) hA fun σ0 Hk0 H0 g0 a0 => ?_
    refine s_ifB (b := false) (tb_is (tb_test (e_eqDI (e_var rfl) e_int)) rfl) a0 (fun h => by cases h) (fun _ Hk1 H1 g1 a1 => ?_)
    refine s_ifB (b := false) (tb_is (tb_test (e_eqDI (e_var rfl) e_int)) rfl) a1 (fun h => by cases h) (fun _ Hk2 H2 g2 a2 => ?_)
    refine s_ifB (b := false) (tb_is (tb_test (e_eqDI (e_var rfl) e_int)) rfl) a2 (fun h => by cases h) (fun _ Hk3 H3 g3 a3 => ?_)
    refine s_ifB (b := false) (tb_is (tb_test (e_eqDI (e_var rfl) e_int)) rfl) a3 (fun h => by cases h) (fun _ Hk4 H4 g4 a4 => ?_)
    refine s_ifB (b := false) (tb_is (tb_test (e_eqDI (e_var rfl) e_int)) rfl) a4 (fun h => by cases h) (fun _ Hk5 H5 g5 a5 => ?_)
    refine s_ifB (b := false) (tb_is (tb_test (e_eqDI (e_var rfl) e_int)) rfl) a5 (fun h => by cases h) (fun _ Hk6 H6 g6 a6 => ?_)
    refine s_ifB (b := false) (tb_is (tb_test (e_eqDI (e_var rfl) e_int)) rfl) a6 (fun h => by cases h) (fun _ Hk7 H7 g7 a7 => ?_)
    refine s_ifB (b := false) (tb_is (tb_test (e_eqDI (e_var rfl) e_int)) rfl) a7 (fun h => by cases h) (fun _ Hk8 H8 g8 a8 => ?_)
    refine s_ifB (b := true) (tb_is (tb_test (e_eqDI (e_var rfl) e_int)) rfl) a8 (fun _ Hk9 H9 g9 a9 => ?_) (fun h => by cases h)
    exact s_dropR (rs_call (c := 0) (B := B_all_told K) (ae_cons (e_var rfl) (ae_cons (e_var rfl) ae_nil)) fun sls es => by subst es; exact h) a9 (Nat.le_refl _) (fin_w fin (Nat.le_refl _))
  | 9, [a, b, d, e], h =>
    refine q_asgL4 (d1 := a) (d2 := b) (d3 := d) (d4 := e) (e_var rfl) hA fun σ0 Hk0 H0 g0 a0 => ?_
    refine s_ifB (b := false) (tb_is (tb_test (e_eqDI (e_var rfl) e_int)) rfl) a0 (fun h => by cases h) (fun _ Hk1 H1 g1 a1 => ?_)
    refine s_ifB (b := false) (tb_is (tb_test (e_eqDI (e_var rfl) e_int)) rfl) a1 (fun h => by cases h) (fun _ Hk2 H2 g2 a2 => ?_)
    refine s_ifB (b := false) (tb_is (tb_test (e_eqDI (e_var rfl) e_int)) rfl) a2 (fun h => by cases h) (fun _ Hk3 H3 g3 a3 => ?_)
    refine s_ifB (b := false) (tb_is (tb_test (e_eqDI (e_var rfl) e_int)) rfl) a3 (fun h => by cases h) (fun _ Hk4 H4 g4 a4 => ?_)
    refine s_ifB (b := false) (tb_is (tb_test (e_eqDI (e_var rfl) e_int)) rfl) a4 (fun h => by cases h) (fun _ Hk5 H5 g5 a5 => ?_)
    refine s_ifB (b := false) (tb_is (tb_test (e_eqDI (e_var rfl) e_int)) rfl) a5 (fun h => by cases h) (fun _ Hk6 H6 g6 a6 => ?_)
    refine s_ifB (b := false) (tb_is (tb_test (e_eqDI (e_var rfl) e_int)) rfl) a6 (fun h => by cases h) (fun _ Hk7 H7 g7 a7 => ?_)
    refine s_ifB (b := false) (tb_is (tb_test (e_eqDI (e_var rfl) e_int)) rfl) a7 (fun h => by cases h) (fun _ Hk8 H8 g8 a8 => ?_)
    refine s_ifB (b := false) (tb_is (tb_test (e_eqDI (e_var rfl) e_int)) rfl) a8 (fun h => by cases h) (fun _ Hk9 H9 g9 a9 => ?_)
    exact s_dropR (rs_callK (B := B_all_told K) (rs := [.dat (e), .dat (b)]) ae_nil (ae_cons (e_var rfl) (ae_cons (e_var rfl) ae_nil)) (fun H vs zs h1 h2 => v_kb_all_told_0_prime_sums vs zs h1 h2) (show B_all_told K q [.dat (e), .dat (b)] 0 x from h)) a9 (Nat.le_refl _) (fin_w fin (Nat.le_refl _))
/-! ### _law_told -/
def xN : Nat → Str
  | 0 => "InvalidLedger"
  | 1 => "InvalidPrime"
  | 2 => "InvalidNumber"
  | 3 => "InvalidResidues"
  | _ => "OtherLength"
def wN : Option Nat → Str
  | none => "fine"
  | some 0 => "ledger"
  | some 1 => "prime"
  | some 2 => "number"
  | some 3 => "sums"
  | some _ => "length"
def OutC (K : PySem.W.Frag) (w : Nat) (ds : List PyData) : Option Nat → Prop
  | none => GoodC w ds
  | some k => k < 5 ∧ BadC K w ds (xN k)
def R__law_told (K : PySem.W.Frag) : RelX := fun _ sls c Φ => c = 0 ∧ ∃ (w : Nat) (ds : List PyData) (o : Option Nat), OutC K w ds o ∧ sls = [.dat (.int (w : Int)), .dat (.list ds)] ∧ Φ = fun d => d = .str (wN o)
theorem ok__law_told (T : Tx K mg) : FnOk P w K mg base CX0 7 T.a__law_told T.fd__law_told P__law_told (spX (R__law_told K)) := by
  have G__law_call := ok__law_call (P := P) (w := w) (base := base) T
  have U__law_call := fn_or (fn_lift (ok__law_call (P := P) (w := w) (base := base) T)) (ox__law_call (P := P) (w := w) (base := base) T)
  refine fn_ok T.F__law_told sc__law_told (by decide) (fun q sls c Φ h => by obtain ⟨_, w, ds, o, _, rfl, _⟩ := h; rfl) fun cdv A outer s B0 Ew hr => ⟨_,
    (pss_cons (ps_set (i := 2) sc__law_told.nd rfl (Or.inl rfl) (pe_lst pa_nil))
      (pss_cons (ps_try_as (i := 3) rfl rfl sc__law_told.nd rfl rfl ⟨rfl, by decide, .inl T.g_SumsError⟩ takes0 (fun W pn xe tk _ => (pss_one (ps_expr (pe_callS U__law_call (hr.mono (by decide)) (by rfl) T.m__law_call T.F__law_call.kp T.b__law_call (fun σ => passAt tk σ) (pa_cons (pv 0) (pa_cons (pv 1) pa_nil)))))) (fun a oe cls d pn hz hf => (pss_cons (ps_set (i := 2) sc__law_told.nd rfl (Or.inl rfl) (pe_lst (pa_cons (pe_callB (call_isEG hz hf) (by rfl) T.z_isinstance (by decide +kernel) (pa_cons (pv 3) (pa_cons (pe_glob (v := .ref T.e_InvalidLedger) (by rfl) T.g_InvalidLedger rfl) pa_nil))) (pa_cons (pe_callB (call_isEG hz hf) (by rfl) T.z_isinstance (by decide +kernel) (pa_cons (pv 3) (pa_cons (pe_glob (v := .ref T.e_InvalidPrime) (by rfl) T.g_InvalidPrime rfl) pa_nil))) (pa_cons (pe_callB (call_isEG hz hf) (by rfl) T.z_isinstance (by decide +kernel) (pa_cons (pv 3) (pa_cons (pe_glob (v := .ref T.e_InvalidNumber) (by rfl) T.g_InvalidNumber rfl) pa_nil))) pa_nil)))))
      (pss_one (ps_set (i := 2) sc__law_told.nd rfl (Or.inl rfl) (pe_op (k_addU (K := K) rfl) (pv 2) (pe_lst (pa_cons (pe_callB (call_isEG hz hf) (by rfl) T.z_isinstance (by decide +kernel) (pa_cons (pv 3) (pa_cons (pe_glob (v := .ref T.e_InvalidResidues) (by rfl) T.g_InvalidResidues rfl) pa_nil))) (pa_cons (pe_callB (call_isEG hz hf) (by rfl) T.z_isinstance (by decide +kernel) (pa_cons (pv 3) (pa_cons (pe_glob (v := .ref T.e_OtherLength) (by rfl) T.g_OtherLength rfl) pa_nil))) (pa_cons (pe_callB (call_isEG hz hf) (by rfl) T.z_isinstance (by decide +kernel) (pa_cons (pv 3) (pa_cons (pe_bltn (v := .ty "ValueError") (by rfl) T.z_ValueError (by decide +kernel) rfl) pa_nil))) pa_nil))))))))))
      (pss_cons (ps_if (pt_cmpR (k_eqD (K := K) rfl hr.units) (pv 2) (pe_lst pa_nil) (nomark _)) (pss_one (ps_ret pe_str)) pss_nil)
      (pss_cons (ps_if (PW.pt (pw_or (pt_cmpR (k_neD (K := K) rfl hr.units) (pe_bm PySem.F.plainAttrs_list PySem.F.slot_list_count PySem.F.type_list_count (k_lcnt (K := K) rfl) (pv 2) (pa_cons pe_bl pa_nil)) pe_int (nomark _)) (pw_or1 (pt_not (pt_val (pe_ix (k_ix (K := K) rfl) (pv 2) pe_int (fun _ _ => rfl))))))) (pss_one (ps_ret pe_str)) pss_nil)
      (pss_one (ps_ret (pe_ix (k_ix (K := K) rfl) (pe_lst (pa_cons pe_str (pa_cons pe_str (pa_cons pe_str (pa_cons pe_str (pa_cons pe_str pa_nil)))))) (pe_bm PySem.F.plainAttrs_list PySem.F.slot_list_index PySem.F.type_list_index (k_index (K := K) rfl) (pv 2) (pa_cons pe_bl pa_nil)) (fun _ _ => rfl)))))))), fun q sls n c Φ A0 σ Q hR hA fin => ?_⟩
  obtain ⟨rfl, w, ds, o, h, rfl, rfl⟩ := hR
  refine q_asgE (d := .list []) (e_lst (ds := []) ae_nil) hA fun σ1 Hk1 H1 g1 a1 => ?_
  refine s_seq ?_
  match o, h with
  | none, h =>
    refine s_drop (j_callUS (R := R__law_call) (c := 0) (Φ := fun d => d = .none) (ae_cons (e_var rfl) (ae_cons (e_var rfl) ae_nil)) fun sls es => ⟨rfl, w, ds, h, es, rfl⟩) a1 fun Hk3 H3 g3 a3 => ?_
    refine q_whenB (b := true) (tb_is (tb_test (e_eqD (d1 := .list []) (d2 := .list []) (e_var rfl) (e_lst (ds := []) ae_nil) rfl rfl)) rfl) a3 (fun _ Hk4 H4 g4 a4 => s_retE e_str a4 (Nat.le_refl _) fin rfl) (fun h => by cases h)
  | some k, ⟨hk, h⟩ =>
    refine s_dropR (rs_callS (c := 0) (B := B__law_call K) (ae_cons (e_var rfl) (ae_cons (e_var rfl) ae_nil)) fun sls es => ⟨rfl, w, ds, h, es⟩) a1 (Nat.le_refl _) fun C hC Hk3 H3 g3 a3 => ?_
    match k, hk with
    | 0, _ =>
      obtain rfl := ref_inj T.g_InvalidLedger hC
      refine w_as (PySem.W.exm_ref T.u_SumsError T.h_SumsError T.t_SumsError T.s_InvalidLedger_SumsError) fun a ha => ?_
      refine q_asgE (i := 2) (d := .list [.bool true, .bool false, .bool false]) (e_lst (ds := [.bool true, .bool false, .bool false]) (ae_cons (e_isX rfl T.E_InvalidLedger (kit_ownT T.h_InvalidLedger T.t_InvalidLedger T.s_InvalidLedger_InvalidLedger)) (ae_cons (e_isX rfl T.E_InvalidLedger (kit_ownF T.h_InvalidPrime T.t_InvalidPrime T.s_InvalidPrime_InvalidPrime T.s_InvalidLedger_InvalidPrime)) (ae_cons (e_isX rfl T.E_InvalidLedger (kit_ownF T.h_InvalidNumber T.t_InvalidNumber T.s_InvalidNumber_InvalidNumber T.s_InvalidLedger_InvalidNumber)) ae_nil)))) (a3.bound (i := 3) (a := a)) fun σ4 Hk4 H4 g4 a4 => ?_
      refine s_asgE (i := 2) (d := .list [.bool true, .bool false, .bool false, .bool false, .bool false, .bool true]) (e_catL (ds := [.bool true, .bool false, .bool false]) (es := [.bool false, .bool false, .bool true]) (e_var rfl) (e_lst (ds := [.bool false, .bool false, .bool true]) (ae_cons (e_isX rfl T.E_InvalidLedger (kit_ownF T.h_InvalidResidues T.t_InvalidResidues T.s_InvalidResidues_InvalidResidues T.s_InvalidLedger_InvalidResidues)) (ae_cons (e_isX rfl T.E_InvalidLedger (kit_ownF T.h_OtherLength T.t_OtherLength T.s_OtherLength_OtherLength T.s_InvalidLedger_OtherLength)) (ae_cons (e_isE rfl T.E_InvalidLedger T.v_InvalidLedger) ae_nil)))) (by simp)) a4 fun σ6 Hk6 H6 g6 a6 => ?_
      have a7 := a6.unbound (i := 3)
      refine q_whenB (b := false) (tb_is (tb_test (e_eqD (d1 := .list [.bool true, .bool false, .bool false, .bool false, .bool false, .bool true]) (d2 := .list []) (e_var rfl) (e_lst (ds := []) ae_nil) rfl rfl)) rfl) a7 (fun h => by cases h) (fun _ Hk8 H8 g8 a8 => ?_)
      refine q_whenB (b := false) (tb_is (tb_or (a := false) (b := false) (tb_is (tb_test (e_neDI (e_is (e_countB (bs := [true, false, false, false, false, true]) (b := true) (e_var rfl) e_bl) (d1 := .int 2) rfl) e_int)) rfl) fun _ => tb_is (tb_not (tb_B (e_iL (ds := [.bool true, .bool false, .bool false, .bool false, .bool false, .bool true]) (d := .bool true) (e_var rfl) e_int rfl))) rfl) rfl) a8 (fun h => by cases h) (fun _ Hk9 H9 g9 a9 => ?_)
      exact s_retE (e_iL (ds := [.str "ledger", .str "prime", .str "number", .str "sums", .str "length"]) (d := .str "ledger") (e_lst (ds := [.str "ledger", .str "prime", .str "number", .str "sums", .str "length"]) (ae_cons e_str (ae_cons e_str (ae_cons e_str (ae_cons e_str (ae_cons e_str ae_nil)))))) (e_indexB (bs := [true, false, false, false, false, true]) (b := true) (j := 0) (e_var rfl) e_bl rfl (by decide)) rfl) a9 (Nat.le_refl _) fin rfl
    | 1, _ =>
      obtain rfl := ref_inj T.g_InvalidPrime hC
      refine w_as (PySem.W.exm_ref T.u_SumsError T.h_SumsError T.t_SumsError T.s_InvalidPrime_SumsError) fun a ha => ?_
      refine q_asgE (i := 2) (d := .list [.bool false, .bool true, .bool false]) (e_lst (ds := [.bool false, .bool true, .bool false]) (ae_cons (e_isX rfl T.E_InvalidPrime (kit_ownF T.h_InvalidLedger T.t_InvalidLedger T.s_InvalidLedger_InvalidLedger T.s_InvalidPrime_InvalidLedger)) (ae_cons (e_isX rfl T.E_InvalidPrime (kit_ownT T.h_InvalidPrime T.t_InvalidPrime T.s_InvalidPrime_InvalidPrime)) (ae_cons (e_isX rfl T.E_InvalidPrime (kit_ownF T.h_InvalidNumber T.t_InvalidNumber T.s_InvalidNumber_InvalidNumber T.s_InvalidPrime_InvalidNumber)) ae_nil)))) (a3.bound (i := 3) (a := a)) fun σ4 Hk4 H4 g4 a4 => ?_
      refine s_asgE (i := 2) (d := .list [.bool false, .bool true, .bool false, .bool false, .bool false, .bool true]) (e_catL (ds := [.bool false, .bool true, .bool false]) (es := [.bool false, .bool false, .bool true]) (e_var rfl) (e_lst (ds := [.bool false, .bool false, .bool true]) (ae_cons (e_isX rfl T.E_InvalidPrime (kit_ownF T.h_InvalidResidues T.t_InvalidResidues T.s_InvalidResidues_InvalidResidues T.s_InvalidPrime_InvalidResidues)) (ae_cons (e_isX rfl T.E_InvalidPrime (kit_ownF T.h_OtherLength T.t_OtherLength T.s_OtherLength_OtherLength T.s_InvalidPrime_OtherLength)) (ae_cons (e_isE rfl T.E_InvalidPrime T.v_InvalidPrime) ae_nil)))) (by simp)) a4 fun σ6 Hk6 H6 g6 a6 => ?_
      have a7 := a6.unbound (i := 3)
      refine q_whenB (b := false) (tb_is (tb_test (e_eqD (d1 := .list [.bool false, .bool true, .bool false, .bool false, .bool false, .bool true]) (d2 := .list []) (e_var rfl) (e_lst (ds := []) ae_nil) rfl rfl)) rfl) a7 (fun h => by cases h) (fun _ Hk8 H8 g8 a8 => ?_)
      refine q_whenB (b := false) (tb_is (tb_or (a := false) (b := false) (tb_is (tb_test (e_neDI (e_is (e_countB (bs := [false, true, false, false, false, true]) (b := true) (e_var rfl) e_bl) (d1 := .int 2) rfl) e_int)) rfl) fun _ => tb_is (tb_not (tb_B (e_iL (ds := [.bool false, .bool true, .bool false, .bool false, .bool false, .bool true]) (d := .bool true) (e_var rfl) e_int rfl))) rfl) rfl) a8 (fun h => by cases h) (fun _ Hk9 H9 g9 a9 => ?_)
      exact s_retE (e_iL (ds := [.str "ledger", .str "prime", .str "number", .str "sums", .str "length"]) (d := .str "prime") (e_lst (ds := [.str "ledger", .str "prime", .str "number", .str "sums", .str "length"]) (ae_cons e_str (ae_cons e_str (ae_cons e_str (ae_cons e_str (ae_cons e_str ae_nil)))))) (e_indexB (bs := [false, true, false, false, false, true]) (b := true) (j := 1) (e_var rfl) e_bl rfl (by decide)) rfl) a9 (Nat.le_refl _) fin rfl
    | 2, _ =>
      obtain rfl := ref_inj T.g_InvalidNumber hC
      refine w_as (PySem.W.exm_ref T.u_SumsError T.h_SumsError T.t_SumsError T.s_InvalidNumber_SumsError) fun a ha => ?_
      refine q_asgE (i := 2) (d := .list [.bool false, .bool false, .bool true]) (e_lst (ds := [.bool false, .bool false, .bool true]) (ae_cons (e_isX rfl T.E_InvalidNumber (kit_ownF T.h_InvalidLedger T.t_InvalidLedger T.s_InvalidLedger_InvalidLedger T.s_InvalidNumber_InvalidLedger)) (ae_cons (e_isX rfl T.E_InvalidNumber (kit_ownF T.h_InvalidPrime T.t_InvalidPrime T.s_InvalidPrime_InvalidPrime T.s_InvalidNumber_InvalidPrime)) (ae_cons (e_isX rfl T.E_InvalidNumber (kit_ownT T.h_InvalidNumber T.t_InvalidNumber T.s_InvalidNumber_InvalidNumber)) ae_nil)))) (a3.bound (i := 3) (a := a)) fun σ4 Hk4 H4 g4 a4 => ?_
      refine s_asgE (i := 2) (d := .list [.bool false, .bool false, .bool true, .bool false, .bool false, .bool true]) (e_catL (ds := [.bool false, .bool false, .bool true]) (es := [.bool false, .bool false, .bool true]) (e_var rfl) (e_lst (ds := [.bool false, .bool false, .bool true]) (ae_cons (e_isX rfl T.E_InvalidNumber (kit_ownF T.h_InvalidResidues T.t_InvalidResidues T.s_InvalidResidues_InvalidResidues T.s_InvalidNumber_InvalidResidues)) (ae_cons (e_isX rfl T.E_InvalidNumber (kit_ownF T.h_OtherLength T.t_OtherLength T.s_OtherLength_OtherLength T.s_InvalidNumber_OtherLength)) (ae_cons (e_isE rfl T.E_InvalidNumber T.v_InvalidNumber) ae_nil)))) (by simp)) a4 fun σ6 Hk6 H6 g6 a6 => ?_
      have a7 := a6.unbound (i := 3)
      refine q_whenB (b := false) (tb_is (tb_test (e_eqD (d1 := .list [.bool false, .bool false, .bool true, .bool false, .bool false, .bool true]) (d2 := .list []) (e_var rfl) (e_lst (ds := []) ae_nil) rfl rfl)) rfl) a7 (fun h => by cases h) (fun _ Hk8 H8 g8 a8 => ?_)
      refine q_whenB (b := false) (tb_is (tb_or (a := false) (b := false) (tb_is (tb_test (e_neDI (e_is (e_countB (bs := [false, false, true, false, false, true]) (b := true) (e_var rfl) e_bl) (d1 := .int 2) rfl) e_int)) rfl) fun _ => tb_is (tb_not (tb_B (e_iL (ds := [.bool false, .bool false, .bool true, .bool false, .bool false, .bool true]) (d := .bool true) (e_var rfl) e_int rfl))) rfl) rfl) a8 (fun h => by cases h) (fun _ Hk9 H9 g9 a9 => ?_)
      exact s_retE (e_iL (ds := [.str "ledger", .str "prime", .str "number", .str "sums", .str "length"]) (d := .str "number") (e_lst (ds := [.str "ledger", .str "prime", .str "number", .str "sums", .str "length"]) (ae_cons e_str (ae_cons e_str (ae_cons e_str (ae_cons e_str (ae_cons e_str ae_nil)))))) (e_indexB (bs := [false, false, true, false, false, true]) (b := true) (j := 2) (e_var rfl) e_bl rfl (by decide)) rfl) a9 (Nat.le_refl _) fin rfl
    | 3, _ =>
      obtain rfl := ref_inj T.g_InvalidResidues hC
      refine w_as (PySem.W.exm_ref T.u_SumsError T.h_SumsError T.t_SumsError T.s_InvalidResidues_SumsError) fun a ha => ?_
      refine q_asgE (i := 2) (d := .list [.bool false, .bool false, .bool false]) (e_lst (ds := [.bool false, .bool false, .bool false]) (ae_cons (e_isX rfl T.E_InvalidResidues (kit_ownF T.h_InvalidLedger T.t_InvalidLedger T.s_InvalidLedger_InvalidLedger T.s_InvalidResidues_InvalidLedger)) (ae_cons (e_isX rfl T.E_InvalidResidues (kit_ownF T.h_InvalidPrime T.t_InvalidPrime T.s_InvalidPrime_InvalidPrime T.s_InvalidResidues_InvalidPrime)) (ae_cons (e_isX rfl T.E_InvalidResidues (kit_ownF T.h_InvalidNumber T.t_InvalidNumber T.s_InvalidNumber_InvalidNumber T.s_InvalidResidues_InvalidNumber)) ae_nil)))) (a3.bound (i := 3) (a := a)) fun σ4 Hk4 H4 g4 a4 => ?_
      refine s_asgE (i := 2) (d := .list [.bool false, .bool false, .bool false, .bool true, .bool false, .bool true]) (e_catL (ds := [.bool false, .bool false, .bool false]) (es := [.bool true, .bool false, .bool true]) (e_var rfl) (e_lst (ds := [.bool true, .bool false, .bool true]) (ae_cons (e_isX rfl T.E_InvalidResidues (kit_ownT T.h_InvalidResidues T.t_InvalidResidues T.s_InvalidResidues_InvalidResidues)) (ae_cons (e_isX rfl T.E_InvalidResidues (kit_ownF T.h_OtherLength T.t_OtherLength T.s_OtherLength_OtherLength T.s_InvalidResidues_OtherLength)) (ae_cons (e_isE rfl T.E_InvalidResidues T.v_InvalidResidues) ae_nil)))) (by simp)) a4 fun σ6 Hk6 H6 g6 a6 => ?_
      have a7 := a6.unbound (i := 3)
      refine q_whenB (b := false) (tb_is (tb_test (e_eqD (d1 := .list [.bool false, .bool false, .bool false, .bool true, .bool false, .bool true]) (d2 := .list []) (e_var rfl) (e_lst (ds := []) ae_nil) rfl rfl)) rfl) a7 (fun h => by cases h) (fun _ Hk8 H8 g8 a8 => ?_)
      refine q_whenB (b := false) (tb_is (tb_or (a := false) (b := false) (tb_is (tb_test (e_neDI (e_is (e_countB (bs := [false, false, false, true, false, true]) (b := true) (e_var rfl) e_bl) (d1 := .int 2) rfl) e_int)) rfl) fun _ => tb_is (tb_not (tb_B (e_iL (ds := [.bool false, .bool false, .bool false, .bool true, .bool false, .bool true]) (d := .bool true) (e_var rfl) e_int rfl))) rfl) rfl) a8 (fun h => by cases h) (fun _ Hk9 H9 g9 a9 => ?_)
      exact s_retE (e_iL (ds := [.str "ledger", .str "prime", .str "number", .str "sums", .str "length"]) (d := .str "sums") (e_lst (ds := [.str "ledger", .str "prime", .str "number", .str "sums", .str "length"]) (ae_cons e_str (ae_cons e_str (ae_cons e_str (ae_cons e_str (ae_cons e_str ae_nil)))))) (e_indexB (bs := [false, false, false, true, false, true]) (b := true) (j := 3) (e_var rfl) e_bl rfl (by decide)) rfl) a9 (Nat.le_refl _) fin rfl
    | 4, _ =>
      obtain rfl := ref_inj T.g_OtherLength hC
      refine w_as (PySem.W.exm_ref T.u_SumsError T.h_SumsError T.t_SumsError T.s_OtherLength_SumsError) fun a ha => ?_
      refine q_asgE (i := 2) (d := .list [.bool false, .bool false, .bool false]) (e_lst (ds := [.bool false, .bool false, .bool false]) (ae_cons (e_isX rfl T.E_OtherLength (kit_ownF T.h_InvalidLedger T.t_InvalidLedger T.s_InvalidLedger_InvalidLedger T.s_OtherLength_InvalidLedger)) (ae_cons (e_isX rfl T.E_OtherLength (kit_ownF T.h_InvalidPrime T.t_InvalidPrime T.s_InvalidPrime_InvalidPrime T.s_OtherLength_InvalidPrime)) (ae_cons (e_isX rfl T.E_OtherLength (kit_ownF T.h_InvalidNumber T.t_InvalidNumber T.s_InvalidNumber_InvalidNumber T.s_OtherLength_InvalidNumber)) ae_nil)))) (a3.bound (i := 3) (a := a)) fun σ4 Hk4 H4 g4 a4 => ?_
      refine s_asgE (i := 2) (d := .list [.bool false, .bool false, .bool false, .bool false, .bool true, .bool true]) (e_catL (ds := [.bool false, .bool false, .bool false]) (es := [.bool false, .bool true, .bool true]) (e_var rfl) (e_lst (ds := [.bool false, .bool true, .bool true]) (ae_cons (e_isX rfl T.E_OtherLength (kit_ownF T.h_InvalidResidues T.t_InvalidResidues T.s_InvalidResidues_InvalidResidues T.s_OtherLength_InvalidResidues)) (ae_cons (e_isX rfl T.E_OtherLength (kit_ownT T.h_OtherLength T.t_OtherLength T.s_OtherLength_OtherLength)) (ae_cons (e_isE rfl T.E_OtherLength T.v_OtherLength) ae_nil)))) (by simp)) a4 fun σ6 Hk6 H6 g6 a6 => ?_
      have a7 := a6.unbound (i := 3)
      refine q_whenB (b := false) (tb_is (tb_test (e_eqD (d1 := .list [.bool false, .bool false, .bool false, .bool false, .bool true, .bool true]) (d2 := .list []) (e_var rfl) (e_lst (ds := []) ae_nil) rfl rfl)) rfl) a7 (fun h => by cases h) (fun _ Hk8 H8 g8 a8 => ?_)
      refine q_whenB (b := false) (tb_is (tb_or (a := false) (b := false) (tb_is (tb_test (e_neDI (e_is (e_countB (bs := [false, false, false, false, true, true]) (b := true) (e_var rfl) e_bl) (d1 := .int 2) rfl) e_int)) rfl) fun _ => tb_is (tb_not (tb_B (e_iL (ds := [.bool false, .bool false, .bool false, .bool false, .bool true, .bool true]) (d := .bool true) (e_var rfl) e_int rfl))) rfl) rfl) a8 (fun h => by cases h) (fun _ Hk9 H9 g9 a9 => ?_)
      exact s_retE (e_iL (ds := [.str "ledger", .str "prime", .str "number", .str "sums", .str "length"]) (d := .str "length") (e_lst (ds := [.str "ledger", .str "prime", .str "number", .str "sums", .str "length"]) (ae_cons e_str (ae_cons e_str (ae_cons e_str (ae_cons e_str (ae_cons e_str ae_nil)))))) (e_indexB (bs := [false, false, false, false, true, true]) (b := true) (j := 4) (e_var rfl) e_bl rfl (by decide)) rfl) a9 (Nat.le_refl _) fin rfl
/-! ### _law_small_right -/
theorem wN_shaped : ∀ o : Option Nat, SeqAt.shaped (.str (wN o)) = true
  | none => by decide +kernel
  | some 0 => by decide +kernel
  | some 1 => by decide +kernel
  | some 2 => by decide +kernel
  | some 3 => by decide +kernel
  | some (_ + 4) => by
    show SeqAt.shaped (.str "length") = true
    decide +kernel
theorem wN_self : ∀ o : Option Nat, (!PyData.eqv (.str (wN o)) (.str (wN o))) = false
  | none => by decide +kernel
  | some 0 => by decide +kernel
  | some 1 => by decide +kernel
  | some 2 => by decide +kernel
  | some 3 => by decide +kernel
  | some (_ + 4) => by
    show (!PyData.eqv (.str "length") (.str "length")) = false
    decide +kernel
theorem led1 : Led [((3 : Int), (1 : Int))] := ⟨List.pairwise_singleton _ _, fun x hx => by rw [List.mem_singleton.mp hx]; decide⟩
def R__law_small_right (K : PySem.W.Frag) : RelX := fun _ sls c Φ => c = 0 ∧ ∃ ns : List Int, (∀ m : Nat, m < 500 → (ns.any (· == (m : Int)) = true → primed m) ∧ (ns.any (· == (m : Int)) = false → PrJ (.int (m : Int)) false)) ∧ sls = [.dat (.list (ns.map .int))] ∧ Φ = fun d => d = .bool true
theorem ok__law_small_right (T : Tx K mg) : FnOk P w K mg base CX0 8 T.a__law_small_right T.fd__law_small_right P__law_small_right (spX (R__law_small_right K)) := by
  have G__law_told := ok__law_told (P := P) (w := w) (base := base) T
  refine fn_ok T.F__law_small_right sc__law_small_right (by decide) (fun q sls c Φ h => by obtain ⟨_, ns, _, rfl, _⟩ := h; rfl) fun cdv A outer s B0 Ew hr => ⟨_,
    (pss_cons (ps_for PassesOwn.never rfl (pi_range1 rfl T.z_range (pa_cons pe_int pa_nil)) (pg_name (i := 1) sc__law_small_right.nd rfl (Or.inl rfl)) (pss_one (ps_if (pt_cmpR (k_neD (K := K) rfl hr.units) (pe_call G__law_told (hr.mono (by decide)) (by rfl) T.m__law_told T.F__law_told.kp T.b__law_told .nil pass0 (pa_cons pe_int (pa_cons (pe_lst (pa_cons (Cr.pe_tup (pa_cons (Cr.pe_tup (pa_cons pe_int (pa_cons pe_int pa_nil))) pa_nil)) (pa_cons (pv 1) (pa_cons pe_int (pa_cons (Cr.pe_tup (pa_cons pe_int pa_nil)) pa_nil))))) pa_nil))) (pe_ifExp (pt_cmpR (k_inI (K := K) rfl) (pv 1) (pv 0) rfl) pe_str pe_str) (nomark _)) (pss_one (ps_ret pe_bl)) pss_nil)))
      (pss_one (ps_ret pe_bl))), fun q sls n c Φ A0 σ Q hR hA fin => ?_⟩
  obtain ⟨rfl, ns, hns, rfl, rfl⟩ := hR
  refine q_for (n := n) (c := 0) (ie_rng1 (j := 500) e_int (by omega) (by omega)) hA fun items HkW H2 e g2 a2 => ?_
  subst e
  refine ⟨fun i σ' Hk' H' => Same HkW Hk' ∧ At q n [.dat (.list (ns.map .int)), .any] A0 B0 σ' Hk' H', ⟨Same.refl _, a2⟩, fun i σ' Hk' H' h => ⟨h.1, h.2.ok.a⟩, ?_, ?_⟩
  · rintro i d σ' Hk' H' ed ⟨h2, st⟩ v Hk3 H3 g3 dv
    obtain ⟨hi', rfl⟩ := rng_get' ed
    have hi : i < 500 := hi'
    refine gb_name (vs := [1]) (by simp) σ' Hk3 H3 v (st.sg.mono g3.k) g3.a dv _ fun σ4 sg4 _ _ => ?_
    have st4 : At q n [.dat (.list (ns.map .int)), .dat (.int (0 + (i : Int)))] A0 B0 σ4 Hk3 H3 := ⟨st.ok.go g3, sg4, st.gr.trans g3.none_to⟩
    have ei : (0 : Int) + (i : Int) = (i : Int) := Int.zero_add _
    obtain ⟨hy, hn⟩ := hns i hi
    have hb : GB (led [(3, 1)]) := ⟨[(3, 1)], led1, by decide, rfl⟩
    obtain ⟨o, ho, hw⟩ : ∃ o : Option Nat, OutC K 1 [led [(3, 1)], .int (0 + (i : Int)), .int 1, .tuple [.int 1]] o ∧ wN o = (if ns.any (· == (i : Int)) then "fine" else "prime") := by
      rw [ei]
      cases e : ns.any (· == (i : Int)) with
      | true => exact ⟨none, (show GoodC 1 [led [(3, 1)], .int (i : Int), .int 1, .tuple [.int 1]] from ⟨hb, i, hy e, rfl⟩), rfl⟩
      | false => exact ⟨some 1, ⟨by decide, (show B_reduced K none [.dat (led [(3, 1)]), .dat (.int (i : Int))] 0 (xN 1) from ⟨rfl, _, _, Odd.of (short_tup (by decide)) (deep_led 2 _), rfl, .inr ⟨led_isLed led1, ⟨.inl rfl, hn e⟩, rfl⟩⟩)⟩, rfl⟩
    refine s_ifNo (tb_is (tb_test (e_neD (d1 := .str (wN o)) (d2 := .str (wN o)) (j_call (R := R__law_told K) (c := 0) (Φ := fun d => d = .str (wN o)) (ae_cons (d := .int ((1 : Nat) : Int)) e_int (ae_cons (d := .list [led [(3, 1)], .int (0 + (i : Int)), .int 1, .tuple [.int 1]]) (e_lst (ds := [led [(3, 1)], .int (0 + (i : Int)), .int 1, .tuple [.int 1]]) (ae_cons (e_tup (ds := [pr (3, 1)]) (ae_cons (e_pr e_int e_int) ae_nil)) (ae_cons (e_var rfl) (ae_cons e_int (ae_cons (e_tup (ds := [.int 1]) (ae_cons e_int ae_nil)) ae_nil))))) ae_nil)) fun sls e => ⟨rfl, 1, _, o, ho, e, rfl⟩) (e_is (e_if (b := ns.any (· == (i : Int))) (d := .str (wN o)) (tb_test (e_is (e_inI (i := 0 + (i : Int)) (ns := ns) (e_var rfl) (e_var rfl)) (by rw [ei]))) (fun h => ?_) (fun h => ?_)) rfl) (wN_shaped _) (wN_shaped _))) (by rw [wN_self])) st4 fun Hk5 H5 g5 a5 => ⟨Hk5, (h2.trans g3.k).trans g5.k, a5.forget 1⟩
    · rw [hw, if_pos h]; exact e_str
    · rw [hw, if_neg (by rw [h]; decide)]; exact e_str
  · rintro σ' Hk' H' ⟨h2, st⟩
    exact s_retE (d := .bool true) e_bl st (Nat.le_refl _) fin rfl
/-! ### Ledger__init__ -/
theorem ok_Ledger__init__ (T : Tx K mg) : FnOk P w K mg base CX0 5 T.a_Ledger__init__ T.fd_Ledger__init__ P_Ledger__init__ (spI T.C_Ledger "_pairs" (fun d => ∃ l, Led l ∧ l.length ≤ 100000 ∧ d = led l)) := by
  have G_check_ledger := ok_check_ledger (P := P) (w := w) (base := base) T
  refine init_ok rfl rfl T.F_Ledger__init__ sc_Ledger__init__ T.cl_Ledger T.n_Ledger (fun cdv A outer s B0 E hr => (pss_cons (ps_expr (pe_call G_check_ledger (hr.mono (by decide)) (by rfl) T.m_check_ledger T.F_check_ledger.kp T.b_check_ledger .nil pass0 (pa_cons (pv 1) pa_nil)))
      (pss_one (ps_fld (pv 0) (pv 1) rfl)))) fun q δ d hd h1 => ?_
  obtain ⟨l, hL, hl, rfl⟩ := hd
  exact j_call (R := R_check_ledger) (c := 0) (ae_cons (e_var h1) ae_nil) fun sls e => ⟨rfl, l, hL, hl, e, rfl⟩
/-! ### _law_no_book -/
def NoB (K : PySem.W.Frag) (d : PyData) : Prop := isLedD d = false ∧ Odd K d
theorem noB_cut {K : PySem.W.Frag} {l : List (Int × Int)} (hl : l.length ≤ 400) {a b : Nat} {d : PyData} (h : ∀ y : Int × Int, y.2 ≠ 0 → d ≠ pr y) (hd : deep 1 d = true) : NoB K (.tuple ((pd l).take a ++ [d] ++ (pd l).drop b)) := ⟨no_led (d := d) (by simp) h, Odd.of (short_cut (by rw [pd_len]; omega)) (deep_cut (deep_pd 1 l) hd)⟩
/-- a pair put behind one that is not below it -/
theorem noB_put {K : PySem.W.Frag} {l : List (Int × Int)} (hl : l.length ≤ 400) {s : Nat} {v u : Int × Int} (hv : l[s]? = some v) (h : ¬ v.1 < u.1) : NoB K (.tuple ((pd l).take (s + 1) ++ [pr u] ++ (pd l).drop (s + 1))) := by
  refine ⟨?_, Odd.of (short_cut (by rw [pd_len]; omega)) (deep_cut (deep_pd 1 l) (deep_pr 1 u))⟩
  have e1 : (pd l).take (s + 1) = (pd l).take s ++ [pr v] := by
    rw [List.take_add_one]
    congr 1
    unfold pd
    rw [List.getElem?_map, hv]
    rfl
  rw [e1]
  have := no_led2 (A := (pd l).take s) (B := (pd l).drop (s + 1)) (u := v) (v := u) h
  simpa using this
theorem noB_rot {K : PySem.W.Frag} {l : List (Int × Int)} (hL : Led l) (hl : l.length ≤ 400) (h : 1 < l.length) : NoB K (.tuple ((pd l).drop 1 ++ (pd l).take 1)) := by
  refine ⟨?_, Odd.of (short_tup (by rw [List.length_append, List.length_drop, List.length_take, pd_len]; omega)) ?_⟩
  · match l, h with
    | x :: y :: t, _ =>
      obtain ⟨A, z, e⟩ : ∃ A z, y :: t = A ++ [z] := ⟨_, _, (List.dropLast_concat_getLast (by simp)).symm⟩
      have hz : z ∈ y :: t := by rw [e]; simp
      have hxz : x.1 < z.1 := (List.pairwise_cons.mp hL.1).1 z hz
      have := no_led2 (A := pd A) (B := []) (u := z) (v := x) (by omega)
      have e2 : (pd (x :: y :: t)).drop 1 ++ (pd (x :: y :: t)).take 1 = pd A ++ [pr z, pr x] ++ [] := by
        show pd (y :: t) ++ [pr x] = _
        rw [e]
        unfold pd
        simp
      rw [e2]
      exact this
  · show ((pd l).drop 1 ++ (pd l).take 1).all (deep 1) = true
    have := List.all_eq_true.mp (deep_pd 1 l)
    rw [List.all_append, List.all_eq_true.mpr fun x hx => this x (List.mem_of_mem_drop hx), List.all_eq_true.mpr fun x hx => this x (List.mem_of_mem_take hx)]
    rfl
theorem noB_swap {K : PySem.W.Frag} {l : List (Int × Int)} (hL : Led l) (hl : l.length ≤ 400) {s : Nat} {u v : Int × Int} (eu : l[s]? = some u) (ev : l[s + 1]? = some v) : NoB K (.tuple ((pd l).take s ++ [pr v, pr u] ++ (pd l).drop (s + 2))) := by
  have huv : u.1 < v.1 := led_lt2 hL eu ev (by omega)
  refine ⟨no_led2 (by omega), Odd.of (short_tup (by rw [List.length_append, List.length_append, List.length_take, List.length_drop, pd_len]; simp; omega)) ?_⟩
  show ((pd l).take s ++ [pr v, pr u] ++ (pd l).drop (s + 2)).all (deep 1) = true
  rw [List.all_append, List.all_append]
  have := List.all_eq_true.mp (deep_pd 1 l)
  rw [List.all_eq_true.mpr fun x hx => this x (List.mem_of_mem_take hx), List.all_eq_true.mpr fun x hx => this x (List.mem_of_mem_drop hx)]
  simp [deep_pr]
def bads7 (y : Int) : List PyData := [pr (y, 1), pr (y + 1, 0), .tuple [.int (y + 1), .bool true], .tuple [.none, .int 1], .tuple [.int (y + 1), .str "1"], .tuple [.bool true, .int 1], .none]
theorem bads7_no {y : Int} {d : PyData} (h : d ∈ bads7 y) (h1 : d ≠ pr (y, 1)) : (∀ z : Int × Int, z.2 ≠ 0 → d ≠ pr z) ∧ deep 1 d = true := by
  simp only [bads7, List.mem_cons, List.not_mem_nil, or_false] at h
  rcases h with rfl | rfl | rfl | rfl | rfl | rfl | rfl
  · exact absurd rfl h1
  · exact ⟨(fun z hz e => hz (by have e3 := (List.cons.inj (List.cons.inj (PyData.tuple.inj e)).2).1; injection e3 with e4; exact e4.symm)), deep_pr 1 _⟩
  · exact ⟨(fun z hz e => by have e3 := (List.cons.inj (List.cons.inj (PyData.tuple.inj e)).2).1; cases e3), rfl⟩
  · exact ⟨(fun z hz e => by have e3 := (List.cons.inj (PyData.tuple.inj e)).1; cases e3), rfl⟩
  · exact ⟨(fun z hz e => by have e3 := (List.cons.inj (List.cons.inj (PyData.tuple.inj e)).2).1; cases e3), rfl⟩
  · exact ⟨(fun z hz e => by have e3 := (List.cons.inj (PyData.tuple.inj e)).1; cases e3), rfl⟩
  · exact ⟨(fun z hz e => by cases e), rfl⟩
def R__law_no_book (K : PySem.W.Frag) : RelX := fun q sls c Φ => c = 3 ∧ ∃ (p : Addr) (l : List (Int × Int)), q = some p ∧ Led l ∧ l.length ≤ 400 ∧ sls = [.adr p, .dat (led l)] ∧ Φ = NoB K
theorem ok__law_no_book (T : Tx K mg) : FnOk P w K mg base CX0 7 T.a__law_no_book T.fd__law_no_book P__law_no_book (spX (R__law_no_book K)) := by
  have G_Ledger__init__ := ok_Ledger__init__ (P := P) (w := w) (base := base) T
  have G__law_pick := ok__law_pick (P := P) (w := w) (base := base) T
  refine fn_ok T.F__law_no_book sc__law_no_book (by decide) (fun q sls c Φ h => by obtain ⟨_, p, l, _, _, _, rfl, _⟩ := h; rfl) fun cdv A outer s B0 Ew hr => ⟨_,
    (pss_cons (ps_set (i := 2) sc__law_no_book.nd rfl (Or.inr rfl) (pe_call G__law_pick (hr.mono (by decide)) (by rfl) T.m__law_pick T.F__law_pick.kp T.b__law_pick .nil pass0 (pa_cons (pv 0) (pa_cons (pe_op (k_addU (K := K) rfl) (pe_callB (k_len (K := K) rfl) (by rfl) T.z_len (by decide +kernel) (pa_cons (pv 1) pa_nil)) pe_int) pa_nil))))
      (pss_cons (ps_set (i := 3) sc__law_no_book.nd rfl (Or.inl rfl) (pe_ifExp (pt_cmpR op_gt (pv 2) pe_int (nomark _)) (pe_ix (k_ix (K := K) rfl) (pe_ix (k_ix (K := K) rfl) (pv 1) (pe_op op_sub (pv 2) pe_int) (fun _ _ => rfl)) pe_int (fun _ _ => rfl)) (pe_un un_neg pe_int)))
      (pss_cons (ps_set (i := 4) sc__law_no_book.nd rfl (Or.inl rfl) (pe_lst (pa_cons pe_non (pa_cons pe_int (pa_cons (pe_lst pa_nil) (pa_cons pe_dnewK (pa_cons pe_str (pa_cons pe_bl (pa_cons (pe_callTy (k_lst (K := K) rfl) (by rfl) T.z_list (by decide +kernel) (pa_cons (pv 1) pa_nil)) (pa_cons (pe_make T.M_Ledger G_Ledger__init__ (hr.mono (by decide)) (by rfl) T.m_Ledger T.b_Ledger__init__ .nil pass0 (pa_cons (pv 1) pa_nil)) (pa_cons (Cr.pe_tup (pa_cons (Cr.pe_tup (pa_cons pe_int (pa_cons pe_int (pa_cons pe_int pa_nil)))) pa_nil)) (pa_cons (Cr.pe_tup (pa_cons pe_int pa_nil)) (pa_cons (Cr.pe_tup (pa_cons (Cr.pe_tup (pa_cons pe_int pa_nil)) pa_nil)) (pa_cons (Cr.pe_tup (pa_cons (pe_lst (pa_cons pe_int (pa_cons pe_int pa_nil))) pa_nil)) pa_nil))))))))))))))
      (pss_cons (ps_set (i := 4) sc__law_no_book.nd rfl (Or.inl rfl) (pe_op (k_addU (K := K) rfl) (pv 4) (pe_lst (pa_cons (Cr.pe_tup (pa_cons (Cr.pe_tup (pa_cons pe_int (pa_cons pe_int pa_nil))) (pa_cons (Cr.pe_tup (pa_cons pe_int (pa_cons pe_int pa_nil))) pa_nil))) (pa_cons (Cr.pe_tup (pa_cons (Cr.pe_tup (pa_cons pe_int (pa_cons pe_int pa_nil))) (pa_cons (Cr.pe_tup (pa_cons pe_int (pa_cons pe_int pa_nil))) (pa_cons (Cr.pe_tup (pa_cons pe_int (pa_cons pe_int pa_nil))) pa_nil)))) (pa_cons (Cr.pe_tup (pa_cons (Cr.pe_tup (pa_cons pe_int (pa_cons pe_int pa_nil))) (pa_cons (Cr.pe_tup (pa_cons pe_int (pa_cons pe_int pa_nil))) pa_nil))) pa_nil))))))
      (pss_cons (ps_if (pt_cmpR op_gt (pe_callB (k_len (K := K) rfl) (by rfl) T.z_len (by decide +kernel) (pa_cons (pv 1) pa_nil)) pe_int (nomark _)) (pss_cons (ps_set (i := 5) sc__law_no_book.nd rfl (Or.inl rfl) (pe_call G__law_pick (hr.mono (by decide)) (by rfl) T.m__law_pick T.F__law_pick.kp T.b__law_pick .nil pass0 (pa_cons (pv 0) (pa_cons (pe_op op_sub (pe_callB (k_len (K := K) rfl) (by rfl) T.z_len (by decide +kernel) (pa_cons (pv 1) pa_nil)) pe_int) pa_nil))))
      (pss_one (ps_set (i := 4) sc__law_no_book.nd rfl (Or.inl rfl) (pe_op (k_addU (K := K) rfl) (pv 4) (pe_lst (pa_cons (pe_revT (K := K) rfl (pv 1)) (pa_cons (pe_op (k_addU (K := K) rfl) (pe_op (k_addU (K := K) rfl) (pe_slice (k_sl (K := K) rfl) (pv 1) po_none (po_some (pv 5))) (Cr.pe_tup (pa_cons (pe_ix (k_ix (K := K) rfl) (pv 1) (pe_op (k_addU (K := K) rfl) (pv 5) pe_int) (fun _ _ => rfl)) (pa_cons (pe_ix (k_ix (K := K) rfl) (pv 1) (pv 5) (fun _ _ => rfl)) pa_nil)))) (pe_slice (k_sl (K := K) rfl) (pv 1) (po_some (pe_op (k_addU (K := K) rfl) (pv 5) pe_int)) po_none)) (pa_cons (pe_op (k_addU (K := K) rfl) (pe_slice (k_sl (K := K) rfl) (pv 1) (po_some pe_int) po_none) (pe_slice (k_sl (K := K) rfl) (pv 1) po_none (po_some pe_int))) pa_nil)))))))) pss_nil)
      (pss_cons (ps_set (i := 6) sc__law_no_book.nd rfl (Or.inl rfl) (pe_lst (pa_cons (Cr.pe_tup (pa_cons (pv 3) (pa_cons pe_int pa_nil))) (pa_cons (Cr.pe_tup (pa_cons (pe_op (k_addU (K := K) rfl) (pv 3) pe_int) (pa_cons pe_int pa_nil))) (pa_cons (Cr.pe_tup (pa_cons (pe_op (k_addU (K := K) rfl) (pv 3) pe_int) (pa_cons pe_bl pa_nil))) (pa_cons (Cr.pe_tup (pa_cons pe_non (pa_cons pe_int pa_nil))) (pa_cons (Cr.pe_tup (pa_cons (pe_op (k_addU (K := K) rfl) (pv 3) pe_int) (pa_cons pe_str pa_nil))) (pa_cons (Cr.pe_tup (pa_cons pe_bl (pa_cons pe_int pa_nil))) (pa_cons pe_non pa_nil)))))))))
      (pss_cons (ps_set (i := 4) sc__law_no_book.nd rfl (Or.inl rfl) (pe_op (k_addU (K := K) rfl) (pv 4) (pe_lc (own := [("bad", 7)]) rfl sc__law_no_book.nd (k_piList (K := K) rfl (pe_slice (k_sl (K := K) rfl) (pv 6) (po_some (pe_callTy call_intQ (by rfl) T.z_int (by decide +kernel) (pa_cons (pe_cmpR (k_eqD (K := K) rfl hr.units) (pv 2) pe_int (nomark _)) pa_nil))) po_none)) (blkOk_by (own := [("bad", 7)]) (N := N__law_no_book) (sc := defScope s__law_no_book) (by decide +kernel)) (fun _ _ _ _ _ => (pg_name (i := 7) sc__law_no_book.nd rfl (Or.inl rfl))) (fun _ _ _ _ _ => pts_nil) (fun _ _ _ _ _ => (pe_op (k_addU (K := K) rfl) (pe_op (k_addU (K := K) rfl) (pe_slice (k_sl (K := K) rfl) (pv 1) po_none (po_some (pv 2))) (Cr.pe_tup (pa_cons (pv 7) pa_nil))) (pe_slice (k_sl (K := K) rfl) (pv 1) (po_some (pv 2)) po_none))))))
      (pss_one (ps_ret (pe_ix (k_ix (K := K) rfl) (pv 4) (pe_call G__law_pick (hr.mono (by decide)) (by rfl) T.m__law_pick T.F__law_pick.kp T.b__law_pick .nil pass0 (pa_cons (pv 0) (pa_cons (pe_callB (k_len (K := K) rfl) (by rfl) T.z_len (by decide +kernel) (pa_cons (pv 4) pa_nil)) pa_nil))) (fun _ _ => rfl))))))))))), fun q sls n c Φ A0 σ Q hR hA fin => ?_⟩
  obtain ⟨rfl, p, l, rfl, hL, hl, rfl, rfl⟩ := hR
  have elen : ∀ {δ : List Sl}, δ[1]? = some (.dat (led l)) → E (some p) δ (tCB (rLenQ K) (tCons (tVar 1) tNil)) (.int (l.length : Int)) := fun h => e_is (e_lenT (ds := pd l) (e_var h)) (by rw [pd_len])
  have eat : ∀ {δ : List Sl} {ti : TE} {k : Nat} {y : Int × Int}, δ[1]? = some (.dat (led l)) → E (some p) δ ti (.int (k : Int)) → l[k]? = some y → E (some p) δ (tOp (rIx K) (tVar 1) ti) (pr y) := fun h1 h2 ey => e_iT (ds := pd l) (e_var h1) h2 (atI_nat (by unfold pd; rw [List.getElem?_map, ey]; rfl))
  have t2 : ∀ {δ : List Sl} {ta tb : TE} {a b : PyData}, E (some p) δ ta a → E (some p) δ tb b → E (some p) δ (Cr.tTup (tCons ta (tCons tb tNil))) (.tuple [a, b]) := fun h1 h2 => e_tup (ds := [_, _]) (ae_cons h1 (ae_cons h2 ae_nil))
  refine q_asg (i := 2) (n := n + 2) (c := 1) (Φ := IntP fun x => 0 ≤ x ∧ x < (l.length : Int) + 1) (j_pick rfl (e_addI (elen rfl) e_int) (by omega) (by omega)) hA fun d σ1 Hk1 H1 ⟨x, hx, ed⟩ g1 a1 => ?_
  subst ed
  obtain ⟨s, rfl⟩ : ∃ s : Nat, x = (s : Int) := ⟨x.toNat, by omega⟩
  have hs : s ≤ l.length := by omega
  refine q_asg (i := 3) (n := n + 2) (c := 0) (Φ := fun d => ∃ y : Int, (∀ r, s = r + 1 → ∃ v, l[r]? = some v ∧ v.1 = y) ∧ d = .int y) (j_if (c := 0) (c1 := 0) (P := fun b => b = decide ((0 : Int) < (s : Int))) (tb_test (e_gtI (e_var rfl) e_int)) (fun h => ?_) (fun h => (e_is (d1 := .int (-9)) (e_un e_int) rfl).imp fun d e => ⟨-9, fun r er => by have := of_decide_eq_false h.symm; omega, e⟩)) a1 fun d σ2 Hk2 H2 ⟨y, hy, ed⟩ g2 a2 => ?_
  · have h1 : (0 : Int) < (s : Int) := of_decide_eq_true h.symm
    obtain ⟨r, rfl⟩ : ∃ r, s = r + 1 := ⟨s - 1, by omega⟩
    obtain ⟨v, ev⟩ : ∃ v, l[r]? = some v := ⟨l[r]'(by omega), List.getElem?_eq_getElem _⟩
    exact (e_iT (ds := [.int v.1, .int v.2]) (eat (k := r) rfl (e_is (e_subI (e_var rfl) e_int) (congrArg PyData.int (by omega))) ev) e_int rfl).imp fun d e => ⟨v.1, (fun r' er => ⟨v, by rw [show r' = r from by omega]; exact ev, rfl⟩), e⟩
  subst ed
  refine q_asgE (i := 4) (d := .list [.none, .int 5, .list [], .dict [], .str "a", .bool true, .list (pd l), insD T.C_Ledger, .tuple [.tuple [.int 1, .int 2, .int 3]], .tuple [.int 5], .tuple [.tuple [.int 1]], .tuple [.list [.int 1, .int 2]]]) (e_lst (ds := [.none, .int 5, .list [], .dict [], .str "a", .bool true, .list (pd l), insD T.C_Ledger, .tuple [.tuple [.int 1, .int 2, .int 3]], .tuple [.int 5], .tuple [.tuple [.int 1]], .tuple [.list [.int 1, .int 2]]]) (ae_cons e_non (ae_cons e_int (ae_cons (e_lst (ds := []) ae_nil) (ae_cons e_dnew (ae_cons e_str (ae_cons e_bl (ae_cons (e_lstT (ds := pd l) (e_var rfl)) (ae_cons (e_make (e_var rfl) ⟨l, hL, by omega, rfl⟩) (ae_cons (e_tup (ds := [.tuple [.int 1, .int 2, .int 3]]) (ae_cons (e_tup (ds := [.int 1, .int 2, .int 3]) (ae_cons e_int (ae_cons e_int (ae_cons e_int ae_nil)))) ae_nil)) (ae_cons (e_tup (ds := [.int 5]) (ae_cons e_int ae_nil)) (ae_cons (e_tup (ds := [.tuple [.int 1]]) (ae_cons (e_tup (ds := [.int 1]) (ae_cons e_int ae_nil)) ae_nil)) (ae_cons (e_tup (ds := [.list [.int 1, .int 2]]) (ae_cons (e_lst (ds := [.int 1, .int 2]) (ae_cons e_int (ae_cons e_int ae_nil))) ae_nil)) ae_nil))))))))))))) a2 fun σ3 Hk3 H3 g3 a3 => ?_
  have h3 : ∀ d ∈ [PyData.none, .int 5, .list [], .dict [], .str "a", .bool true, .list (pd l), insD T.C_Ledger, .tuple [.tuple [.int 1, .int 2, .int 3]], .tuple [.int 5], .tuple [.tuple [.int 1]], .tuple [.list [.int 1, .int 2]]], NoB K d := fun d hd => by
    simp only [List.mem_cons, List.not_mem_nil, or_false] at hd
    rcases hd with rfl | rfl | rfl | rfl | rfl | rfl | rfl | rfl | rfl | rfl | rfl | rfl
    · exact ⟨rfl, Odd.of (fun ds e => by cases e) rfl⟩
    · exact ⟨rfl, Odd.of (fun ds e => by cases e) rfl⟩
    · exact ⟨rfl, Odd.of (fun ds e => by cases e) rfl⟩
    · exact ⟨rfl, Odd.of (fun ds e => by cases e) rfl⟩
    · exact ⟨rfl, Odd.of (fun ds e => by cases e) rfl⟩
    · exact ⟨rfl, Odd.of (fun ds e => by cases e) rfl⟩
    · exact ⟨rfl, Odd.of (fun ds e => by cases e) rfl⟩
    · exact ⟨rfl, Odd.ins T.cl_Ledger T.I_Ledger⟩
    · exact ⟨rfl, Odd.of (short_tup (by simp)) rfl⟩
    · exact ⟨rfl, Odd.of (short_tup (by simp)) rfl⟩
    · exact ⟨rfl, Odd.of (short_tup (by simp)) rfl⟩
    · exact ⟨rfl, Odd.of (short_tup (by simp)) rfl⟩
  obtain ⟨L3, eL3⟩ : ∃ L3 : List PyData, L3 = [PyData.none, .int 5, .list [], .dict [], .str "a", .bool true, .list (pd l), insD T.C_Ledger, .tuple [.tuple [.int 1, .int 2, .int 3]], .tuple [.int 5], .tuple [.tuple [.int 1]], .tuple [.list [.int 1, .int 2]]] := ⟨_, rfl⟩
  have l3 : L3.length ≤ 20 := by rw [eL3]; simp
  rw [← eL3] at a3 h3
  refine q_asgE (i := 4) (d := .list (L3 ++ [.tuple [pr (0, 1), pr (0, 1)], .tuple [pr (0, 1), pr (3, 1), pr (0, 2)], .tuple [pr (1, 1), pr (0, 1)]])) (e_catL (ds := L3) (es := [.tuple [pr (0, 1), pr (0, 1)], .tuple [pr (0, 1), pr (3, 1), pr (0, 2)], .tuple [pr (1, 1), pr (0, 1)]]) (e_var rfl) (e_lst (ds := [.tuple [pr (0, 1), pr (0, 1)], .tuple [pr (0, 1), pr (3, 1), pr (0, 2)], .tuple [pr (1, 1), pr (0, 1)]]) (ae_cons (e_tup (ds := [pr (0, 1), pr (0, 1)]) (ae_cons (e_pr e_int e_int) (ae_cons (e_pr e_int e_int) ae_nil))) (ae_cons (e_tup (ds := [pr (0, 1), pr (3, 1), pr (0, 2)]) (ae_cons (e_pr e_int e_int) (ae_cons (e_pr e_int e_int) (ae_cons (e_pr e_int e_int) ae_nil)))) (ae_cons (e_tup (ds := [pr (1, 1), pr (0, 1)]) (ae_cons (e_pr e_int e_int) (ae_cons (e_pr e_int e_int) ae_nil))) ae_nil)))) (by simp; omega)) a3 fun σ4 Hk4 H4 g4 a4 => ?_
  have h4 : ∀ d ∈ L3 ++ [.tuple [pr (0, 1), pr (0, 1)], .tuple [pr (0, 1), pr (3, 1), pr (0, 2)], .tuple [pr (1, 1), pr (0, 1)]], NoB K d := fun d hd => by
    rcases List.mem_append.mp hd with z | z
    · exact h3 d z
    · simp only [List.mem_cons, List.not_mem_nil, or_false] at z
      rcases z with rfl | rfl | rfl
      · exact ⟨by have := no_led2 (A := []) (B := []) (u := (0, 1)) (v := (0, 1)) (by decide); simpa using this, Odd.of (short_tup (by simp)) rfl⟩
      · exact ⟨by have := no_led2 (A := [pr (0, 1)]) (B := []) (u := (3, 1)) (v := (0, 2)) (by decide); simpa using this, Odd.of (short_tup (by simp)) rfl⟩
      · exact ⟨by have := no_led2 (A := []) (B := []) (u := (1, 1)) (v := (0, 1)) (by decide); simpa using this, Odd.of (short_tup (by simp)) rfl⟩
  obtain ⟨L4, eL4⟩ : ∃ L4 : List PyData, L4 = L3 ++ [.tuple [pr (0, 1), pr (0, 1)], .tuple [pr (0, 1), pr (3, 1), pr (0, 2)], .tuple [pr (1, 1), pr (0, 1)]] := ⟨_, rfl⟩
  have l4 : L4.length ≤ 30 := by rw [eL4]; simp; omega
  rw [← eL4] at a4 h4
  refine q_cut (I := fun σ' H' => ∃ (Hk' : Hp) (ds : List PyData) (s5 : Sl), At (some p) (n + 1) [.adr p, .dat (led l), .dat (.int (s : Int)), .dat (.int y), .dat (.list ds), .any, .any, .any] A0 B0 σ' Hk' H' ∧ (∀ d ∈ ds, NoB K d) ∧ ds.length ≤ 50) (fun D' kk => ?_) fun σ9 H9 ⟨Hk9, ds9, _, a9, hno, hl9⟩ => ?_
  · refine s_ifB (b := decide ((1 : Int) < (l.length : Int))) (tb_test (e_gtI (elen rfl) e_int)) a4 (fun hb Hk5 H5 g5 a5 => ?_) (fun hb Hk5 H5 g5 a5 => kk _ _ ⟨Hk5, L4, .any, a5.mono (by omega), h4, by omega⟩)
    have h1 : (1 : Int) < (l.length : Int) := of_decide_eq_true hb
    refine q_asg (i := 5) (n := n + 1) (c := 1) (Φ := IntP fun x => 0 ≤ x ∧ x < (l.length : Int) - 1) (j_pick rfl (e_subI (elen rfl) e_int) (by omega) (by omega)) a5 fun d σ6 Hk6 H6 ⟨x, hx, ed⟩ g6 a6 => ?_
    subst ed
    obtain ⟨t, rfl⟩ : ∃ t : Nat, x = (t : Int) := ⟨x.toNat, by omega⟩
    obtain ⟨u, eu⟩ : ∃ u, l[t]? = some u := ⟨l[t]'(by omega), List.getElem?_eq_getElem _⟩
    obtain ⟨v, ev⟩ : ∃ v, l[t + 1]? = some v := ⟨l[t + 1]'(by omega), List.getElem?_eq_getElem _⟩
    have nx : ∀ {δ : List Sl} (k : Nat), δ[5]? = some (.dat (.int (t : Int))) → E (some p) δ (tOp (rAddU K) (tVar 5) (tC (.int (k : Int)))) (.int ((t + k : Nat) : Int)) := fun k h => e_is (e_addI (e_var h) e_int) (by congr 1)
    refine s_asgE (i := 4) (d := .list (L4 ++ [.tuple (pd l).reverse, .tuple ((pd l).take t ++ [pr v, pr u] ++ (pd l).drop (t + 2)), .tuple ((pd l).drop 1 ++ (pd l).take 1)])) (e_catL (ds := L4) (es := [.tuple (pd l).reverse, .tuple ((pd l).take t ++ [pr v, pr u] ++ (pd l).drop (t + 2)), .tuple ((pd l).drop 1 ++ (pd l).take 1)]) (e_var rfl) (e_lst (ds := [.tuple (pd l).reverse, .tuple ((pd l).take t ++ [pr v, pr u] ++ (pd l).drop (t + 2)), .tuple ((pd l).drop 1 ++ (pd l).take 1)]) (ae_cons (e_revT (ds := pd l) (e_var rfl)) (ae_cons (e_catT (ds := (pd l).take t ++ [pr v, pr u]) (es := (pd l).drop (t + 2)) (e_catT (ds := (pd l).take t) (es := [pr v, pr u]) (e_is (e_slT (ds := pd l) (e_var rfl) to_none (to_some (e_var rfl))) (by rw [cutD_to])) (e_tup (ds := [pr v, pr u]) (ae_cons (eat rfl (nx 1 rfl) ev) (ae_cons (eat rfl (e_var rfl) eu) ae_nil))) (by rw [List.length_take, pd_len]; simp; omega)) (e_is (e_slT (ds := pd l) (e_var rfl) (to_some (nx 2 rfl)) to_none) (by rw [cutD_from])) (by rw [List.length_append, List.length_take, List.length_drop, pd_len]; simp; omega)) (ae_cons (e_catT (ds := (pd l).drop 1) (es := (pd l).take 1) (e_is (e_slT (ds := pd l) (e_var rfl) (to_some (i := ((1 : Nat) : Int)) e_int) to_none) (by rw [cutD_from])) (e_is (e_slT (ds := pd l) (e_var rfl) to_none (to_some (i := ((1 : Nat) : Int)) e_int)) (by rw [cutD_to])) (by rw [List.length_drop, List.length_take, pd_len]; omega)) ae_nil)))) (by simp; omega)) a6 fun σ7 Hk7 H7 g7 a7 => kk _ _ ⟨Hk7, _, .any, a7.forget 5, fun d hd => ?_, by simp; omega⟩
    rcases List.mem_append.mp hd with z | z
    · exact h4 d z
    · simp only [List.mem_cons, List.not_mem_nil, or_false] at z
      rcases z with rfl | rfl | rfl
      · refine ⟨no_ledR hL (by omega), Odd.of (short_tup (by rw [List.length_reverse, pd_len]; omega)) ?_⟩
        show (pd l).reverse.all (deep 1) = true
        rw [List.all_reverse]
        exact deep_pd 1 l
      · exact noB_swap hL hl eu ev
      · exact noB_rot hL hl (by omega)
  · have e1 : ∀ {δ : List Sl}, δ[3]? = some (.dat (.int y)) → E (some p) δ (tOp (rAddU K) (tVar 3) (tC (.int 1))) (.int (y + 1)) := fun h => e_addI (e_var h) e_int
    refine q_asgE (i := 6) (d := .list (bads7 y)) (e_lst (hl := by simp [bads7]) (ds := bads7 y) (ae_cons (e_pr (e_var rfl) e_int) (ae_cons (e_pr (e1 rfl) e_int) (ae_cons (t2 (e1 rfl) e_bl) (ae_cons (t2 e_non e_int) (ae_cons (t2 (e1 rfl) e_str) (ae_cons (t2 e_bl e_int) (ae_cons e_non ae_nil)))))))) a9 fun σ10 Hk10 H10 g10 a10 => ?_
    obtain ⟨z, ez⟩ : ∃ z : Nat, z = if ((s : Int) == 0) then 1 else 0 := ⟨_, rfl⟩
    have hz : s = 0 → z = 1 := fun h => by rw [ez, h]; rfl
    refine q_asgE (i := 4) (d := .list (ds9 ++ ((bads7 y).drop z).map fun b => .tuple ((pd l).take s ++ [b] ++ (pd l).drop s))) (e_catL (ds := ds9) (es := ((bads7 y).drop z).map fun b => .tuple ((pd l).take s ++ [b] ++ (pd l).drop s)) (e_var rfl) (e_lc1 (vs := [7]) (emb := id) (xs := (bads7 y).drop z) (by rw [List.map_id]; exact ie_lst (e_is (e_slL (ds := bads7 y) (e_var rfl) (to_some (i := (z : Int)) (e_is (e_intB (e_eqDI (e_var rfl) e_int)) (by rw [ez]; split <;> rfl))) to_none) (by rw [cutD_from]))) (fun b => .tuple ((pd l).take s ++ [b] ++ (pd l).drop s)) (by rw [List.length_drop]; simp [bads7]; omega) fun b hb => ⟨_, gb_name (by simp), e_putT (ds := pd l) (a := s) (b := s) (e_var rfl) (e_var rfl) (e_var rfl) (e_var rfl) (by rw [pd_len]; omega)⟩) (by rw [List.length_map, List.length_drop]; simp [bads7]; omega)) a10 fun σ11 Hk11 H11 g11 a11 => ?_
    have h11 : ∀ d ∈ ds9 ++ ((bads7 y).drop z).map (fun b => PyData.tuple ((pd l).take s ++ [b] ++ (pd l).drop s)), NoB K d := fun d hd => by
      rcases List.mem_append.mp hd with w | w
      · exact hno d w
      · obtain ⟨b, hb, rfl⟩ := List.mem_map.mp w
        by_cases hb1 : b = pr (y, 1)
        · cases s with
          | zero =>
            exfalso
            rw [hz rfl, hb1] at hb
            simp [bads7, pr] at hb
          | succ r =>
            obtain ⟨v, ev, hv⟩ := hy r rfl
            rw [hb1]
            exact noB_put hl ev (by show ¬ v.1 < y; omega)
        · have := bads7_no (List.mem_of_mem_drop hb) hb1
          exact noB_cut hl this.1 this.2
    have hlen : 0 < (ds9 ++ ((bads7 y).drop z).map (fun b => PyData.tuple ((pd l).take s ++ [b] ++ (pd l).drop s))).length ∧ (ds9 ++ ((bads7 y).drop z).map (fun b => PyData.tuple ((pd l).take s ++ [b] ++ (pd l).drop s))).length ≤ 100 := by
      have hz1 : z ≤ 1 := by rw [ez]; split <;> omega
      rw [List.length_append, List.length_map, List.length_drop]
      simp [bads7]
      omega
    generalize ds9 ++ ((bads7 y).drop z).map (fun b => PyData.tuple ((pd l).take s ++ [b] ++ (pd l).drop s)) = ws at a11 h11 hlen
    exact s_ret (n := n) (c := 1) (Φ := NoB K) (j_ixOf (ds := ws) (e_var rfl) (j_pick rfl (e_lenL (ds := ws) (e_var rfl)) (by omega) (by omega)) h11) a11 (by omega) fin fun d h => h
/-! ### _law_no_prime -/
theorem prc {K : PySem.W.Frag} {m e : Nat} (h : 2 ≤ e ∧ e * e ≤ m ∧ m % e = 0 ∧ m < 2 ^ 20) : PB K (.int (m : Int)) := ⟨.inl rfl, .inl ⟨m, rfl, by have := Nat.mul_le_mul h.1 h.1; omega, h.2.2.2, (fun z => by cases z), fun _ => ⟨e, h.1, h.2.1, h.2.2.1⟩⟩⟩
theorem prn {K : PySem.W.Frag} {d : PyData} (h : isFromD 2 d = false) (k : Kn K d) : PB K d := ⟨k, .inr ⟨h, rfl⟩⟩
def R__law_no_prime (K : PySem.W.Frag) : RelX := fun q sls c Φ => c = 2 ∧ ∃ (p : Addr) (P : Nat), q = some p ∧ primed P ∧ sls = [.adr p, .dat (.int (P : Int))] ∧ Φ = PB K
theorem ok__law_no_prime (T : Tx K mg) : FnOk P w K mg base CX0 2 T.a__law_no_prime T.fd__law_no_prime P__law_no_prime (spX (R__law_no_prime K)) := by
  have G__law_pick := ok__law_pick (P := P) (w := w) (base := base) T
  refine fn_ok T.F__law_no_prime sc__law_no_prime (by decide) (fun q sls c Φ h => by obtain ⟨_, p, P, _, _, rfl, _⟩ := h; rfl) fun cdv A outer s B0 Ew hr => ⟨_,
    (pss_cons (ps_set (i := 2) sc__law_no_prime.nd rfl (Or.inl rfl) (pe_lst (pa_cons pe_non (pa_cons pe_bl (pa_cons pe_bl (pa_cons pe_int (pa_cons pe_int (pa_cons pe_int (pa_cons pe_int (pa_cons pe_int (pa_cons pe_int (pa_cons pe_int (pa_cons pe_int (pa_cons pe_int (pa_cons pe_int (pa_cons pe_int (pa_cons (pe_un un_neg pe_int) (pa_cons (pe_un un_neg pe_int) (pa_cons pe_str (pa_cons (Cr.pe_tup (pa_cons pe_int pa_nil)) (pa_cons (pe_lst (pa_cons pe_int pa_nil)) (pa_cons pe_dnewK (pa_cons (pe_op op_sub pe_int (pv 1)) pa_nil)))))))))))))))))))))))
      (pss_cons (ps_set (i := 2) sc__law_no_prime.nd rfl (Or.inl rfl) (pe_op (k_addU (K := K) rfl) (pv 2) (pe_lst (pa_cons pe_int (pa_cons pe_int (pa_cons pe_int (pa_cons pe_int (pa_cons pe_int (pa_cons pe_int (pa_cons pe_int (pa_cons pe_int (pa_cons pe_int (pa_cons pe_int (pa_cons pe_int (pa_cons pe_int (pa_cons pe_int (pa_cons pe_int pa_nil)))))))))))))))))
      (pss_cons (ps_set (i := 2) sc__law_no_prime.nd rfl (Or.inl rfl) (pe_op (k_addU (K := K) rfl) (pv 2) (pe_lst (pa_cons pe_int (pa_cons pe_int (pa_cons pe_int pa_nil))))))
      (pss_one (ps_ret (pe_ix (k_ix (K := K) rfl) (pe_op (k_addU (K := K) rfl) (pv 2) (pe_lst (pa_cons (pe_op op_mulU (pv 1) (pv 1)) (pa_cons (pe_op op_mulU pe_int (pv 1)) (pa_cons (pe_op op_mulU (pv 1) (pe_op (k_addU (K := K) rfl) pe_int (pe_call G__law_pick (hr.mono (by decide)) (by rfl) T.m__law_pick T.F__law_pick.kp T.b__law_pick .nil pass0 (pa_cons (pv 0) (pa_cons pe_int pa_nil))))) pa_nil))))) (pe_call G__law_pick (hr.mono (by decide)) (by rfl) T.m__law_pick T.F__law_pick.kp T.b__law_pick .nil pass0 (pa_cons (pv 0) (pa_cons pe_int pa_nil))) (fun _ _ => rfl))))))), fun q sls n c Φ A0 σ Q hR hA fin => ?_⟩
  obtain ⟨rfl, p, P, rfl, hP, rfl, rfl⟩ := hR
  have hP2 := hP.1
  have hP3 := hP.2.1
  have m1 : ∀ d ∈ ([.none, .bool true, .bool false, .int 0, .int 1, .int 4, .int 9, .int 15, .int 25, .int 49, .int 121, .int 289, .int 437, .int 999997, .int (-2), .int (-7), .str "7", .tuple [.int 7], .list [.int 7], .dict [], .int (0 - (P : Int))] : List PyData), PB K d := fun d hd => by
    simp only [List.mem_cons, List.not_mem_nil, or_false] at hd
    rcases hd with rfl | rfl | rfl | rfl | rfl | rfl | rfl | rfl | rfl | rfl | rfl | rfl | rfl | rfl | rfl | rfl | rfl | rfl | rfl | rfl | rfl
    · exact prn rfl (.inl rfl)
    · exact prn rfl (.inl rfl)
    · exact prn rfl (.inl rfl)
    · exact prn rfl (.inl rfl)
    · exact prn rfl (.inl rfl)
    · exact prc (m := 4) (e := 2) (by decide)
    · exact prc (m := 9) (e := 3) (by decide)
    · exact prc (m := 15) (e := 3) (by decide)
    · exact prc (m := 25) (e := 5) (by decide)
    · exact prc (m := 49) (e := 7) (by decide)
    · exact prc (m := 121) (e := 11) (by decide)
    · exact prc (m := 289) (e := 17) (by decide)
    · exact prc (m := 437) (e := 19) (by decide)
    · exact prc (m := 999997) (e := 757) (by decide)
    · exact prn rfl (.inl rfl)
    · exact prn rfl (.inl rfl)
    · exact prn rfl (.inl rfl)
    · exact prn rfl (.inl rfl)
    · exact prn rfl (.inl rfl)
    · exact prn rfl (.inl rfl)
    · exact prn (decide_eq_false (by omega)) (.inl rfl)
  have m2 : ∀ d ∈ ([.int 341, .int 561, .int 645, .int 1105, .int 1387, .int 1729, .int 2047, .int 2465, .int 2701, .int 2821, .int 6601, .int 8911, .int 29341, .int 252601] : List PyData), PB K d := fun d hd => by
    simp only [List.mem_cons, List.not_mem_nil, or_false] at hd
    rcases hd with rfl | rfl | rfl | rfl | rfl | rfl | rfl | rfl | rfl | rfl | rfl | rfl | rfl | rfl
    · exact prc (m := 341) (e := 11) (by decide)
    · exact prc (m := 561) (e := 3) (by decide)
    · exact prc (m := 645) (e := 3) (by decide)
    · exact prc (m := 1105) (e := 5) (by decide)
    · exact prc (m := 1387) (e := 19) (by decide)
    · exact prc (m := 1729) (e := 7) (by decide)
    · exact prc (m := 2047) (e := 23) (by decide)
    · exact prc (m := 2465) (e := 5) (by decide)
    · exact prc (m := 2701) (e := 37) (by decide)
    · exact prc (m := 2821) (e := 7) (by decide)
    · exact prc (m := 6601) (e := 7) (by decide)
    · exact prc (m := 8911) (e := 7) (by decide)
    · exact prc (m := 29341) (e := 13) (by decide)
    · exact prc (m := 252601) (e := 41) (by decide)
  have m3 : ∀ d ∈ ([.int 1814, .int 256027, .int 994009] : List PyData), PB K d := fun d hd => by
    simp only [List.mem_cons, List.not_mem_nil, or_false] at hd
    rcases hd with rfl | rfl | rfl
    · exact prc (m := 1814) (e := 2) (by decide)
    · exact prc (m := 256027) (e := 503) (by decide)
    · exact prc (m := 994009) (e := 997) (by decide)
  obtain ⟨M1, eM1⟩ : ∃ M1 : List PyData, M1 = [.none, .bool true, .bool false, .int 0, .int 1, .int 4, .int 9, .int 15, .int 25, .int 49, .int 121, .int 289, .int 437, .int 999997, .int (-2), .int (-7), .str "7", .tuple [.int 7], .list [.int 7], .dict [], .int (0 - (P : Int))] := ⟨_, rfl⟩
  obtain ⟨M2, eM2⟩ : ∃ M2 : List PyData, M2 = [.int 341, .int 561, .int 645, .int 1105, .int 1387, .int 1729, .int 2047, .int 2465, .int 2701, .int 2821, .int 6601, .int 8911, .int 29341, .int 252601] := ⟨_, rfl⟩
  obtain ⟨M3, eM3⟩ : ∃ M3 : List PyData, M3 = [.int 1814, .int 256027, .int 994009] := ⟨_, rfl⟩
  have k1 : M1.length = 21 := by rw [eM1]; rfl
  have k2 : M2.length = 14 := by rw [eM2]; rfl
  have k3 : M3.length = 3 := by rw [eM3]; rfl
  rw [← eM1] at m1
  rw [← eM2] at m2
  rw [← eM3] at m3
  refine q_asgE (i := 2) (d := .list M1) (e_is (e_lst (ds := [.none, .bool true, .bool false, .int 0, .int 1, .int 4, .int 9, .int 15, .int 25, .int 49, .int 121, .int 289, .int 437, .int 999997, .int (-2), .int (-7), .str "7", .tuple [.int 7], .list [.int 7], .dict [], .int (0 - (P : Int))]) (ae_cons e_non (ae_cons e_bl (ae_cons e_bl (ae_cons e_int (ae_cons e_int (ae_cons e_int (ae_cons e_int (ae_cons e_int (ae_cons e_int (ae_cons e_int (ae_cons e_int (ae_cons e_int (ae_cons e_int (ae_cons e_int (ae_cons (e_is (d1 := .int (-2)) (e_un e_int) rfl) (ae_cons (e_is (d1 := .int (-7)) (e_un e_int) rfl) (ae_cons e_str (ae_cons (e_tup (ds := [.int 7]) (ae_cons e_int ae_nil)) (ae_cons (e_lst (ds := [.int 7]) (ae_cons e_int ae_nil)) (ae_cons e_dnew (ae_cons (e_subI e_int (e_var rfl)) ae_nil)))))))))))))))))))))) (by rw [eM1])) hA fun σ1 Hk1 H1 g1 a1 => ?_
  refine q_asgE (i := 2) (d := .list (M1 ++ M2)) (e_catL (ds := M1) (es := M2) (e_var rfl) (e_is (e_lst (ds := [.int 341, .int 561, .int 645, .int 1105, .int 1387, .int 1729, .int 2047, .int 2465, .int 2701, .int 2821, .int 6601, .int 8911, .int 29341, .int 252601]) (ae_cons e_int (ae_cons e_int (ae_cons e_int (ae_cons e_int (ae_cons e_int (ae_cons e_int (ae_cons e_int (ae_cons e_int (ae_cons e_int (ae_cons e_int (ae_cons e_int (ae_cons e_int (ae_cons e_int (ae_cons e_int ae_nil))))))))))))))) (by rw [eM2])) (by omega)) a1 fun σ2 Hk2 H2 g2 a2 => ?_
  refine q_asgE (i := 2) (d := .list (M1 ++ M2 ++ M3)) (e_catL (ds := M1 ++ M2) (es := M3) (e_var rfl) (e_is (e_lst (ds := [.int 1814, .int 256027, .int 994009]) (ae_cons e_int (ae_cons e_int (ae_cons e_int ae_nil)))) (by rw [eM3])) (by rw [List.length_append]; omega)) a2 fun σ3 Hk3 H3 g3 a3 => ?_
  have hsq : PB K (.int ((P : Int) * (P : Int))) := by
    have h1 : P * P ≤ 1000 * 1000 := Nat.mul_le_mul (by omega) (by omega)
    have z := prc (K := K) (m := P * P) (e := P) ⟨hP2, Nat.le_refl _, Nat.mul_mod_right P P, by omega⟩
    rwa [Int.natCast_mul] at z
  have hdb : PB K (.int (2 * (P : Int))) := prc (K := K) (m := 2 * P) (e := 2) ⟨by omega, by omega, by omega, by omega⟩
  have hmt : ∀ y : Int, 0 ≤ y ∧ y < 900 → PB K (.int ((P : Int) * (2 + y))) := fun y hy => by
    obtain ⟨u, rfl⟩ : ∃ u : Nat, y = (u : Int) := ⟨y.toNat, by omega⟩
    have h1 : P * (2 + u) ≤ 999 * 901 := Nat.mul_le_mul (by omega) (by omega)
    have e1 : ((P * (2 + u) : Nat) : Int) = (P : Int) * (2 + (u : Int)) := by rw [Int.natCast_mul]; rfl
    rw [← e1]
    by_cases h : P ≤ 2 + u
    · exact prc (K := K) (e := P) ⟨hP2, Nat.mul_le_mul (Nat.le_refl _) h, Nat.mul_mod_right P _, by omega⟩
    · exact prc (K := K) (e := 2 + u) ⟨by omega, Nat.mul_le_mul (by omega) (Nat.le_refl _), Nat.mul_mod_left _ _, by omega⟩
  refine s_ret (n := n) (c := 2) (Φ := PB K) ((j_iL (c1 := 1) (c2 := 1) (P := fun i => 0 ≤ i ∧ i < 41) (Ψ := fun ds => ds.length = 41 ∧ ∀ x ∈ ds, PB K x) ((j_catLL (c1 := 0) (c2 := 1) (P1 := fun ds => ds = M1 ++ M2 ++ M3) (P2 := fun ds => ds.length = 3 ∧ ∀ x ∈ ds, PB K x) (P := fun ds => ds.length = 41 ∧ ∀ x ∈ ds, PB K x) ((e_var rfl).imp fun d e => ⟨_, rfl, e⟩) (j_lst (Ψ := fun ds => ds.length = 3 ∧ ∀ x ∈ ds, PB K x) (AJ.imp (ajq_cons (c1 := 0) (c2 := 1) ((e_mulI (e_var rfl) (e_var rfl) (wide_mul (a := 10) (b := 10) (by omega) (by omega) (by omega) (by omega) (by omega))).imp fun d e => by rw [e]; exact hsq) (ajq_cons (c1 := 0) (c2 := 1) ((e_mulI e_int (e_var rfl) (wide_mul (a := 10) (b := 10) (by omega) (by omega) (by omega) (by omega) (by omega))).imp fun d e => by rw [e]; exact hdb) (ajq_cons (c1 := 1) (c2 := 0) ((j_mulI (c1 := 0) (c2 := 1) (P1 := fun x => x = (P : Int)) (P2 := fun x => 2 ≤ x ∧ x < 902) (Φ := PB K) (e_var rfl).intP ((j_addI (c1 := 0) (c2 := 1) (P1 := fun x => x = 2) (P2 := fun x => 0 ≤ x ∧ x < 900) (Φ := IntP fun x => 2 ≤ x ∧ x < 902) e_int.intP (j_pick rfl e_int (by omega) (by omega)) fun i j hi hj => ⟨i + j, by omega, rfl⟩).cost (by omega)) (fun i j hi hj => by rw [hi]; exact wide_mul (a := 10) (b := 10) (by omega) (by omega) (by omega) (by omega) (by omega)) fun i j hi hj => by
    have := hmt (j - 2) (by omega)
    rw [hi]
    rwa [show (2 : Int) + (j - 2) = j by omega] at this).cost (by omega)) ajq_nil))) fun sls ⟨ds, e, hl, hp⟩ => ⟨ds, e, by omega, hl, hp⟩)) fun f g hf hg => ⟨by rw [hf, List.length_append, List.length_append]; omega, by rw [hf, List.length_append, List.length_append, List.length_append]; omega, fun x hx => by
    rw [hf] at hx
    rcases List.mem_append.mp hx with h | h
    · rcases List.mem_append.mp h with h | h
      · rcases List.mem_append.mp h with h | h
        · exact m1 x h
        · exact m2 x h
      · exact m3 x h
    · exact hg.2 x h⟩).cost (by omega)) (j_pick rfl e_int (by omega) (by omega)) fun ds i he hi => ?_).cost (by omega)) a3 (by omega) fin fun d h => h
  obtain ⟨k, rfl⟩ : ∃ k : Nat, i = (k : Int) := ⟨i.toNat, by omega⟩
  have hk : k < ds.length := by omega
  exact ⟨ds[k], atI_nat (List.getElem?_eq_getElem hk), he.2 _ (List.getElem_mem hk)⟩
/-! ### is_sums -/
def R_is_sums (K : PySem.W.Frag) : RelX := fun _ sls c Φ => c = 0 ∧ ∃ d, Odd K d ∧ sls = [.dat d] ∧ Φ = fun x => x = .bool (isSumsD d)
theorem ok_is_sums (T : Tx K mg) : FnOk P w K mg base CX0 2 T.a_is_sums T.fd_is_sums P_is_sums (spX (R_is_sums K)) := by
  have G_is_an_integer := ok_is_an_integer (P := P) (w := w) (base := base) T
  refine fn_ok T.F_is_sums sc_is_sums (by decide) (fun q sls c Φ h => by obtain ⟨_, d, _, rfl, _⟩ := h; rfl) fun cdv A outer s B0 Ew hr => ⟨_,
    (pss_one (ps_ret (pe_and (pe_callB (k_isi (K := K) rfl) (by rfl) T.z_isinstance (by decide +kernel) (pa_cons (pv 0) (pa_cons (pe_bltn (v := .ty "tuple") (by rfl) T.z_tuple (by decide +kernel) rfl) pa_nil))) (pe_and (pe_cmpR op_gt (pe_callB (k_len (K := K) rfl) (by rfl) T.z_len (by decide +kernel) (pa_cons (pv 0) pa_nil)) pe_int (nomark _)) (pe_one (pe_callB (k_all (K := K) rfl rfl) (by rfl) T.z_all (by decide +kernel) (pa_cons (pe_lc (own := [("number", 1)]) rfl sc_is_sums.nd (k_piTup (K := K) rfl (pv 0)) (blkOk_by (own := [("number", 1)]) (N := N_is_sums) (sc := defScope s_is_sums) (by decide +kernel)) (fun _ _ _ _ _ => (pg_name (i := 1) sc_is_sums.nd rfl (Or.inl rfl))) (fun _ _ _ _ _ => pts_nil) (fun _ _ _ _ _ => (pe_call G_is_an_integer (hr.mono (by decide)) (by rfl) T.m_is_an_integer T.F_is_an_integer.kp T.b_is_an_integer .nil pass0 (pa_cons (pv 1) pa_nil)))) pa_nil))))))), fun q sls n c Φ A0 σ Q hR hA fin => ?_⟩
  obtain ⟨rfl, d, od, rfl, rfl⟩ := hR
  refine s_retE (d := .bool (isSumsD d)) ?_ hA (Nat.le_refl _) fin rfl
  have nonT : isiTup d = false → isSumsD d = false := fun h => by cases d <;> first | rfl | cases h
  by_cases ht : isiTup d = true
  · obtain ⟨ds, rfl⟩ : ∃ ds, d = .tuple ds := by
      cases d with
      | tuple ds => exact ⟨ds, rfl⟩
      | _ => cases ht
    have hlen := od.sh ds rfl
    exact e_is (e_andV (a := true) (b := decide ((0 : Int) < (ds.length : Int)) && ds.all isIntD) (e_isi (e_var rfl) (kit_tuple _)) fun _ => e_andV (e_gtI (e_lenT (e_var rfl)) e_int) fun _ => e_is (e_all (bs := ds.map isIntD) (e_is (e_lc1 (vs := [1]) (emb := id) (xs := ds) (by rw [List.map_id]; exact ie_tup (e_var rfl)) (fun x => .bool (isIntD x)) (by omega) fun x hx => ⟨_, gb_name (by simp), j_call (R := R_is_an_integer K) (ae_cons (e_var rfl) ae_nil) fun sls e => ⟨rfl, x, kn_deep (od.dp ds rfl x hx), e, rfl⟩⟩) (by rw [bools_map]))) (by rw [all_id_map])) rfl
  · have hf : isiTup d = false := by simpa using ht
    rw [nonT hf]
    exact e_andNo (e_is (e_isiT (e_var rfl) od.kn) (by rw [hf]))
/-! ### check_sums -/
def R_check_sums : RelX := fun _ sls c Φ => c = 0 ∧ ∃ f : List Int, f ≠ [] ∧ f.length ≤ 100000 ∧ sls = [.dat (pol f)] ∧ Φ = fun x => x = .none
theorem ok_check_sums (T : Tx K mg) : FnOk P w K mg base CX0 3 T.a_check_sums T.fd_check_sums P_check_sums (spX R_check_sums) := by
  have G_is_sums := ok_is_sums (P := P) (w := w) (base := base) T
  refine fn_ok T.F_check_sums sc_check_sums (by decide) (fun q sls c Φ h => by obtain ⟨_, f, _, _, rfl, _⟩ := h; rfl) fun cdv A outer s B0 Ew hr => ⟨_,
    (pss_one (ps_if (pt_not (pt_val (pe_call G_is_sums (hr.mono (by decide)) (by rfl) T.m_is_sums T.F_is_sums.kp T.b_is_sums .nil pass0 (pa_cons (pv 0) pa_nil)))) (pss_one ps_never) pss_nil)), fun q sls n c Φ A0 σ Q hR hA fin => ?_⟩
  obtain ⟨rfl, f, hf, hl, rfl, rfl⟩ := hR
  exact s_ifNo (tb_is (tb_not (tb_B (j_call (R := R_is_sums K) (ae_cons (e_var rfl) ae_nil) fun sls e => ⟨rfl, pol f, Odd.of (fun ds e => by cases e; rw [List.length_map]; exact hl) (deep_pol 2 f), e, rfl⟩))) (by rw [pol_isSums hf]; rfl)) hA fun Hk' H2 g a => s_end a (Nat.le_refl _) fin rfl
/-! ### Sums__init__ -/
theorem ok_Sums__init__ (T : Tx K mg) : FnOk P w K mg base CX0 4 T.a_Sums__init__ T.fd_Sums__init__ P_Sums__init__ (spI T.C_Sums "_numbers" (fun d => ∃ f : List Int, f ≠ [] ∧ f.length ≤ 100000 ∧ d = pol f)) := by
  have G_check_sums := ok_check_sums (P := P) (w := w) (base := base) T
  refine init_ok rfl rfl T.F_Sums__init__ sc_Sums__init__ T.cl_Sums T.n_Sums (fun cdv A outer s B0 E hr => (pss_cons (ps_expr (pe_call G_check_sums (hr.mono (by decide)) (by rfl) T.m_check_sums T.F_check_sums.kp T.b_check_sums .nil pass0 (pa_cons (pv 1) pa_nil)))
      (pss_one (ps_fld (pv 0) (pv 1) rfl)))) fun q δ d hd h1 => ?_
  obtain ⟨f, hf, hl, rfl⟩ := hd
  exact j_call (R := R_check_sums) (c := 0) (ae_cons (e_var h1) ae_nil) fun sls e => ⟨rfl, f, hf, hl, e, rfl⟩
/-! ### _law_no_rests -/
def NoR (K : PySem.W.Frag) (P : Nat) (d : PyData) : Prop := resD P d = false ∧ Odd K d
theorem res_len {P : Nat} {ds : List PyData} (h : ¬ (1 ≤ ds.length ∧ ds.length ≤ P)) : resD P (.tuple ds) = false := Bool.eq_false_iff.mpr fun z => by
  obtain ⟨f, h1, h2, _, e⟩ := res_pol z
  have e2 : ds = f.map .int := PyData.tuple.inj e
  rw [e2, List.length_map] at h
  exact h ⟨h1, h2⟩
theorem res_in {P : Nat} {ds : List PyData} {d : PyData} (hm : d ∈ ds) (h : inRD P d = false) : resD P (.tuple ds) = false := Bool.eq_false_iff.mpr fun z => by
  have h' : ((decide ((1 : Int) ≤ (ds.length : Int)) && decide ((ds.length : Int) ≤ (P : Int))) && ds.all (inRD P)) = true := z
  rw [Bool.and_eq_true] at h'
  have := List.all_eq_true.mp h'.2 d hm
  rw [h] at this
  cases this
theorem rep_one2 {α : Type} (m : Nat) (x : α) : (List.replicate m [x]).flatten = List.replicate m x := by
  induction m with
  | zero => rfl
  | succ m ih => rw [List.replicate_succ, List.flatten_cons, ih]; rfl
theorem rep_nil2 {α : Type} (m : Nat) : (List.replicate m ([] : List α)).flatten = [] := by
  induction m with
  | zero => rfl
  | succ m ih => rw [List.replicate_succ, List.flatten_cons, ih]; rfl
def R__law_no_rests (K : PySem.W.Frag) : RelX := fun q sls c Φ => c = 4 ∧ ∃ (p : Addr) (f : List Int) (P : Nat), q = some p ∧ (primed P ∧ P < 500) ∧ (1 ≤ f.length ∧ f.length ≤ 400) ∧ sls = [.adr p, .dat (pol f), .dat (.int (P : Int))] ∧ Φ = NoR K P
theorem ok__law_no_rests (T : Tx K mg) : FnOk P w K mg base CX0 6 T.a__law_no_rests T.fd__law_no_rests P__law_no_rests (spX (R__law_no_rests K)) := by
  have G_Sums__init__ := ok_Sums__init__ (P := P) (w := w) (base := base) T
  have G__law_pick := ok__law_pick (P := P) (w := w) (base := base) T
  refine fn_ok T.F__law_no_rests sc__law_no_rests (by decide) (fun q sls c Φ h => by obtain ⟨_, p, f, P, _, _, _, rfl, _⟩ := h; rfl) fun cdv A outer s B0 Ew hr => ⟨_,
    (pss_cons (ps_set (i := 3) sc__law_no_rests.nd rfl (Or.inr rfl) (pe_call G__law_pick (hr.mono (by decide)) (by rfl) T.m__law_pick T.F__law_pick.kp T.b__law_pick .nil pass0 (pa_cons (pv 0) (pa_cons (pe_callB (k_len (K := K) rfl) (by rfl) T.z_len (by decide +kernel) (pa_cons (pv 1) pa_nil)) pa_nil))))
      (pss_cons (ps_set (i := 4) sc__law_no_rests.nd rfl (Or.inl rfl) (pe_lst (pa_cons pe_non (pa_cons pe_int (pa_cons pe_str (pa_cons (Cr.pe_tup pa_nil) (pa_cons (pe_lst pa_nil) (pa_cons pe_dnewK (pa_cons pe_bl (pa_cons (pe_callTy (k_lst (K := K) rfl) (by rfl) T.z_list (by decide +kernel) (pa_cons (pv 1) pa_nil)) (pa_cons (pe_make T.M_Sums G_Sums__init__ (hr.mono (by decide)) (by rfl) T.m_Sums T.b_Sums__init__ .nil pass0 (pa_cons (pv 1) pa_nil)) pa_nil)))))))))))
      (pss_cons (ps_expr (pe_bm PySem.F.plainAttrs_list PySem.F.slot_list_append PySem.F.type_list_append mt_append (pv 4) (pa_cons (pe_op (k_repTB (K := K) rfl) (pe_op (k_repTB (K := K) rfl) (Cr.pe_tup (pa_cons pe_int pa_nil)) (pe_callTy call_intQ (by rfl) T.z_int (by decide +kernel) (pa_cons (pe_cmpR op_lt (pv 2) pe_int (nomark _)) pa_nil))) (pe_op (k_addU (K := K) rfl) (pe_op (k_addU (K := K) rfl) (pv 2) pe_int) (pe_call G__law_pick (hr.mono (by decide)) (by rfl) T.m__law_pick T.F__law_pick.kp T.b__law_pick .nil pass0 (pa_cons (pv 0) (pa_cons pe_int pa_nil))))) pa_nil)))
      (pss_cons (ps_set (i := 5) sc__law_no_rests.nd rfl (Or.inl rfl) (pe_lst (pa_cons (pv 2) (pa_cons (pe_un un_neg pe_int) (pa_cons pe_bl (pa_cons pe_bl (pa_cons pe_non (pa_cons pe_str (pa_cons (Cr.pe_tup (pa_cons pe_int pa_nil)) (pa_cons (pe_lst (pa_cons pe_int pa_nil)) (pa_cons (pe_op (k_addU (K := K) rfl) (pe_op (k_addU (K := K) rfl) (pv 2) pe_int) (pe_call G__law_pick (hr.mono (by decide)) (by rfl) T.m__law_pick T.F__law_pick.kp T.b__law_pick .nil pass0 (pa_cons (pv 0) (pa_cons (pe_op op_powW pe_int pe_int) pa_nil)))) (pa_cons (pe_op op_sub pe_int (pv 2)) pa_nil))))))))))))
      (pss_cons (ps_set (i := 4) sc__law_no_rests.nd rfl (Or.inl rfl) (pe_op (k_addU (K := K) rfl) (pv 4) (pe_lc (own := [("bad", 6)]) rfl sc__law_no_rests.nd (k_piList (K := K) rfl (pv 5)) (blkOk_by (own := [("bad", 6)]) (N := N__law_no_rests) (sc := defScope s__law_no_rests) (by decide +kernel)) (fun _ _ _ _ _ => (pg_name (i := 6) sc__law_no_rests.nd rfl (Or.inl rfl))) (fun _ _ _ _ _ => pts_nil) (fun _ _ _ _ _ => (pe_op (k_addU (K := K) rfl) (pe_op (k_addU (K := K) rfl) (pe_slice (k_sl (K := K) rfl) (pv 1) po_none (po_some (pv 3))) (Cr.pe_tup (pa_cons (pv 6) pa_nil))) (pe_slice (k_sl (K := K) rfl) (pv 1) (po_some (pe_op (k_addU (K := K) rfl) (pv 3) pe_int)) po_none))))))
      (pss_one (ps_ret (pe_ix (k_ix (K := K) rfl) (pv 4) (pe_call G__law_pick (hr.mono (by decide)) (by rfl) T.m__law_pick T.F__law_pick.kp T.b__law_pick .nil pass0 (pa_cons (pv 0) (pa_cons (pe_callB (k_len (K := K) rfl) (by rfl) T.z_len (by decide +kernel) (pa_cons (pv 4) pa_nil)) pa_nil))) (fun _ _ => rfl))))))))), fun q sls n c Φ A0 σ Q hR hA fin => ?_⟩
  obtain ⟨rfl, p, f, P, rfl, ⟨hP, hP5⟩, ⟨hf1, hf4⟩, rfl, rfl⟩ := hR
  have hP2 := hP.1
  have hP3 := hP.2.1
  have hne : f ≠ [] := List.length_pos_iff.mp hf1
  refine q_asg (i := 3) (n := n + 3) (c := 1) (Φ := IntP fun x => 0 ≤ x ∧ x < (f.length : Int)) (j_pick rfl (e_is (e_lenT (ds := f.map .int) (e_var rfl)) (d1 := .int (f.length : Int)) (by rw [List.length_map])) (by omega) (by omega)) hA fun d σ1 Hk1 H1 ⟨x, hx, ed⟩ g1 a1 => ?_
  subst ed
  obtain ⟨s, rfl⟩ : ∃ s : Nat, x = (s : Int) := ⟨x.toNat, by omega⟩
  obtain ⟨L0, eL0⟩ : ∃ L0 : List PyData, L0 = [.none, .int 5, .str "1", .tuple [], .list [], .dict [], .bool true, .list (f.map .int), insD T.C_Sums] := ⟨_, rfl⟩
  have l0 : L0.length = 9 := by rw [eL0]; rfl
  have h0 : ∀ d ∈ L0, NoR K P d := fun d hd => by
    rw [eL0] at hd
    simp only [List.mem_cons, List.not_mem_nil, or_false] at hd
    rcases hd with rfl | rfl | rfl | rfl | rfl | rfl | rfl | rfl | rfl
    · exact ⟨rfl, Odd.of (fun ds e => by cases e) rfl⟩
    · exact ⟨rfl, Odd.of (fun ds e => by cases e) rfl⟩
    · exact ⟨rfl, Odd.of (fun ds e => by cases e) rfl⟩
    · exact ⟨res_len (by simp), Odd.of (short_tup (by simp)) rfl⟩
    · exact ⟨rfl, Odd.of (fun ds e => by cases e) rfl⟩
    · exact ⟨rfl, Odd.of (fun ds e => by cases e) rfl⟩
    · exact ⟨rfl, Odd.of (fun ds e => by cases e) rfl⟩
    · exact ⟨rfl, Odd.of (fun ds e => by cases e) rfl⟩
    · exact ⟨rfl, Odd.ins T.cl_Sums T.I_Sums⟩
  refine q_newLs (i := 4) (n := n + 3) (c := 0) (ds := L0) (by
    rw [eL0]
    exact ae_cons e_non (ae_cons e_int (ae_cons e_str (ae_cons (e_tup (ds := []) ae_nil) (ae_cons (e_lst (ds := []) ae_nil) (ae_cons e_dnew (ae_cons e_bl (ae_cons (e_lstT (ds := f.map .int) (e_var rfl)) (ae_cons (e_make (e_var rfl) ⟨f, hne, by omega, rfl⟩) ae_nil))))))))) (by omega) a1 fun r Hk2 H2 g2 a2 cl2 => ?_
  obtain ⟨z, ez⟩ : ∃ z : Nat, z = if P < 390 then 1 else 0 := ⟨_, rfl⟩
  have hz : z ≤ 1 := by rw [ez]; split <;> omega
  obtain ⟨T0, eT0⟩ : ∃ T0 : List PyData, T0 = (List.replicate ((z : Int)).toNat [PyData.int 1]).flatten := ⟨_, rfl⟩
  have hT0 : T0 = [] ∨ T0 = [.int 1] := by
    rw [eT0, Int.toNat_natCast, rep_one2]
    by_cases h : z = 0
    · rw [h]; exact .inl rfl
    · rw [show z = 1 by omega]; exact .inr rfl
  refine q_append (n := n + 2) (c := 1) (Φ := NoR K P) ((j_repTB (ds := T0) (c := 1) (P := fun k => (P : Int) + 1 ≤ k ∧ k < (P : Int) + 10) (e_is (e_repTB (ds := [.int 1]) (k := (z : Int)) (e_tup (ds := [.int 1]) (ae_cons e_int ae_nil)) (e_is (e_intB (b := decide ((P : Int) < 390)) (e_ltI (e_var rfl) e_int)) (by
    rw [ez]
    by_cases h : P < 390
    · rw [decide_eq_true (show (P : Int) < 390 by omega), if_pos h]; rfl
    · rw [decide_eq_false (show ¬ (P : Int) < 390 by omega), if_neg h]; rfl)) (by omega) (by omega) (by simp) rfl) (by rw [eT0])) (j_addI (c1 := 0) (c2 := 1) (P1 := fun x => x = (P : Int) + 1) (P2 := fun x => 0 ≤ x ∧ x < 9) (Φ := IntP fun k => (P : Int) + 1 ≤ k ∧ k < (P : Int) + 10) (e_addI (e_var rfl) e_int).intP (j_pick rfl e_int (by omega) (by omega)) fun i j hi hj => ⟨i + j, by omega, rfl⟩) (by rcases hT0 with e | e <;> rw [e] <;> simp) (by rcases hT0 with e | e <;> rw [e] <;> rfl) fun k hk => ⟨by omega, ?_⟩).cost (by omega)) a2 cl2 rfl (by omega) fun d0 Hk3 H3 hd0 s3 a3 cl3 => ?_
  · rcases hT0 with e | e
    · rw [e, rep_nil2]
      exact ⟨res_len (by simp), Odd.of (short_tup (by simp)) rfl⟩
    · rw [e, rep_one2]
      refine ⟨res_len (by rw [List.length_replicate]; omega), Odd.of (short_tup (by rw [List.length_replicate]; omega)) ?_⟩
      show (List.replicate k.toNat (PyData.int 1)).all (deep 1) = true
      exact List.all_eq_true.mpr fun x hx => by rw [(List.mem_replicate.mp hx).2]; rfl
  have lit : ∀ {δ : List Sl} {te : TE} {d : PyData}, E (some p) δ te d → inRD P d = false ∧ deep 1 d = true → J (some p) δ te 0 (fun d => inRD P d = false ∧ deep 1 d = true) := fun h hd => h.imp fun d' e => by rw [e]; exact hd
  have big : ∀ {δ : List Sl}, δ[0]? = some (.adr p) → J (some p) δ (tCall (spX R_pick) [] Ew (tCons (tVar 0) (tCons (tOp (rI CPowW fun i j => .int (i ^ j.toNat)) (tC (.int 10)) (tC (.int 9))) tNil))) 1 (IntP fun x => 0 ≤ x) := fun h => (j_pick (b := 1000000000) h (e_ten (v := 1000000000) (by omega) (by omega) (by decide)) (by omega) (by omega)).intImp (c1 := 1) (by omega) fun x hx => hx.1
  refine q_asg (i := 5) (n := n + 1) (c := 1) (Φ := fun d => ∃ ds : List PyData, (ds.length = 10 ∧ ∀ x ∈ ds, inRD P x = false ∧ deep 1 x = true) ∧ d = .list ds) (j_lst (Ψ := fun ds => ds.length = 10 ∧ ∀ x ∈ ds, inRD P x = false ∧ deep 1 x = true) (AJ.imp (ajq_cons (c1 := 0) (c2 := 1) (lit (e_var rfl) ⟨(by show (decide ((0 : Int) ≤ (P : Int)) && decide ((P : Int) < (P : Int))) = false; rw [decide_eq_false (show ¬ (P : Int) < (P : Int) by omega), Bool.and_false]), rfl⟩) (ajq_cons (c1 := 0) (c2 := 1) (lit (e_is (d1 := .int (-1)) (e_un e_int) rfl) ⟨rfl, rfl⟩) (ajq_cons (c1 := 0) (c2 := 1) (lit e_bl ⟨rfl, rfl⟩) (ajq_cons (c1 := 0) (c2 := 1) (lit e_bl ⟨rfl, rfl⟩) (ajq_cons (c1 := 0) (c2 := 1) (lit e_non ⟨rfl, rfl⟩) (ajq_cons (c1 := 0) (c2 := 1) (lit e_str ⟨rfl, rfl⟩) (ajq_cons (c1 := 0) (c2 := 1) (lit (e_tup (ds := [.int 0]) (ae_cons e_int ae_nil)) ⟨rfl, rfl⟩) (ajq_cons (c1 := 0) (c2 := 1) (lit (e_lst (ds := [.int 0]) (ae_cons e_int ae_nil)) ⟨rfl, rfl⟩) (ajq_cons (c1 := 1) (c2 := 0) ((j_addI (c1 := 0) (c2 := 1) (P1 := fun x => x = (P : Int) + 1) (P2 := fun x => 0 ≤ x) (Φ := IntP fun x => (P : Int) < x) (e_addI (e_var rfl) e_int).intP (big rfl) fun i k hi hk => ⟨i + k, by have h1 : i = (P : Int) + 1 := hi; have h2 : 0 ≤ k := hk; omega, rfl⟩).imp fun d ⟨x, hx, e⟩ => by rw [e]; exact ⟨(by show (decide ((0 : Int) ≤ x) && decide (x < (P : Int))) = false; rw [decide_eq_false (show ¬ x < (P : Int) by omega), Bool.and_false]), rfl⟩) (ajq_cons (c1 := 0) (c2 := 0) (lit (e_subI e_int (e_var rfl)) ⟨(by show (decide ((0 : Int) ≤ 0 - (P : Int)) && decide (0 - (P : Int) < (P : Int))) = false; rw [decide_eq_false (show ¬ (0 : Int) ≤ 0 - (P : Int) by omega), Bool.false_and]), rfl⟩) ajq_nil)))))))))) fun sls ⟨ds, e, hl, hp⟩ => ⟨ds, e, by omega, hl, hp⟩)) a3 fun d σ4 Hk4 H4 ⟨bs, ⟨hbl, hbp⟩, ed⟩ g4 a4 => ?_
  subst ed
  have cl4 := cl3.go g4
  obtain ⟨Hk5, s5, a5⟩ := a4.freeze (i := 4) cl4 rfl
  have h5 : ∀ d ∈ L0 ++ [d0], NoR K P d := fun d hd => by
    rcases List.mem_append.mp hd with h | h
    · exact h0 d h
    · rw [List.mem_singleton.mp h]; exact hd0
  obtain ⟨L5, eL5⟩ : ∃ L5 : List PyData, L5 = L0 ++ [d0] := ⟨_, rfl⟩
  have l5 : L5.length = 10 := by rw [eL5, List.length_append, l0]; rfl
  rw [← eL5] at a5 h5
  refine q_asgE (i := 4) (d := .list (L5 ++ bs.map fun b => .tuple ((f.map .int).take s ++ [b] ++ (f.map .int).drop (s + 1)))) (e_catL (ds := L5) (es := bs.map fun b => .tuple ((f.map .int).take s ++ [b] ++ (f.map .int).drop (s + 1))) (e_var rfl) (e_lc1 (vs := [6]) (emb := id) (xs := bs) (by rw [List.map_id]; exact ie_lst (e_var rfl)) (fun b => .tuple ((f.map .int).take s ++ [b] ++ (f.map .int).drop (s + 1))) (by omega) fun b hb => ⟨_, gb_name (by simp), e_putT (ds := f.map .int) (a := s) (b := s + 1) (e_var rfl) (e_var rfl) (e_is (e_addI (e_var rfl) e_int) (congrArg PyData.int (by omega))) (e_var rfl) (by rw [List.length_map]; omega)⟩) (by rw [List.length_map]; omega)) a5 fun σ6 Hk6 H6 g6 a6 => ?_
  have h6 : ∀ d ∈ L5 ++ bs.map (fun b => PyData.tuple ((f.map .int).take s ++ [b] ++ (f.map .int).drop (s + 1))), NoR K P d := fun d hd => by
    rcases List.mem_append.mp hd with w | w
    · exact h5 d w
    · obtain ⟨b, hb, rfl⟩ := List.mem_map.mp w
      exact ⟨res_in (d := b) (by simp) (hbp b hb).1, Odd.of (short_cut (by rw [List.length_map]; omega)) (deep_cut (deep_ints 1 f) (hbp b hb).2)⟩
  have hlen : (L5 ++ bs.map (fun b => PyData.tuple ((f.map .int).take s ++ [b] ++ (f.map .int).drop (s + 1)))).length = 20 := by rw [List.length_append, List.length_map, l5, hbl]
  generalize L5 ++ bs.map (fun b => PyData.tuple ((f.map .int).take s ++ [b] ++ (f.map .int).drop (s + 1))) = ws at a6 h6 hlen
  exact s_ret (n := n) (c := 1) (Φ := NoR K P) (j_ixOf (ds := ws) (e_var rfl) (j_pick rfl (e_lenL (ds := ws) (e_var rfl)) (by omega) (by omega)) h6) a6 (by omega) fin fun d h => h
/-! ### law -/
def kw : Nat → List Nat
  | 0 => [0, 1]
  | 1 => [0, 1]
  | 2 => [0, 1, 2]
  | 3 => [0, 1, 2]
  | _ => [1, 3]
def nmS : Nat → Str
  | 0 => "ledger"
  | 1 => "prime"
  | 2 => "number"
  | _ => "sums"
theorem kw_lt (u k : Nat) (h : k ∈ kw u) : k < 4 := by
  have : (kw u).all (fun k => decide (k < 4)) = true := by
    unfold kw
    split <;> rfl
  exact of_decide_eq_true (List.all_eq_true.mp this k h)
theorem kw_len (u : Nat) : (kw u).length ≤ 3 := by
  unfold kw
  split <;> decide
def fstB (u : Nat) (bs : List Bool) : Option Nat :=
  match (kw u).filter (fun k => bs.getD k false) with
  | k :: _ => some k
  | [] => none
theorem fstB_lt {u : Nat} {bs : List Bool} {k : Nat} (h : fstB u bs = some k) : k < 4 := by
  unfold fstB at h
  cases e : (kw u).filter (fun k => bs.getD k false) with
  | nil => rw [e] at h; cases h
  | cons x t =>
    rw [e] at h
    cases h
    exact kw_lt u _ (List.mem_filter.mp (show k ∈ (kw u).filter (fun k => bs.getD k false) by rw [e]; exact List.mem_cons_self)).1
/-- what a call tells: the first bad part, or a length that is too small -/
def outO (w : Nat) (bs : List Bool) (lg : Bool) : Option Nat :=
  match fstB (min 4 w) bs with
  | some k => some k
  | none => if (decide (7 < w) && lg) = true then some 4 else none
def dS : Option Nat → Str
  | none => "fine"
  | some k => nmS k
theorem dS_ok : ∀ o : Option Nat, (∀ k, o = some k → k < 4) → SeqAt.shaped (.str (dS o)) = true ∧ PyData.eqv (.str (dS o)) (.str "fine") = o.isNone ∧ (∀ k, o = some k → wN (some k) = nmS k)
  | none, _ => ⟨by decide +kernel, by decide +kernel, fun k h => by cases h⟩
  | some 0, _ => ⟨by decide +kernel, by decide +kernel, fun k h => by cases h; rfl⟩
  | some 1, _ => ⟨by decide +kernel, by decide +kernel, fun k h => by cases h; rfl⟩
  | some 2, _ => ⟨by decide +kernel, by decide +kernel, fun k h => by cases h; rfl⟩
  | some 3, _ => ⟨by decide +kernel, by decide +kernel, fun k h => by cases h; rfl⟩
  | some (k + 4), h => absurd (h (k + 4) rfl) (by omega)
theorem due_str (u : Nat) (bs : List Bool) : atI ((((kw u).filter fun k => bs.getD k false).map fun k => PyData.str (nmS k)) ++ [.str "fine"]) 0 = some (.str (dS (fstB u bs))) := by
  unfold fstB
  cases e : (kw u).filter (fun k => bs.getD k false) with
  | nil => rfl
  | cons x t =>
    have h0 : atI (((x :: t).map fun k => PyData.str (nmS k)) ++ [.str "fine"]) ((0 : Nat) : Int) = some (.str (nmS x)) := atI_nat rfl
    exact h0
theorem gb_ok {K : PySem.W.Frag} {d : PyData} (h : GB d) : isLedD d = true ∧ Odd K d := by
  obtain ⟨l, h1, h3, rfl⟩ := h
  exact ⟨led_isLed h1, Odd.of (short_tup (by rw [pd_len]; omega)) (deep_led 2 l)⟩
theorem gt_ok {K : PySem.W.Frag} {P : Nat} {f : List Int} (h1 : 1 ≤ f.length) (h2 : f.length ≤ 400) (h3 : f.length ≤ P) (h4 : ∀ x ∈ f, 0 ≤ x ∧ x < (P : Int)) : resD P (pol f) = true ∧ Odd K (pol f) := by
  refine ⟨?_, Odd.of (short_tup (by rw [List.length_map]; omega)) (deep_pol 2 f)⟩
  show ((decide ((1 : Int) ≤ ((f.map PyData.int).length : Int)) && decide (((f.map PyData.int).length : Int) ≤ (P : Int))) && (f.map PyData.int).all (inRD P)) = true
  rw [List.length_map, decide_eq_true (show (1 : Int) ≤ (f.length : Int) by omega), decide_eq_true (show (f.length : Int) ≤ (P : Int) by omega), Bool.true_and, Bool.true_and]
  refine List.all_eq_true.mpr fun d hd => ?_
  obtain ⟨x, hx, rfl⟩ := List.mem_map.mp hd
  have := h4 x hx
  show (decide (0 ≤ x) && decide (x < (P : Int))) = true
  rw [decide_eq_true this.1, decide_eq_true this.2]
  rfl
/-- a number of sums that is refused -/
def NoZ (K : PySem.W.Frag) (P : Nat) (d : PyData) : Prop := (Kn K d ∧ isFromD 1 d = false) ∨ ∃ m : Int, (P : Int) < m ∧ d = .int m
/-- what is asked of a call: which parts are bad, whether the sums are too few -/
theorem out_ok {K : PySem.W.Frag} {P : Nat} {f : List Int} {z : Int} (w : Nat) (hw : w < 10) {a b d e : PyData} {b0 b1 b2 b3 : Bool} (hP : primed P) (hf1 : 1 ≤ f.length) (hf2 : f.length ≤ 400) (hf3 : f.length ≤ P) (hfr : ∀ x ∈ f, 0 ≤ x ∧ x < (P : Int)) (hz : 1 ≤ z ∧ z ≤ (P : Int))
    (n0 : b0 = true → isLedD a = false ∧ Odd K a) (g0 : b0 = false → GB a) (n1 : b1 = true → PB K b) (g1 : b1 = false → b = .int (P : Int)) (n2 : b2 = true → NoZ K P d) (g2 : b2 = false → d = .int z) (n3 : b3 = true → resD P e = false ∧ Odd K e) (g3 : b3 = false → e = pol f) :
    OutC K w [a, b, d, e] (outO w [b0, b1, b2, b3] (decide (f.length < P))) := by
  have ho := gt_ok (K := K) hf1 hf2 hf3 hfr
  have gt : b1 = false → b3 = false → GT b e := fun h1 h3 => ⟨P, f, hP, ⟨hf1, hf2⟩, hf3, hfr, g1 h1, g3 h3⟩
  have B0 : b0 = true → B_reduced K none [.dat a, .dat b] 0 "InvalidLedger" := fun h => ⟨rfl, a, b, (n0 h).2, rfl, .inl ⟨(n0 h).1, rfl⟩⟩
  have B1 : b0 = false → b1 = true → B_reduced K none [.dat a, .dat b] 0 "InvalidPrime" := fun h h1 => ⟨rfl, a, b, (gb_ok (g0 h)).2, rfl, .inr ⟨(gb_ok (K := K) (g0 h)).1, n1 h1, rfl⟩⟩
  have C0 : b0 = true → B_sums_modulo K none [.dat a, .dat b, .dat d] 0 "InvalidLedger" := fun h => ⟨rfl, a, b, d, (n0 h).2, rfl, .inl ⟨(n0 h).1, rfl⟩⟩
  have C1 : b0 = false → b1 = true → B_sums_modulo K none [.dat a, .dat b, .dat d] 0 "InvalidPrime" := fun h h1 => ⟨rfl, a, b, d, (gb_ok (g0 h)).2, rfl, .inr (.inl ⟨(gb_ok (K := K) (g0 h)).1, n1 h1, rfl⟩)⟩
  have C2 : b0 = false → b1 = false → b2 = true → B_sums_modulo K none [.dat a, .dat b, .dat d] 0 "InvalidNumber" := fun h h1 h2 => ⟨rfl, a, b, d, (gb_ok (g0 h)).2, rfl, .inr (.inr ⟨(gb_ok (K := K) (g0 h)).1, ⟨P, hP, g1 h1, n2 h2⟩, rfl⟩)⟩
  have D1 : b1 = true → B_told_modulo K none [.dat e, .dat b] 0 "InvalidPrime" := fun h1 => ⟨rfl, e, b, rfl, .inl ⟨n1 h1, rfl⟩⟩
  have D3 : b1 = false → b3 = true → B_told_modulo K none [.dat e, .dat b] 0 "InvalidResidues" := fun h1 h3 => ⟨rfl, e, b, rfl, .inr ⟨P, hP, g1 h1, (n3 h3).2, (n3 h3).1, rfl⟩⟩
  match w, hw with
  | 0, _ =>
    cases b0 with
    | true => exact (show OutC K 0 [a, b, d, e] (some 0) from ⟨by decide, B0 rfl⟩)
    | false => cases b1 with
      | true => exact (show OutC K 0 [a, b, d, e] (some 1) from ⟨by decide, B1 rfl rfl⟩)
      | false => exact (show GoodC 0 [a, b, d, e] from ⟨g0 rfl, P, hP, g1 rfl⟩)
  | 1, _ =>
    cases b0 with
    | true => exact (show OutC K 1 [a, b, d, e] (some 0) from ⟨by decide, B0 rfl⟩)
    | false => cases b1 with
      | true => exact (show OutC K 1 [a, b, d, e] (some 1) from ⟨by decide, B1 rfl rfl⟩)
      | false => exact (show GoodC 1 [a, b, d, e] from ⟨g0 rfl, P, hP, g1 rfl⟩)
  | 2, _ =>
    cases b0 with
    | true => exact (show OutC K 2 [a, b, d, e] (some 0) from ⟨by decide, C0 rfl⟩)
    | false => cases b1 with
      | true => exact (show OutC K 2 [a, b, d, e] (some 1) from ⟨by decide, C1 rfl rfl⟩)
      | false => cases b2 with
        | true => exact (show OutC K 2 [a, b, d, e] (some 2) from ⟨by decide, C2 rfl rfl rfl⟩)
        | false => exact (show GoodC 2 [a, b, d, e] from ⟨g0 rfl, P, z.toNat, hP, by omega, by omega, g1 rfl, by rw [g2 rfl]; congr 1; omega⟩)
  | 3, _ =>
    cases b0 with
    | true => exact (show OutC K 3 [a, b, d, e] (some 0) from ⟨by decide, C0 rfl⟩)
    | false => cases b1 with
      | true => exact (show OutC K 3 [a, b, d, e] (some 1) from ⟨by decide, C1 rfl rfl⟩)
      | false => cases b2 with
        | true => exact (show OutC K 3 [a, b, d, e] (some 2) from ⟨by decide, C2 rfl rfl rfl⟩)
        | false => exact (show GoodC 3 [a, b, d, e] from ⟨g0 rfl, P, z.toNat, hP, by omega, by omega, g1 rfl, by rw [g2 rfl]; congr 1; omega⟩)
  | 4, _ =>
    cases b1 with
    | true => exact (show OutC K 4 [a, b, d, e] (some 1) from ⟨by decide, D1 rfl⟩)
    | false => cases b3 with
      | true => exact (show OutC K 4 [a, b, d, e] (some 3) from ⟨by decide, D3 rfl rfl⟩)
      | false => exact (show GoodC 4 [a, b, d, e] from gt rfl rfl)
  | 5, _ =>
    cases b1 with
    | true => exact (show OutC K 5 [a, b, d, e] (some 1) from ⟨by decide, D1 rfl⟩)
    | false => cases b3 with
      | true => exact (show OutC K 5 [a, b, d, e] (some 3) from ⟨by decide, D3 rfl rfl⟩)
      | false => exact (show GoodC 5 [a, b, d, e] from gt rfl rfl)
  | 6, _ =>
    cases b1 with
    | true => exact (show OutC K 6 [a, b, d, e] (some 1) from ⟨by decide, D1 rfl⟩)
    | false => cases b3 with
      | true => exact (show OutC K 6 [a, b, d, e] (some 3) from ⟨by decide, D3 rfl rfl⟩)
      | false => exact (show GoodC 6 [a, b, d, e] from gt rfl rfl)
  | 7, _ =>
    cases b1 with
    | true => exact (show OutC K 7 [a, b, d, e] (some 1) from ⟨by decide, D1 rfl⟩)
    | false => cases b3 with
      | true => exact (show OutC K 7 [a, b, d, e] (some 3) from ⟨by decide, D3 rfl rfl⟩)
      | false => exact (show GoodC 7 [a, b, d, e] from gt rfl rfl)
  | 8, _ =>
    cases b1 with
    | true => exact (show OutC K 8 [a, b, d, e] (some 1) from ⟨by decide, .inl (D1 rfl)⟩)
    | false => cases b3 with
      | true => exact (show OutC K 8 [a, b, d, e] (some 3) from ⟨by decide, .inl (D3 rfl rfl)⟩)
      | false =>
        by_cases hl : f.length < P
        · rw [decide_eq_true hl]
          exact (show OutC K 8 [a, b, d, e] (some 4) from ⟨by decide, .inr ⟨rfl, e, b, rfl, P, hP, g1 rfl, by rw [g3 rfl]; exact ho.1, by rw [g3 rfl, len_pol]; exact hl, rfl⟩⟩)
        · rw [decide_eq_false hl]
          exact (show GoodC 8 [a, b, d, e] from ⟨P, f, hP, by omega, hfr, g1 rfl, g3 rfl⟩)
  | 9, _ =>
    cases b1 with
    | true => exact (show OutC K 9 [a, b, d, e] (some 1) from ⟨by decide, .inl (D1 rfl)⟩)
    | false => cases b3 with
      | true => exact (show OutC K 9 [a, b, d, e] (some 3) from ⟨by decide, .inl (D3 rfl rfl)⟩)
      | false =>
        by_cases hl : f.length < P
        · rw [decide_eq_true hl]
          exact (show OutC K 9 [a, b, d, e] (some 4) from ⟨by decide, .inr ⟨rfl, e, b, rfl, P, hP, g1 rfl, by rw [g3 rfl]; exact ho.1, by rw [g3 rfl, len_pol]; exact hl, rfl⟩⟩)
        · rw [decide_eq_false hl]
          exact (show GoodC 9 [a, b, d, e] from ⟨P, f, hP, by omega, hfr, g1 rfl, g3 rfl⟩)
  | w + 10, hw => exact absurd hw (by omega)
set_option maxHeartbeats 8000000 in
theorem ok_law (T : Tx K mg) : FnOk P w K mg base CX0 9 T.a_law T.fd_law P_law (spLaw K) := by
  have G__law_book := ok__law_book (P := P) (w := w) (base := base) T
  have G__law_jar := ok__law_jar (P := P) (w := w) (base := base) T
  have G__law_no_book := ok__law_no_book (P := P) (w := w) (base := base) T
  have G__law_no_prime := ok__law_no_prime (P := P) (w := w) (base := base) T
  have G__law_no_rests := ok__law_no_rests (P := P) (w := w) (base := base) T
  have G__law_pick := ok__law_pick (P := P) (w := w) (base := base) T
  have G__law_primes := ok__law_primes (P := P) (w := w) (base := base) T
  have G__law_small_right := ok__law_small_right (P := P) (w := w) (base := base) T
  have G__law_told := ok__law_told (P := P) (w := w) (base := base) T
  refine T.F_law.ok sc_law (fun vs H Q Ew h => by obtain ⟨a, ns, rfl, _⟩ := h; rfl) (fun cdv A outer s H vs Q Ew hr h => ?_)
  obtain ⟨a, ns, rfl, hS, hlen, kk⟩ := h
  refine ⟨_, (pss_cons (ps_set (i := 1) sc_law.nd rfl (Or.inl rfl) (pe_call G__law_primes (hr.mono (by decide)) (by rfl) T.m__law_primes T.F__law_primes.kp T.b__law_primes .nil pass0 (pa_cons pe_int pa_nil)))
      (pss_cons (ps_if (PW.pt (pw_or (pt_cmpR (k_eqD (K := K) rfl hr.units) (pv 0) (pe_lst pa_nil) (nomark _)) (pw_or1 (pt_cmpR (k_eqD (K := K) rfl hr.units) (pe_op op_modN (pe_callTy call_intQ (by rfl) T.z_int (by decide +kernel) (pa_cons (pe_ix (k_ix (K := K) rfl) (pv 0) pe_int (fun _ _ => rfl)) pa_nil)) pe_int) pe_int (nomark _))))) (pss_one (ps_if (pt_not (pt_val (pe_call G__law_small_right (hr.mono (by decide)) (by rfl) T.m__law_small_right T.F__law_small_right.kp T.b__law_small_right .nil pass0 (pa_cons (pv 1) pa_nil)))) (pss_one (ps_ret pe_bl)) pss_nil)) pss_nil)
      (pss_cons (ps_for PassesOwn.never rfl (pi_range1 rfl T.z_range (pa_cons (pe_callB (call_maxQ rfl) (by rfl) T.z_max (by decide +kernel) (pa_cons pe_int (pa_cons (pe_callB (call_minQ rfl) (by rfl) T.z_min (by decide +kernel) (pa_cons pe_int (pa_cons (pe_callB (k_len (K := K) rfl) (by rfl) T.z_len (by decide +kernel) (pa_cons (pv 0) pa_nil)) pa_nil))) pa_nil))) pa_nil)) (pg_name (i := 2) sc_law.nd rfl (Or.inl rfl)) (pss_cons (ps_set (i := 3) sc_law.nd rfl (Or.inr rfl) (pe_call G__law_jar (hr.mono (by decide)) (by rfl) T.m__law_jar T.F__law_jar.kp T.b__law_jar .nil pass0 (pa_cons (pv 0) (pa_cons (pv 2) pa_nil))))
      (pss_cons (ps_set (i := 4) sc_law.nd rfl (Or.inr rfl) (pe_ix (k_ix (K := K) rfl) (pe_lst (pa_cons (pe_ix (k_ix (K := K) rfl) (pv 1) (pe_call G__law_pick (hr.mono (by decide)) (by rfl) T.m__law_pick T.F__law_pick.kp T.b__law_pick .nil pass0 (pa_cons (pv 3) (pa_cons pe_int pa_nil))) (fun _ _ => rfl)) (pa_cons (pe_ix (k_ix (K := K) rfl) (pv 1) (pe_call G__law_pick (hr.mono (by decide)) (by rfl) T.m__law_pick T.F__law_pick.kp T.b__law_pick .nil pass0 (pa_cons (pv 3) (pa_cons pe_int pa_nil))) (fun _ _ => rfl)) pa_nil))) (pe_call G__law_pick (hr.mono (by decide)) (by rfl) T.m__law_pick T.F__law_pick.kp T.b__law_pick .nil pass0 (pa_cons (pv 3) (pa_cons pe_int pa_nil))) (fun _ _ => rfl)))
      (pss_cons (ps_set (i := 5) sc_law.nd rfl (Or.inl rfl) (pe_call G__law_book (hr.mono (by decide)) (by rfl) T.m__law_book T.F__law_book.kp T.b__law_book .nil pass0 (pa_cons (pv 3) (pa_cons pe_int (pa_cons pe_int (pa_cons pe_int pa_nil))))))
      (pss_one (ps_for PassesOwn.never rfl (pi_range1 rfl T.z_range (pa_cons pe_int pa_nil)) (pg_name (i := 6) sc_law.nd rfl (Or.inl rfl)) (pss_cons (ps_if (pt_cmpR (k_eqD (K := K) rfl hr.units) (pv 6) pe_int (nomark _)) (pss_one (ps_set (i := 4) sc_law.nd rfl (Or.inr rfl) (pe_ix (k_ix (K := K) rfl) (pv 1) (pe_call G__law_pick (hr.mono (by decide)) (by rfl) T.m__law_pick T.F__law_pick.kp T.b__law_pick .nil pass0 (pa_cons (pv 3) (pa_cons pe_int pa_nil))) (fun _ _ => rfl)))) pss_nil)
      (pss_cons (ps_set (i := 7) sc_law.nd rfl (Or.inl rfl) (pe_callB (call_minQ rfl) (by rfl) T.z_min (by decide +kernel) (pa_cons pe_int (pa_cons (pv 4) pa_nil))))
      (pss_cons (ps_set (i := 8) sc_law.nd rfl (Or.inl rfl) (pe_callTy (k_tup (K := K) rfl) (by rfl) T.z_tuple (by decide +kernel) (pa_cons (pe_lc (own := [("k", 13)]) rfl sc_law.nd (pi_range1 rfl T.z_range (pa_cons (pe_ix (k_ix (K := K) rfl) (pe_lst (pa_cons (pe_op (k_addU (K := K) rfl) pe_int (pe_call G__law_pick (hr.mono (by decide)) (by rfl) T.m__law_pick T.F__law_pick.kp T.b__law_pick .nil pass0 (pa_cons (pv 3) (pa_cons (pv 7) pa_nil)))) (pa_cons (pv 7) pa_nil))) (pe_call G__law_pick (hr.mono (by decide)) (by rfl) T.m__law_pick T.F__law_pick.kp T.b__law_pick .nil pass0 (pa_cons (pv 3) (pa_cons pe_int pa_nil))) (fun _ _ => rfl)) pa_nil)) (blkOk_by (own := [("k", 13)]) (N := N_law) (sc := defScope s_law) (by decide +kernel)) (fun _ _ _ _ _ => (pg_name (i := 13) sc_law.nd rfl (Or.inl rfl))) (fun _ _ _ _ _ => pts_nil) (fun _ _ _ _ _ => (pe_call G__law_pick (hr.mono (by decide)) (by rfl) T.m__law_pick T.F__law_pick.kp T.b__law_pick .nil pass0 (pa_cons (pv 3) (pa_cons (pv 4) pa_nil))))) pa_nil)))
      (pss_cons (ps_set (i := 9) sc_law.nd rfl (Or.inl rfl) (pe_lst (pa_cons (pv 5) (pa_cons (pv 4) (pa_cons (pe_op (k_addU (K := K) rfl) pe_int (pe_call G__law_pick (hr.mono (by decide)) (by rfl) T.m__law_pick T.F__law_pick.kp T.b__law_pick .nil pass0 (pa_cons (pv 3) (pa_cons (pv 7) pa_nil)))) (pa_cons (pv 8) pa_nil))))))
      (pss_cons (ps_set (i := 10) sc_law.nd rfl (Or.inr rfl) (pe_lc (own := [("k", 13)]) rfl sc_law.nd (pi_range1 rfl T.z_range (pa_cons pe_int pa_nil)) (blkOk_by (own := [("k", 13)]) (N := N_law) (sc := defScope s_law) (by decide +kernel)) (fun _ _ _ _ _ => (pg_name (i := 13) sc_law.nd rfl (Or.inl rfl))) (fun _ _ _ _ _ => pts_nil) (fun _ _ _ _ _ => (pe_cmpR (k_eqD (K := K) rfl hr.units) (pe_call G__law_pick (hr.mono (by decide)) (by rfl) T.m__law_pick T.F__law_pick.kp T.b__law_pick .nil pass0 (pa_cons (pv 3) (pa_cons pe_int pa_nil))) pe_int (nomark _)))))
      (pss_cons (ps_if (pt_val (pe_ix (k_ix (K := K) rfl) (pv 10) pe_int (fun _ _ => rfl))) (pss_one (ps_asg (pe_call G__law_no_book (hr.mono (by decide)) (by rfl) T.m__law_no_book T.F__law_no_book.kp T.b__law_no_book .nil pass0 (pa_cons (pv 3) (pa_cons (pv 5) pa_nil))) (pg_sub (pv 9) pe_int set_list))) pss_nil)
      (pss_cons (ps_if (pt_val (pe_ix (k_ix (K := K) rfl) (pv 10) pe_int (fun _ _ => rfl))) (pss_one (ps_asg (pe_call G__law_no_prime (hr.mono (by decide)) (by rfl) T.m__law_no_prime T.F__law_no_prime.kp T.b__law_no_prime .nil pass0 (pa_cons (pv 3) (pa_cons (pv 4) pa_nil))) (pg_sub (pv 9) pe_int set_list))) pss_nil)
      (pss_cons (ps_if (pt_val (pe_ix (k_ix (K := K) rfl) (pv 10) pe_int (fun _ _ => rfl))) (pss_one (ps_asg (pe_ix (k_ix (K := K) rfl) (pe_lst (pa_cons pe_non (pa_cons pe_bl (pa_cons pe_int (pa_cons (pe_un un_neg pe_int) (pa_cons (pe_op (k_addU (K := K) rfl) (pv 4) pe_int) (pa_cons (pe_op (k_addU (K := K) rfl) (pe_op (k_addU (K := K) rfl) (pv 4) pe_int) (pe_call G__law_pick (hr.mono (by decide)) (by rfl) T.m__law_pick T.F__law_pick.kp T.b__law_pick .nil pass0 (pa_cons (pv 3) (pa_cons pe_int pa_nil)))) (pa_cons pe_str (pa_cons (pe_lst (pa_cons pe_int pa_nil)) pa_nil))))))))) (pe_call G__law_pick (hr.mono (by decide)) (by rfl) T.m__law_pick T.F__law_pick.kp T.b__law_pick .nil pass0 (pa_cons (pv 3) (pa_cons pe_int pa_nil))) (fun _ _ => rfl)) (pg_sub (pv 9) pe_int set_list))) pss_nil)
      (pss_cons (ps_if (pt_val (pe_ix (k_ix (K := K) rfl) (pv 10) pe_int (fun _ _ => rfl))) (pss_one (ps_asg (pe_call G__law_no_rests (hr.mono (by decide)) (by rfl) T.m__law_no_rests T.F__law_no_rests.kp T.b__law_no_rests .nil pass0 (pa_cons (pv 3) (pa_cons (pv 8) (pa_cons (pv 4) pa_nil)))) (pg_sub (pv 9) pe_int set_list))) pss_nil)
      (pss_cons (ps_set (i := 11) sc_law.nd rfl (Or.inl rfl) (pe_ix (k_ix (K := K) rfl) (pe_lst (pa_cons (pe_lst (pa_cons pe_int (pa_cons pe_int pa_nil))) (pa_cons (pe_lst (pa_cons pe_int (pa_cons pe_int pa_nil))) (pa_cons (pe_lst (pa_cons pe_int (pa_cons pe_int (pa_cons pe_int pa_nil)))) (pa_cons (pe_lst (pa_cons pe_int (pa_cons pe_int (pa_cons pe_int pa_nil)))) (pa_cons (pe_lst (pa_cons pe_int (pa_cons pe_int pa_nil))) pa_nil)))))) (pe_callB (call_minQ rfl) (by rfl) T.z_min (by decide +kernel) (pa_cons pe_int (pa_cons (pv 6) pa_nil))) (fun _ _ => rfl)))
      (pss_cons (ps_set (i := 12) sc_law.nd rfl (Or.inl rfl) (pe_ix (k_ix (K := K) rfl) (pe_op (k_addU (K := K) rfl) (pe_lc (own := [("k", 13)]) rfl sc_law.nd (k_piList (K := K) rfl (pv 11)) (blkOk_by (own := [("k", 13)]) (N := N_law) (sc := defScope s_law) (by decide +kernel)) (fun _ _ _ _ _ => (pg_name (i := 13) sc_law.nd rfl (Or.inl rfl))) (fun _ _ _ _ _ => (pts_one (pt_val (pe_ix (k_ix (K := K) rfl) (pv 10) (pv 13) (fun _ _ => rfl))))) (fun _ _ _ _ _ => (pe_ix (k_ix (K := K) rfl) (pe_lst (pa_cons pe_str (pa_cons pe_str (pa_cons pe_str (pa_cons pe_str pa_nil))))) (pv 13) (fun _ _ => rfl)))) (pe_lst (pa_cons pe_str pa_nil))) pe_int (fun _ _ => rfl)))
      (pss_cons (ps_if (PW.pt (pw_and (pt_cmpR (k_eqD (K := K) rfl hr.units) (pv 12) pe_str (nomark _)) (pw_and (pt_cmpR op_gt (pv 6) pe_int (nomark _)) (pw_and1 (pt_cmpR op_lt (pe_callB (k_len (K := K) rfl) (by rfl) T.z_len (by decide +kernel) (pa_cons (pv 8) pa_nil)) (pv 4) (nomark _)))))) (pss_one (ps_set (i := 12) sc_law.nd rfl (Or.inl rfl) pe_str)) pss_nil)
      (pss_one (ps_if (pt_cmpR (k_neD (K := K) rfl hr.units) (pe_call G__law_told (hr.mono (by decide)) (by rfl) T.m__law_told T.F__law_told.kp T.b__law_told .nil pass0 (pa_cons (pv 6) (pa_cons (pv 9) pa_nil))) (pv 12) (nomark _)) (pss_one (ps_ret pe_bl)) pss_nil))))))))))))))))))))
      (pss_one (ps_ret pe_bl))))), ?_⟩
  have hA : At none 0 [.scr K ns, .any, .any, .any, .any, .any, .any, .any, .any, .any, .any, .any, .any, .any] H H (L2.start N_law [.ref a]) H H := ⟨⟨Same.refl _, fun p e => (by cases e), fun p e => (by cases e)⟩, start_sg (N := N_law) (VS.cons (s := .scr K ns) ⟨a, rfl, hS⟩ VS.nil) (by show 1 ≤ 14; decide), Gr.refl (Same.refl _)⟩
  obtain ⟨tab, etab⟩ : ∃ tab : List PyData, tab = (List.range 5).map fun u => PyData.list ((kw u).map fun k : Nat => .int (k : Int)) := ⟨_, rfl⟩
  obtain ⟨nms, enms⟩ : ∃ nms : List PyData, nms = (List.range 4).map fun k => PyData.str (nmS k) := ⟨_, rfl⟩
  have i2 : ∀ {q : Option Addr} {δ : List Sl} (x y : Int), E q δ (tLst (tCons (tC (.int x)) (tCons (tC (.int y)) tNil))) (.list [.int x, .int y]) := fun x y => e_lst (ds := [.int x, .int y]) (ae_cons e_int (ae_cons e_int ae_nil))
  have i3 : ∀ {q : Option Addr} {δ : List Sl} (x y z : Int), E q δ (tLst (tCons (tC (.int x)) (tCons (tC (.int y)) (tCons (tC (.int z)) tNil)))) (.list [.int x, .int y, .int z]) := fun x y z => e_lst (ds := [.int x, .int y, .int z]) (ae_cons e_int (ae_cons e_int (ae_cons e_int ae_nil)))
  obtain ⟨pl, epl⟩ : ∃ pl : List Int, pl = (prL 498).map fun n : Nat => (n : Int) := ⟨_, rfl⟩
  have hpl : pl.length = 95 := by rw [epl, List.length_map]; exact prL_500.1
  have hpp : ∀ x ∈ pl, ∃ n : Nat, (primed n ∧ n < 500) ∧ x = (n : Int) := fun x hx => by
    rw [epl] at hx
    obtain ⟨n, hn, rfl⟩ := List.mem_map.mp hx
    exact ⟨n, ⟨primed_of (prL_500.2 n hn).1, (prL_500.2 n hn).2⟩, rfl⟩
  have hchk : ∀ m : Nat, m < 500 → (pl.any (· == (m : Int)) = true → primed m) ∧ (pl.any (· == (m : Int)) = false → PrJ (.int (m : Int)) false) := fun m hm => by
    have h1 := List.all_eq_true.mp prL_chk m (List.mem_range.mpr hm)
    have e1 : pl.any (· == (m : Int)) = (prL 498).contains m := by
      rw [epl, List.any_map, Bool.eq_iff_iff]
      simp
      exact ⟨fun ⟨x, h, e⟩ => by rw [show m = x by omega]; exact h, fun h => ⟨m, h, rfl⟩⟩
    rw [e1]
    refine ⟨fun h => ?_, fun h => ?_⟩
    · rw [h] at h1; exact primed_of h1
    · rw [h] at h1
      have h2 : compB m = true := h1
      unfold compB at h2
      rw [Bool.or_eq_true] at h2
      rcases h2 with h2 | h2
      · have := of_decide_eq_true h2
        exact .inr ⟨decide_eq_false (by omega), rfl⟩
      · obtain ⟨e, _, h3⟩ := List.any_eq_true.mp h2
        rw [Bool.and_eq_true, Bool.and_eq_true] at h3
        have h4 := of_decide_eq_true h3.1.1
        have h5 := of_decide_eq_true h3.1.2
        have h6 := of_decide_eq_true h3.2
        exact (prc (K := K) (m := m) (e := e) ⟨h4, h5, h6, by omega⟩).2
  refine q_asgE (i := 1) (d := .list (pl.map .int)) (j_call (R := R__law_primes) (c := 0) (ae_cons (e_is e_int (d1 := .int ((498 + 2 : Nat) : Int)) rfl) ae_nil) fun sls e => ⟨rfl, 498, by omega, e, by rw [epl]⟩) hA fun σ1 Hk1 H1 g1 a1 => ?_
  refine q_cut (I := fun σ' H' => ∃ Hk' : Hp, At none 0 [.scr K ns, .dat (.list (pl.map .int)), .any, .any, .any, .any, .any, .any, .any, .any, .any, .any, .any, .any] H H σ' Hk' H') (fun D' kc => ?_) fun σ2 H2 ⟨Hk2, a2⟩ => ?_
  · refine s_ifB (b := ns.isEmpty || ((ns.getD 0 0).fmod 4 == 0)) (tb_or (tb_test (e_is (e_eqNil rfl (shaped_intsL ns)) (by rw [eqv_nil]))) fun hn => tb_test (e_eqDI (e_mod (e_cb1 (e_iS (v := ns.getD 0 0) rfl e_int ?_) (rc_int rfl)) e_int (by omega)) e_int)) a1 (fun _ Hk3 H3 g3 a3 => ?_) (fun _ Hk3 H3 g3 a3 => kc _ _ ⟨Hk3, a3⟩)
    · cases ns with
      | nil => cases hn
      | cons x t => exact atI_nat (j := 0) rfl
    · exact s_ifNo (tb_is (tb_not (tb_B (j_call (R := R__law_small_right K) (c := 0) (Φ := fun d => d = .bool true) (ae_cons (e_var rfl) ae_nil) fun sls e => ⟨rfl, pl, hchk, e, rfl⟩))) rfl) a3 fun Hk4 H4 g4 a4 => kc _ _ ⟨Hk4, a4⟩
  refine q_for (n := 0) (c := 0) (e_ats rfl (by omega) (by omega)) a2.reset fun items HkW H10 ⟨m9, hm9, ei⟩ g10 a10 => ?_
  subst ei
  refine ⟨fun i σ' Hk' H' => Same HkW Hk' ∧ At none 0 [.scr K ns, .dat (.list (pl.map .int)), .any, .any, .any, .any, .any, .any, .any, .any, .any, .any, .any, .any] Hk' H' σ' Hk' H', ⟨Same.refl _, a10.reset⟩, fun i σ' Hk' H' h => ⟨h.1, h.2.ok.a⟩, ?_, ?_⟩
  · rintro i d σ' Hk' H' ed ⟨h2, st⟩ v Hk11 H11 g11 dv
    obtain ⟨hi, rfl⟩ := rng_get' ed
    refine gb_name (vs := [2]) (by simp) σ' Hk11 H11 v (st.sg.mono g11.k) g11.a dv _ fun σ2 sg2 _ _ => ?_
    have st2 : At none 0 [.scr K ns, .dat (.list (pl.map .int)), .dat (.int (0 + (i : Int))), .any, .any, .any, .any, .any, .any, .any, .any, .any, .any, .any] Hk11 H11 σ2 Hk11 H11 := ⟨st.ok.go g11, sg2, Gr.refl g11.a⟩
    refine q_mkJarE st2 rfl (e_var rfl) (by omega) (by omega) fun p σ12 Hk12 H12 sm12 a12 => ?_
    have pick12 : ∀ {δ : List Sl} {b : Nat} {cc : Int}, b ≤ 95 → 1 ≤ b → cc = (b : Int) → δ[3]? = some (.adr p) → δ[1]? = some (.dat (.list (pl.map .int))) → J (some p) δ (tOp (rIx K) (tVar 1) (tCall (spX R_pick) [] Ew (tCons (tVar 3) (tCons (tC (.int cc)) tNil)))) 1 (IntP fun x => ∃ n : Nat, (primed n ∧ n < 500) ∧ x = (n : Int)) := fun {δ b cc} hb hb1 ec h3 h1 => (j_iL (c1 := 0) (c2 := 1) (P := fun i => 0 ≤ i ∧ i < (b : Int)) (Ψ := fun ds => ds = pl.map .int) ((e_var h1).imp fun d e => ⟨_, rfl, e⟩) (j_pick h3 (e_is e_int (by rw [ec])) (by omega) (by omega)) fun ds i e hi => by
      subst e
      obtain ⟨k, ek⟩ : ∃ k : Nat, i = (k : Int) := ⟨i.toNat, by omega⟩
      subst ek
      have hk : k < pl.length := by omega
      exact ⟨_, at_ints0 hk, pl.getD k 0, hpp _ (by rw [List.getD_eq_getElem?_getD, List.getElem?_eq_getElem hk]; exact List.getElem_mem hk), rfl⟩).cost (by omega)
    refine q_asg (i := 4) (n := 300000) (c := 5) (Φ := IntP fun x => ∃ n : Nat, (primed n ∧ n < 500) ∧ x = (n : Int)) ((j_menu (P := fun x => ∃ n : Nat, (primed n ∧ n < 500) ∧ x = (n : Int)) (c := 2) (ci := 1) (aji_cons (c1 := 1) (c2 := 1) (pick12 (b := 95) (by omega) (by omega) rfl rfl rfl) (aji_cons (c1 := 1) (c2 := 0) (pick12 (b := 12) (by omega) (by omega) rfl rfl rfl) aji_nil)) (by omega) (j_pick rfl e_int (by omega) (by omega))).cost (by omega)) (a12.mono (by omega)) fun d σ13 Hk13 H13 ⟨x, ⟨P0, hP0, ex⟩, ed⟩ g13 a13 => ?_
    subst ex; subst ed
    refine q_asg (i := 5) (n := 200000) (c := 1000) (Φ := fun d => ∃ l, Led l ∧ l.length ≤ 5 ∧ d = led l) ((j_call (R := R__law_book) (c := 1000) (c1 := 0) (Φ := fun d => ∃ l, Led l ∧ (l.length : Int) ≤ 5 ∧ (∀ x ∈ l, -40 ≤ x.1 ∧ x.1 ≤ 40) ∧ Bd 60 l ∧ d = led l) (ae_adr rfl (ae_cons e_int (ae_cons e_int (ae_cons e_int ae_nil)))) fun sls e => ⟨rfl, p, 5, 40, 9, rfl, by omega, by omega, by omega, by omega, by omega, by omega, e, rfl⟩).imp fun d ⟨l, h1, h2, _, h4, ed⟩ => ⟨l, h1, by omega, ed⟩) (a13.mono (by omega)) fun d σ14 Hk14 H14 ⟨bk, hbL, hbl, ed⟩ g14 a14 => ?_
    subst ed
    refine s_for (n := 200000) (c := 0) (ie_rng1 e_int (by omega) (by omega)) (a14.mono (by omega)) fun items HkU H20 ei g20 a20 => ?_
    subst ei
    refine ⟨fun t σ' Hk' H' => ∃ e P, (e + 9000 * t = 200000 ∧ primed P ∧ P < 500) ∧ At (some p) e [.scr K ns, .dat (.list (pl.map .int)), .dat (.int (0 + (i : Int))), .adr p, .dat (.int (P : Int)), .dat (led bk), .any, .any, .any, .any, .any, .any, .any, .any] HkU H20 σ' Hk' H', ⟨200000, P0, ⟨by omega, hP0.1, hP0.2⟩, ⟨a20.ok, a20.sg, Gr.refl a20.ok.a⟩⟩, fun t σ' Hk' H' ⟨e, P, he, h⟩ => ⟨h.gr.k, h.ok.a⟩, ?_, ?_⟩
    · rintro w d σ' Hk' H' ed ⟨e, P1, ⟨he, hP1, hP15⟩, st⟩ v Hk21 H21 g21 dv
      obtain ⟨hw', rfl⟩ := rng_get' ed
      have hw : w < 10 := hw'
      refine gb_name (vs := [6]) (by simp) σ' Hk21 H21 v (st.sg.mono g21.k) g21.a dv _ fun σ3 sg3 _ _ => ?_
      have st3' : At (some p) e [.scr K ns, .dat (.list (pl.map .int)), .dat (.int (0 + (i : Int))), .adr p, .dat (.int (P1 : Int)), .dat (led bk), .dat (.int (0 + (w : Int))), .any, .any, .any, .any, .any, .any, .any] HkU H20 σ3 Hk21 H21 := ⟨st.ok.go g21, sg3, st.gr.trans g21.none_to⟩
      have st3 : At (some p) e [.scr K ns, .dat (.list (pl.map .int)), .dat (.int (0 + (i : Int))), .adr p, .dat (.int (P1 : Int)), .dat (led bk), .dat (.int (w : Int)), .any, .any, .any, .any, .any, .any, .any] HkU H20 σ3 Hk21 H21 := by
        have h9 := st3'
        rw [Int.zero_add (w : Int)] at h9
        exact h9
      obtain ⟨f', rfl⟩ : ∃ f', e = f' + 9000 := ⟨e - 9000, by omega⟩
      refine q_ifAsg (i := 4) (n := f' + 8000) (c := 0) (c1 := 1) (P0 := fun _ => True) (d0 := .int (P1 : Int)) (Φ := fun d => ∃ n : Nat, (primed n ∧ n < 500) ∧ d = .int (n : Int)) (tj_test ((E.boolP (e_eqDI (e_var rfl) e_int)).boolAny)) (st3.mono (by omega)) (fun _ => (pick12 (b := 12) (by omega) (by omega) rfl rfl rfl).imp fun d ⟨x, ⟨n, hn, ex⟩, e⟩ => ⟨n, hn, by rw [e, ex]⟩) rfl (fun _ => ⟨P1, ⟨hP1, hP15⟩, rfl⟩) fun d σ4 Hk4 H4 ⟨P, ⟨hP, hP5⟩, ed⟩ a4 => ?_
      subst ed
      have hP2 := hP.1
      obtain ⟨U, eU⟩ : ∃ U : Nat, U = if P < 40 then P else 40 := ⟨_, rfl⟩
      have hU : 1 ≤ U ∧ U ≤ 40 ∧ U ≤ P := by rw [eU]; split <;> omega
      refine q_asgE (i := 7) (d := .int (U : Int)) (e_is (e_min e_int (e_var rfl)) (congrArg PyData.int (by rw [eU]; split <;> split <;> omega))) a4 fun σ5 Hk5 H5 g5 a5 => ?_
      refine q_asg (i := 8) (n := f' + 7000) (c := 43) (Φ := fun d => ∃ f : List Int, (1 ≤ f.length ∧ f.length ≤ U ∧ ∀ x ∈ f, 0 ≤ x ∧ x < (P : Int)) ∧ d = pol f) ((j_cb1 (Ψ := fun d => ∃ f : List Int, (1 ≤ f.length ∧ f.length ≤ U ∧ ∀ x ∈ f, 0 ≤ x ∧ x < (P : Int)) ∧ d = .list (f.map .int)) ((j_lcD (c := 2) (c1 := 1) (N := 40) (emb := fun i : Nat => PyData.int (0 + (i : Int))) (vs := [13]) (Ψ := fun xs : List Nat => 1 ≤ xs.length ∧ xs.length ≤ U) (Φ := fun d => ∃ v : Int, (0 ≤ v ∧ v < (P : Int)) ∧ d = .int v) (ij_rng1 (P := fun x => 1 ≤ x ∧ x ≤ (U : Int)) ((j_menu (c := 1) (ci := 1) (P := fun x => 1 ≤ x ∧ x ≤ (U : Int)) (aji_cons (c1 := 1) (c2 := 0) (j_addI (c1 := 0) (c2 := 1) (P1 := fun x => x = 1) (P2 := fun x => 0 ≤ x ∧ x < (U : Int)) (Φ := IntP fun x => 1 ≤ x ∧ x ≤ (U : Int)) e_int.intP (j_pick rfl (e_var rfl) (by omega) (by omega)) fun i j hi hj => ⟨i + j, by omega, rfl⟩) (aji_cons (c1 := 0) (c2 := 0) ((e_var rfl).is (by omega)) aji_nil)) (by omega) (j_pick rfl e_int (by omega) (by omega))).cost (by omega)) fun j hj => ⟨by omega, List.range j.toNat, by rw [List.length_range]; omega, rfl⟩) (fun xs h => by omega) (by omega) fun xs hx x hxm => ⟨_, gb_name (by simp), j_pick rfl (e_var rfl) (by omega) (by omega)⟩).imp fun d ⟨xs, ds, h1, h2, h3, h4⟩ => by
        obtain ⟨r, e, hr⟩ := ints_of h3
        exact ⟨r, ⟨by rw [e, List.length_map] at h2; omega, by rw [e, List.length_map] at h2; omega, hr⟩, by rw [h4, e]⟩) fun d ⟨f, h1, e⟩ => by rw [e]; exact rc_tupL ⟨f, h1, rfl⟩).cost (by omega)) (a5.mono (by omega)) fun d σ6 Hk6 H6 ⟨f, ⟨hf1, hfU, hfr⟩, ed⟩ g6 a6 => ?_
      subst ed
      refine q_newLsJ (i := 9) (n := f' + 6000) (c := 1) (Ψ := fun ds => ∃ z : Int, (1 ≤ z ∧ z ≤ (U : Int)) ∧ ds = [led bk, .int (P : Int), .int z, pol f]) ((aj_kn (c := 1) (d := led bk) (e_var rfl) (aj_kn (c := 1) (d := .int (P : Int)) (e_var rfl) (aj_dr (c1 := 1) (c2 := 0) (j_addI (c1 := 0) (c2 := 1) (P1 := fun x => x = 1) (P2 := fun x => 0 ≤ x ∧ x < (U : Int)) (Φ := IntP fun x => 1 ≤ x ∧ x ≤ (U : Int)) e_int.intP (j_pick rfl (e_var rfl) (by omega) (by omega)) fun i j hi hj => ⟨i + j, by omega, rfl⟩) (aj_kn (c := 0) (d := pol f) (e_var rfl) ae_nil)))).imp fun sls ⟨s1, ⟨s2, ⟨x, s3, ⟨z, hz, ex⟩, ⟨s4, e4, e3⟩, e2⟩, e1⟩, e0⟩ => ⟨[led bk, .int (P : Int), .int z, pol f], by rw [e0, e1, e2, e3, e4, ex]; rfl, by simp, z, hz, rfl⟩) (a6.mono (by omega)) fun ds c0 Hk7 H7 ⟨z, hz, eds⟩ g7 a7 cl7 => ?_
      subst eds
      refine q_asg (i := 10) (n := f' + 5000) (c := 4) (Φ := fun d => ∃ bs : List Bool, bs.length = 4 ∧ d = .list (bs.map .bool)) ((j_lcD (c := 0) (c1 := 1) (N := 4) (vs := [13]) (α := PyData) (emb := id) (Ψ := fun xs => xs = rng 0 (4 : Int).toNat) (Φ := BoolP fun _ => True) (ie_rng1 (j := 4) e_int (by omega) (by omega)).lcd (fun xs e => by rw [e, rng_len]; decide) (by omega) fun xs e x hx => ⟨_, gb_name (by simp), (j_eqDI (Φ := BoolP fun _ => True) (j_pick rfl e_int (by omega) (by omega)) e_int.intP fun i j _ _ => ⟨i == j, trivial, rfl⟩)⟩).to (by omega) fun r ⟨xs, qs, e1, e2, e3, e4⟩ => ?_) (a7.mono (by omega)) fun d σ8 Hk8 H8 ⟨bs, hbs, ed⟩ g8 a8 => ?_
      · obtain ⟨bs, ebs⟩ := bools_of e3
        exact ⟨bs, by rw [← List.length_map (f := PyData.bool), ← ebs, e2, e1, rng_len]; rfl, by rw [e4, ebs]⟩
      subst ed
      have cl8 := cl7.go g8
      obtain ⟨b0, b1, b2, b3, rfl⟩ : ∃ b0 b1 b2 b3, bs = [b0, b1, b2, b3] := by
        match bs, hbs with
        | [b0, b1, b2, b3], _ => exact ⟨_, _, _, _, rfl⟩
      have bt : ∀ {δ : List Sl} {k : Nat} {b : Bool}, δ[10]? = some (.dat (.list ([b0, b1, b2, b3].map .bool))) → [b0, b1, b2, b3][k]? = some b → TB (some p) δ (tB (tOp (rIx K) (tVar 10) (tC (.int (k : Int))))) b := fun {δ k b} h e => tb_B (e_iL (ds := [b0, b1, b2, b3].map .bool) (e_var h) e_int (atI_nat (by rw [List.getElem?_map, e]; rfl)))
      refine q_ifPut (i := 9) (j := 0) (n := f' + 4000) (c := 3) (b := b0) (d0 := led bk) (Φ := NoB K) (bt (k := 0) rfl rfl) (fun _ => j_call (R := R__law_no_book K) (c := 3) (c1 := 0) (ae_adr rfl (ae_cons (e_var rfl) ae_nil)) fun sls e => ⟨rfl, p, bk, rfl, hbL, by omega, e, rfl⟩) (a8.mono (by omega)) cl8 rfl rfl fun q0 Hk9 H9 t0 u0 a9 cl9 => ?_
      refine q_ifPut (i := 9) (j := 1) (n := f' + 3000) (c := 2) (b := b1) (d0 := .int (P : Int)) (Φ := PB K) (bt (k := 1) rfl rfl) (fun _ => j_call (R := R__law_no_prime K) (c := 2) (c1 := 0) (ae_adr rfl (ae_cons (e_var rfl) ae_nil)) fun sls e => ⟨rfl, p, P, rfl, hP, e, rfl⟩) (a9.mono (by omega)) cl9 rfl rfl fun q1 Hk10 H10 t1 u1 a10 cl10 => ?_
      refine q_ifPut (i := 9) (j := 2) (n := f' + 2000) (c := 2) (b := b2) (d0 := .int z) (Φ := NoZ K P) (bt (k := 2) rfl rfl) (fun _ => ?_) (a10.mono (by omega)) cl10 rfl rfl fun q2 Hk11 H11 t2 u2 a11 cl11 => ?_
      · have litz : ∀ {δ : List Sl} {te : TE} {d : PyData}, E (some p) δ te d → NoZ K P d → J (some p) δ te 0 (NoZ K P) := fun h hd => h.imp fun d' e => by rw [e]; exact hd
        exact (j_menuP (Φ := NoZ K P) (c := 1) (ci := 1) (ajq_cons (c1 := 0) (c2 := 1) (litz e_non (.inl ⟨.inl rfl, rfl⟩)) (ajq_cons (c1 := 0) (c2 := 1) (litz e_bl (.inl ⟨.inl rfl, rfl⟩)) (ajq_cons (c1 := 0) (c2 := 1) (litz e_int (.inl ⟨.inl rfl, rfl⟩)) (ajq_cons (c1 := 0) (c2 := 1) (litz (e_is (d1 := .int (-1)) (e_un e_int) rfl) (.inl ⟨.inl rfl, rfl⟩)) (ajq_cons (c1 := 0) (c2 := 1) (litz (e_addI (e_var rfl) e_int) (.inr ⟨(P : Int) + 1, by omega, rfl⟩)) (ajq_cons (c1 := 1) (c2 := 0) ((j_addI (c1 := 0) (c2 := 1) (P1 := fun x => x = (P : Int) + 1) (P2 := fun x => 0 ≤ x ∧ x < 99) (Φ := IntP fun x => (P : Int) < x) (e_addI (e_var rfl) e_int).intP (j_pick rfl e_int (by omega) (by omega)) fun i j hi hj => ⟨i + j, by omega, rfl⟩).imp fun d ⟨x, hx, e⟩ => .inr ⟨x, hx, e⟩) (ajq_cons (c1 := 0) (c2 := 0) (litz e_str (.inl ⟨.inl rfl, rfl⟩)) (ajq_cons (c1 := 0) (c2 := 0) (litz (e_lst (ds := [.int 1]) (ae_cons e_int ae_nil)) (.inl ⟨.inl rfl, rfl⟩)) ajq_nil)))))))) (by omega) (j_pick rfl e_int (by omega) (by omega))).cost (by omega)
      refine q_ifPut (i := 9) (j := 3) (n := f' + 1000) (c := 4) (b := b3) (d0 := pol f) (Φ := NoR K P) (bt (k := 3) rfl rfl) (fun _ => j_call (R := R__law_no_rests K) (c := 4) (c1 := 0) (ae_adr rfl (ae_cons (e_var rfl) (ae_cons (e_var rfl) ae_nil))) fun sls e => ⟨rfl, p, f, P, rfl, ⟨hP, hP5⟩, ⟨hf1, by omega⟩, e, rfl⟩) (a11.mono (by omega)) cl11 rfl rfl fun q3 Hk12' H12' t3 u3 a12' cl12 => ?_
      obtain ⟨Hk45, s45, a45⟩ := a12'.freeze (i := 9) cl12 rfl
      have hu : min 4 w < 5 := by omega
      refine q_asgE (i := 11) (d := .list ((kw (min 4 w)).map fun k : Nat => .int (k : Int))) (e_iL (ds := tab) (e_is (e_lst (ds := [.list [.int 0, .int 1], .list [.int 0, .int 1], .list [.int 0, .int 1, .int 2], .list [.int 0, .int 1, .int 2], .list [.int 1, .int 3]]) (ae_cons (i2 0 1) (ae_cons (i2 0 1) (ae_cons (i3 0 1 2) (ae_cons (i3 0 1 2) (ae_cons (i2 1 3) ae_nil)))))) (by rw [etab]; rfl)) (e_is (e_min e_int (e_var rfl)) (d1 := .int ((min 4 w : Nat) : Int)) (congrArg PyData.int (by split <;> omega))) (atI_nat (by rw [etab, List.getElem?_map, List.getElem?_range hu]; rfl))) a45 fun σ47 Hk47 H47 g47 a47 => ?_
      obtain ⟨bs, ebs⟩ : ∃ bs : List Bool, bs = [b0, b1, b2, b3] := ⟨_, rfl⟩
      have hbs4 : bs.length = 4 := by rw [ebs]; rfl
      rw [← ebs] at a47
      have hkl := kw_len (min 4 w)
      refine q_asgE (i := 12) (d := .str (dS (fstB (min 4 w) bs))) (e_iL (ds := (((kw (min 4 w)).filter fun k => bs.getD k false).map fun k => PyData.str (nmS k)) ++ [.str "fine"]) (e_catL (ds := ((kw (min 4 w)).filter fun k => bs.getD k false).map fun k => PyData.str (nmS k)) (es := [.str "fine"]) (e_lc (vs := [13]) (emb := fun k : Nat => PyData.int (k : Int)) (xs := kw (min 4 w)) (ie_lst (e_var rfl)) (fun k => bs.getD k false) (fun k => .str (nmS k)) (by omega) fun x hx => ?_) (e_lst (ds := [.str "fine"]) (ae_cons e_str ae_nil)) (by
          have h1 := List.length_filter_le (fun k => bs.getD k false) (kw (min 4 w))
          rw [List.length_map, List.length_singleton]; omega)) e_int (due_str (min 4 w) bs)) a47 fun σ48 Hk48 H48 g48 a48 => ?_
      · have hx4 := kw_lt _ _ hx
        obtain ⟨b, eb⟩ : ∃ b, bs[x]? = some b := ⟨bs[x]'(by omega), List.getElem?_eq_getElem _⟩
        exact ⟨_, gb_name (by simp), tb_is (tb_B (e_iL (ds := bs.map .bool) (e_var rfl) (e_var rfl) (atI_nat (v := PyData.bool b) (by rw [List.getElem?_map, eb]; rfl)))) (by simp [List.getD_eq_getElem?_getD, eb]), fun _ => e_iL (ds := nms) (e_is (e_lst (ds := [.str "ledger", .str "prime", .str "number", .str "sums"]) (ae_cons e_str (ae_cons e_str (ae_cons e_str (ae_cons e_str ae_nil))))) (by rw [enms]; rfl)) (e_var rfl) (atI_nat (by rw [enms, List.getElem?_map, List.getElem?_range hx4]; rfl))⟩
      have hok := dS_ok (fstB (min 4 w) bs) fun k h => fstB_lt h
      have clen : ∀ {δ : List Sl}, δ[8]? = some (.dat (pol f)) → E (some p) δ (tCB (rLenQ K) (tCons (tVar 8) tNil)) (.int (f.length : Int)) := fun h => e_is (e_lenT (ds := f.map .int) (e_var h)) (by rw [List.length_map])
      refine q_ifAsg (i := 12) (n := f' + 200) (c := 0) (c1 := 0) (P0 := fun t => t = ((fstB (min 4 w) bs).isNone && (decide (7 < w) && decide (f.length < P)))) (d0 := .str (dS (fstB (min 4 w) bs))) (Φ := fun d => d = .str (wN (outO w bs (decide (f.length < P))))) (tb_and (tb_test (e_is (e_eqD (d1 := .str (dS (fstB (min 4 w) bs))) (d2 := .str "fine") (e_var rfl) e_str hok.1 (by decide +kernel)) (by rw [hok.2.1]))) fun _ => tb_and (tb_test (e_is (e_gtI (e_var rfl) e_int) (d1 := .bool (decide (7 < w))) (congrArg PyData.bool (decide_eq_decide.mpr (by omega))))) fun _ => tb_test (e_is (e_ltI (clen rfl) (e_var rfl)) (d1 := .bool (decide (f.length < P))) (congrArg PyData.bool (decide_eq_decide.mpr (by omega))))) (a48.mono (by omega)) (fun h => e_str.imp fun d e => ?_) rfl (fun h => ?_) fun d σ49 Hk49 H49 ed a49 => ?_
      · have h0 := h.symm
        rw [Bool.and_eq_true] at h0
        rw [e]
        unfold outO
        cases e0 : fstB (min 4 w) bs with
        | some k => rw [e0] at h0; cases h0.1
        | none => rw [show (if (decide (7 < w) && decide (f.length < P)) = true then some 4 else none : Option Nat) = some 4 from if_pos h0.2]; rfl
      · unfold outO
        cases e0 : fstB (min 4 w) bs with
        | some k => exact congrArg PyData.str (hok.2.2 k e0).symm
        | none =>
          rw [e0] at h
          have h0 : (decide (7 < w) && decide (f.length < P)) = false := h.symm
          rw [h0]
          rfl
      subst ed
      have hout : OutC K w [q0, q1, q2, q3] (outO w bs (decide (f.length < P))) := by
        rw [ebs]
        exact out_ok w hw hP hf1 (by omega) (by omega) hfr (z := z) ⟨hz.1, by omega⟩ (fun h => t0 h) (fun h => ⟨bk, hbL, by omega, u0 h⟩) (fun h => t1 h) (fun h => u1 h) (fun h => t2 h) (fun h => u2 h) (fun h => t3 h) (fun h => u3 h)
      refine s_ifNo (tb_is (tb_test (e_neD (d1 := .str (wN (outO w bs (decide (f.length < P))))) (d2 := .str (wN (outO w bs (decide (f.length < P))))) (j_call (R := R__law_told K) (c := 0) (Φ := fun d => d = .str (wN (outO w bs (decide (f.length < P))))) (ae_cons (e_var rfl) (ae_cons (e_var rfl) ae_nil)) fun sls e => ⟨rfl, w, _, outO w bs (decide (f.length < P)), hout, e, rfl⟩) (e_var rfl) (wN_shaped _) (wN_shaped _))) (by rw [wN_self])) a49 fun Hk50 H50 g50 a50 => ?_
      exact ⟨Hk50, f', P, ⟨by omega, hP, hP5⟩, (((((((a50.mono (by omega)).forget 6).forget 7).forget 8).forget 9).forget 10).forget 11).forget 12⟩
    · rintro σ' Hk' H' ⟨e, P, he, st⟩
      exact ⟨Hk', h2.trans (g11.k.trans (sm12.trans (g13.k.trans (g14.k.trans (g20.k.trans st.gr.k))))), (((((st.forget 2).forget 3).forget 4).forget 5).forget 6).reset⟩
  · rintro σ' Hk' H' ⟨h2, st⟩
    refine s_retE (d := .bool true) (n := 0) (Φ1 := fun d => d = .bool true) e_bl st (Nat.le_refl _) (fun d v Hk2 H2 g o ed dv => ?_) rfl
    subst ed
    have ev := dv.blOf
    subst ev
    exact kk H2
end
/-! ### what the top has left, told -/
theorem facts2 {l : PySem.W.OpenLaw} {w : World} {K : PySem.W.Frag} {h : Heap} {mg : Str → Option Value} {fa : Addr} (X : K.In h) (G : h.Ns mainGlobals mg) (hfa : mg "law" = some (.ref fa)) (c : He.SaysB faL fnL exL K) :
    ∃ fd : FuncData, (∀ (s : Shared) (v : Value), BindsTo s fd ⟨[v], []⟩ [("script", v)]) ∧ ∀ base : Heap, K.In base → base.Ns mainGlobals mg → FnOk l.prog w K mg base CX0 9 fa fd P_law (spLaw K) := by
  obtain ⟨fd0, F0⟩ : ∃ fd, FunD K "_law_primes" "_law_primes" (defArgs s__law_primes) (defBody s__law_primes) (defScope s__law_primes) [] [] (He.ga K "_law_primes") fd := c.d.def_ 0 (d := ⟨("_law_primes", none), "_law_primes", "_law_primes", defArgs s__law_primes, defBody s__law_primes, defScope s__law_primes, [], []⟩) rfl
  obtain ⟨fd1, F1⟩ : ∃ fd, FunD K "_law_jar" "_law_jar" (defArgs s__law_jar) (defBody s__law_jar) (defScope s__law_jar) [] [] (He.ga K "_law_jar") fd := c.d.def_ 1 (d := ⟨("_law_jar", none), "_law_jar", "_law_jar", defArgs s__law_jar, defBody s__law_jar, defScope s__law_jar, [], []⟩) rfl
  obtain ⟨fd2, F2⟩ : ∃ fd, FunD K "_law_gather" "_law_gather" (defArgs s__law_gather) (defBody s__law_gather) (defScope s__law_gather) [] [] (He.ga K "_law_gather") fd := c.d.def_ 2 (d := ⟨("_law_gather", none), "_law_gather", "_law_gather", defArgs s__law_gather, defBody s__law_gather, defScope s__law_gather, [], []⟩) rfl
  obtain ⟨fd3, F3⟩ : ∃ fd, FunD K "_law_pick" "_law_pick" (defArgs s__law_pick) (defBody s__law_pick) (defScope s__law_pick) [] [] (He.ga K "_law_pick") fd := c.d.def_ 3 (d := ⟨("_law_pick", none), "_law_pick", "_law_pick", defArgs s__law_pick, defBody s__law_pick, defScope s__law_pick, [], []⟩) rfl
  obtain ⟨fd4, F4⟩ : ∃ fd, FunD K "_law_amount" "_law_amount" (defArgs s__law_amount) (defBody s__law_amount) (defScope s__law_amount) [] [] (He.ga K "_law_amount") fd := c.d.def_ 4 (d := ⟨("_law_amount", none), "_law_amount", "_law_amount", defArgs s__law_amount, defBody s__law_amount, defScope s__law_amount, [], []⟩) rfl
  obtain ⟨fd5, F5⟩ : ∃ fd, FunD K "_law_book" "_law_book" (defArgs s__law_book) (defBody s__law_book) (defScope s__law_book) [] [] (He.ga K "_law_book") fd := c.d.def_ 5 (d := ⟨("_law_book", none), "_law_book", "_law_book", defArgs s__law_book, defBody s__law_book, defScope s__law_book, [], []⟩) rfl
  obtain ⟨fd6, F6⟩ : ∃ fd, FunD K "is_an_integer" "is_an_integer" (defArgs s_is_an_integer) (defBody s_is_an_integer) (defScope s_is_an_integer) [] [] (He.ga K "is_an_integer") fd := c.d.def_ 6 (d := ⟨("is_an_integer", none), "is_an_integer", "is_an_integer", defArgs s_is_an_integer, defBody s_is_an_integer, defScope s_is_an_integer, [], []⟩) rfl
  obtain ⟨fd7, F7⟩ : ∃ fd, FunD K "is_change" "is_change" (defArgs s_is_change) (defBody s_is_change) (defScope s_is_change) [] [] (He.ga K "is_change") fd := c.d.def_ 7 (d := ⟨("is_change", none), "is_change", "is_change", defArgs s_is_change, defBody s_is_change, defScope s_is_change, [], []⟩) rfl
  obtain ⟨fd8, F8⟩ : ∃ fd, FunD K "is_ledger" "is_ledger" (defArgs s_is_ledger) (defBody s_is_ledger) (defScope s_is_ledger) [] [] (He.ga K "is_ledger") fd := c.d.def_ 8 (d := ⟨("is_ledger", none), "is_ledger", "is_ledger", defArgs s_is_ledger, defBody s_is_ledger, defScope s_is_ledger, [], []⟩) rfl
  obtain ⟨fd9, F9⟩ : ∃ fd, FunD K "check_ledger" "check_ledger" (defArgs s_check_ledger) (defBody s_check_ledger) (defScope s_check_ledger) [] [] (He.ga K "check_ledger") fd := c.d.def_ 9 (d := ⟨("check_ledger", none), "check_ledger", "check_ledger", defArgs s_check_ledger, defBody s_check_ledger, defScope s_check_ledger, [], []⟩) rfl
  obtain ⟨fd10, F10⟩ : ∃ fd, FunD K "is_from" "is_from" (defArgs s_is_from) (defBody s_is_from) (defScope s_is_from) [] [] (He.ga K "is_from") fd := c.d.def_ 10 (d := ⟨("is_from", none), "is_from", "is_from", defArgs s_is_from, defBody s_is_from, defScope s_is_from, [], []⟩) rfl
  obtain ⟨fd11, F11⟩ : ∃ fd, FunD K "is_prime" "is_prime" (defArgs s_is_prime) (defBody s_is_prime) (defScope s_is_prime) [] [] (He.ga K "is_prime") fd := c.d.def_ 11 (d := ⟨("is_prime", none), "is_prime", "is_prime", defArgs s_is_prime, defBody s_is_prime, defScope s_is_prime, [], []⟩) rfl
  obtain ⟨fd12, F12⟩ : ∃ fd, FunD K "check_prime" "check_prime" (defArgs s_check_prime) (defBody s_check_prime) (defScope s_check_prime) [] [] (He.ga K "check_prime") fd := c.d.def_ 12 (d := ⟨("check_prime", none), "check_prime", "check_prime", defArgs s_check_prime, defBody s_check_prime, defScope s_check_prime, [], []⟩) rfl
  obtain ⟨fd13, F13⟩ : ∃ fd, FunD K "summed" "summed" (defArgs s_summed) (defBody s_summed) (defScope s_summed) [] [] (He.ga K "summed") fd := c.d.def_ 13 (d := ⟨("summed", none), "summed", "summed", defArgs s_summed, defBody s_summed, defScope s_summed, [], []⟩) rfl
  obtain ⟨fd14, F14⟩ : ∃ fd, FunD K "remaining" "remaining" (defArgs s_remaining) (defBody s_remaining) (defScope s_remaining) [] [] (He.ga K "remaining") fd := c.d.def_ 14 (d := ⟨("remaining", none), "remaining", "remaining", defArgs s_remaining, defBody s_remaining, defScope s_remaining, [], []⟩) rfl
  obtain ⟨fd15, F15⟩ : ∃ fd, FunD K "reduced" "reduced" (defArgs s_reduced) (defBody s_reduced) (defScope s_reduced) [] [] (He.ga K "reduced") fd := c.d.def_ 15 (d := ⟨("reduced", none), "reduced", "reduced", defArgs s_reduced, defBody s_reduced, defScope s_reduced, [], []⟩) rfl
  obtain ⟨fd16, F16⟩ : ∃ fd, FunD K "sums_modulo" "sums_modulo" (defArgs s_sums_modulo) (defBody s_sums_modulo) (defScope s_sums_modulo) [] [] (He.ga K "sums_modulo") fd := c.d.def_ 16 (d := ⟨("sums_modulo", none), "sums_modulo", "sums_modulo", defArgs s_sums_modulo, defBody s_sums_modulo, defScope s_sums_modulo, [], []⟩) rfl
  obtain ⟨fd17, F17⟩ : ∃ fd, FunD K "check_residues" "check_residues" (defArgs s_check_residues) (defBody s_check_residues) (defScope s_check_residues) [] [] (He.ga K "check_residues") fd := c.d.def_ 17 (d := ⟨("check_residues", none), "check_residues", "check_residues", defArgs s_check_residues, defBody s_check_residues, defScope s_check_residues, [], []⟩) rfl
  obtain ⟨fd18, F18⟩ : ∃ fd, FunD K "in_row" "in_row" (defArgs s_in_row) (defBody s_in_row) (defScope s_in_row) [] [] (He.ga K "in_row") fd := c.d.def_ 18 (d := ⟨("in_row", none), "in_row", "in_row", defArgs s_in_row, defBody s_in_row, defScope s_in_row, [], []⟩) rfl
  obtain ⟨fd19, F19⟩ : ∃ fd, FunD K "rule_modulo" "rule_modulo" (defArgs s_rule_modulo) (defBody s_rule_modulo) (defScope s_rule_modulo) [] [] (He.ga K "rule_modulo") fd := c.d.def_ 19 (d := ⟨("rule_modulo", none), "rule_modulo", "rule_modulo", defArgs s_rule_modulo, defBody s_rule_modulo, defScope s_rule_modulo, [], []⟩) rfl
  obtain ⟨fd20, F20⟩ : ∃ fd, FunD K "inverse_modulo" "inverse_modulo" (defArgs s_inverse_modulo) (defBody s_inverse_modulo) (defScope s_inverse_modulo) [] [] (He.ga K "inverse_modulo") fd := c.d.def_ 20 (d := ⟨("inverse_modulo", none), "inverse_modulo", "inverse_modulo", defArgs s_inverse_modulo, defBody s_inverse_modulo, defScope s_inverse_modulo, [], []⟩) rfl
  obtain ⟨fd21, F21⟩ : ∃ fd, FunD K "value_of" "value_of" (defArgs s_value_of) (defBody s_value_of) (defScope s_value_of) [] [] (He.ga K "value_of") fd := c.d.def_ 21 (d := ⟨("value_of", none), "value_of", "value_of", defArgs s_value_of, defBody s_value_of, defScope s_value_of, [], []⟩) rfl
  obtain ⟨fd22, F22⟩ : ∃ fd, FunD K "amount_modulo" "amount_modulo" (defArgs s_amount_modulo) (defBody s_amount_modulo) (defScope s_amount_modulo) [] [] (He.ga K "amount_modulo") fd := c.d.def_ 22 (d := ⟨("amount_modulo", none), "amount_modulo", "amount_modulo", defArgs s_amount_modulo, defBody s_amount_modulo, defScope s_amount_modulo, [], []⟩) rfl
  obtain ⟨fd23, F23⟩ : ∃ fd, FunD K "divided" "divided" (defArgs s_divided) (defBody s_divided) (defScope s_divided) [] [] (He.ga K "divided") fd := c.d.def_ 23 (d := ⟨("divided", none), "divided", "divided", defArgs s_divided, defBody s_divided, defScope s_divided, [], []⟩) rfl
  obtain ⟨fd24, F24⟩ : ∃ fd, FunD K "told_modulo" "told_modulo" (defArgs s_told_modulo) (defBody s_told_modulo) (defScope s_told_modulo) [] [] (He.ga K "told_modulo") fd := c.d.def_ 24 (d := ⟨("told_modulo", none), "told_modulo", "told_modulo", defArgs s_told_modulo, defBody s_told_modulo, defScope s_told_modulo, [], []⟩) rfl
  obtain ⟨fd25, F25⟩ : ∃ fd, FunD K "rule_length_modulo" "rule_length_modulo" (defArgs s_rule_length_modulo) (defBody s_rule_length_modulo) (defScope s_rule_length_modulo) [] [] (He.ga K "rule_length_modulo") fd := c.d.def_ 25 (d := ⟨("rule_length_modulo", none), "rule_length_modulo", "rule_length_modulo", defArgs s_rule_length_modulo, defBody s_rule_length_modulo, defScope s_rule_length_modulo, [], []⟩) rfl
  obtain ⟨fd26, F26⟩ : ∃ fd, FunD K "all_told" "all_told" (defArgs s_all_told) (defBody s_all_told) (defScope s_all_told) [] [] (He.ga K "all_told") fd := c.d.def_ 26 (d := ⟨("all_told", none), "all_told", "all_told", defArgs s_all_told, defBody s_all_told, defScope s_all_told, [], []⟩) rfl
  obtain ⟨fd27, F27⟩ : ∃ fd, FunD K "_law_call" "_law_call" (defArgs s__law_call) (defBody s__law_call) (defScope s__law_call) [] [] (He.ga K "_law_call") fd := c.d.def_ 27 (d := ⟨("_law_call", none), "_law_call", "_law_call", defArgs s__law_call, defBody s__law_call, defScope s__law_call, [], []⟩) rfl
  obtain ⟨fd28, F28⟩ : ∃ fd, FunD K "_law_told" "_law_told" (defArgs s__law_told) (defBody s__law_told) (defScope s__law_told) [] [] (He.ga K "_law_told") fd := c.d.def_ 28 (d := ⟨("_law_told", none), "_law_told", "_law_told", defArgs s__law_told, defBody s__law_told, defScope s__law_told, [], []⟩) rfl
  obtain ⟨fd29, F29⟩ : ∃ fd, FunD K "_law_small_right" "_law_small_right" (defArgs s__law_small_right) (defBody s__law_small_right) (defScope s__law_small_right) [] [] (He.ga K "_law_small_right") fd := c.d.def_ 29 (d := ⟨("_law_small_right", none), "_law_small_right", "_law_small_right", defArgs s__law_small_right, defBody s__law_small_right, defScope s__law_small_right, [], []⟩) rfl
  obtain ⟨fd30, F30⟩ : ∃ fd, FunD K "__init__" "Ledger.__init__" (defArgs s_Ledger__init__) (defBody s_Ledger__init__) (defScope s_Ledger__init__) [.ref (He.dflAt ("Ledger", some "__init__") 0 K)] [] (He.ma K (He.ga K "Ledger") "__init__") fd := c.d.def_ 30 (d := ⟨("Ledger", some "__init__"), "__init__", "Ledger.__init__", defArgs s_Ledger__init__, defBody s_Ledger__init__, defScope s_Ledger__init__, [.adr (He.dflAt ("Ledger", some "__init__") 0)], []⟩) rfl
  obtain ⟨fd31, F31⟩ : ∃ fd, FunD K "_law_no_book" "_law_no_book" (defArgs s__law_no_book) (defBody s__law_no_book) (defScope s__law_no_book) [] [] (He.ga K "_law_no_book") fd := c.d.def_ 31 (d := ⟨("_law_no_book", none), "_law_no_book", "_law_no_book", defArgs s__law_no_book, defBody s__law_no_book, defScope s__law_no_book, [], []⟩) rfl
  obtain ⟨fd32, F32⟩ : ∃ fd, FunD K "_law_no_prime" "_law_no_prime" (defArgs s__law_no_prime) (defBody s__law_no_prime) (defScope s__law_no_prime) [] [] (He.ga K "_law_no_prime") fd := c.d.def_ 32 (d := ⟨("_law_no_prime", none), "_law_no_prime", "_law_no_prime", defArgs s__law_no_prime, defBody s__law_no_prime, defScope s__law_no_prime, [], []⟩) rfl
  obtain ⟨fd33, F33⟩ : ∃ fd, FunD K "is_sums" "is_sums" (defArgs s_is_sums) (defBody s_is_sums) (defScope s_is_sums) [] [] (He.ga K "is_sums") fd := c.d.def_ 33 (d := ⟨("is_sums", none), "is_sums", "is_sums", defArgs s_is_sums, defBody s_is_sums, defScope s_is_sums, [], []⟩) rfl
  obtain ⟨fd34, F34⟩ : ∃ fd, FunD K "check_sums" "check_sums" (defArgs s_check_sums) (defBody s_check_sums) (defScope s_check_sums) [] [] (He.ga K "check_sums") fd := c.d.def_ 34 (d := ⟨("check_sums", none), "check_sums", "check_sums", defArgs s_check_sums, defBody s_check_sums, defScope s_check_sums, [], []⟩) rfl
  obtain ⟨fd35, F35⟩ : ∃ fd, FunD K "__init__" "Sums.__init__" (defArgs s_Sums__init__) (defBody s_Sums__init__) (defScope s_Sums__init__) [] [] (He.ma K (He.ga K "Sums") "__init__") fd := c.d.def_ 35 (d := ⟨("Sums", some "__init__"), "__init__", "Sums.__init__", defArgs s_Sums__init__, defBody s_Sums__init__, defScope s_Sums__init__, [], []⟩) rfl
  obtain ⟨fd36, F36⟩ : ∃ fd, FunD K "_law_no_rests" "_law_no_rests" (defArgs s__law_no_rests) (defBody s__law_no_rests) (defScope s__law_no_rests) [] [] (He.ga K "_law_no_rests") fd := c.d.def_ 36 (d := ⟨("_law_no_rests", none), "_law_no_rests", "_law_no_rests", defArgs s__law_no_rests, defBody s__law_no_rests, defScope s__law_no_rests, [], []⟩) rfl
  obtain ⟨fd37, F37⟩ : ∃ fd, FunD K "law" "law" (defArgs s_law) (defBody s_law) (defScope s_law) [] [] (He.ga K "law") fd := c.d.def_ 37 (d := ⟨("law", none), "law", "law", defArgs s_law, defBody s_law, defScope s_law, [], []⟩) rfl
  have e := hfa.symm.trans (He.glo_ok X G (c.d.fact 43 (f := .glo "law") rfl))
  cases e
  have bl := FunD.bindsA (ps := ["script"]) F37 fun _ _ _ _ _ _ us hl => match us, hl with | [_], _ => rfl
  exact ⟨_, fun s v => bl s [v] rfl, fun base _ _ => ok_law (T := {
    a__law_primes := He.ga K "_law_primes", fd__law_primes := _, F__law_primes := fun_of F0, b__law_primes := (fun_of F0).binds (ps := P__law_primes) fun _ _ _ _ _ _ us hl => match us, hl with | [_], _ => rfl, m__law_primes := He.glo_ok X G (c.d.fact 0 (f := .glo "_law_primes") rfl),
    a__law_jar := He.ga K "_law_jar", fd__law_jar := _, F__law_jar := fun_of F1, b__law_jar := (fun_of F1).binds (ps := P__law_jar) fun _ _ _ _ _ _ us hl => match us, hl with | [_, _], _ => rfl, m__law_jar := He.glo_ok X G (c.d.fact 1 (f := .glo "_law_jar") rfl),
    a__law_gather := He.ga K "_law_gather", fd__law_gather := _, F__law_gather := fun_of F2, b__law_gather := (fun_of F2).binds (ps := P__law_gather) fun _ _ _ _ _ _ us hl => match us, hl with | [_], _ => rfl, m__law_gather := He.glo_ok X G (c.d.fact 2 (f := .glo "_law_gather") rfl),
    a__law_pick := He.ga K "_law_pick", fd__law_pick := _, F__law_pick := fun_of F3, b__law_pick := (fun_of F3).binds (ps := P__law_pick) fun _ _ _ _ _ _ us hl => match us, hl with | [_, _], _ => rfl, m__law_pick := He.glo_ok X G (c.d.fact 3 (f := .glo "_law_pick") rfl),
    a__law_amount := He.ga K "_law_amount", fd__law_amount := _, F__law_amount := fun_of F4, b__law_amount := (fun_of F4).binds (ps := P__law_amount) fun _ _ _ _ _ _ us hl => match us, hl with | [_, _], _ => rfl, m__law_amount := He.glo_ok X G (c.d.fact 4 (f := .glo "_law_amount") rfl),
    a__law_book := He.ga K "_law_book", fd__law_book := _, F__law_book := fun_of F5, b__law_book := (fun_of F5).binds (ps := P__law_book) fun _ _ _ _ _ _ us hl => match us, hl with | [_, _, _, _], _ => rfl, m__law_book := He.glo_ok X G (c.d.fact 5 (f := .glo "_law_book") rfl),
    a_is_an_integer := He.ga K "is_an_integer", fd_is_an_integer := _, F_is_an_integer := fun_of F6, b_is_an_integer := (fun_of F6).binds (ps := P_is_an_integer) fun _ _ _ _ _ _ us hl => match us, hl with | [_], _ => rfl, m_is_an_integer := He.glo_ok X G (c.d.fact 6 (f := .glo "is_an_integer") rfl),
    a_is_change := He.ga K "is_change", fd_is_change := _, F_is_change := fun_of F7, b_is_change := (fun_of F7).binds (ps := P_is_change) fun _ _ _ _ _ _ us hl => match us, hl with | [_], _ => rfl, m_is_change := He.glo_ok X G (c.d.fact 7 (f := .glo "is_change") rfl),
    a_is_ledger := He.ga K "is_ledger", fd_is_ledger := _, F_is_ledger := fun_of F8, b_is_ledger := (fun_of F8).binds (ps := P_is_ledger) fun _ _ _ _ _ _ us hl => match us, hl with | [_], _ => rfl, m_is_ledger := He.glo_ok X G (c.d.fact 8 (f := .glo "is_ledger") rfl),
    a_check_ledger := He.ga K "check_ledger", fd_check_ledger := _, F_check_ledger := fun_of F9, b_check_ledger := (fun_of F9).binds (ps := P_check_ledger) fun _ _ _ _ _ _ us hl => match us, hl with | [_], _ => rfl, m_check_ledger := He.glo_ok X G (c.d.fact 9 (f := .glo "check_ledger") rfl),
    a_is_from := He.ga K "is_from", fd_is_from := _, F_is_from := fun_of F10, b_is_from := (fun_of F10).binds (ps := P_is_from) fun _ _ _ _ _ _ us hl => match us, hl with | [_, _], _ => rfl, m_is_from := He.glo_ok X G (c.d.fact 10 (f := .glo "is_from") rfl),
    a_is_prime := He.ga K "is_prime", fd_is_prime := _, F_is_prime := fun_of F11, b_is_prime := (fun_of F11).binds (ps := P_is_prime) fun _ _ _ _ _ _ us hl => match us, hl with | [_], _ => rfl, m_is_prime := He.glo_ok X G (c.d.fact 11 (f := .glo "is_prime") rfl),
    a_check_prime := He.ga K "check_prime", fd_check_prime := _, F_check_prime := fun_of F12, b_check_prime := (fun_of F12).binds (ps := P_check_prime) fun _ _ _ _ _ _ us hl => match us, hl with | [_], _ => rfl, m_check_prime := He.glo_ok X G (c.d.fact 12 (f := .glo "check_prime") rfl),
    a_summed := He.ga K "summed", fd_summed := _, F_summed := fun_of F13, b_summed := (fun_of F13).binds (ps := P_summed) fun _ _ _ _ _ _ us hl => match us, hl with | [_], _ => rfl, m_summed := He.glo_ok X G (c.d.fact 13 (f := .glo "summed") rfl),
    a_remaining := He.ga K "remaining", fd_remaining := _, F_remaining := fun_of F14, b_remaining := (fun_of F14).binds (ps := P_remaining) fun _ _ _ _ _ _ us hl => match us, hl with | [_, _], _ => rfl, m_remaining := He.glo_ok X G (c.d.fact 14 (f := .glo "remaining") rfl),
    a_reduced := He.ga K "reduced", fd_reduced := _, F_reduced := fun_of F15, b_reduced := (fun_of F15).binds (ps := P_reduced) fun _ _ _ _ _ _ us hl => match us, hl with | [_, _], _ => rfl, m_reduced := He.glo_ok X G (c.d.fact 15 (f := .glo "reduced") rfl),
    a_sums_modulo := He.ga K "sums_modulo", fd_sums_modulo := _, F_sums_modulo := fun_of F16, b_sums_modulo := (fun_of F16).binds (ps := P_sums_modulo) fun _ _ _ _ _ _ us hl => match us, hl with | [_, _, _], _ => rfl, m_sums_modulo := He.glo_ok X G (c.d.fact 16 (f := .glo "sums_modulo") rfl),
    a_check_residues := He.ga K "check_residues", fd_check_residues := _, F_check_residues := fun_of F17, b_check_residues := (fun_of F17).binds (ps := P_check_residues) fun _ _ _ _ _ _ us hl => match us, hl with | [_, _], _ => rfl, m_check_residues := He.glo_ok X G (c.d.fact 17 (f := .glo "check_residues") rfl),
    a_in_row := He.ga K "in_row", fd_in_row := _, F_in_row := fun_of F18, b_in_row := (fun_of F18).binds (ps := P_in_row) fun _ _ _ _ _ _ us hl => match us, hl with | [_, _, _], _ => rfl, m_in_row := He.glo_ok X G (c.d.fact 18 (f := .glo "in_row") rfl),
    a_rule_modulo := He.ga K "rule_modulo", fd_rule_modulo := _, F_rule_modulo := fun_of F19, b_rule_modulo := (fun_of F19).binds (ps := P_rule_modulo) fun _ _ _ _ _ _ us hl => match us, hl with | [_, _], _ => rfl, m_rule_modulo := He.glo_ok X G (c.d.fact 19 (f := .glo "rule_modulo") rfl),
    a_inverse_modulo := He.ga K "inverse_modulo", fd_inverse_modulo := _, F_inverse_modulo := fun_of F20, b_inverse_modulo := (fun_of F20).binds (ps := P_inverse_modulo) fun _ _ _ _ _ _ us hl => match us, hl with | [_, _], _ => rfl, m_inverse_modulo := He.glo_ok X G (c.d.fact 20 (f := .glo "inverse_modulo") rfl),
    a_value_of := He.ga K "value_of", fd_value_of := _, F_value_of := fun_of F21, b_value_of := (fun_of F21).binds (ps := P_value_of) fun _ _ _ _ _ _ us hl => match us, hl with | [_, _], _ => rfl, m_value_of := He.glo_ok X G (c.d.fact 21 (f := .glo "value_of") rfl),
    a_amount_modulo := He.ga K "amount_modulo", fd_amount_modulo := _, F_amount_modulo := fun_of F22, b_amount_modulo := (fun_of F22).binds (ps := P_amount_modulo) fun _ _ _ _ _ _ us hl => match us, hl with | [_, _, _, _], _ => rfl, m_amount_modulo := He.glo_ok X G (c.d.fact 22 (f := .glo "amount_modulo") rfl),
    a_divided := He.ga K "divided", fd_divided := _, F_divided := fun_of F23, b_divided := (fun_of F23).binds (ps := P_divided) fun _ _ _ _ _ _ us hl => match us, hl with | [_, _], _ => rfl, m_divided := He.glo_ok X G (c.d.fact 23 (f := .glo "divided") rfl),
    a_told_modulo := He.ga K "told_modulo", fd_told_modulo := _, F_told_modulo := fun_of F24, b_told_modulo := (fun_of F24).binds (ps := P_told_modulo) fun _ _ _ _ _ _ us hl => match us, hl with | [_, _], _ => rfl, m_told_modulo := He.glo_ok X G (c.d.fact 24 (f := .glo "told_modulo") rfl),
    a_rule_length_modulo := He.ga K "rule_length_modulo", fd_rule_length_modulo := _, F_rule_length_modulo := fun_of F25, b_rule_length_modulo := (fun_of F25).binds (ps := P_rule_length_modulo) fun _ _ _ _ _ _ us hl => match us, hl with | [_, _], _ => rfl, m_rule_length_modulo := He.glo_ok X G (c.d.fact 25 (f := .glo "rule_length_modulo") rfl),
    a_all_told := He.ga K "all_told", fd_all_told := _, F_all_told := fun_of F26, b_all_told := (fun_of F26).binds (ps := P_all_told) fun _ _ _ _ _ _ us hl => match us, hl with | [_, _], _ => rfl, m_all_told := He.glo_ok X G (c.d.fact 26 (f := .glo "all_told") rfl),
    a__law_call := He.ga K "_law_call", fd__law_call := _, F__law_call := fun_of F27, b__law_call := (fun_of F27).binds (ps := P__law_call) fun _ _ _ _ _ _ us hl => match us, hl with | [_, _], _ => rfl, m__law_call := He.glo_ok X G (c.d.fact 27 (f := .glo "_law_call") rfl),
    a__law_told := He.ga K "_law_told", fd__law_told := _, F__law_told := fun_of F28, b__law_told := (fun_of F28).binds (ps := P__law_told) fun _ _ _ _ _ _ us hl => match us, hl with | [_, _], _ => rfl, m__law_told := He.glo_ok X G (c.d.fact 28 (f := .glo "_law_told") rfl),
    a__law_small_right := He.ga K "_law_small_right", fd__law_small_right := _, F__law_small_right := fun_of F29, b__law_small_right := (fun_of F29).binds (ps := P__law_small_right) fun _ _ _ _ _ _ us hl => match us, hl with | [_], _ => rfl, m__law_small_right := He.glo_ok X G (c.d.fact 29 (f := .glo "_law_small_right") rfl),
    a_Ledger__init__ := _, fd_Ledger__init__ := _, F_Ledger__init__ := funV_of F30, b_Ledger__init__ := binds_of1 F30 fun _ _ _ _ _ _ _ us its hl hi => match us, hl, its, hi with | [_, _], _, [_], _ => ⟨_, rfl, rfl⟩,
    C_Ledger := He.ga K "Ledger", M_Ledger := He.mkr_ok (c.d.fact 31 (f := .mkr "Ledger") rfl), m_Ledger := He.glo_ok X G (c.d.fact 30 (f := .glo "Ledger") rfl), cl_Ledger := He.cls_ok (c.d.fact 32 (f := .cls "Ledger") rfl), n_Ledger := He.noat_ok (c.d.fact 33 (f := .noat "Ledger" "_pairs") rfl), I_Ledger := ⟨(He.eqO_ok (c.ex 0 rfl)), (He.eqO_ok (c.ex 8 rfl)), (of_decide_eq_true (c.ex 9 rfl)), (of_decide_eq_true (c.ex 1 rfl)), kit_no (of_decide_eq_true (c.ex 2 rfl)), kit_noI (of_decide_eq_true (c.ex 3 rfl))⟩,
    a__law_no_book := He.ga K "_law_no_book", fd__law_no_book := _, F__law_no_book := fun_of F31, b__law_no_book := (fun_of F31).binds (ps := P__law_no_book) fun _ _ _ _ _ _ us hl => match us, hl with | [_, _], _ => rfl, m__law_no_book := He.glo_ok X G (c.d.fact 34 (f := .glo "_law_no_book") rfl),
    a__law_no_prime := He.ga K "_law_no_prime", fd__law_no_prime := _, F__law_no_prime := fun_of F32, b__law_no_prime := (fun_of F32).binds (ps := P__law_no_prime) fun _ _ _ _ _ _ us hl => match us, hl with | [_, _], _ => rfl, m__law_no_prime := He.glo_ok X G (c.d.fact 35 (f := .glo "_law_no_prime") rfl),
    a_is_sums := He.ga K "is_sums", fd_is_sums := _, F_is_sums := fun_of F33, b_is_sums := (fun_of F33).binds (ps := P_is_sums) fun _ _ _ _ _ _ us hl => match us, hl with | [_], _ => rfl, m_is_sums := He.glo_ok X G (c.d.fact 36 (f := .glo "is_sums") rfl),
    a_check_sums := He.ga K "check_sums", fd_check_sums := _, F_check_sums := fun_of F34, b_check_sums := (fun_of F34).binds (ps := P_check_sums) fun _ _ _ _ _ _ us hl => match us, hl with | [_], _ => rfl, m_check_sums := He.glo_ok X G (c.d.fact 37 (f := .glo "check_sums") rfl),
    a_Sums__init__ := _, fd_Sums__init__ := _, F_Sums__init__ := funV_of F35, b_Sums__init__ := (fun_of F35).binds (ps := P_Sums__init__) fun _ _ _ _ _ _ us hl => match us, hl with | [_, _], _ => rfl,
    C_Sums := He.ga K "Sums", M_Sums := He.mkr_ok (c.d.fact 39 (f := .mkr "Sums") rfl), m_Sums := He.glo_ok X G (c.d.fact 38 (f := .glo "Sums") rfl), cl_Sums := He.cls_ok (c.d.fact 40 (f := .cls "Sums") rfl), n_Sums := He.noat_ok (c.d.fact 41 (f := .noat "Sums" "_numbers") rfl), I_Sums := ⟨(He.eqO_ok (c.ex 4 rfl)), (He.eqO_ok (c.ex 8 rfl)), (of_decide_eq_true (c.ex 9 rfl)), (of_decide_eq_true (c.ex 5 rfl)), kit_no (of_decide_eq_true (c.ex 6 rfl)), kit_noI (of_decide_eq_true (c.ex 7 rfl))⟩,
    a__law_no_rests := He.ga K "_law_no_rests", fd__law_no_rests := _, F__law_no_rests := fun_of F36, b__law_no_rests := (fun_of F36).binds (ps := P__law_no_rests) fun _ _ _ _ _ _ us hl => match us, hl with | [_, _, _], _ => rfl, m__law_no_rests := He.glo_ok X G (c.d.fact 42 (f := .glo "_law_no_rests") rfl),
    a_law := He.ga K "law", fd_law := _, F_law := fun_of F37, b_law := (fun_of F37).binds (ps := P_law) fun _ _ _ _ _ _ us hl => match us, hl with | [_], _ => rfl, m_law := He.glo_ok X G (c.d.fact 43 (f := .glo "law") rfl),
    e_InvalidLedger := He.ga K "InvalidLedger", g_InvalidLedger := He.glo_ok X G (c.d.fact 44 (f := .glo "InvalidLedger") rfl), u_InvalidLedger := (He.exc_ok (c.d.fact 45 (f := .exc "InvalidLedger") rfl)).2.2.1, t_InvalidLedger := (He.exc_ok (c.d.fact 45 (f := .exc "InvalidLedger") rfl)).2.2.2, h_InvalidLedger := (c.ex 10 rfl),
    x_InvalidLedger := (He.exc_ok (c.d.fact 45 (f := .exc "InvalidLedger") rfl)).1, k_InvalidLedger := (He.exc_ok (c.d.fact 45 (f := .exc "InvalidLedger") rfl)).2.1, v_InvalidLedger := kit_yesV (of_decide_eq_true (c.ex 20 rfl)), E_InvalidLedger := ⟨(He.eqO_ok (c.ex 16 rfl)), (He.eqO_ok (c.ex 17 rfl)), (He.exc_ok (c.d.fact 45 (f := .exc "InvalidLedger") rfl)).2.2.1, (c.ex 10 rfl), (He.eqO_ok (c.ex 18 rfl)), (He.eqO_ok (c.ex 8 rfl)), (of_decide_eq_true (c.ex 9 rfl)), (of_decide_eq_true (c.ex 19 rfl))⟩,
    e_InvalidNumber := He.ga K "InvalidNumber", g_InvalidNumber := He.glo_ok X G (c.d.fact 46 (f := .glo "InvalidNumber") rfl), u_InvalidNumber := (He.exc_ok (c.d.fact 47 (f := .exc "InvalidNumber") rfl)).2.2.1, t_InvalidNumber := (He.exc_ok (c.d.fact 47 (f := .exc "InvalidNumber") rfl)).2.2.2, h_InvalidNumber := (c.ex 11 rfl),
    x_InvalidNumber := (He.exc_ok (c.d.fact 47 (f := .exc "InvalidNumber") rfl)).1, k_InvalidNumber := (He.exc_ok (c.d.fact 47 (f := .exc "InvalidNumber") rfl)).2.1, v_InvalidNumber := kit_yesV (of_decide_eq_true (c.ex 25 rfl)), E_InvalidNumber := ⟨(He.eqO_ok (c.ex 21 rfl)), (He.eqO_ok (c.ex 22 rfl)), (He.exc_ok (c.d.fact 47 (f := .exc "InvalidNumber") rfl)).2.2.1, (c.ex 11 rfl), (He.eqO_ok (c.ex 23 rfl)), (He.eqO_ok (c.ex 8 rfl)), (of_decide_eq_true (c.ex 9 rfl)), (of_decide_eq_true (c.ex 24 rfl))⟩,
    e_InvalidPrime := He.ga K "InvalidPrime", g_InvalidPrime := He.glo_ok X G (c.d.fact 48 (f := .glo "InvalidPrime") rfl), u_InvalidPrime := (He.exc_ok (c.d.fact 49 (f := .exc "InvalidPrime") rfl)).2.2.1, t_InvalidPrime := (He.exc_ok (c.d.fact 49 (f := .exc "InvalidPrime") rfl)).2.2.2, h_InvalidPrime := (c.ex 12 rfl),
    x_InvalidPrime := (He.exc_ok (c.d.fact 49 (f := .exc "InvalidPrime") rfl)).1, k_InvalidPrime := (He.exc_ok (c.d.fact 49 (f := .exc "InvalidPrime") rfl)).2.1, v_InvalidPrime := kit_yesV (of_decide_eq_true (c.ex 30 rfl)), E_InvalidPrime := ⟨(He.eqO_ok (c.ex 26 rfl)), (He.eqO_ok (c.ex 27 rfl)), (He.exc_ok (c.d.fact 49 (f := .exc "InvalidPrime") rfl)).2.2.1, (c.ex 12 rfl), (He.eqO_ok (c.ex 28 rfl)), (He.eqO_ok (c.ex 8 rfl)), (of_decide_eq_true (c.ex 9 rfl)), (of_decide_eq_true (c.ex 29 rfl))⟩,
    e_InvalidResidues := He.ga K "InvalidResidues", g_InvalidResidues := He.glo_ok X G (c.d.fact 50 (f := .glo "InvalidResidues") rfl), u_InvalidResidues := (He.exc_ok (c.d.fact 51 (f := .exc "InvalidResidues") rfl)).2.2.1, t_InvalidResidues := (He.exc_ok (c.d.fact 51 (f := .exc "InvalidResidues") rfl)).2.2.2, h_InvalidResidues := (c.ex 13 rfl),
    x_InvalidResidues := (He.exc_ok (c.d.fact 51 (f := .exc "InvalidResidues") rfl)).1, k_InvalidResidues := (He.exc_ok (c.d.fact 51 (f := .exc "InvalidResidues") rfl)).2.1, v_InvalidResidues := kit_yesV (of_decide_eq_true (c.ex 35 rfl)), E_InvalidResidues := ⟨(He.eqO_ok (c.ex 31 rfl)), (He.eqO_ok (c.ex 32 rfl)), (He.exc_ok (c.d.fact 51 (f := .exc "InvalidResidues") rfl)).2.2.1, (c.ex 13 rfl), (He.eqO_ok (c.ex 33 rfl)), (He.eqO_ok (c.ex 8 rfl)), (of_decide_eq_true (c.ex 9 rfl)), (of_decide_eq_true (c.ex 34 rfl))⟩,
    e_OtherLength := He.ga K "OtherLength", g_OtherLength := He.glo_ok X G (c.d.fact 52 (f := .glo "OtherLength") rfl), u_OtherLength := (He.exc_ok (c.d.fact 53 (f := .exc "OtherLength") rfl)).2.2.1, t_OtherLength := (He.exc_ok (c.d.fact 53 (f := .exc "OtherLength") rfl)).2.2.2, h_OtherLength := (c.ex 14 rfl),
    x_OtherLength := (He.exc_ok (c.d.fact 53 (f := .exc "OtherLength") rfl)).1, k_OtherLength := (He.exc_ok (c.d.fact 53 (f := .exc "OtherLength") rfl)).2.1, v_OtherLength := kit_yesV (of_decide_eq_true (c.ex 40 rfl)), E_OtherLength := ⟨(He.eqO_ok (c.ex 36 rfl)), (He.eqO_ok (c.ex 37 rfl)), (He.exc_ok (c.d.fact 53 (f := .exc "OtherLength") rfl)).2.2.1, (c.ex 14 rfl), (He.eqO_ok (c.ex 38 rfl)), (He.eqO_ok (c.ex 8 rfl)), (of_decide_eq_true (c.ex 9 rfl)), (of_decide_eq_true (c.ex 39 rfl))⟩,
    e_SumsError := He.ga K "SumsError", g_SumsError := He.glo_ok X G (c.d.fact 54 (f := .glo "SumsError") rfl), u_SumsError := (He.exc_ok (c.d.fact 55 (f := .exc "SumsError") rfl)).2.2.1, t_SumsError := (He.exc_ok (c.d.fact 55 (f := .exc "SumsError") rfl)).2.2.2, h_SumsError := (c.ex 15 rfl),
    s_InvalidLedger_InvalidLedger := (of_decide_eq_true (c.ex 41 rfl)),
    s_InvalidLedger_InvalidNumber := (of_decide_eq_true (c.ex 42 rfl)),
    s_InvalidLedger_InvalidPrime := (of_decide_eq_true (c.ex 43 rfl)),
    s_InvalidLedger_InvalidResidues := (of_decide_eq_true (c.ex 44 rfl)),
    s_InvalidLedger_OtherLength := (of_decide_eq_true (c.ex 45 rfl)),
    s_InvalidLedger_SumsError := (of_decide_eq_true (c.ex 46 rfl)),
    s_InvalidNumber_InvalidLedger := (of_decide_eq_true (c.ex 47 rfl)),
    s_InvalidNumber_InvalidNumber := (of_decide_eq_true (c.ex 48 rfl)),
    s_InvalidNumber_InvalidPrime := (of_decide_eq_true (c.ex 49 rfl)),
    s_InvalidNumber_InvalidResidues := (of_decide_eq_true (c.ex 50 rfl)),
    s_InvalidNumber_OtherLength := (of_decide_eq_true (c.ex 51 rfl)),
    s_InvalidNumber_SumsError := (of_decide_eq_true (c.ex 52 rfl)),
    s_InvalidPrime_InvalidLedger := (of_decide_eq_true (c.ex 53 rfl)),
    s_InvalidPrime_InvalidNumber := (of_decide_eq_true (c.ex 54 rfl)),
    s_InvalidPrime_InvalidPrime := (of_decide_eq_true (c.ex 55 rfl)),
    s_InvalidPrime_InvalidResidues := (of_decide_eq_true (c.ex 56 rfl)),
    s_InvalidPrime_OtherLength := (of_decide_eq_true (c.ex 57 rfl)),
    s_InvalidPrime_SumsError := (of_decide_eq_true (c.ex 58 rfl)),
    s_InvalidResidues_InvalidLedger := (of_decide_eq_true (c.ex 59 rfl)),
    s_InvalidResidues_InvalidNumber := (of_decide_eq_true (c.ex 60 rfl)),
    s_InvalidResidues_InvalidPrime := (of_decide_eq_true (c.ex 61 rfl)),
    s_InvalidResidues_InvalidResidues := (of_decide_eq_true (c.ex 62 rfl)),
    s_InvalidResidues_OtherLength := (of_decide_eq_true (c.ex 63 rfl)),
    s_InvalidResidues_SumsError := (of_decide_eq_true (c.ex 64 rfl)),
    s_OtherLength_InvalidLedger := (of_decide_eq_true (c.ex 65 rfl)),
    s_OtherLength_InvalidNumber := (of_decide_eq_true (c.ex 66 rfl)),
    s_OtherLength_InvalidPrime := (of_decide_eq_true (c.ex 67 rfl)),
    s_OtherLength_InvalidResidues := (of_decide_eq_true (c.ex 68 rfl)),
    s_OtherLength_OtherLength := (of_decide_eq_true (c.ex 69 rfl)),
    s_OtherLength_SumsError := (of_decide_eq_true (c.ex 70 rfl)),
    z_ValueError := He.free_ok X G (c.d.fact 56 (f := .free "ValueError") rfl),
    z_abs := He.free_ok X G (c.d.fact 57 (f := .free "abs") rfl),
    z_all := He.free_ok X G (c.d.fact 58 (f := .free "all") rfl),
    z_bool := He.free_ok X G (c.d.fact 59 (f := .free "bool") rfl),
    z_enumerate := He.free_ok X G (c.d.fact 60 (f := .free "enumerate") rfl),
    z_int := He.free_ok X G (c.d.fact 61 (f := .free "int") rfl),
    z_isinstance := He.free_ok X G (c.d.fact 62 (f := .free "isinstance") rfl),
    z_len := He.free_ok X G (c.d.fact 63 (f := .free "len") rfl),
    z_list := He.free_ok X G (c.d.fact 64 (f := .free "list") rfl),
    z_max := He.free_ok X G (c.d.fact 65 (f := .free "max") rfl),
    z_min := He.free_ok X G (c.d.fact 66 (f := .free "min") rfl),
    z_range := He.free_ok X G (c.d.fact 67 (f := .free "range") rfl),
    z_sorted := He.free_ok X G (c.d.fact 68 (f := .free "sorted") rfl),
    z_sum := He.free_ok X G (c.d.fact 69 (f := .free "sum") rfl),
    z_tuple := He.free_ok X G (c.d.fact 70 (f := .free "tuple") rfl),
    z_zip := He.free_ok X G (c.d.fact 71 (f := .free "zip") rfl) })⟩
end Lw
open PySem PySem.W PySem.Calls PyProof.Rows
set_option maxHeartbeats 0 in
theorem PySem.Challenge.cw_changesums_k48_errors_modulo_a_prime_holds : PySem.Challenge.rw_changesums_k48_errors_modulo_a_prime.Holds := by
  w_on; o_law
  refine HandSHeadRun.head_imp (r := PySem.W.OpenLaw.row PySem.Challenge.rw_changesums_k48_errors_modulo_a_prime) (q := view (PySem.W.OpenLaw.row PySem.Challenge.rw_changesums_k48_errors_modulo_a_prime).prog [0, 94]) (H := Lw.hkB) (ob := Lw.obB) (M := 20000) (loose := Lw.nmL) (d := HandSHeadRun.topDef (PySem.W.OpenLaw.row PySem.Challenge.rw_changesums_k48_errors_modulo_a_prime).prog 94) (kwd := []) Lw.obB_eq
    Lw.runB (by kernel_rfl) (by kernel_rfl) (by kernel_rfl) (by rfl) (by first | assumption | decide +kernel) (by decide +kernel) ⟨rfl, rfl, rfl, rfl, rfl, by decide +kernel⟩ ?hw ?hc
  case hw => w_witness2
  case hc =>
    refine L2.walk_ofE (l := PySem.Challenge.rw_changesums_k48_errors_modulo_a_prime) (n := 63) (k := 9) (x := "script") (CX := L2.CX0) rfl (by decide) (by kernel_rfl) ⟨rfl, by decide, by decide⟩ ?F (fun _ _ _ _ z => z)
    intro w mg fa h Y G hmg0
    obtain ⟨K, KX, c⟩ := Y
    have hmg : mg ("law" : PySem.Str) = some (.ref fa) := by
      have e : (HandSHeadRun.topDef (PySem.W.OpenLaw.row PySem.Challenge.rw_changesums_k48_errors_modulo_a_prime).prog 94).name = ("law" : PySem.Str) := by kernel_rfl
      rw [← e]
      exact hmg0
    obtain ⟨fd, hb, hF⟩ := Lw.facts2 (l := PySem.Challenge.rw_changesums_k48_errors_modulo_a_prime) (w := w) KX G hmg c
    exact ⟨K, fd, Cr.spLaw K, KX, hb, fun H a ns hl _ hS => ⟨a, ns, rfl, hS, hl, fun _ => rfl⟩, hF⟩