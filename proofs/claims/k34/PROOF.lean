import PyProof.Rows.All
import HandS.ForMost
import HandS.IsInst
import HandS.Wide
import HandS.Zip
import HandS.SortInts
import HandS.More
import HandS.TupAny
import HandS.Defaults
import HandS.Star
import HandS.Conv
import PyProof.Rows.RuleB_pow
import HandS.Steps
import PyProof.ReprLen
import PyProof.Rows.ReprR
import HandS.Ends
import KE.GoesEnum
import HandS.Iter
import HandS.Style
import KE.KMathGC
import HandS.Gcd
import HandS.SetFor
import HandS.Strs
import HandS.TupMul
import HandS.WordsDict
import KE.KDictPairs
import PySem.Challenge.RW_changesums_k34_rules_judged
set_option Elab.async false
set_option linter.all false
set_option maxRecDepth 100000
set_option maxHeartbeats 800000
set_option Elab.async false
set_option linter.all false
set_option maxRecDepth 100000
set_option maxHeartbeats 4000000
namespace Cr
open PySem PySem.Spec PyProof.Rows L2 L2

/-! ### data in the heap -/
def notPair : PyData → Bool
  | .tuple [.int _, .int _] => false
  | _ => true
/-- no ledger: its first item is no pair of ints -/
def lax : List PyData → Bool
  | [] => true
  | d :: _ => notPair d
theorem lax_of {ds : List PyData} (h : ∀ d ∈ ds, notPair d = true) : lax ds = true := by
  cases ds with
  | nil => rfl
  | cons d ds => exact h d (by simp)
/-- a tuple at a: its object is known to have no dict of its own, but where no ledger is told -/
def Tp (H : Hp) (a : Addr) (xs : List V) (ds : List PyData) : Prop := (∃ o : Obj, o.dict = none ∧ H a = some (.frz o (.tup xs))) ∨ (lax ds = true ∧ H a = some (.tup xs))
theorem Tp.rd {H : Hp} {a : Addr} {xs : List V} {ds : List PyData} (h : Tp H a xs ds) : Rd H a (.tup xs) := by
  rcases h with ⟨o, _, e⟩ | ⟨_, e⟩
  · exact .inr ⟨o, e⟩
  · exact .inl e
theorem Tp.mono {H H' : Hp} {a : Addr} {xs : List V} {ds : List PyData} (s : Same H H') (h : Tp H a xs ds) : Tp H' a xs ds := by
  rcases h with ⟨o, d, e⟩ | ⟨d, e⟩
  · exact .inl ⟨o, d, s _ _ e⟩
  · exact .inr ⟨d, s _ _ e⟩
theorem Tp.new {H : Hp} {a : Addr} {xs : List V} {ds : List PyData} {o : Obj} (h : o.dict = none) : Tp (upd H a (.frz o (.tup xs))) a xs ds := .inl ⟨o, h, upd_same⟩
/-- a tuple of written items -/
def tTup (t : TA) : TE := fun σ H Q => t σ H fun xs H1 => xs.length ≤ sizeLine ∧ ∀ (p : Addr) (o : Obj), o.dict = none → H1 p = none → Q (.ref p) (upd H1 p (.frz o (.tup xs)))
theorem pe_tup {X : Cx} {es : List Expr} {t : TA} {k : Nat} {pos : Pos} (h : PA X es t) : PE X (.Tuple es k pos) (tTup t) := by
  constructor
  intro pins s σ H Q I hq
  refine wpAny_Tuple_spliced (thn (h.run pos pins s σ H _ I hq) fun us t1 ⟨xs, G, I1, r, z, q⟩ => ⟨by rw [← r.length]; exact z, ?_⟩)
  have nf : G t1.heap.objs.size = none := I1.hok.fresh (Nat.le_refl _)
  have eq : (t1.heap.push { cls := .type "tuple", data := .seq us.toArray }).get? t1.heap.objs.size = some { cls := .type "tuple", data := .seq us.toArray } := Heap.get?_push_size _ rfl
  refine ⟨.ref t1.heap.objs.size, _, I1.laid (t' := t1.toks) (o := .frz { cls := .type "tuple", data := .seq us.toArray } (.tup xs)) (fun b u e => Heap.get?_push_of_some _ e) (Nat.le_refl _) ?_, rfl, q _ _ rfl nf⟩
  exact ⟨eq, z, us, r, _, eq, rfl, _, rfl⟩
mutual
inductive Dq (H : Hp) : V → PyData → Prop
  | non : Dq H .non .none
  | bl (b : Bool) : Dq H (.bl b) (.bool b)
  | int (i : Int) : Dq H (.int i) (.int i)
  | str (x : Str) : Dq H (.str x) (.str x)
  | lst {a : Addr} {xs : List V} {ds : List PyData} : H a = some (.lst xs) → DqAll H xs ds → Dq H (.ref a) (.list ds)
  | tup {a : Addr} {xs : List V} {ds : List PyData} : Tp H a xs ds → DqAll H xs ds → Dq H (.ref a) (.tuple ds)
inductive DqAll (H : Hp) : List V → List PyData → Prop
  | nil : DqAll H [] []
  | cons {v : V} {vs : List V} {d : PyData} {ds : List PyData} : Dq H v d → DqAll H vs ds → DqAll H (v :: vs) (d :: ds)
end
section
variable {K : PySem.W.Frag} {H H' : Hp}
mutual
theorem Dq.mono (e : Same H H') : ∀ (d : PyData) (v : V), Dq H v d → Dq H' v d
  | .none, _, h => by cases h; exact .non
  | .bool b, _, h => by cases h; exact .bl b
  | .int i, _, h => by cases h; exact .int i
  | .str x, _, h => by cases h; exact .str x
  | .list ds, _, h => by
    cases h with
    | lst hs ha => exact .lst (e _ _ hs) (DqAll.mono e ds _ ha)
  | .tuple ds, _, h => by
    cases h with
    | tup hs ha => exact .tup (hs.mono e) (DqAll.mono e ds _ ha)
  | .dict _, _, h => by cases h
theorem DqAll.mono (e : Same H H') : ∀ (ds : List PyData) (vs : List V), DqAll H vs ds → DqAll H' vs ds
  | [], _, h => by cases h; exact .nil
  | d :: ds, _, h => by
    cases h with
    | cons h1 h2 => exact .cons (Dq.mono e d _ h1) (DqAll.mono e ds _ h2)
end
mutual
theorem Dq.dp (K : PySem.W.Frag) : ∀ (d : PyData) (v : V), Dq H v d → Dp K H v d
  | .none, _, h => by cases h; exact .non
  | .bool b, _, h => by cases h; exact .bl b
  | .int i, _, h => by cases h; exact .int i
  | .str x, _, h => by cases h; exact .str x
  | .list ds, _, h => by
    cases h with
    | lst hs ha => exact .lst (.inl (.inl hs)) (DqAll.dp K ds _ ha)
  | .tuple ds, _, h => by
    cases h with
    | tup hs ha => exact .tup (.inl hs.rd) (DqAll.dp K ds _ ha)
  | .dict _, _, h => by cases h
theorem DqAll.dp (K : PySem.W.Frag) : ∀ (ds : List PyData) (vs : List V), DqAll H vs ds → DpAll K H vs ds
  | [], _, h => by cases h; exact .nil
  | d :: ds, _, h => by
    cases h with
    | cons h1 h2 => exact .cons (Dq.dp K d _ h1) (DqAll.dp K ds _ h2)
end
theorem DqAll.length : ∀ {vs : List V} {ds : List PyData}, DqAll H vs ds → vs.length = ds.length
  | [], _, h => by cases h; rfl
  | v :: vs, _, h => by
    cases h with
    | cons h1 h2 => exact congrArg (· + 1) (DqAll.length h2)
theorem DqAll.get : ∀ {vs : List V} {ds : List PyData} {i : Nat} {d : PyData}, DqAll H vs ds → ds[i]? = some d → ∃ v, vs[i]? = some v ∧ Dq H v d
  | [], _, i, d, h, e => by cases h; simp at e
  | v :: vs, _, 0, d, h, e => by
    cases h with
    | cons h1 h2 => simp at e; subst e; exact ⟨v, rfl, h1⟩
  | v :: vs, _, i + 1, d, h, e => by
    cases h with
    | cons h1 h2 => obtain ⟨w, a, b⟩ := DqAll.get (i := i) h2 (by simpa using e); exact ⟨w, by simpa using a, b⟩
theorem DqAll.get' : ∀ {vs : List V} {ds : List PyData} {i : Nat} {v : V}, DqAll H vs ds → vs[i]? = some v → ∃ d, ds[i]? = some d ∧ Dq H v d
  | [], _, i, d, h, e => by cases h; simp at e
  | v :: vs, _, 0, d, h, e => by
    cases h with
    | cons h1 h2 => simp at e; subst e; exact ⟨_, rfl, h1⟩
  | v :: vs, _, i + 1, d, h, e => by
    cases h with
    | cons h1 h2 => obtain ⟨w, a, b⟩ := DqAll.get' (i := i) h2 (by simpa using e); exact ⟨w, by simpa using a, b⟩
theorem DqAll.append : ∀ {vs : List V} {ds : List PyData} {ws : List V} {es : List PyData}, DqAll H vs ds → DqAll H ws es → DqAll H (vs ++ ws) (ds ++ es)
  | [], _, _, _, h, g => by cases h; exact g
  | v :: vs, _, _, _, h, g => by
    cases h with
    | cons h1 h2 => exact .cons h1 (DqAll.append h2 g)
theorem DqAll.drop : ∀ {vs : List V} {ds : List PyData} (n : Nat), DqAll H vs ds → DqAll H (vs.drop n) (ds.drop n)
  | _, _, 0, h => h
  | [], _, _ + 1, h => by cases h; exact .nil
  | v :: vs, _, n + 1, h => by
    cases h with
    | cons h1 h2 => exact DqAll.drop n h2
theorem DqAll.take : ∀ {vs : List V} {ds : List PyData} (n : Nat), DqAll H vs ds → DqAll H (vs.take n) (ds.take n)
  | _, _, 0, h => .nil
  | [], _, _ + 1, h => by cases h; exact .nil
  | v :: vs, _, n + 1, h => by
    cases h with
    | cons h1 h2 => exact .cons h1 (DqAll.take n h2)
theorem DqAll.rep {v : V} {d : PyData} (h : Dq H v d) : ∀ n : Nat, DqAll H (List.replicate n v) (List.replicate n d)
  | 0 => .nil
  | n + 1 => .cons h (DqAll.rep h n)
theorem DqAll.ints : ∀ {vs : List V} {ns : List Int}, DqAll H vs (ns.map PyData.int) → vs = ns.map V.int
  | [], [], _ => rfl
  | [], _ :: _, h => by cases h
  | _ :: _, [], h => by cases h
  | v :: vs, n :: ns, h => by
    cases h with
    | cons h1 h2 => cases h1; rw [DqAll.ints h2]; rfl
theorem DqAll.bls : ∀ {vs : List V} {ns : List Bool}, DqAll H vs (ns.map PyData.bool) → vs = ns.map V.bl
  | [], [], _ => rfl
  | [], _ :: _, h => by cases h
  | _ :: _, [], h => by cases h
  | v :: vs, n :: ns, h => by
    cases h with
    | cons h1 h2 => cases h1; rw [DqAll.bls h2]; rfl
theorem DqAll.ofInts : ∀ ns : List Int, DqAll H (ns.map V.int) (ns.map PyData.int)
  | [] => .nil
  | n :: ns => .cons (.int n) (DqAll.ofInts ns)
theorem Dq.intOf {v : V} {i : Int} (h : Dq H v (.int i)) : v = .int i := by cases h; rfl
theorem Dq.blOf {v : V} {i : Bool} (h : Dq H v (.bool i)) : v = .bl i := by cases h; rfl
theorem Dq.strOf {v : V} {i : Str} (h : Dq H v (.str i)) : v = .str i := by cases h; rfl
theorem Dq.nonOf {v : V} (h : Dq H v .none) : v = .non := by cases h; rfl
theorem Dq.tupOf {v : V} {ds : List PyData} (h : Dq H v (.tuple ds)) : ∃ a xs, v = .ref a ∧ Tp H a xs ds ∧ DqAll H xs ds := by
  cases h with
  | tup h1 h2 => exact ⟨_, _, rfl, h1, h2⟩
theorem Dq.lstOf {v : V} {ds : List PyData} (h : Dq H v (.list ds)) : ∃ a xs, v = .ref a ∧ H a = some (.lst xs) ∧ DqAll H xs ds := by
  cases h with
  | lst h1 h2 => exact ⟨_, _, rfl, h1, h2⟩
end

theorem same_upd {H : Hp} {p : Addr} {o : HO} (h : H p = none) : Same H (upd H p o) := fun b x e => by
  rw [upd_ne (ne_of_none e h)]
  exact e
theorem _root_.L2.Same.upd2 {H H' : Hp} {p : Addr} {o : HO} (e : Same H H') : Same (upd H p o) (upd H' p o) := fun b x q => by
  by_cases hb : b = p
  · subst hb; rw [upd_same] at q ⊢; exact q
  · rw [upd_ne hb] at q ⊢; exact e b x q
/-- an untracked place may change -/
theorem _root_.L2.Same.out {H H' : Hp} {p : Addr} {o : HO} (e : Same H H') (h : H p = none) : Same H (upd H' p o) := fun b x q => by
  rw [upd_ne (ne_of_none q h)]
  exact e b x q

/-! ### slots, the jar, the state -/
inductive Sl where
  | any
  | dat (d : PyData)
  | adr (p : Addr)
  | dic (m : List (Int × Int))
  | scr (K : PySem.W.Frag) (ns : List Int)
/-- a dict of ints -/
def mdict (m : List (Int × Int)) : List (Key × V) := m.map fun x => (Sum.inl x.1, V.int x.2)
def SlOk (H : Hp) : V → Sl → Prop
  | _, .any => True
  | v, .dat d => Dq H v d
  | v, .adr p => v = .ref p
  | v, .dic m => ∃ p, v = .ref p ∧ H p = some (.dK (mdict m))
  | v, .scr K ns => ∃ p, v = .ref p ∧ SqL K H p (ns.map V.int)
theorem SlOk.mono {H H' : Hp} (e : Same H H') : ∀ {v : V} {s : Sl}, SlOk H v s → SlOk H' v s
  | _, .any, _ => trivial
  | _, .dat d, h => Dq.mono e d _ h
  | _, .adr _, h => h
  | _, .dic _, h => by
    obtain ⟨p, a, b⟩ := h
    exact ⟨p, a, e _ _ b⟩
  | _, .scr K ns, h => by
    obtain ⟨p, a, b⟩ := h
    exact ⟨p, a, Same.seq e b⟩
def Sg (H : Hp) (σ : L2.St) (δ : List Sl) : Prop := σ.length = δ.length ∧ ∀ (i : Nat) (s : Sl), δ[i]? = some s → s ≠ .any → ∃ v, σ[i]? = some (some v) ∧ SlOk H v s
theorem Sg.mono {H H' : Hp} {σ : L2.St} {δ : List Sl} (e : Same H H') (h : Sg H σ δ) : Sg H' σ δ := ⟨h.1, fun i s a b => by
  obtain ⟨v, p, q⟩ := h.2 i s a b
  exact ⟨v, p, q.mono e⟩⟩
theorem Sg.set {H : Hp} {σ : L2.St} {δ : List Sl} {v : V} {s : Sl} (h : Sg H σ δ) (i : Nat) (r : SlOk H v s) : Sg H (σ.set i (some v)) (δ.set i s) := by
  refine ⟨by rw [List.length_set, List.length_set]; exact h.1, fun j t a b => ?_⟩
  by_cases hj : i = j
  · subst hj
    by_cases hl : i < δ.length
    · rw [List.getElem?_set_self hl] at a
      cases a
      exact ⟨v, by rw [List.getElem?_set_self (by rw [h.1]; exact hl)], r⟩
    · rw [List.getElem?_eq_none (by rw [List.length_set]; omega)] at a; cases a
  · rw [List.getElem?_set_ne hj] at a ⊢
    exact h.2 j t a b
theorem Sg.get {H : Hp} {σ : L2.St} {δ : List Sl} {i : Nat} {d : PyData} (h : Sg H σ δ) (e : δ[i]? = some (.dat d)) : ∃ v, σ[i]? = some (some v) ∧ Dq H v d := h.2 i _ e (fun z => by cases z)
theorem Sg.getA {H : Hp} {σ : L2.St} {δ : List Sl} {i : Nat} {p : Addr} (h : Sg H σ δ) (e : δ[i]? = some (.adr p)) : σ[i]? = some (some (.ref p)) := by
  obtain ⟨v, a, b⟩ := h.2 i _ e (fun z => by cases z)
  rw [a]; rw [show v = .ref p from b]
/-- less is known -/
theorem Sg.weak {H : Hp} {σ : L2.St} {δ δ' : List Sl} (h : Sg H σ δ) (hl : δ'.length = δ.length) (hw : ∀ (i : Nat) (s : Sl), δ'[i]? = some s → s = Sl.any ∨ δ[i]? = some s) : Sg H σ δ' := ⟨by rw [h.1, hl], fun i s a b => by
  rcases hw i s a with e | e
  · exact absurd e b
  · exact h.2 i s e b⟩

def Jar (n : Nat) (H : Hp) (p : Addr) : Prop := ∃ x y z : Int, H p = some (.lst [.int x, .int y, .int z]) ∧ 0 ≤ y ∧ y < 2 ^ 140 ∧ 0 ≤ z ∧ z + n ≤ 1000000000
theorem Jar.mono {n m : Nat} {H : Hp} {p : Addr} (h : Jar n H p) (l : m ≤ n) : Jar m H p := by
  obtain ⟨x, y, z, a, b, c, d, e⟩ := h
  exact ⟨x, y, z, a, b, c, d, by omega⟩
theorem Jar.ne {n : Nat} {H : Hp} {p : Addr} (h : Jar n H p) : H p ≠ none := by
  obtain ⟨x, y, z, a, _⟩ := h
  rw [a]; exact fun z => by cases z
theorem Jar.same {n : Nat} {H H' : Hp} {p : Addr} (h : Jar n H p) (e : ∀ o, H p = some o → H' p = some o) : Jar n H' p := by
  obtain ⟨x, y, z, a, r⟩ := h
  exact ⟨x, y, z, e _ a, r⟩

structure Gr (q : Option Addr) (H H1 Hk H2 : Hp) : Prop where
  k : Same H Hk
  a : Same Hk H2
  s : ∀ b o, q ≠ some b → H1 b = some o → H2 b = some o
  f : ∀ b, H b = none → H1 b ≠ none → Hk b = none
  t : ∀ b, H1 b ≠ none → H2 b ≠ none
theorem Gr.refl {q : Option Addr} {H H1 : Hp} (e : Same H H1) : Gr q H H1 H H1 := ⟨Same.refl H, e, fun _ _ _ h => h, fun _ h _ => h, fun _ h => h⟩
theorem Gr.trans {q : Option Addr} {H H1 Hk H2 Hk' H3 : Hp} (x : Gr q H H1 Hk H2) (y : Gr q Hk H2 Hk' H3) : Gr q H H1 Hk' H3 :=
  ⟨x.k.trans y.k, y.a, fun b o n h => y.s b o n (x.s b o n h), fun b h h1 => y.f b (x.f b h h1) (x.t b h1), fun b h => y.t b (x.t b h)⟩
theorem Gr.none_to {q : Option Addr} {H H1 Hk H2 : Hp} (x : Gr none H H1 Hk H2) : Gr q H H1 Hk H2 := ⟨x.k, x.a, fun b o _ h => x.s b o (fun z => by cases z) h, x.f, x.t⟩
/-- a new object, known at once -/
theorem Gr.new {q : Option Addr} {H H1 : Hp} {p : Addr} {o : HO} (e : Same H H1) (h : H1 p = none) : Gr q H H1 (upd H p o) (upd H1 p o) := by
  have hn : H p = none := e.free h
  refine ⟨same_upd hn, e.upd2, fun b u _ q => by rw [upd_ne (ne_of_none q h)]; exact q, fun b q z => ?_, fun b z => ?_⟩
  · rw [upd_ne (fun w => z (by rw [w]; exact h))]; exact q
  · rw [upd_ne (fun w => z (by rw [w]; exact h))]; exact z
/-- a new object, not known -/
theorem Gr.cell {q : Option Addr} {H H1 : Hp} {p : Addr} {o : HO} (e : Same H H1) (h : H1 p = none) : Gr q H H1 H (upd H1 p o) := by
  have hn : H p = none := e.free h
  refine ⟨Same.refl H, e.out hn, fun b u _ q => by rw [upd_ne (ne_of_none q h)]; exact q, fun b q z => q, fun b z => ?_⟩
  rw [upd_ne (fun w => z (by rw [w]; exact h))]; exact z
/-- a cell of ours changes -/
theorem Gr.put {q : Option Addr} {H H1 Hk H2 : Hp} {p : Addr} {o : HO} (x : Gr q H H1 Hk H2) (h : H1 p = none) (hk : Hk p = none) : Gr q H H1 Hk (upd H2 p o) := by
  refine ⟨x.k, x.a.out hk, fun b u n z => ?_, x.f, fun b z => ?_⟩
  · rw [upd_ne (ne_of_none z h)]; exact x.s b u n z
  · rw [upd_ne (fun w => z (by rw [w]; exact h))]; exact x.t b z
/-- a cell of ours becomes known -/
theorem Gr.freeze {q : Option Addr} {H H1 Hk H2 : Hp} {p : Addr} {o : HO} (x : Gr q H H1 Hk H2) (h : H1 p = none) (hk : Hk p = none) (e : H2 p = some o) : Gr q H H1 (upd Hk p o) H2 := by
  refine ⟨x.k.trans (same_upd hk), fun b u z => ?_, x.s, fun b z w => ?_, x.t⟩
  · by_cases hb : b = p
    · subst hb; rw [upd_same] at z; rw [← z]; exact e
    · rw [upd_ne hb] at z; exact x.a b u z
  · rw [upd_ne (fun v => w (by rw [v]; exact h))]; exact x.f b z w

structure Ok (q : Option Addr) (n : Nat) (H H1 : Hp) : Prop where
  a : Same H H1
  kf : ∀ p, q = some p → H p = none
  j : ∀ p, q = some p → Jar n H1 p
theorem Ok.mono {q : Option Addr} {n m : Nat} {H H1 : Hp} (h : Ok q n H H1) (l : m ≤ n) : Ok q m H H1 := ⟨h.a, h.kf, fun p e => (h.j p e).mono l⟩
/-- behind a step that leaves the jar -/
theorem Ok.go {q : Option Addr} {n : Nat} {H H1 Hk H2 : Hp} (h : Ok q n H H1) (g : Gr none H H1 Hk H2) : Ok q n Hk H2 :=
  ⟨g.a, fun p e => g.f p (h.kf p e) (h.j p e).ne, fun p e => (h.j p e).same fun o z => g.s p o (fun w => by cases w) z⟩
theorem Ok.cell {q : Option Addr} {n : Nat} {H H1 : Hp} {p : Addr} {o : HO} (h : Ok q n H H1) (hk : H p = none) (hq : q ≠ some p) : Ok q n H (upd H1 p o) :=
  ⟨h.a.out hk, h.kf, fun r e => (h.j r e).same fun u z => by rw [upd_ne (fun w => hq (by rw [← w]; exact e))]; exact z⟩

/-- the state of a def that runs: from its entry (A0, B0) -/
structure At (q : Option Addr) (n : Nat) (δ : List Sl) (A0 B0 : Hp) (σ : L2.St) (Hk H1 : Hp) : Prop where
  ok : Ok q n Hk H1
  sg : Sg Hk σ δ
  gr : Gr q A0 B0 Hk H1
theorem At.go {q : Option Addr} {n m : Nat} {δ δ' : List Sl} {A0 B0 : Hp} {σ σ' : L2.St} {Hk H1 Hk' H2 : Hp} (s : At q n δ A0 B0 σ Hk H1) (g : Gr q Hk H1 Hk' H2) (o : Ok q m Hk' H2) (sg : Sg Hk' σ' δ') : At q m δ' A0 B0 σ' Hk' H2 := ⟨o, sg, s.gr.trans g⟩
theorem At.mono {q : Option Addr} {n m : Nat} {δ : List Sl} {A0 B0 : Hp} {σ : L2.St} {Hk H1 : Hp} (s : At q n δ A0 B0 σ Hk H1) (l : m ≤ n) : At q m δ A0 B0 σ Hk H1 := ⟨s.ok.mono l, s.sg, s.gr⟩
theorem At.weak {q : Option Addr} {n : Nat} {δ δ' : List Sl} {A0 B0 : Hp} {σ : L2.St} {Hk H1 : Hp} (s : At q n δ A0 B0 σ Hk H1) (hl : δ'.length = δ.length) (hw : ∀ (i : Nat) (s : Sl), δ'[i]? = some s → s = Sl.any ∨ δ[i]? = some s) : At q n δ' A0 B0 σ Hk H1 := ⟨s.ok, s.sg.weak hl hw, s.gr⟩

/-! ### judgements -/
def J (q : Option Addr) (δ : List Sl) (te : TE) (c : Nat) (Φ : PyData → Prop) : Prop :=
  ∀ (σ : L2.St) (H H1 : Hp) (n : Nat), Sg H σ δ → Ok q (n + c) H H1 → ∀ Q : VK, (∀ d v Hk H2, Gr q H H1 Hk H2 → Ok q n Hk H2 → Φ d → Dq Hk v d → Q v H2) → te σ H1 Q
abbrev E (q : Option Addr) (δ : List Sl) (te : TE) (d : PyData) : Prop := J q δ te 0 (fun x => x = d)
def TJ (q : Option Addr) (δ : List Sl) (tt : TT) (c : Nat) (Φ : Bool → Prop) : Prop :=
  ∀ (σ : L2.St) (H H1 : Hp) (n : Nat), Sg H σ δ → Ok q (n + c) H H1 → ∀ Q : Bool → Hp → Prop, (∀ b Hk H2, Gr q H H1 Hk H2 → Ok q n Hk H2 → Φ b → Q b H2) → tt σ H1 Q
abbrev TB (q : Option Addr) (δ : List Sl) (tt : TT) (b : Bool) : Prop := TJ q δ tt 0 (fun x => x = b)
def VS (H : Hp) (vs : List V) (sls : List Sl) : Prop := vs.length = sls.length ∧ ∀ (i : Nat) (s : Sl), sls[i]? = some s → ∃ v, vs[i]? = some v ∧ SlOk H v s
theorem VS.mono {H H' : Hp} {vs : List V} {sls : List Sl} (e : Same H H') (h : VS H vs sls) : VS H' vs sls := ⟨h.1, fun i s a => by
  obtain ⟨v, p, q⟩ := h.2 i s a
  exact ⟨v, p, q.mono e⟩⟩
theorem VS.nil {H : Hp} : VS H [] [] := ⟨rfl, fun i s e => by simp at e⟩
theorem VS.cons {H : Hp} {v : V} {vs : List V} {s : Sl} {sls : List Sl} (h : SlOk H v s) (t : VS H vs sls) : VS H (v :: vs) (s :: sls) := ⟨by rw [List.length_cons, List.length_cons, t.1], fun i u e => by
  cases i with
  | zero => simp at e; subst e; exact ⟨v, rfl, h⟩
  | succ i => obtain ⟨w, a, b⟩ := t.2 i u (by simpa using e); exact ⟨w, by simpa using a, b⟩⟩
theorem VS.dats {H : Hp} : ∀ {vs : List V} {ds : List PyData}, VS H vs (ds.map Sl.dat) → DqAll H vs ds
  | [], [], _ => .nil
  | [], _ :: _, h => by have := h.1; simp at this
  | _ :: _, [], h => by have := h.1; simp at this
  | v :: vs, d :: ds, h => by
    obtain ⟨w, a, b⟩ := h.2 0 (.dat d) rfl
    have e : v = w := by simpa using a
    subst e
    exact .cons b (VS.dats (ds := ds) ⟨by have := h.1; simpa using this, fun i s e => by
      obtain ⟨x, p, q⟩ := h.2 (i + 1) s (by simpa using e)
      exact ⟨x, by simpa using p, q⟩⟩)
def AJ (q : Option Addr) (δ : List Sl) (ta : TA) (c : Nat) (Φ : List Sl → Prop) : Prop :=
  ∀ (σ : L2.St) (H H1 : Hp) (n : Nat), Sg H σ δ → Ok q (n + c) H H1 → ∀ Q : List V → Hp → Prop, (∀ sls vs Hk H2, Gr q H H1 Hk H2 → Ok q n Hk H2 → Φ sls → VS Hk vs sls → Q vs H2) → ta σ H1 Q
abbrev AE (q : Option Addr) (δ : List Sl) (ta : TA) (sls : List Sl) : Prop := AJ q δ ta 0 (fun x => x = sls)

section
variable {K : PySem.W.Frag} {q : Option Addr} {δ : List Sl} {te ta tb tc : TE} {tt tu : TT} {c c1 c2 c3 : Nat} {Φ Φ1 Φ2 Φ3 : PyData → Prop} {d d1 d2 : PyData}

theorem J.imp (h : J q δ te c Φ) (i : ∀ d, Φ d → Φ1 d) : J q δ te c Φ1 := fun σ H H1 n sg o Q k => h σ H H1 n sg o Q fun d v Hk H2 g o' p r => k d v Hk H2 g o' (i d p) r
theorem J.cost (h : J q δ te c Φ) (l : c ≤ c1) : J q δ te c1 Φ := fun σ H H1 n sg o Q k => h σ H H1 n sg (o.mono (by omega)) Q k
theorem J.to (h : J q δ te c Φ) (l : c ≤ c1) (i : ∀ d, Φ d → Φ1 d) : J q δ te c1 Φ1 := (h.cost l).imp i
theorem TJ.imp {Φ Φ1 : Bool → Prop} (h : TJ q δ tt c Φ) (i : ∀ d, Φ d → Φ1 d) : TJ q δ tt c Φ1 := fun σ H H1 n sg o Q k => h σ H H1 n sg o Q fun d Hk H2 g o' p => k d Hk H2 g o' (i d p)
theorem TJ.cost {Φ : Bool → Prop} (h : TJ q δ tt c Φ) (l : c ≤ c1) : TJ q δ tt c1 Φ := fun σ H H1 n sg o Q k => h σ H H1 n sg (o.mono (by omega)) Q k
theorem AJ.cost {ta : TA} {Φ : List Sl → Prop} (h : AJ q δ ta c Φ) (l : c ≤ c1) : AJ q δ ta c1 Φ := fun σ H H1 n sg o Q k => h σ H H1 n sg (o.mono (by omega)) Q k
theorem AJ.imp {ta : TA} {Φ Φ1 : List Sl → Prop} (h : AJ q δ ta c Φ) (i : ∀ d, Φ d → Φ1 d) : AJ q δ ta c Φ1 := fun σ H H1 n sg o Q k => h σ H H1 n sg o Q fun d v Hk H2 g o' p r => k d v Hk H2 g o' (i d p) r
theorem e_is (h : E q δ te d) (e : d = d1) : E q δ te d1 := by rw [← e]; exact h
theorem tb_is {a b : Bool} (h : TB q δ tt a) (e : a = b) : TB q δ tt b := by rw [← e]; exact h

/-! names and constants -/
theorem e_var {i : Nat} (e : δ[i]? = some (.dat d)) : E q δ (tVar i) d := fun σ H H1 n sg o Q k => by
  obtain ⟨v, a, b⟩ := sg.get e
  exact ⟨v, a, k d v H H1 (Gr.refl o.a) o rfl b⟩
theorem e_c {v : V} (h : ∀ H, Dq H v d) : E q δ (tC v) d := fun σ H H1 n sg o Q k => k d v H H1 (Gr.refl o.a) o rfl (h H)
theorem e_int {i : Int} : E q δ (tC (.int i)) (.int i) := e_c fun _ => .int i
theorem e_bl {i : Bool} : E q δ (tC (.bl i)) (.bool i) := e_c fun _ => .bl i
theorem e_non : E q δ (tC .non) .none := e_c fun _ => .non
theorem e_str {x : Str} : E q δ (tC (.str x)) (.str x) := e_c fun _ => .str x

/-! operators -/
def RJ (r : R2) (a b : PyData) (Φ : PyData → Prop) : Prop := ∀ (x y : V) (H H1 : Hp), Dq H x a → Dq H y b → Same H H1 → ∀ Q : VK, (∀ d v Hk H2, Gr none H H1 Hk H2 → Φ d → Dq Hk v d → Q v H2) → r x y H1 Q
theorem j_op {r : R2} (ha : J q δ ta c1 Φ1) (hb : J q δ tb c2 Φ2) (hr : ∀ a b, Φ1 a → Φ2 b → RJ r a b Φ) : J q δ (tOp r ta tb) (c2 + c1) Φ := fun σ H H1 n sg o Q k =>
  ha σ H H1 (n + c2) sg (by rw [Nat.add_assoc]; exact o) _ fun a x Hk H2 g o1 pa da => hb σ Hk H2 n (sg.mono g.k) o1 _ fun b y Hk' H3 g' o2 pb db =>
    hr a b pa pb x y Hk' H3 (Dq.mono g'.k _ _ da) db g'.a _ fun d v Hk2 H4 g2 p r => k d v Hk2 H4 ((g.trans g').trans g2.none_to) (o2.go g2) p r
theorem e_op {r : R2} (ha : E q δ ta d1) (hb : E q δ tb d2) (hr : RJ r d1 d2 Φ) : J q δ (tOp r ta tb) 0 Φ := j_op ha hb fun a b pa pb => by subst pa; subst pb; exact hr
/-- scalars -/
def vd : V → PyData
  | .bl b => .bool b
  | .int i => .int i
  | .str x => .str x
  | _ => .none
def sc : V → Bool
  | .bl _ => true
  | .int _ => true
  | .str _ => true
  | .non => true
  | _ => false
theorem sc_dq {H : Hp} : ∀ {v : V}, sc v = true → Dq H v (vd v)
  | .bl b, _ => .bl b
  | .int i, _ => .int i
  | .str x, _ => .str x
  | .non, _ => .non
  | .byt _, h => nomatch h
  | .flt _, h => nomatch h
  | .ref _, h => nomatch h
  | .ty _, h => nomatch h
theorem rj_I0 {g : Int → Int → V} {i j : Int} (hs : sc (g i j) = true) (hp : Φ (vd (g i j))) : RJ (rI0 g) (.int i) (.int j) Φ := fun x y H H1 hx hy e Q k => by
  rw [hx.intOf, hy.intOf]
  exact ⟨i, j, rfl, rfl, k _ _ H H1 (Gr.refl e) hp (sc_dq hs)⟩
theorem rj_I {C : Int → Int → Prop} {g : Int → Int → V} {i j : Int} (hc : C i j) (hs : sc (g i j) = true) (hp : Φ (vd (g i j))) : RJ (rI C g) (.int i) (.int j) Φ := fun x y H H1 hx hy e Q k => by
  rw [hx.intOf, hy.intOf]
  exact ⟨i, j, rfl, rfl, hc, k _ _ H H1 (Gr.refl e) hp (sc_dq hs)⟩
theorem e_I0 {g : Int → Int → V} {i j : Int} (ha : E q δ ta (.int i)) (hb : E q δ tb (.int j)) (hs : sc (g i j) = true := by rfl) : E q δ (tOp (rI0 g) ta tb) (vd (g i j)) := e_op ha hb (rj_I0 hs rfl)
theorem e_I {C : Int → Int → Prop} {g : Int → Int → V} {i j : Int} (ha : E q δ ta (.int i)) (hb : E q δ tb (.int j)) (hc : C i j) (hs : sc (g i j) = true := by rfl) : E q δ (tOp (rI C g) ta tb) (vd (g i j)) := e_op ha hb (rj_I hc hs rfl)
/-- ints that are not told -/
abbrev IntP (P : Int → Prop) : PyData → Prop := fun d => ∃ i, P i ∧ d = .int i
theorem j_I0 {P1 P2 : Int → Prop} {g : Int → Int → V} (ha : J q δ ta c1 (IntP P1)) (hb : J q δ tb c2 (IntP P2)) (hp : ∀ i j, P1 i → P2 j → Φ (vd (g i j))) (hs : ∀ i j, sc (g i j) = true := by intro _ _; rfl) : J q δ (tOp (rI0 g) ta tb) (c2 + c1) Φ :=
  j_op ha hb fun a b ⟨i, pi, ea⟩ ⟨j, pj, eb⟩ => by subst ea; subst eb; exact rj_I0 (hs i j) (hp i j pi pj)
theorem j_I {P1 P2 : Int → Prop} {C : Int → Int → Prop} {g : Int → Int → V} (ha : J q δ ta c1 (IntP P1)) (hb : J q δ tb c2 (IntP P2)) (hc : ∀ i j, P1 i → P2 j → C i j) (hp : ∀ i j, P1 i → P2 j → Φ (vd (g i j))) (hs : ∀ i j, sc (g i j) = true := by intro _ _; rfl) : J q δ (tOp (rI C g) ta tb) (c2 + c1) Φ :=
  j_op ha hb fun a b ⟨i, pi, ea⟩ ⟨j, pj, eb⟩ => by subst ea; subst eb; exact rj_I (hc i j pi pj) (hs i j) (hp i j pi pj)
theorem E.intP {i : Int} (h : E q δ te (.int i)) : J q δ te 0 (IntP (fun x => x = i)) := h.imp fun d e => ⟨i, rfl, e⟩
theorem e_un {g : Int → V} {i : Int} (ha : E q δ ta (.int i)) (hs : sc (g i) = true := by rfl) : E q δ (tUn (rU g) ta) (vd (g i)) := fun σ H H1 n sg o Q k =>
  ha σ H H1 n sg o _ fun a x Hk H2 g' o1 pa da => by
    subst pa
    rw [da.intOf]
    exact ⟨i, rfl, k _ _ Hk H2 g' o1 rfl (sc_dq hs)⟩
/-- == and != of scalars -/
theorem e_eqI {i j : Int} (ha : E q δ ta (.int i)) (hb : E q δ tb (.int j)) : E q δ (tOp rEq ta tb) (.bool (decide (i = j))) := e_op ha hb fun x y H H1 hx hy e Q k => by
  rw [hx.intOf, hy.intOf]
  refine ⟨rfl, k (.bool (decide (i = j))) _ H H1 (Gr.refl e) rfl ?_⟩
  rw [show decide (V.int i = V.int j) = decide (i = j) by by_cases h : i = j <;> simp [h]]
  exact .bl _
theorem e_neI {i j : Int} (ha : E q δ ta (.int i)) (hb : E q δ tb (.int j)) : E q δ (tOp rNe ta tb) (.bool (!decide (i = j))) := e_op ha hb fun x y H H1 hx hy e Q k => by
  rw [hx.intOf, hy.intOf]
  refine ⟨rfl, k (.bool (!decide (i = j))) _ H H1 (Gr.refl e) rfl ?_⟩
  rw [show decide (V.int i = V.int j) = decide (i = j) by by_cases h : i = j <;> simp [h]]
  exact .bl _
theorem j_eqI {P1 P2 : Int → Prop} {Φ : PyData → Prop} (ha : J q δ ta c1 (IntP P1)) (hb : J q δ tb c2 (IntP P2)) (hp : ∀ i j, P1 i → P2 j → Φ (.bool (decide (i = j)))) : J q δ (tOp rEq ta tb) (c2 + c1) Φ :=
  j_op ha hb fun a b ⟨i, pi, ea⟩ ⟨j, pj, eb⟩ => by
    subst ea; subst eb
    intro x y H H1 hx hy e Q k
    rw [hx.intOf, hy.intOf]
    refine ⟨rfl, k (.bool (decide (i = j))) _ H H1 (Gr.refl e) (hp i j pi pj) ?_⟩
    rw [show decide (V.int i = V.int j) = decide (i = j) by by_cases h : i = j <;> simp [h]]
    exact .bl _
theorem e_eqB {i j : Bool} (ha : E q δ ta (.bool i)) (hb : E q δ tb (.bool j)) : E q δ (tOp rEq ta tb) (.bool (i == j)) := e_op ha hb fun x y H H1 hx hy e Q k => by
  rw [hx.blOf, hy.blOf]
  refine ⟨rfl, k (.bool (i == j)) _ H H1 (Gr.refl e) rfl ?_⟩
  rw [show decide (V.bl i = V.bl j) = (i == j) by cases i <;> cases j <;> rfl]
  exact .bl _
theorem e_neB {i j : Bool} (ha : E q δ ta (.bool i)) (hb : E q δ tb (.bool j)) : E q δ (tOp rNe ta tb) (.bool (!(i == j))) := e_op ha hb fun x y H H1 hx hy e Q k => by
  rw [hx.blOf, hy.blOf]
  refine ⟨rfl, k (.bool (!(i == j))) _ H H1 (Gr.refl e) rfl ?_⟩
  rw [show decide (V.bl i = V.bl j) = (i == j) by cases i <;> cases j <;> rfl]
  exact .bl _
/-- == and != of data -/
theorem e_eqD (ha : E q δ ta d1) (hb : E q δ tb d2) (s1 : SeqAt.shaped d1 = true) (s2 : SeqAt.shaped d2 = true) : E q δ (tOp (rEqD K) ta tb) (.bool (PyData.eqv d1 d2)) := e_op ha hb fun x y H H1 hx hy e Q k =>
  ⟨d1, d2, Dq.dp K _ _ (Dq.mono e _ _ hx), Dq.dp K _ _ (Dq.mono e _ _ hy), s1, s2, k _ _ H H1 (Gr.refl e) rfl (.bl _)⟩
theorem e_neD (ha : E q δ ta d1) (hb : E q δ tb d2) (s1 : SeqAt.shaped d1 = true) (s2 : SeqAt.shaped d2 = true) : E q δ (tOp (rNeD K) ta tb) (.bool (!PyData.eqv d1 d2)) := e_op ha hb fun x y H H1 hx hy e Q k =>
  ⟨d1, d2, Dq.dp K _ _ (Dq.mono e _ _ hx), Dq.dp K _ _ (Dq.mono e _ _ hy), s1, s2, k _ _ H H1 (Gr.refl e) rfl (.bl _)⟩
/-- items -/
theorem dq_atI {H : Hp} {vs : List V} {ds : List PyData} {i : Int} {d : PyData} (h : DqAll H vs ds) (e : atI ds i = some d) : ∃ v, atI vs i = some v ∧ Dq H v d := by
  unfold atI at e ⊢
  rw [h.length]
  cases hx : ixN ds.length i with
  | none => rw [hx] at e; cases e
  | some j =>
    rw [hx] at e
    obtain ⟨v, a, b⟩ := h.get (i := j) (d := d) e
    exact ⟨v, a, b⟩
theorem rj_ixT {ds : List PyData} {i : Int} (e : atI ds i = some d) (hp : Φ d) : RJ (rIxT K) (.tuple ds) (.int i) Φ := fun x y H H1 hx hy e1 Q k => by
  obtain ⟨a, xs, rfl, h1, h2⟩ := hx.tupOf
  obtain ⟨v, hv, dv⟩ := dq_atI h2 e
  rw [hy.intOf]
  exact ⟨a, xs, i, v, rfl, rfl, .inl (h1.mono e1).rd, hv, k d v H H1 (Gr.refl e1) hp dv⟩
theorem rj_ixL {ds : List PyData} {i : Int} (e : atI ds i = some d) (hp : Φ d) : RJ (rIxL K) (.list ds) (.int i) Φ := fun x y H H1 hx hy e1 Q k => by
  obtain ⟨a, xs, rfl, h1, h2⟩ := hx.lstOf
  obtain ⟨v, hv, dv⟩ := dq_atI h2 e
  rw [hy.intOf]
  exact ⟨a, xs, i, v, rfl, rfl, .inl (.inl (e1 _ _ h1)), hv, k d v H H1 (Gr.refl e1) hp dv⟩
theorem e_ixT {ds : List PyData} {i : Int} (ha : E q δ ta (.tuple ds)) (hb : E q δ tb (.int i)) (e : atI ds i = some d) : E q δ (tOp (rIxT K) ta tb) d := e_op ha hb (rj_ixT e rfl)
theorem e_ixL {ds : List PyData} {i : Int} (ha : E q δ ta (.list ds)) (hb : E q δ tb (.int i)) (e : atI ds i = some d) : E q δ (tOp (rIxL K) ta tb) d := e_op ha hb (rj_ixL e rfl)
/-- a + b of lists -/
theorem rj_cat {ds es : List PyData} (hl : ds.length + es.length ≤ 1000000) (hp : Φ (.list (ds ++ es))) : RJ rCat (.list ds) (.list es) Φ := fun x y H H1 hx hy e1 Q k => by
  obtain ⟨a, xs, rfl, h1, h2⟩ := hx.lstOf
  obtain ⟨b, ys, rfl, g1, g2⟩ := hy.lstOf
  refine ⟨a, b, xs, ys, rfl, rfl, e1 _ _ h1, e1 _ _ g1, Nat.le_trans (by rw [h2.length, g2.length]; exact hl) (by rw [sizeLine_eq]; decide), fun p hn => ?_⟩
  have g := Gr.new (q := none) (o := .lst (xs ++ ys)) e1 hn
  exact k _ _ _ _ g hp (.lst upd_same (DqAll.mono g.k _ _ (h2.append g2)))
theorem e_cat {ds es : List PyData} (ha : E q δ ta (.list ds)) (hb : E q δ tb (.list es)) (hl : ds.length + es.length ≤ 1000000) : E q δ (tOp rCat ta tb) (.list (ds ++ es)) := e_op ha hb (rj_cat hl rfl)

/-! tests -/
abbrev BoolP (P : Bool → Prop) : PyData → Prop := fun d => ∃ b, P b ∧ d = .bool b
theorem tj_test {Φ : Bool → Prop} (h : J q δ te c (BoolP Φ)) : TJ q δ (tTest te) c Φ := fun σ H H1 n sg o Q k => h σ H H1 n sg o _ fun d v Hk H2 g o1 ⟨b, pb, e⟩ dv => by
  subst e
  exact ⟨b, dv.blOf, k b Hk H2 g o1 pb⟩
theorem tj_B {Φ : Bool → Prop} (h : J q δ te c (BoolP Φ)) : TJ q δ (tB te) c Φ := fun σ H H1 n sg o Q k => h σ H H1 n sg o _ fun d v Hk H2 g o1 ⟨b, pb, e⟩ dv => by
  subst e
  exact ⟨b, dv.blOf, k b Hk H2 g o1 pb⟩
theorem E.boolP {b : Bool} (h : E q δ te (.bool b)) : J q δ te 0 (BoolP (fun x => x = b)) := h.imp fun d e => ⟨b, rfl, e⟩
theorem tb_test {b : Bool} (h : E q δ te (.bool b)) : TB q δ (tTest te) b := tj_test h.boolP
theorem tb_B {b : Bool} (h : E q δ te (.bool b)) : TB q δ (tB te) b := tj_B h.boolP
theorem tb_and {a b : Bool} (h1 : TB q δ tt a) (h2 : a = true → TB q δ tu b) : TB q δ (tAnd tt tu) (a && b) := fun σ H H1 n sg o Q k => h1 σ H H1 n sg o _ fun x Hk H2 g o1 e => by
  subst e
  cases x with
  | true => exact iteT (h2 rfl σ Hk H2 n (sg.mono g.k) o1 _ fun b Hk' H3 g' o2 e => k _ Hk' H3 (g.trans g') o2 (by rw [e, Bool.true_and]))
  | false => exact iteF (k _ Hk H2 g o1 (by rw [Bool.false_and]))
theorem tb_or {a b : Bool} (h1 : TB q δ tt a) (h2 : a = false → TB q δ tu b) : TB q δ (tOr tt tu) (a || b) := fun σ H H1 n sg o Q k => h1 σ H H1 n sg o _ fun x Hk H2 g o1 e => by
  subst e
  cases x with
  | true => exact iteT (k _ Hk H2 g o1 (by rw [Bool.true_or]))
  | false => exact iteF (h2 rfl σ Hk H2 n (sg.mono g.k) o1 _ fun b Hk' H3 g' o2 e => k _ Hk' H3 (g.trans g') o2 (by rw [e, Bool.false_or]))
theorem tb_not {a : Bool} (h1 : TB q δ tt a) : TB q δ (tNot tt) (!a) := fun σ H H1 n sg o Q k => h1 σ H H1 n sg o _ fun x Hk H2 g o1 e => k _ Hk H2 g o1 (by rw [e])
theorem tb_yes : TB q δ tYes true := fun σ H H1 n sg o Q k => k true H H1 (Gr.refl o.a) o rfl
theorem e_andV {a b : Bool} (h1 : E q δ ta (.bool a)) (h2 : a = true → E q δ tb (.bool b)) : E q δ (tAndV ta tb) (.bool (a && b)) := fun σ H H1 n sg o Q k => h1 σ H H1 n sg o _ fun x v Hk H2 g o1 e dv => by
  subst e
  refine ⟨a, dv.blOf, ?_⟩
  cases a with
  | true => exact iteT (h2 rfl σ Hk H2 n (sg.mono g.k) o1 _ fun b Hv Hk' H3 g' o2 e dv' => k _ Hv Hk' H3 (g.trans g') o2 (by rw [e, Bool.true_and]) dv')
  | false => exact iteF (k (.bool false) _ Hk H2 g o1 (by rw [Bool.false_and]) (.bl false))
theorem e_orV {a b : Bool} (h1 : E q δ ta (.bool a)) (h2 : a = false → E q δ tb (.bool b)) : E q δ (tOrV ta tb) (.bool (a || b)) := fun σ H H1 n sg o Q k => h1 σ H H1 n sg o _ fun x v Hk H2 g o1 e dv => by
  subst e
  refine ⟨a, dv.blOf, ?_⟩
  cases a with
  | true => exact iteT (k (.bool true) _ Hk H2 g o1 (by rw [Bool.true_or]) (.bl true))
  | false => exact iteF (h2 rfl σ Hk H2 n (sg.mono g.k) o1 _ fun b Hv Hk' H3 g' o2 e dv' => k _ Hv Hk' H3 (g.trans g') o2 (by rw [e, Bool.false_or]) dv')
theorem e_notV {a : Bool} (h1 : E q δ ta (.bool a)) : E q δ (tNotV ta) (.bool (!a)) := fun σ H H1 n sg o Q k => h1 σ H H1 n sg o _ fun x v Hk H2 g o1 e dv => by
  subst e
  exact ⟨a, dv.blOf, k (.bool (!a)) _ Hk H2 g o1 rfl (.bl _)⟩
theorem e_if {b : Bool} (h : TB q δ tt b) (h1 : b = true → E q δ ta d) (h2 : b = false → E q δ tb d) : E q δ (tIf tt ta tb) d := fun σ H H1 n sg o Q k => h σ H H1 n sg o _ fun x Hk H2 g o1 e => by
  subst e
  cases x with
  | true => exact iteT (h1 rfl σ Hk H2 n (sg.mono g.k) o1 _ fun b Hv Hk' H3 g' o2 e dv' => k _ Hv Hk' H3 (g.trans g') o2 e dv')
  | false => exact iteF (h2 rfl σ Hk H2 n (sg.mono g.k) o1 _ fun b Hv Hk' H3 g' o2 e dv' => k _ Hv Hk' H3 (g.trans g') o2 e dv')
theorem j_if {P : Bool → Prop} (h : TJ q δ tt c P) (h1 : P true → J q δ ta c1 Φ) (h2 : P false → J q δ tb c1 Φ) : J q δ (tIf tt ta tb) (c1 + c) Φ := fun σ H H1 n sg o Q k => h σ H H1 (n + c1) sg (by rw [Nat.add_assoc]; exact o) _ fun x Hk H2 g o1 e => by
  cases x with
  | true => exact iteT (h1 e σ Hk H2 n (sg.mono g.k) o1 _ fun b Hv Hk' H3 g' o2 e dv' => k _ Hv Hk' H3 (g.trans g') o2 e dv')
  | false => exact iteF (h2 e σ Hk H2 n (sg.mono g.k) o1 _ fun b Hv Hk' H3 g' o2 e dv' => k _ Hv Hk' H3 (g.trans g') o2 e dv')

/-! arguments, displays -/
theorem ae_nil : AE q δ tNil [] := fun σ H H1 n sg o Q k => k [] [] H H1 (Gr.refl o.a) o rfl VS.nil
theorem aj_cons {tr : TA} {Φr Φ' : List Sl → Prop} (h : J q δ te c1 Φ1) (hr : AJ q δ tr c2 Φr) (hp : ∀ d sls, Φ1 d → Φr sls → Φ' (.dat d :: sls)) : AJ q δ (tCons te tr) (c2 + c1) Φ' := fun σ H H1 n sg o Q k =>
  h σ H H1 (n + c2) sg (by rw [Nat.add_assoc]; exact o) _ fun d v Hk H2 g o1 p dv => hr σ Hk H2 n (sg.mono g.k) o1 _ fun sls vs Hk' H3 g' o2 pr hv => k _ _ Hk' H3 (g.trans g') o2 (hp d sls p pr) (VS.cons (Dq.mono g'.k _ _ dv) hv)
theorem ae_cons {tr : TA} {sls : List Sl} (h : E q δ te d) (hr : AE q δ tr sls) : AE q δ (tCons te tr) (.dat d :: sls) := aj_cons h hr fun _ _ a b => by rw [a, b]
/-- an address handed on -/
theorem aj_adr {tr : TA} {Φr Φ' : List Sl → Prop} {i : Nat} {p : Addr} (e : δ[i]? = some (.adr p)) (hr : AJ q δ tr c2 Φr) (hp : ∀ sls, Φr sls → Φ' (.adr p :: sls)) : AJ q δ (tCons (tVar i) tr) c2 Φ' := fun σ H H1 n sg o Q k =>
  ⟨.ref p, sg.getA e, hr σ H H1 n sg o _ fun sls vs Hk' H3 g' o2 pr hv => k _ _ Hk' H3 g' o2 (hp sls pr) (VS.cons rfl hv)⟩
theorem ae_adr {tr : TA} {sls : List Sl} {i : Nat} {p : Addr} (e : δ[i]? = some (.adr p)) (hr : AE q δ tr sls) : AE q δ (tCons (tVar i) tr) (.adr p :: sls) := aj_adr e hr fun _ b => by rw [b]
theorem AE.to {ta : TA} {sls : List Sl} {Φ : List Sl → Prop} (h : AE q δ ta sls) (p : Φ sls) : AJ q δ ta 0 Φ := h.imp fun _ e => by rw [e]; exact p
theorem j_tup {ta : TA} {Ψ : List PyData → Prop} (h : AJ q δ ta c (fun sls => ∃ ds : List PyData, sls = ds.map Sl.dat ∧ ds.length ≤ 1000000 ∧ Ψ ds)) : J q δ (tTup ta) c (fun d => ∃ ds, Ψ ds ∧ d = .tuple ds) := fun σ H H1 n sg o Q k =>
  h σ H H1 n sg o _ fun sls vs Hk H2 g o1 ⟨ds, e, hl, p⟩ hv => by
    subst e
    have hd := hv.dats
    refine ⟨Nat.le_trans (by rw [hd.length]; exact hl) (by rw [sizeLine_eq]; decide), fun a ob od hn => ?_⟩
    have g1 := Gr.new (q := none) (o := .frz ob (.tup vs)) g.a hn
    exact k _ _ _ _ (g.trans g1.none_to) (o1.go g1) ⟨ds, p, rfl⟩ (.tup (Tp.new od) (DqAll.mono g1.k _ _ hd))
theorem j_lst {ta : TA} {Ψ : List PyData → Prop} (h : AJ q δ ta c (fun sls => ∃ ds : List PyData, sls = ds.map Sl.dat ∧ ds.length ≤ 1000000 ∧ Ψ ds)) : J q δ (tLst ta) c (fun d => ∃ ds, Ψ ds ∧ d = .list ds) := fun σ H H1 n sg o Q k =>
  h σ H H1 n sg o _ fun sls vs Hk H2 g o1 ⟨ds, e, hl, p⟩ hv => by
    subst e
    have hd := hv.dats
    refine ⟨Nat.le_trans (by rw [hd.length]; exact hl) (by rw [sizeLine_eq]; decide), fun a hn => ?_⟩
    have g1 := Gr.new (q := none) (o := .lst vs) g.a hn
    exact k _ _ _ _ (g.trans g1.none_to) (o1.go g1) ⟨ds, p, rfl⟩ (.lst upd_same (DqAll.mono g1.k _ _ hd))
theorem e_tup {ta : TA} {ds : List PyData} (h : AE q δ ta (ds.map Sl.dat)) (hl : ds.length ≤ 1000000 := by simp) : E q δ (tTup ta) (.tuple ds) := (j_tup (Ψ := fun x => x = ds) (h.to ⟨ds, rfl, hl, rfl⟩)).imp fun d ⟨x, a, b⟩ => by rw [b, a]
theorem e_lst {ta : TA} {ds : List PyData} (h : AE q δ ta (ds.map Sl.dat)) (hl : ds.length ≤ 1000000 := by simp) : E q δ (tLst ta) (.list ds) := (j_lst (Ψ := fun x => x = ds) (h.to ⟨ds, rfl, hl, rfl⟩)).imp fun d ⟨x, a, b⟩ => by rw [b, a]

/-! calls of defs -/
abbrev RelX := Option Addr → List Sl → Nat → (PyData → Prop) → Prop
def spX (R : RelX) : Sp := fun vs H Q _ => ∃ (q : Option Addr) (Hk : Hp) (sls : List Sl) (n c : Nat) (Φ : PyData → Prop), Ok q (n + c) Hk H ∧ VS Hk vs sls ∧ R q sls c Φ ∧
  ∀ d v Hk' H2, Gr q Hk H Hk' H2 → Ok q n Hk' H2 → Φ d → Dq Hk' v d → Q v H2
theorem j_call {R : RelX} {E : XK} {ta : TA} {Φa : List Sl → Prop} (ha : AJ q δ ta c1 Φa) (hr : ∀ sls, Φa sls → R q sls c Φ) : J q δ (tCall (spX R) [] E ta) (c + c1) Φ := fun σ H H1 n sg o Q k =>
  ha σ H H1 (n + c) sg (by rw [Nat.add_assoc]; exact o) _ fun sls vs Hk H2 g o1 p hv => by
    show spX R (vs ++ []) H2 Q E
    rw [List.append_nil]
    exact ⟨q, Hk, sls, n, c, Φ, o1, hv, hr sls p, fun d v Hk' H3 g' o2 pd dv => k d v Hk' H3 (g.trans g') o2 pd dv⟩
theorem j_callD {R : RelX} {E : XK} {ta : TA} {Φa : List Sl → Prop} (ha : AJ q δ ta c1 Φa) (hr : ∀ sls, Φa sls → ∃ Φ', R q sls c Φ' ∧ ∀ d, Φ' d → Φ d) : J q δ (tCall (spX R) [] E ta) (c + c1) Φ := fun σ H H1 n sg o Q k =>
  ha σ H H1 (n + c) sg (by rw [Nat.add_assoc]; exact o) _ fun sls vs Hk H2 g o1 p hv => by
    show spX R (vs ++ []) H2 Q E
    rw [List.append_nil]
    obtain ⟨Φ', r, i⟩ := hr sls p
    exact ⟨q, Hk, sls, n, c, Φ', o1, hv, r, fun d v Hk' H3 g' o2 pd dv => k d v Hk' H3 (g.trans g') o2 (i d pd) dv⟩
/-- the relation of a pure def -/
def Pure (f : List PyData → Option PyData) : RelX := fun _ sls c Φ => c = 0 ∧ ∃ ds r, sls = ds.map Sl.dat ∧ f ds = some r ∧ Φ = (fun x => x = r)
theorem e_call {f : List PyData → Option PyData} {E0 : XK} {ta : TA} {ds : List PyData} (ha : AE q δ ta (ds.map Sl.dat)) (hr : f ds = some d) : E q δ (tCall (spX (Pure f)) [] E0 ta) d :=
  j_call (R := Pure f) ha fun sls e => ⟨rfl, ds, d, e, hr, rfl⟩
end
end Cr

set_option Elab.async false
set_option linter.all false
set_option maxRecDepth 100000
set_option maxHeartbeats 4000000
/-! ### rules that the layer lacks -/
namespace L2
open PySem PySem.Spec PyProof.Rows
section
variable {X : Cx}
def CPowW (i j : Int) : Prop := 0 ≤ j ∧ (Builtin.Int.intBits i : Int) * j ≤ 2 ^ 27
theorem op_powW : OpR X (binaryOp .Pow) (rI CPowW fun i j => .int (i ^ j.toNat)) := opI fun _ _ _ _ _ _ _ hc q => pow_int hc.1 hc.2 q
theorem pow_ok {i j : Int} {a : Nat} (ha : i.natAbs < 2 ^ a) (h0 : 0 < a) (hj : 0 ≤ j) (h : (a : Int) * j ≤ 2 ^ 27) : CPowW i j := by
  refine ⟨hj, ?_⟩
  have x := PySem.Flt.log2_lt_of h0 ha
  have b : (Builtin.Int.intBits i : Int) ≤ a := by
    unfold Builtin.Int.intBits
    split <;> omega
  exact Int.le_trans (Int.mul_le_mul_of_nonneg_right b hj) h
/-- f(k = v, ..) -/
theorem pe_callK0 {CX : CXT} {k : Nat} {f : Addr} {fd : FuncData} {ps ks : List Str} {sp : Sp} {E : XK} {x : Str} {p pos : Pos} {kws : List Keyword} {tk : TA} {g : List Value → List Value → List Value} {gV : List V → List V → List V}
    (F : FnOk X.prog X.w X.K X.mg X.base CX k f fd ps sp) (hr : Room k X.A) (hg : Gl X x) (hm : X.mg x = some (.ref f)) (hk : PySem.W.keepIn X.K (.ref f) = true) (hb : KBinds X.K fd ps ks g gV) (hx : Passes CX X E)
    (hkw : PK X kws tk) (hall : (backToKw pos (keywordEach kws X.env)).all (·.1.isSome) = true := by rfl) (hks : (backToKw pos (keywordEach kws X.env)).filterMap (·.1) = ks := by rfl)
    (hdb : (x == ("__debug__" : Str)) = false := by decide)
    (hpl : ((backTo pos (starEach [] X.env)).any (·.1) || (backToKw pos (keywordEach kws X.env)).any (·.1.isNone)) = false := by rfl) :
    PE X (.Call (.Name x p) [] kws pos) (tCallK sp gV E tNil tk) := by
  refine ⟨fun pins s σ H Q I h => ?_⟩
  refine wpAny_Call_Name_kw (ld_glob I hg hm ?_ hdb)
  refine PySem.W.callWith_KW0 (h₀ := X.base) I.ok.mod.kin hk hall (thn (hkw.run pos pins s σ H _ I h) fun ws s2 ⟨zs, H2, I2, rz, q2⟩ => ⟨I2.kIn, ?_⟩) hpl
  rw [hks]
  exact run_fnk F hr hb hx I2 .nil rz q2
end
end L2
namespace Cr
open PySem PySem.Spec PyProof.Rows L2
section
variable {X : Cx}
/-! tuples that are laid: known to have no dict of their own -/
def LaidT (H : Hp) (xs : List V) (Q : VK) : Prop := ∀ (p : Addr) (o : Obj), o.dict = none → H p = none → Q (.ref p) (upd H p (.frz o (.tup xs)))
theorem laidT {pins : List (Addr × Obj)} {σ : L2.St} {H : Hp} {s : Shared} {xs : List V} {us : List Value} {Q : VK} {k : Nat} (I : Inv X pins σ H s) (r : Vals xs us) (hz : xs.length ≤ sizeLine) (q : LaidT H xs Q) :
    EP X pins σ Q (.ref s.heap.objs.size) { s with heap := s.heap.push { cls := .type "tuple", data := .seq us.toArray k } } := by
  have eq : (s.heap.push { cls := .type "tuple", data := .seq us.toArray k }).get? s.heap.objs.size = some { cls := .type "tuple", data := .seq us.toArray k } := Heap.get?_push_size _ rfl
  refine ⟨.ref s.heap.objs.size, _, I.laid (t' := s.toks) (o := .frz { cls := .type "tuple", data := .seq us.toArray k } (.tup xs)) (fun b u e => Heap.get?_push_of_some _ e) (Nat.le_refl _) ?_, rfl, q _ _ rfl (I.hok.fresh (Nat.le_refl _))⟩
  exact ⟨eq, hz, us, r, _, eq, rfl, _, rfl⟩
def rCatA (K : PySem.W.Frag) : R2 := fun x y H Q => ∃ a b xs ys, x = .ref a ∧ y = .ref b ∧ SqT K H a xs ∧ SqT K H b ys ∧ xs.length + ys.length ≤ sizeLine ∧
  (xs = [] → Q (.ref b) H) ∧ (xs ≠ [] → ys = [] → Q (.ref a) H) ∧ (xs ≠ [] → ys ≠ [] → LaidT H (xs ++ ys) Q)
theorem op_catA : OpR X (binaryOp .Add) (rCatA X.K) := by
  intro pins s σ H x y v u Q I rx ry h
  obtain ⟨a, b, xs, ys, rfl, rfl, ha, hb, hz, q0, q1, q2⟩ := h
  cases rx
  cases ry
  obtain ⟨us, r1, p1, _⟩ := I.tuple ha
  obtain ⟨ws, r2, p2, _⟩ := I.tuple hb
  by_cases hx : xs = []
  · subst hx
    cases r1
    exact cat_tup0 p1 p2 ⟨.ref b, H, I, rfl, q0 rfl⟩
  · have le : us.length + ws.length ≤ sizeLine := by rw [← r1.length, ← r2.length]; exact hz
    refine HT.cat_tup p1 p2 (fun z => hx (r1.nil_iff.mp z)) (fun z => ⟨.ref a, H, I, rfl, q1 hx (r2.nil_iff.mp z)⟩) (fun z => ?_) le
    exact laidT I (r1.append r2) (by rw [List.length_append]; exact hz) (q2 hx fun w => z (r2.nil_iff.mpr w))
def rSlA (K : PySem.W.Frag) : V → Option Int → Option Int → Hp → VK → Prop := fun x lo hi H Q => ∃ a xs, x = .ref a ∧ SqT K H a xs ∧
  (HT.sIx xs.length 0 lo = 0 ∧ HT.sIx xs.length xs.length hi = xs.length → Q (.ref a) H) ∧ (¬ (HT.sIx xs.length 0 lo = 0 ∧ HT.sIx xs.length xs.length hi = xs.length) → LaidT H (cutV xs lo hi) Q)
theorem sl_tupA : SlR X (rSlA X.K) := by
  intro pins s σ H x v vl vu lo hi sl Q I rx hs pl pu h
  obtain ⟨a, xs, rfl, hx, q1, q2⟩ := h
  cases rx
  obtain ⟨us, r, ht, hz⟩ := I.tuple hx
  have le : us.toArray.size = xs.length := by rw [List.size_toArray]; exact r.length.symm
  refine ⟨"tuple", _, PyProof.Rows.slot_tuple_getitem.lookup, ht.typeIs, ?_⟩
  by_cases hw : HT.sIx xs.length 0 lo = 0 ∧ HT.sIx xs.length xs.length hi = xs.length
  · exact getItem_tuple_whole ht hs pl pu (by rw [le]; exact hw) ⟨.ref a, H, I, rfl, q1 hw⟩
  · refine HT.getItem_tuple_cut ht hs pl pu (by rw [le]; exact hw) ?_ (by rw [le]; exact hz)
    rw [le]
    exact laidT I ((r.drop (HT.sIx xs.length 0 lo)).take (HT.sIx xs.length xs.length hi - HT.sIx xs.length 0 lo)) (Nat.le_trans (cutV_length xs lo hi) hz) (q2 hw)
/-- tuple(xs) -/
def rTupQ (K : PySem.W.Frag) : List V → Hp → VK → Prop := fun xs H Q => ∃ p ys, xs = [.ref p] ∧ ((SqL K H p ys ∧ LaidT H ys Q) ∨ (SqT K H p ys ∧ Q (.ref p) H))
theorem call_tupQ : CallR X (.type "tuple") (rTupQ X.K) := by
  intro pins s σ H xs us Q I r h
  obtain ⟨p, ys, rfl, h⟩ := h
  obtain ⟨u, rfl, rx⟩ := vals1 r
  cases rx
  rcases h with ⟨hq, q⟩ | ⟨hq, q⟩
  · obtain ⟨ws, r', pl, hz⟩ := I.list hq
    have le := r'.length
    refine call_tuple_list pl.isList (fun h' kp => ?_) (by simp only [List.size_toArray] <;> omega)
    have I1 : Inv X pins σ H { s with heap := h' } := I.kept (t' := s.toks) kp
    exact laidT I1 r' hz q
  · obtain ⟨ws, r', pl, hz⟩ := I.tuple hq
    exact call_tuple_same pl ⟨.ref p, H, I, rfl, q⟩
end
end Cr
namespace L2
open PySem PySem.Spec PyProof.Rows
section
variable {X : Cx}
/-- + of ints, lists, tuples -/
def rAddU (K : PySem.W.Frag) : R2 := fun x y H Q => rI0 (fun i j => .int (i + j)) x y H Q ∨ rCat x y H Q ∨ Cr.rCatA K x y H Q
theorem op_addU : OpR X (binaryOp .Add) (rAddU X.K) := by
  intro pins s σ H x y v u Q I rx ry h
  rcases h with h | h | h
  · exact op_add pins s σ H x y v u Q I rx ry h
  · exact op_cat pins s σ H x y v u Q I rx ry h
  · exact Cr.op_catA pins s σ H x y v u Q I rx ry h
/-- * of ints (great ones), a list times an int -/
def rMulU : R2 := fun x y H Q => rI CMulW (fun i j => .int (i * j)) x y H Q ∨ rRep x y H Q
theorem op_mulU : OpR X (binaryOp .Mult) rMulU := by
  intro pins s σ H x y v u Q I rx ry h
  rcases h with h | h
  · exact op_mulW pins s σ H x y v u Q I rx ry h
  · exact op_rep pins s σ H x y v u Q I rx ry h
/-- slices of lists and tuples -/
def rSlU (K : PySem.W.Frag) : V → Option Int → Option Int → Hp → VK → Prop := fun x lo hi H Q => rSlL K x lo hi H Q ∨ Cr.rSlA K x lo hi H Q
theorem sl_U : SlR X (rSlU X.K) := by
  intro pins s σ H x v vl vu lo hi sl Q I rx hs pl pu h
  rcases h with h | h
  · exact sl_list pins s σ H x v vl vu lo hi sl Q I rx hs pl pu h
  · exact Cr.sl_tupA pins s σ H x v vl vu lo hi sl Q I rx hs pl pu h
/-- isinstance, both kinds -/
def rIsiU (K : PySem.W.Frag) : List V → Hp → VK → Prop := fun xs H Q => rIsi K xs H Q ∨ rIsiT K xs H Q
theorem call_isiU : CallR X (.builtin "isinstance") (rIsiU X.K) := by
  intro pins s σ H xs us Q I r h
  rcases h with h | h
  · exact call_isi pins s σ H xs us Q I r h
  · exact call_isiT pins s σ H xs us Q I r h
/-- sorted(d), the keys ints, any number of them; sorted(xs) of ints -/
def rSrtDI : List V → Hp → VK → Prop := fun xs H Q => ∃ (a : Addr) (kvs : List (Key × V)) (ks : List Int), xs = [.ref a] ∧ Rd H a (.dK kvs) ∧ kvs.map (·.1) = ks.map Sum.inl ∧
    ∀ (ys : List Int) (p : Addr), ys.Perm ks → ys.Pairwise (· ≤ ·) → H p = none → Q (.ref p) (upd H p (.lst (ys.map V.int)))
/-- the keys that the dict hands out, as ints -/
theorem srt_keys {ks : List Int} {kvs : List (Key × Value)} {out : Array Value} (hk : kvs.map Prod.fst = ks.map Sum.inl) (hn : out.size = kvs.length)
    (hg : ∀ (j : Nat) (v : Value), out[j]? = some v → ∃ (k : Key) (x : Value), kvs[j]? = some (k, x) ∧ keyIs k v = true) : IntsAre out.toList ks := by
  have n1 : kvs.length = ks.length := by simpa using congrArg List.length hk
  refine ints_each (by simp [hn, n1]) ?_
  intro j v hv
  obtain ⟨k, x, h1, h2⟩ := hg j v (by simpa using hv)
  have h3 : (ks.map Sum.inl : List Key)[j]? = some k := by rw [← hk]; simp [h1]
  rw [List.getElem?_map] at h3
  obtain ⟨y, h4, rfl⟩ := Option.map_eq_some_iff.mp h3
  obtain ⟨t, rfl⟩ := Value.isInt_shape (show Value.isInt y v = true from h2)
  exact ⟨y, t, h4, rfl⟩
set_option maxHeartbeats 8000000 in
theorem call_sortedDIa (hcalm : X.calm = true) : CallR X (.builtin "sorted") rSrtDI := by
  rintro pins s σ H _ us Q I r ⟨a, kvs, ks, rfl, hd, hks, q⟩
  obtain ⟨_, rfl, ⟨⟩⟩ := vals1 r
  obtain ⟨z, lo, vs, rel, ⟨ep, hat⟩⟩ : kvs.length ≤ sizeLine ∧ (a == sysModules) = false ∧ ∃ vs, KV kvs vs ∧ ∃ ep, s.heap.DictAt (mixKind X.prog X.w) a vs ep :=
    let ⟨z, lo, vs, rel, dd⟩ := dk_rd I.hok hd; ⟨z, lo, vs, rel, dd.dictAt⟩
  have hm : vs.map Prod.fst = ks.map Sum.inl := Eq.trans (Eq.symm rel.keys) hks
  have hn : vs.length = ks.length := by simpa using congrArg List.length hm
  have hsz : vs.length ≤ sizeLine := by have e := Paired.length rel; omega
  refine Calls.call_function_entry kind_sorted plain_sorted entry_sorted (args_sorted1 _) (show wpAny _ _ (Builtin.«sorted» _) _ _ _ from ?_)
  rw [Builtin.«sorted»]
  refine wpAny_bind (wpAny_pure (wpAny_bind (PySem.W.kdu_collect (PySem.W.kdl_dict lo) (I.ok.hd hcalm) hat hsz ?_)))
  rintro h1 t1 out keep ⟨g1, g2⟩
  have hI : IntsAre out.toList ks := srt_keys hm g1 fun j v e => let ⟨k, x, p1, p2⟩ := g2 j v e; ⟨k, x, p1, p2⟩
  have ho : out.toList.length ≤ sizeLine := by simp [g1]; exact hsz
  have J1 : Inv X pins σ H { s with heap := h1, toks := t1 } := I.kept keep
  have new : (h1.push (seqObj "list" out.toList.toArray 0)).get? h1.objs.size = some (seqObj "list" out.toList.toArray 0) := Heap.get?_push_size _ rfl
  refine wpAny_bind (wpAny_newList (show wpAny _ _ _ _ _ { s with heap := h1.push (seqObj "list" out.toList.toArray 0), toks := t1 } from ?_) ho)
  refine wpAny_bind (wpAny_holding (wpAny_call_entry slot_list_sort ⟨_, new, rfl⟩ entry_list_sort ?_ (args_list_sort _)))
  refine SrtO.list_sort_ord SrtO.swo_int new ho (fun h => SrtO.ints_sortable hI h) fun o2 a1 a2 => ⟨_, rfl, ?_⟩
  obtain ⟨b1, b2, b3⟩ := SrtO.ints_out hI a1 a2
  obtain ⟨e2, he2⟩ := sortedHeap_at (out := o2.toArray) new
  have hl : ((o2.map SrtO.iv).map V.int).length ≤ sizeLine := by rw [List.length_map, b2.length_eq]; omega
  have laid : ObjOk X.prog X.w (upd H h1.objs.size (.lst ((o2.map SrtO.iv).map V.int))) (sortedHeap (h1.push (seqObj "list" out.toList.toArray 0)) h1.objs.size out.toList o2.toArray) h1.objs.size (.lst ((o2.map SrtO.iv).map V.int)) :=
    ⟨hl, o2, e2, vals_of_ints b1, he2⟩
  refine wpAny_pure ⟨_, rfl, .ref h1.objs.size, _, J1.laid (t' := t1) ?_ (Nat.le_refl _) laid, rfl, q _ _ b2 b3 (J1.hok.fresh (Nat.le_refl _))⟩
  intro b u hb
  have lt : b < h1.objs.size := Heap.lt_size hb
  exact (sortedHeap_old (Nat.ne_of_lt lt) (Nat.lt_trans lt (by rw [size_push']; exact Nat.lt_succ_self _))).trans (Heap.get?_push_of_some _ hb)
end
end L2

set_option Elab.async false
set_option linter.all false
set_option maxRecDepth 100000
set_option maxHeartbeats 4000000
namespace Cr
open PySem PySem.Spec PyProof.Rows L2

section
variable {K : PySem.W.Frag} {q : Option Addr} {δ δ' : List Sl} {te ta tb tc : TE} {tt tu : TT} {c c1 c2 c3 : Nat} {Φ Φ1 Φ2 Φ3 : PyData → Prop} {d d1 d2 : PyData}

/-! ### the wide operators -/
theorem RJ.to {r r' : R2} {a b : PyData} (h : RJ r a b Φ) (e : ∀ x y H Q, r x y H Q → r' x y H Q) : RJ r' a b Φ := fun x y H H1 hx hy s Q k => e _ _ _ _ (h x y H H1 hx hy s Q k)
theorem rj_addI {i j : Int} (hp : Φ (.int (i + j))) : RJ (rAddU K) (.int i) (.int j) Φ := (rj_I0 (g := fun i j => .int (i + j)) rfl hp).to fun _ _ _ _ h => .inl h
theorem e_addI {i j : Int} (ha : E q δ ta (.int i)) (hb : E q δ tb (.int j)) : E q δ (tOp (rAddU K) ta tb) (.int (i + j)) := e_op ha hb (rj_addI rfl)
theorem j_addI {P1 P2 : Int → Prop} (ha : J q δ ta c1 (IntP P1)) (hb : J q δ tb c2 (IntP P2)) (hp : ∀ i j, P1 i → P2 j → Φ (.int (i + j))) : J q δ (tOp (rAddU K) ta tb) (c2 + c1) Φ :=
  j_op ha hb fun a b ⟨i, pi, ea⟩ ⟨j, pj, eb⟩ => by subst ea; subst eb; exact rj_addI (hp i j pi pj)
theorem e_catL {ds es : List PyData} (ha : E q δ ta (.list ds)) (hb : E q δ tb (.list es)) (hl : ds.length + es.length ≤ 1000000) : E q δ (tOp (rAddU K) ta tb) (.list (ds ++ es)) := e_op ha hb (RJ.to (rj_cat (Φ := fun x => x = .list (ds ++ es)) hl rfl) fun _ _ _ _ h => .inr (.inl h))
theorem rj_catT {ds es : List PyData} (hl : ds.length + es.length ≤ 1000000) (hp : Φ (.tuple (ds ++ es))) : RJ (rCatA K) (.tuple ds) (.tuple es) Φ := fun x y H H1 hx hy e1 Q k => by
  obtain ⟨a, xs, rfl, h1, h2⟩ := hx.tupOf
  obtain ⟨b, ys, rfl, g1, g2⟩ := hy.tupOf
  refine ⟨a, b, xs, ys, rfl, rfl, .inl (h1.mono e1).rd, .inl (g1.mono e1).rd, Nat.le_trans (by rw [h2.length, g2.length]; exact hl) (by rw [sizeLine_eq]; decide), fun e => ?_, fun _ e => ?_, fun _ _ p ob od hn => ?_⟩
  · subst e
    have e2 : ds = [] := List.length_eq_zero_iff.mp h2.length.symm
    subst e2
    exact k _ _ H H1 (Gr.refl e1) hp hy
  · subst e
    have e2 : es = [] := List.length_eq_zero_iff.mp g2.length.symm
    subst e2
    rw [List.append_nil] at hp
    exact k _ _ H H1 (Gr.refl e1) hp hx
  · have g := Gr.new (q := none) (o := .frz ob (.tup (xs ++ ys))) e1 hn
    exact k _ _ _ _ g hp (.tup (Tp.new od) (DqAll.mono g.k _ _ (h2.append g2)))
theorem e_catT {ds es : List PyData} (ha : E q δ ta (.tuple ds)) (hb : E q δ tb (.tuple es)) (hl : ds.length + es.length ≤ 1000000) : E q δ (tOp (rAddU K) ta tb) (.tuple (ds ++ es)) := e_op ha hb (RJ.to (rj_catT (Φ := fun x => x = .tuple (ds ++ es)) hl rfl) fun _ _ _ _ h => .inr (.inr h))
theorem rj_mulI {i j : Int} (hc : CMulW i j) (hp : Φ (.int (i * j))) : RJ rMulU (.int i) (.int j) Φ := (rj_I (g := fun i j => .int (i * j)) hc rfl hp).to fun _ _ _ _ h => .inl h
theorem e_mulI {i j : Int} (ha : E q δ ta (.int i)) (hb : E q δ tb (.int j)) (hc : CMulW i j) : E q δ (tOp rMulU ta tb) (.int (i * j)) := e_op ha hb (rj_mulI hc rfl)
theorem j_mulI {P1 P2 : Int → Prop} (ha : J q δ ta c1 (IntP P1)) (hb : J q δ tb c2 (IntP P2)) (hc : ∀ i j, P1 i → P2 j → CMulW i j) (hp : ∀ i j, P1 i → P2 j → Φ (.int (i * j))) : J q δ (tOp rMulU ta tb) (c2 + c1) Φ :=
  j_op ha hb fun a b ⟨i, pi, ea⟩ ⟨j, pj, eb⟩ => by subst ea; subst eb; exact rj_mulI (hc i j pi pj) (hp i j pi pj)
theorem rj_rep {ds : List PyData} {n : Int} (h0 : -(2 ^ 63) ≤ n) (h1 : n < 2 ^ 63) (hl : ds.length * n.toNat ≤ 1000000) (hp : Φ (.list (List.replicate n.toNat ds).flatten)) : RJ rRep (.list ds) (.int n) Φ := fun x y H H1 hx hy e1 Q k => by
  obtain ⟨a, xs, rfl, h2, h3⟩ := hx.lstOf
  rw [hy.intOf]
  refine ⟨a, n, xs, rfl, rfl, e1 _ _ h2, h0, h1, Nat.le_trans (by rw [h3.length]; exact hl) (by rw [sizeLine_eq]; decide), fun p hn => ?_⟩
  have hall : ∀ m : Nat, DqAll H (List.replicate m xs).flatten (List.replicate m ds).flatten := fun m => by
    induction m with
    | zero => exact .nil
    | succ m ih => rw [List.replicate_succ, List.replicate_succ, List.flatten_cons, List.flatten_cons]; exact h3.append ih
  have g := Gr.new (q := none) (o := .lst (List.replicate n.toNat xs).flatten) e1 hn
  exact k _ _ _ _ g hp (.lst upd_same (DqAll.mono g.k _ _ (hall _)))
theorem e_rep {ds : List PyData} {n : Int} (ha : E q δ ta (.list ds)) (hb : E q δ tb (.int n)) (h0 : -(2 ^ 63) ≤ n) (h1 : n < 2 ^ 63) (hl : ds.length * n.toNat ≤ 1000000) : E q δ (tOp rMulU ta tb) (.list (List.replicate n.toNat ds).flatten) :=
  e_op ha hb (RJ.to (rj_rep (Φ := fun x => x = .list (List.replicate n.toNat ds).flatten) h0 h1 hl rfl) fun _ _ _ _ h => .inr h)
theorem e_subI {i j : Int} (ha : E q δ ta (.int i)) (hb : E q δ tb (.int j)) : E q δ (tOp (rI0 fun i j => .int (i - j)) ta tb) (.int (i - j)) := e_I0 ha hb
theorem j_subI {P1 P2 : Int → Prop} (ha : J q δ ta c1 (IntP P1)) (hb : J q δ tb c2 (IntP P2)) (hp : ∀ i j, P1 i → P2 j → Φ (.int (i - j))) : J q δ (tOp (rI0 fun i j => .int (i - j)) ta tb) (c2 + c1) Φ := j_I0 ha hb hp
theorem e_ltI {i j : Int} (ha : E q δ ta (.int i)) (hb : E q δ tb (.int j)) : E q δ (tOp (rI0 fun i j => .bl (decide (i < j))) ta tb) (.bool (decide (i < j))) := e_I0 ha hb
theorem e_leI {i j : Int} (ha : E q δ ta (.int i)) (hb : E q δ tb (.int j)) : E q δ (tOp (rI0 fun i j => .bl (decide (i ≤ j))) ta tb) (.bool (decide (i ≤ j))) := e_I0 ha hb
theorem e_gtI {i j : Int} (ha : E q δ ta (.int i)) (hb : E q δ tb (.int j)) : E q δ (tOp (rI0 fun i j => .bl (decide (j < i))) ta tb) (.bool (decide (j < i))) := e_I0 ha hb
theorem e_geI {i j : Int} (ha : E q δ ta (.int i)) (hb : E q δ tb (.int j)) : E q δ (tOp (rI0 fun i j => .bl (decide (j ≤ i))) ta tb) (.bool (decide (j ≤ i))) := e_I0 ha hb
theorem e_mod {i j : Int} (ha : E q δ ta (.int i)) (hb : E q δ tb (.int j)) (hc : j ≠ 0) : E q δ (tOp (rI (fun _ j => j ≠ 0) fun i j => .int (i.fmod j)) ta tb) (.int (i.fmod j)) := e_I ha hb hc
theorem e_fdiv {i j : Int} (ha : E q δ ta (.int i)) (hb : E q δ tb (.int j)) (hc : CDivW i j) : E q δ (tOp (rI CDivW fun i j => .int (i / j)) ta tb) (.int (i / j)) := e_I ha hb hc
theorem e_pow {i j : Int} (ha : E q δ ta (.int i)) (hb : E q δ tb (.int j)) (hc : CPowW i j) : E q δ (tOp (rI CPowW fun i j => .int (i ^ j.toNat)) ta tb) (.int (i ^ j.toNat)) := e_I ha hb hc
/-- == of data -/
theorem shaped_int {i : Int} : SeqAt.shaped (.int i) = true := rfl
theorem e_eqDI {i j : Int} (ha : E q δ ta (.int i)) (hb : E q δ tb (.int j)) : E q δ (tOp (rEqD K) ta tb) (.bool (i == j)) := e_eqD ha hb rfl rfl
theorem e_neDI {i j : Int} (ha : E q δ ta (.int i)) (hb : E q δ tb (.int j)) : E q δ (tOp (rNeD K) ta tb) (.bool (!(i == j))) := e_neD ha hb rfl rfl
theorem e_eqDB {i j : Bool} (ha : E q δ ta (.bool i)) (hb : E q δ tb (.bool j)) : E q δ (tOp (rEqD K) ta tb) (.bool (i == j)) := e_eqD ha hb rfl rfl
theorem e_neDB {i j : Bool} (ha : E q δ ta (.bool i)) (hb : E q δ tb (.bool j)) : E q δ (tOp (rNeD K) ta tb) (.bool (!(i == j))) := e_neD ha hb rfl rfl
theorem rj_eqD (s1 : SeqAt.shaped d1 = true) (s2 : SeqAt.shaped d2 = true) (hp : Φ (.bool (PyData.eqv d1 d2))) : RJ (rEqD K) d1 d2 Φ := fun x y H H1 hx hy e Q k =>
  ⟨d1, d2, Dq.dp K _ _ (Dq.mono e _ _ hx), Dq.dp K _ _ (Dq.mono e _ _ hy), s1, s2, k _ _ H H1 (Gr.refl e) hp (.bl _)⟩
theorem j_eqDI {P1 P2 : Int → Prop} (ha : J q δ ta c1 (IntP P1)) (hb : J q δ tb c2 (IntP P2)) (hp : ∀ i j, P1 i → P2 j → Φ (.bool (i == j))) : J q δ (tOp (rEqD K) ta tb) (c2 + c1) Φ :=
  j_op ha hb fun a b ⟨i, pi, ea⟩ ⟨j, pj, eb⟩ => by subst ea; subst eb; exact rj_eqD rfl rfl (hp i j pi pj)
/-- subscripts -/
theorem e_iT {ds : List PyData} {i : Int} (ha : E q δ ta (.tuple ds)) (hb : E q δ tb (.int i)) (e : atI ds i = some d) : E q δ (tOp (rIx K) ta tb) d := e_op ha hb (RJ.to (rj_ixT (Φ := fun x => x = d) e rfl) fun _ _ _ _ h => .inr (.inl h))
theorem e_iL {ds : List PyData} {i : Int} (ha : E q δ ta (.list ds)) (hb : E q δ tb (.int i)) (e : atI ds i = some d) : E q δ (tOp (rIx K) ta tb) d := e_op ha hb (RJ.to (rj_ixL (Φ := fun x => x = d) e rfl) fun _ _ _ _ h => .inl h)
theorem j_iL {P : Int → Prop} {Ψ : List PyData → Prop} (ha : J q δ ta c1 (fun d => ∃ ds, Ψ ds ∧ d = .list ds)) (hb : J q δ tb c2 (IntP P)) (e : ∀ ds i, Ψ ds → P i → ∃ d, atI ds i = some d ∧ Φ d) : J q δ (tOp (rIx K) ta tb) (c2 + c1) Φ :=
  j_op ha hb fun a b ⟨ds, pi, ea⟩ ⟨j, pj, eb⟩ => by
    subst ea; subst eb
    obtain ⟨d, h1, h2⟩ := e ds j pi pj
    exact (rj_ixL h1 h2).to fun _ _ _ _ h => .inl h
theorem j_iT {P : Int → Prop} {Ψ : List PyData → Prop} (ha : J q δ ta c1 (fun d => ∃ ds, Ψ ds ∧ d = .tuple ds)) (hb : J q δ tb c2 (IntP P)) (e : ∀ ds i, Ψ ds → P i → ∃ d, atI ds i = some d ∧ Φ d) : J q δ (tOp (rIx K) ta tb) (c2 + c1) Φ :=
  j_op ha hb fun a b ⟨ds, pi, ea⟩ ⟨j, pj, eb⟩ => by
    subst ea; subst eb
    obtain ⟨d, h1, h2⟩ := e ds j pi pj
    exact (rj_ixT h1 h2).to fun _ _ _ _ h => .inr (.inl h)
theorem E.lstP {ds : List PyData} (h : E q δ te (.list ds)) : J q δ te 0 (fun d => ∃ x, x = ds ∧ d = .list x) := h.imp fun d e => ⟨ds, rfl, e⟩
theorem E.tupP {ds : List PyData} (h : E q δ te (.tuple ds)) : J q δ te 0 (fun d => ∃ x, x = ds ∧ d = .tuple x) := h.imp fun d e => ⟨ds, rfl, e⟩

/-! ### built-in calls -/
def RCJ (r : List V → Hp → VK → Prop) (ds : List PyData) (Φ : PyData → Prop) : Prop := ∀ (vs : List V) (H H1 : Hp), DqAll H vs ds → Same H H1 → ∀ Q : VK, (∀ d v Hk H2, Gr none H H1 Hk H2 → Φ d → Dq Hk v d → Q v H2) → r vs H1 Q
theorem j_cb {r : List V → Hp → VK → Prop} {ta : TA} {Ψ : List PyData → Prop} (h : AJ q δ ta c (fun sls => ∃ ds : List PyData, sls = ds.map Sl.dat ∧ Ψ ds)) (hr : ∀ ds, Ψ ds → RCJ r ds Φ) : J q δ (tCB r ta) c Φ := fun σ H H1 n sg o Q k =>
  h σ H H1 n sg o _ fun sls vs Hk H2 g o1 ⟨ds, e, p⟩ hv => by
    subst e
    exact hr ds p vs Hk H2 hv.dats g.a Q fun d v Hk' H3 g' pd dv => k d v Hk' H3 (g.trans g'.none_to) (o1.go g') pd dv
theorem e_cb {r : List V → Hp → VK → Prop} {ta : TA} {ds : List PyData} (h : AE q δ ta (ds.map Sl.dat)) (hr : RCJ r ds (fun x => x = d)) : E q δ (tCB r ta) d := j_cb (Ψ := fun x => x = ds) (h.to ⟨ds, rfl, rfl⟩) fun _ e => by rw [e]; exact hr
theorem j_cb1 {r : List V → Hp → VK → Prop} {te : TE} {Ψ : PyData → Prop} (h : J q δ te c Ψ) (hr : ∀ d, Ψ d → RCJ r [d] Φ) : J q δ (tCB r (tCons te tNil)) c Φ :=
  (j_cb (Ψ := fun ds => ∃ d, Ψ d ∧ ds = [d]) ((aj_cons h ae_nil fun d sls p e => ⟨[d], by rw [e]; rfl, d, p, rfl⟩)) fun ds ⟨d, p, e⟩ => by rw [e]; exact hr d p).cost (by omega)
theorem e_cb1 {r : List V → Hp → VK → Prop} {te : TE} (h : E q δ te d1) (hr : RCJ r [d1] (fun x => x = d)) : E q δ (tCB r (tCons te tNil)) d := e_cb (ds := [d1]) (ae_cons h ae_nil) hr
theorem DqAll.one {H : Hp} {vs : List V} {d : PyData} (h : DqAll H vs [d]) : ∃ v, vs = [v] ∧ Dq H v d := by
  cases h with
  | cons h1 h2 => cases h2; exact ⟨_, rfl, h1⟩
theorem DqAll.two {H : Hp} {vs : List V} {d e : PyData} (h : DqAll H vs [d, e]) : ∃ v w, vs = [v, w] ∧ Dq H v d ∧ Dq H w e := by
  cases h with
  | cons h1 h2 =>
    obtain ⟨w, rfl, h3⟩ := h2.one
    exact ⟨_, w, rfl, h1, h3⟩
/-- len -/
def rLenQ (K : PySem.W.Frag) : List V → Hp → VK → Prop := fun xs H Q => ∃ p ys, xs = [.ref p] ∧ (SqL K H p ys ∨ SqT K H p ys) ∧ Q (.int ys.length) H
theorem call_lenQ {X : Cx} : CallR X (.builtin "len") (rLenQ X.K) := call_len_seq
theorem rc_lenL {ds : List PyData} (hp : Φ (.int ds.length)) : RCJ (rLenQ K) [.list ds] Φ := fun vs H H1 h e Q k => by
  obtain ⟨v, rfl, h1⟩ := h.one
  obtain ⟨a, xs, rfl, h2, h3⟩ := h1.lstOf
  refine ⟨a, xs, rfl, .inl (.inl (.inl (e _ _ h2))), ?_⟩
  rw [h3.length]
  exact k _ _ H H1 (Gr.refl e) hp (.int _)
theorem rc_lenT {ds : List PyData} (hp : Φ (.int ds.length)) : RCJ (rLenQ K) [.tuple ds] Φ := fun vs H H1 h e Q k => by
  obtain ⟨v, rfl, h1⟩ := h.one
  obtain ⟨a, xs, rfl, h2, h3⟩ := h1.tupOf
  refine ⟨a, xs, rfl, .inr (.inl (h2.mono e).rd), ?_⟩
  rw [h3.length]
  exact k _ _ H H1 (Gr.refl e) hp (.int _)
theorem e_lenL {ds : List PyData} (h : E q δ te (.list ds)) : E q δ (tCB (rLenQ K) (tCons te tNil)) (.int ds.length) := e_cb1 h (rc_lenL rfl)
theorem e_lenT {ds : List PyData} (h : E q δ te (.tuple ds)) : E q δ (tCB (rLenQ K) (tCons te tNil)) (.int ds.length) := e_cb1 h (rc_lenT rfl)
/-- sum, all of lists -/
theorem rc_sum {ns : List Int} (hp : Φ (.int ns.sum)) : RCJ (rSum K) [.list (ns.map .int)] Φ := fun vs H H1 h e Q k => by
  obtain ⟨v, rfl, h1⟩ := h.one
  obtain ⟨a, xs, rfl, h2, h3⟩ := h1.lstOf
  have e2 := DqAll.ints h3
  subst e2
  exact ⟨a, ns, rfl, .inl (.inl (e _ _ h2)), k _ _ H H1 (Gr.refl e) hp (.int _)⟩
theorem e_sum {ns : List Int} (h : E q δ te (.list (ns.map .int))) : E q δ (tCB (rSum K) (tCons te tNil)) (.int ns.sum) := e_cb1 h (rc_sum rfl)
theorem rc_all {bs : List Bool} (hp : Φ (.bool (bs.all id))) : RCJ (rAll K) [.list (bs.map .bool)] Φ := fun vs H H1 h e Q k => by
  obtain ⟨v, rfl, h1⟩ := h.one
  obtain ⟨a, xs, rfl, h2, h3⟩ := h1.lstOf
  have e2 := DqAll.bls h3
  subst e2
  exact ⟨a, bs, rfl, .inl (.inl (e _ _ h2)), k _ _ H H1 (Gr.refl e) hp (.bl _)⟩
theorem e_all {bs : List Bool} (h : E q δ te (.list (bs.map .bool))) : E q δ (tCB (rAll K) (tCons te tNil)) (.bool (bs.all id)) := e_cb1 h (rc_all rfl)
/-- abs, max, min, int -/
def rAbsQ : List V → Hp → VK → Prop := fun xs H Q => ∃ i, xs = [.int i] ∧ Q (.int (if i < 0 then -i else i)) H
theorem call_absQ {X : Cx} : CallR X (.builtin "abs") rAbsQ := call_abs
def rMaxQ : List V → Hp → VK → Prop := fun xs H Q => ∃ i j, xs = [.int i, .int j] ∧ Q (.int (if j > i then j else i)) H
theorem call_maxQ {X : Cx} (hc : X.calm = true) : CallR X (.builtin "max") rMaxQ := call_max2 hc
def rMinQ : List V → Hp → VK → Prop := fun xs H Q => ∃ i j, xs = [.int i, .int j] ∧ Q (.int (if j < i then j else i)) H
theorem call_minQ {X : Cx} (hc : X.calm = true) : CallR X (.builtin "min") rMinQ := call_min2 hc
def rIntQ : List V → Hp → VK → Prop := fun xs H Q => (∃ i, xs = [.int i] ∧ Q (.int i) H) ∨ ∃ k, xs = [.bl k] ∧ Q (.int (if k then 1 else 0)) H
theorem call_intQ {X : Cx} : CallR X (.type "int") rIntQ := call_int1
theorem rc_abs {i : Int} (hp : Φ (.int (if i < 0 then -i else i))) : RCJ rAbsQ [.int i] Φ := fun vs H H1 h e Q k => by
  obtain ⟨v, rfl, h1⟩ := h.one
  rw [h1.intOf]
  exact ⟨i, rfl, k _ _ H H1 (Gr.refl e) hp (.int _)⟩
theorem e_abs {i : Int} (h : E q δ te (.int i)) : E q δ (tCB rAbsQ (tCons te tNil)) (.int (if i < 0 then -i else i)) := e_cb1 h (rc_abs rfl)
theorem rc_int {i : Int} (hp : Φ (.int i)) : RCJ rIntQ [.int i] Φ := fun vs H H1 h e Q k => by
  obtain ⟨v, rfl, h1⟩ := h.one
  rw [h1.intOf]
  exact .inl ⟨i, rfl, k _ _ H H1 (Gr.refl e) hp (.int _)⟩
theorem e_intI {i : Int} (h : E q δ te (.int i)) : E q δ (tCB rIntQ (tCons te tNil)) (.int i) := e_cb1 h (rc_int rfl)
theorem e_max {i j : Int} (h : E q δ ta (.int i)) (h2 : E q δ tb (.int j)) : E q δ (tCB rMaxQ (tCons ta (tCons tb tNil))) (.int (if j > i then j else i)) := e_cb (ds := [.int i, .int j]) (ae_cons h (ae_cons h2 ae_nil)) fun vs H H1 h e Q k => by
  obtain ⟨v, w, rfl, h1, h2⟩ := h.two
  rw [h1.intOf, h2.intOf]
  exact ⟨i, j, rfl, k _ _ H H1 (Gr.refl e) rfl (.int _)⟩
theorem e_min {i j : Int} (h : E q δ ta (.int i)) (h2 : E q δ tb (.int j)) : E q δ (tCB rMinQ (tCons ta (tCons tb tNil))) (.int (if j < i then j else i)) := e_cb (ds := [.int i, .int j]) (ae_cons h (ae_cons h2 ae_nil)) fun vs H H1 h e Q k => by
  obtain ⟨v, w, rfl, h1, h2⟩ := h.two
  rw [h1.intOf, h2.intOf]
  exact ⟨i, j, rfl, k _ _ H H1 (Gr.refl e) rfl (.int _)⟩
/-- tuple(xs), list(xs) -/
def rLstQ (K : PySem.W.Frag) : List V → Hp → VK → Prop := fun xs H Q => ∃ p ys, xs = [.ref p] ∧ (SqL K H p ys ∨ SqT K H p ys) ∧ ∀ l, H l = none → Q (.ref l) (upd H l (.lst ys))
theorem call_lstQ {X : Cx} : CallR X (.type "list") (rLstQ X.K) := call_list_of
theorem rc_tupL {ds : List PyData} (hp : Φ (.tuple ds)) : RCJ (rTupQ K) [.list ds] Φ := fun vs H H1 h e Q k => by
  obtain ⟨v, rfl, h1⟩ := h.one
  obtain ⟨a, xs, rfl, h2, h3⟩ := h1.lstOf
  refine ⟨a, xs, rfl, .inl ⟨.inl (.inl (e _ _ h2)), fun l ob od hn => ?_⟩⟩
  have g := Gr.new (q := none) (o := .frz ob (.tup xs)) e hn
  exact k _ _ _ _ g hp (.tup (Tp.new od) (DqAll.mono g.k _ _ h3))
theorem e_tupL {ds : List PyData} (h : E q δ te (.list ds)) : E q δ (tCB (rTupQ K) (tCons te tNil)) (.tuple ds) := e_cb1 h (rc_tupL rfl)
theorem rc_lstL {ds : List PyData} (hp : Φ (.list ds)) : RCJ (rLstQ K) [.list ds] Φ := fun vs H H1 h e Q k => by
  obtain ⟨v, rfl, h1⟩ := h.one
  obtain ⟨a, xs, rfl, h2, h3⟩ := h1.lstOf
  refine ⟨a, xs, rfl, .inl (.inl (.inl (e _ _ h2))), fun l hn => ?_⟩
  have g := Gr.new (q := none) (o := .lst xs) e hn
  exact k _ _ _ _ g hp (.lst upd_same (DqAll.mono g.k _ _ h3))
theorem rc_lstT {ds : List PyData} (hp : Φ (.list ds)) : RCJ (rLstQ K) [.tuple ds] Φ := fun vs H H1 h e Q k => by
  obtain ⟨v, rfl, h1⟩ := h.one
  obtain ⟨a, xs, rfl, h2, h3⟩ := h1.tupOf
  refine ⟨a, xs, rfl, .inr (.inl (h2.mono e).rd), fun l hn => ?_⟩
  have g := Gr.new (q := none) (o := .lst xs) e hn
  exact k _ _ _ _ g hp (.lst upd_same (DqAll.mono g.k _ _ h3))
theorem e_lstT {ds : List PyData} (h : E q δ te (.tuple ds)) : E q δ (tCB (rLstQ K) (tCons te tNil)) (.list ds) := e_cb1 h (rc_lstT rfl)
theorem e_lstL {ds : List PyData} (h : E q δ te (.list ds)) : E q δ (tCB (rLstQ K) (tCons te tNil)) (.list ds) := e_cb1 h (rc_lstL rfl)

/-! ### isinstance -/
def tyN : PyData → String
  | .none => "NoneType"
  | .bool _ => "bool"
  | .int _ => "int"
  | .str _ => "str"
  | .list _ => "list"
  | .tuple _ => "tuple"
  | .dict _ => "dict"
theorem dq_ty {H : Hp} : ∀ {d : PyData} {v : V}, Dq H v d → TyX K H v (.type (tyN d))
  | .none, _, h => by cases h; exact .base .non
  | .bool b, _, h => by cases h; exact .base (.bl b)
  | .int i, _, h => by cases h; exact .base (.int i)
  | .str x, _, h => by cases h; exact .base (.str x)
  | .list _, _, h => by
    cases h with
    | lst h1 _ => exact .base (.lst h1)
  | .tuple _, _, h => by
    cases h with
    | tup h1 _ =>
      rcases h1 with ⟨o, _, h1⟩ | ⟨_, h1⟩
      · exact .fTuple h1
      · exact .base (.tup h1)
  | .dict _, _, h => by cases h
theorem e_isi {n : String} {r : Bool} (h : E q δ te d) (hk : kitB (tyN d) n = some r) : E q δ (tCB (rIsiU K) (tCons te (tCons (tC (.ty n)) tNil))) (.bool r) := fun σ H H1 m sg o Q k =>
  h σ H H1 m sg o _ fun x v Hk H2 g o1 e dv => by
    subst e
    exact .inl ⟨v, .ty n, .type (tyN x), .type n, r, rfl, .ty n, dq_ty (Dq.mono g.a _ _ dv), kit_ty hk, k _ _ Hk H2 g o1 rfl (.bl r)⟩
theorem e_isi2 {n m : String} {r1 r2 : Bool} (h : E q δ te d) (h1 : kitB (tyN d) n = some r1) (h2 : kitB (tyN d) m = some r2) : E q δ (tCB (rIsiU K) (tCons te (tCons (L2.tTup (tCons (tC (.ty n)) (tCons (tC (.ty m)) tNil))) tNil))) (.bool (r1 || r2)) := fun σ H H1 mm sg o Q k =>
  h σ H H1 mm sg o _ fun x v Hk H2 g o1 e dv => by
    subst e
    refine ⟨by show 2 ≤ sizeLine; rw [sizeLine_eq]; decide, fun p hp => ?_⟩
    have g1 := Gr.cell (q := none) (o := .tup [.ty n, .ty m]) g.a hp
    refine .inr ⟨v, p, [.ty n, .ty m], .type (tyN x), [.type n, .type m], r1 || r2, rfl, upd_same, .cons (.ty n) (.cons (.ty m) .nil), dq_ty (Dq.mono g1.a _ _ dv), ?_, k _ _ Hk _ (g.trans g1.none_to) (o1.go g1) rfl (.bl _)⟩
    refine kitAny_cons (b := r1) (kit_ty h1) (fun e => ?_) (fun e => by rw [e, Bool.true_or])
    rw [e, Bool.false_or]
    refine kitAny_cons (b := r2) (kit_ty h2) (fun e => ?_) (fun e => e)
    rw [e]
    exact kitAny_nil

/-! ### slices -/
def TOj (δ : List Sl) (q : Option Addr) (to : TO) (o : Option Int) : Prop := ∀ (σ : L2.St) (H H1 : Hp) (n : Nat), Sg H σ δ → Ok q n H H1 → ∀ Q : Option Int → Hp → Prop, (∀ Hk H2, Gr q H H1 Hk H2 → Ok q n Hk H2 → Q o H2) → to σ H1 Q
theorem to_none : TOj δ q tNoPart none := fun σ H H1 n sg o Q k => k H H1 (Gr.refl o.a) o
theorem to_some {i : Int} (h : E q δ te (.int i)) : TOj δ q (tPart te) (some i) := fun σ H H1 n sg o Q k => h σ H H1 n sg o _ fun d v Hk H2 g o1 e dv => by
  subst e
  exact ⟨i, dv.intOf, k Hk H2 g o1⟩
def cutD (xs : List PyData) (lo hi : Option Int) : List PyData := (xs.drop (HT.sIx xs.length 0 lo)).take (HT.sIx xs.length xs.length hi - HT.sIx xs.length 0 lo)
theorem e_slL {tl th : TO} {lo hi : Option Int} {ds : List PyData} (h : E q δ te (.list ds)) (h1 : TOj δ q tl lo) (h2 : TOj δ q th hi) : E q δ (tSl (rSlU K) te tl th) (.list (cutD ds lo hi)) := fun σ H H1 n sg o Q k =>
  h σ H H1 n sg o _ fun d v Hk H2 g o1 e dv => h1 σ Hk H2 n (sg.mono g.k) o1 _ fun Hk2 H3 g2 o2 => h2 σ Hk2 H3 n (sg.mono (g.k.trans g2.k)) o2 _ fun Hk3 H4 g3 o3 => by
    subst e
    obtain ⟨a, xs, rfl, e1, e2⟩ := (Dq.mono (g2.k.trans g3.k) _ _ dv).lstOf
    refine .inl ⟨a, xs, rfl, .inl (.inl (g3.a _ _ e1)), fun p hn => ?_⟩
    have g4 := Gr.new (q := none) (o := .lst (cutV xs lo hi)) g3.a hn
    refine k _ _ _ _ (((g.trans g2).trans g3).trans g4.none_to) (o3.go g4) rfl (.lst upd_same (DqAll.mono g4.k _ _ ?_))
    unfold cutV
    rw [e2.length]
    exact (e2.drop _).take _
theorem e_slT {tl th : TO} {lo hi : Option Int} {ds : List PyData} (h : E q δ te (.tuple ds)) (h1 : TOj δ q tl lo) (h2 : TOj δ q th hi) : E q δ (tSl (rSlU K) te tl th) (.tuple (cutD ds lo hi)) := fun σ H H1 n sg o Q k =>
  h σ H H1 n sg o _ fun d v Hk H2 g o1 e dv => h1 σ Hk H2 n (sg.mono g.k) o1 _ fun Hk2 H3 g2 o2 => h2 σ Hk2 H3 n (sg.mono (g.k.trans g2.k)) o2 _ fun Hk3 H4 g3 o3 => by
    subst e
    have dv' := Dq.mono (g2.k.trans g3.k) _ _ dv
    obtain ⟨a, xs, rfl, e1, e2⟩ := dv'.tupOf
    have hl := e2.length
    refine .inr ⟨a, xs, rfl, .inl (e1.mono g3.a).rd, fun hw => ?_, fun hw p ob od hn => ?_⟩
    · have ec : cutD ds lo hi = ds := by
        unfold cutD
        rw [← hl, hw.1, hw.2, List.drop_zero, Nat.sub_zero, hl, List.take_length]
      rw [ec] at k
      exact k _ _ _ _ ((g.trans g2).trans g3) o3 rfl dv'
    · have g4 := Gr.new (q := none) (o := .frz ob (.tup (cutV xs lo hi))) g3.a hn
      refine k _ _ _ _ (((g.trans g2).trans g3).trans g4.none_to) (o3.go g4) rfl (.tup (Tp.new od) (DqAll.mono g4.k _ _ ?_))
      unfold cutV
      rw [hl]
      exact (e2.drop _).take _

/-! ### keyword calls -/
theorem j_callK {R : RelX} {E : XK} {ta tk : TA} {gV : List V → List V → List V} {gS : List Sl → List Sl → List Sl} {Φa Φk : List Sl → Prop} (ha : AJ q δ ta c1 Φa) (hk : AJ q δ tk c2 Φk)
    (hg : ∀ (H : Hp) (vs zs : List V) (ss us : List Sl), VS H vs ss → VS H zs us → Φa ss → Φk us → VS H (gV vs zs) (gS ss us)) (hr : ∀ ss us, Φa ss → Φk us → R q (gS ss us) c Φ) : J q δ (tCallK (spX R) gV E ta tk) (c + c2 + c1) Φ := fun σ H H1 n sg o Q k =>
  ha σ H H1 (n + (c + c2)) sg (by rw [Nat.add_assoc]; exact o) _ fun sls vs Hk H2 g o1 p hv => hk σ Hk H2 (n + c) (sg.mono g.k) (by rw [Nat.add_assoc]; exact o1) _ fun us zs Hk' H3 g' o2 pk hz =>
    ⟨q, Hk', gS sls us, n, c, Φ, o2, hg Hk' vs zs sls us (hv.mono g'.k) hz p pk, hr sls us p pk, fun d v Hk2 H4 g2 o3 pd dv => k d v Hk2 H4 ((g.trans g').trans g2) o3 pd dv⟩
end
end Cr

namespace L2
open PySem PySem.Spec PyProof.Rows L2
/-! ### the rules with the written part named (within a comprehension's block it is the def's) -/
section
variable {X : Cx} {K : PySem.W.Frag}
theorem k_addU (h : X.K = K) : OpR X (binaryOp .Add) (rAddU K) := h ▸ op_addU
theorem k_eqD (h : X.K = K) (hu : X.A.units + 64 < cLine) : OpR X (compareOp .Eq) (rEqD K) := h ▸ op_eqD hu
theorem k_neD (h : X.K = K) (hu : X.A.units + 64 < cLine) : OpR X (compareOp .NotEq) (rNeD K) := h ▸ op_neD hu
theorem k_ix (h : X.K = K) : IxR X (rIx K) := h ▸ ix_seq
theorem k_sl (h : X.K = K) : SlR X (rSlU K) := h ▸ sl_U
theorem k_isi (h : X.K = K) : CallR X (.builtin "isinstance") (rIsiU K) := h ▸ call_isiU
theorem k_len (h : X.K = K) : CallR X (.builtin "len") (Cr.rLenQ K) := h ▸ Cr.call_lenQ
theorem k_sum (h : X.K = K) (hc : X.calm = true) : CallR X (.builtin "sum") (rSum K) := h ▸ cr_sum hc
theorem k_all (h : X.K = K) (hc : X.calm = true) : CallR X (.builtin "all") (rAll K) := h ▸ cr_all hc
theorem k_tup (h : X.K = K) : CallR X (.type "tuple") (Cr.rTupQ K) := h ▸ Cr.call_tupQ
theorem k_lst (h : X.K = K) : CallR X (.type "list") (Cr.rLstQ K) := h ▸ Cr.call_lstQ
theorem k_pgTup {es : List Expr} {k : Nat} {pos : Pos} {t : TGs} {n : Nat} (h : X.K = K) (hc : X.calm = true) (hg : PGs X es t) (hn : (assignEach es X.env).length = n := by rfl) (hst : (assignEach es X.env).findIdx? (·.1) = none := by rfl) :
    PG X (.Tuple es k pos) (gTup K n t) := h ▸ pg_tup hc hg hn hst
theorem k_piList {tg l : Expr} {tl : TE} (h : X.K = K) (hl : PE X l tl) : PI X tg l (iList K tl) := h ▸ pi_list hl
theorem k_piTup {tg l : Expr} {tl : TE} (h : X.K = K) (hl : PE X l tl) : PI X tg l (iTup K tl) := h ▸ pi_tup hl
theorem k_piZip {a b : Expr} {ta : TA} {p pos tpos : Pos} {elts : List Expr} {kk : Nat} (h : X.K = K) (hg : Gl X "zip") (hm : X.mg "zip" = none) (ha : PA X [a, b] ta)
    (hs : starEach [a, b] X.env = (false, eval a X.env) :: starEach [b] X.env := by rfl) (hp : (backTo pos (starEach [b] X.env)).any (·.1) = false := by rfl) :
    PI X (.Tuple elts kk tpos) (.Call (.Name "zip" p) [a, b] [] pos) (RZ.iZipA K ta) := h ▸ RZ.pi_zipA hg hm ha hs hp
end
end L2

set_option Elab.async false
set_option linter.all false
set_option maxRecDepth 100000
set_option maxHeartbeats 4000000
namespace Cr
open PySem PySem.Spec PyProof.Rows L2

/-! ### what is walked -/
def WalkD (Jt : It) (items : List PyData) (HkW : Hp) : Prop := ∀ (i : Nat) (Hk H : Hp), Same HkW Hk → Same Hk H →
  (i < items.length → Jt.go i H ∧ ∀ v H', Jt.yld i H v H' → ∃ Hk', Gr none Hk H Hk' H' ∧ ∃ d, items[i]? = some d ∧ Dq Hk' v d) ∧ (items.length ≤ i → Jt.stop i H)
def IJ (q : Option Addr) (δ : List Sl) (wi : TI) (c : Nat) (Φ : List PyData → Prop) : Prop :=
  ∀ (σ : L2.St) (H H1 : Hp) (n : Nat), Sg H σ δ → Ok q (n + c) H H1 → ∀ R : It → Hp → Prop, (∀ items Jt Hk H2, Gr q H H1 Hk H2 → Ok q n Hk H2 → Φ items → WalkD Jt items Hk → R Jt H2) → wi σ H1 R
abbrev IE (q : Option Addr) (δ : List Sl) (wi : TI) (items : List PyData) : Prop := IJ q δ wi 0 (fun x => x = items)
section
variable {K : PySem.W.Frag} {q : Option Addr} {δ δ' : List Sl} {te ta tb tc : TE} {tt tu : TT} {c c1 c2 c3 : Nat} {Φ Φ1 Φ2 Φ3 : PyData → Prop} {d d1 d2 : PyData} {wi : TI}
theorem SqL.of1 {H : Hp} {a : Addr} {xs : List V} (h : H a = some (.lst xs)) : SqL K H a xs := .inl (.inl h)
theorem walk_lst {H : Hp} {a : Addr} {xs : List V} {ds : List PyData} (h : H a = some (.lst xs)) (hd : DqAll H xs ds) : WalkD (Itl K a) ds H := fun i Hk H' s1 s2 => by
  have e := s2 _ _ (s1 _ _ h)
  refine ⟨fun hi => ⟨?_, fun v H2 y => ?_⟩, fun hi => ⟨xs, SqL.of1 e, by rw [hd.length]; exact hi⟩⟩
  · exact ⟨xs, xs[i]'(by rw [hd.length]; exact hi), SqL.of1 e, List.getElem?_eq_getElem _⟩
  · obtain ⟨rfl, y2⟩ := y
    have e2 := y2 xs (SqL.of1 e)
    obtain ⟨d, g1, g2⟩ := hd.get' e2
    exact ⟨Hk, Gr.refl s2, d, g1, Dq.mono s1 _ _ g2⟩
theorem walk_tup {H : Hp} {a : Addr} {xs : List V} {ds es : List PyData} (h : Tp H a xs es) (hd : DqAll H xs ds) : WalkD (Itt K a) ds H := fun i Hk H' s1 s2 => by
  have e := ((h.mono s1).mono s2).rd
  refine ⟨fun hi => ⟨?_, fun v H2 y => ?_⟩, fun hi => ⟨xs, .inl e, by rw [hd.length]; exact hi⟩⟩
  · exact ⟨xs, xs[i]'(by rw [hd.length]; exact hi), .inl e, List.getElem?_eq_getElem _⟩
  · obtain ⟨rfl, y2⟩ := y
    have e2 := y2 xs (.inl e)
    obtain ⟨d, g1, g2⟩ := hd.get' e2
    exact ⟨Hk, Gr.refl s2, d, g1, Dq.mono s1 _ _ g2⟩
def rng (lo : Int) (n : Nat) : List PyData := (List.range n).map fun i => .int (lo + (i : Nat))
theorem rng_len (lo : Int) (n : Nat) : (rng lo n).length = n := by unfold rng; rw [List.length_map, List.length_range]
theorem rng_get {lo : Int} {n i : Nat} (h : i < n) : (rng lo n)[i]? = some (.int (lo + (i : Nat))) := by
  unfold rng
  rw [List.getElem?_map, List.getElem?_range h]; rfl
theorem rng_get' {lo : Int} {n i : Nat} {d : PyData} (h : (rng lo n)[i]? = some d) : i < n ∧ d = .int (lo + (i : Nat)) := by
  have hl : i < n := by
    have := (List.getElem?_eq_some_iff.mp h).1
    rw [rng_len] at this; exact this
  rw [rng_get hl] at h
  exact ⟨hl, (Option.some.inj h).symm⟩
theorem walk_rng {H : Hp} {lo : Int} {n : Nat} : WalkD (Itr lo n) (rng lo n) H := fun i Hk H' s1 s2 => by
  rw [rng_len]
  refine ⟨fun hi => ⟨hi, fun v H2 y => ?_⟩, fun hi => hi⟩
  obtain ⟨rfl, rfl⟩ := y
  exact ⟨Hk, Gr.refl s2, _, rng_get hi, .int _⟩
def zipD : List PyData → List PyData → List PyData
  | a :: as, b :: bs => .tuple [a, b] :: zipD as bs
  | _, _ => []
theorem zipD_get : ∀ (as bs : List PyData) (i : Nat) (a b : PyData), as[i]? = some a → bs[i]? = some b → (zipD as bs)[i]? = some (.tuple [a, b])
  | [], _, _, _, _, h, _ => by simp at h
  | _ :: _, [], _, _, _, _, h => by simp at h
  | a :: as, b :: bs, 0, x, y, h1, h2 => by simp at h1 h2; subst h1; subst h2; rfl
  | a :: as, b :: bs, i + 1, x, y, h1, h2 => zipD_get as bs i x y (by simpa using h1) (by simpa using h2)
theorem zipD_len : ∀ (as bs : List PyData), (zipD as bs).length = min as.length bs.length
  | [], bs => by simp [zipD]
  | _ :: _, [] => by simp [zipD]
  | a :: as, b :: bs => by
    show (zipD as bs).length + 1 = _
    rw [zipD_len as bs, List.length_cons, List.length_cons]; omega
theorem walk_zipT {H : Hp} {a b : Addr} {xs ys : List V} {ds es : List PyData} {fs gs : List PyData} (np : ∀ d ∈ ds, notPair d = true) (h : Tp H a xs fs) (hd : DqAll H xs ds) (h2 : Tp H b ys gs) (he : DqAll H ys es) : WalkD (RZ.ItzT K a b) (zipD ds es) H := fun i Hk H' s1 s2 => by
  have e := ((h.mono s1).mono s2).rd
  have e2 := ((h2.mono s1).mono s2).rd
  have hl1 := hd.length
  have hl2 := he.length
  rw [zipD_len]
  refine ⟨fun hi => ?_, fun hi => ⟨xs, ys, .inl e, .inl e2, by omega⟩⟩
  have g1 : xs[i]? = some (xs[i]'(by omega)) := List.getElem?_eq_getElem _
  have g2 : ys[i]? = some (ys[i]'(by omega)) := List.getElem?_eq_getElem _
  refine ⟨⟨xs, ys, _, _, .inl e, .inl e2, g1, g2⟩, fun v H2 y => ?_⟩
  obtain ⟨T, x, y, rfl, hT, rfl, f1, f2⟩ := y
  obtain ⟨d1, p1, p2⟩ := hd.get' (f1 xs (.inl e))
  obtain ⟨d2, p3, p4⟩ := he.get' (f2 ys (.inl e2))
  have g := Gr.new (q := none) (o := .tup [x, y]) s2 hT
  refine ⟨_, g, _, zipD_get ds es i d1 d2 p1 p3, .tup (.inr ⟨np d1 (List.mem_of_getElem? p1), upd_same⟩) (.cons (Dq.mono (s1.trans g.k) _ _ p2) (.cons (Dq.mono (s1.trans g.k) _ _ p4) .nil))⟩

theorem ij_lst {Ψ : List PyData → Prop} (h : J q δ te c (fun d => ∃ ds, Ψ ds ∧ d = .list ds)) : IJ q δ (iList K te) c Ψ := fun σ H H1 n sg o R k =>
  h σ H H1 n sg o _ fun d v Hk H2 g o1 ⟨ds, p, e⟩ dv => by
    subst e
    obtain ⟨a, xs, rfl, h1, h2⟩ := dv.lstOf
    exact ⟨a, rfl, ⟨xs, SqL.of1 (g.a _ _ h1)⟩, k ds _ Hk H2 g o1 p (walk_lst h1 h2)⟩
theorem ij_tup {Ψ : List PyData → Prop} (h : J q δ te c (fun d => ∃ ds, Ψ ds ∧ d = .tuple ds)) : IJ q δ (iTup K te) c Ψ := fun σ H H1 n sg o R k =>
  h σ H H1 n sg o _ fun d v Hk H2 g o1 ⟨ds, p, e⟩ dv => by
    subst e
    obtain ⟨a, xs, rfl, h1, h2⟩ := dv.tupOf
    exact ⟨a, rfl, ⟨xs, .inl (h1.mono g.a).rd⟩, k ds _ Hk H2 g o1 p (walk_tup h1 h2)⟩
theorem ie_lst {ds : List PyData} (h : E q δ te (.list ds)) : IE q δ (iList K te) ds := ij_lst (h.imp fun d e => ⟨ds, rfl, e⟩)
theorem ie_tup {ds : List PyData} (h : E q δ te (.tuple ds)) : IE q δ (iTup K te) ds := ij_tup (h.imp fun d e => ⟨ds, rfl, e⟩)
theorem ij_rng1 {P : Int → Prop} {Ψ : List PyData → Prop} (h : J q δ te c (IntP P)) (hp : ∀ j, P j → (-(2 ^ 62) ≤ j ∧ j < 2 ^ 62) ∧ Ψ (rng 0 j.toNat)) : IJ q δ (iRng1 (tCons te tNil)) c Ψ := fun σ H H1 n sg o R k =>
  h σ H H1 n sg o _ fun d v Hk H2 g o1 ⟨j, p, e⟩ dv => by
    subst e
    rw [dv.intOf]
    exact ⟨j, rfl, (hp j p).1.1, (hp j p).1.2, k _ _ Hk H2 g o1 (hp j p).2 walk_rng⟩
theorem ie_rng1 {j : Int} (h : E q δ te (.int j)) (h1 : -(2 ^ 62) ≤ j) (h2 : j < 2 ^ 62) : IE q δ (iRng1 (tCons te tNil)) (rng 0 j.toNat) := ij_rng1 h.intP fun i e => by subst e; exact ⟨⟨h1, h2⟩, rfl⟩
theorem ie_zipT {ds es : List PyData} (h : E q δ ta (.tuple ds)) (h2 : E q δ tb (.tuple es)) (np : ∀ d ∈ ds, notPair d = true := by intro d hd; obtain ⟨x, _, rfl⟩ := List.mem_map.mp hd; rfl) : IE q δ (RZ.iZipA K (tCons ta (tCons tb tNil))) (zipD ds es) := fun σ H H1 n sg o R k =>
  h σ H H1 n sg o _ fun d v Hk H2 g o1 e dv => h2 σ Hk H2 n (sg.mono g.k) o1 _ fun d' v' Hk' H3 g' o2 e' dv' => by
    subst e; subst e'
    obtain ⟨a, xs, rfl, p1, p2⟩ := (Dq.mono g'.k _ _ dv).tupOf
    obtain ⟨b, ys, rfl, p3, p4⟩ := dv'.tupOf
    exact ⟨a, b, xs, ys, rfl, .inr ⟨.inl (p1.mono g'.a).rd, .inl (p3.mono g'.a).rd, k _ _ Hk' H3 (g.trans g') o2 rfl (walk_zipT np p1 p2 p3 p4)⟩⟩

/-! ### targets -/
def GB (δ : List Sl) (g : TG) (d : PyData) (δ' : List Sl) (vs : List Nat) : Prop := ∀ (σ : L2.St) (H H1 : Hp) (v : V), Sg H σ δ → Same H H1 → Dq H v d → ∀ Q : L2.St → Hp → Prop, (∀ σ', Sg H σ' δ' → σ'.length = σ.length → (∀ k, k ∉ vs → σ'[k]? = σ[k]?) → Q σ' H1) → g v σ H1 Q
theorem gb_name {i : Nat} {vs : List Nat} (h : i ∈ vs) : GB δ (gName i) d (δ.set i (.dat d)) vs := fun σ H H1 v sg s dv Q k =>
  k _ (sg.set i (s := .dat d) dv) (List.length_set ..) fun j hj => List.getElem?_set_ne (fun e => hj (by rw [← e]; exact h))
theorem gb_tup2 {i j : Nat} {vs : List Nat} (h : i ∈ vs) (h' : j ∈ vs) : GB δ (gTup K 2 (gCons (gName i) (gCons (gName j) gNil))) (.tuple [d1, d2]) ((δ.set i (.dat d1)).set j (.dat d2)) vs := fun σ H H1 v sg s dv Q k => by
  obtain ⟨a, xs, rfl, h1, h2⟩ := dv.tupOf
  obtain ⟨x, y, rfl, dx, dy⟩ := h2.two
  refine ⟨a, [x, y], rfl, .inl (h1.mono s).rd, rfl, x, [y], rfl, y, [], rfl, rfl, k _ ((sg.set i (s := .dat d1) dx).set j (s := .dat d2) dy) (by rw [List.length_set, List.length_set]) fun l hl => ?_⟩
  rw [List.getElem?_set_ne (fun e => hl (by rw [← e]; exact h')), List.getElem?_set_ne (fun e => hl (by rw [← e]; exact h))]

/-! ### comprehensions -/
def wipeD (δ : List Sl) : List Nat → List Sl
  | [] => δ
  | v :: vs => (wipeD δ vs).set v .any
theorem Sg.wipe {H : Hp} {σ : L2.St} {δ : List Sl} (h : Sg H σ δ) : ∀ vs : List Nat, Sg H (wipe σ vs) (wipeD δ vs)
  | [] => h
  | v :: vs => by
    have ih := Sg.wipe h vs
    refine ⟨by show ((L2.wipe σ vs).set v none).length = ((wipeD δ vs).set v .any).length; rw [List.length_set, List.length_set]; exact ih.1, fun i s a b => ?_⟩
    change ((wipeD δ vs).set v .any)[i]? = some s at a
    change ∃ x, ((L2.wipe σ vs).set v none)[i]? = some (some x) ∧ SlOk H x s
    by_cases hi : v = i
    · subst hi
      by_cases hl : v < (wipeD δ vs).length
      · rw [List.getElem?_set_self hl] at a
        exact absurd (Option.some.inj a).symm b
      · rw [List.getElem?_eq_none (by rw [List.length_set]; omega)] at a; cases a
    · rw [List.getElem?_set_ne hi] at a ⊢
      exact ih.2 i s a b
theorem wipe_get (σ : L2.St) : ∀ (vs : List Nat) (i : Nat), (wipe σ vs)[i]? = if i ∈ vs then (if i < σ.length then some none else none) else σ[i]?
  | [], i => by simp [wipe]
  | v :: vs, i => by
    show ((L2.wipe σ vs).set v none)[i]? = _
    have ih := wipe_get σ vs i
    by_cases hi : v = i
    · subst hi
      rw [if_pos (by simp)]
      by_cases hl : v < σ.length
      · rw [List.getElem?_set_self (by rw [wipe_length]; exact hl), if_pos hl]
      · rw [List.getElem?_eq_none (by rw [List.length_set, wipe_length]; omega), if_neg hl]
    · rw [List.getElem?_set_ne hi, ih]
      have e : (i ∈ v :: vs) ↔ i ∈ vs := by simp [Ne.symm hi]
      by_cases hm : i ∈ vs
      · rw [if_pos hm, if_pos (e.mpr hm)]
      · rw [if_neg hm, if_neg (fun z => hm (e.mp z))]
theorem wipe_eq {σ σ' : L2.St} {vs : List Nat} (hl : σ'.length = σ.length) (h : ∀ k, k ∉ vs → σ'[k]? = (wipe σ vs)[k]?) : wipe σ' vs = wipe σ vs := by
  refine List.ext_getElem? fun i => ?_
  rw [wipe_get, wipe_get]
  by_cases hm : i ∈ vs
  · rw [if_pos hm, if_pos hm, hl]
  · rw [if_neg hm, if_neg hm, h i hm, wipe_get, if_neg hm]
/-- pure elements: b tells which are taken, f what they give; the items told by a list of one's own -/
theorem j_lc {α : Type} {emb : α → PyData} {wi : TI} {g : TG} {vs : List Nat} {Ψ : List α → Prop} (hw : IJ q δ wi c (fun items => ∃ xs, Ψ xs ∧ items = xs.map emb)) (b : α → Bool) (f : α → PyData)
    (hz : ∀ xs, Ψ xs → xs.length ≤ 1000000) (he : ∀ xs, Ψ xs → ∀ x ∈ xs, ∃ δ', GB (wipeD δ vs) g (emb x) δ' vs ∧ TB q δ' tt (b x) ∧ (b x = true → E q δ' te (f x))) :
    J q δ (tLc wi g tt te vs) c (fun r => ∃ xs, Ψ xs ∧ r = .list ((xs.filter b).map f)) := fun σ H H1 n sg o Q k =>
  hw σ H H1 n sg o _ fun items Jt HkW H2 g0 o0 pi wk D hD => by
    obtain ⟨xs, pi, ei⟩ := pi
    have hlen : items.length = xs.length := by rw [ei, List.length_map]
    have hDk : HkW D = none := g0.a.free hD
    have hDq : q ≠ some D := fun e => (o0.j D e).ne hD
    have g1 : Gr q HkW H2 HkW (upd H2 D (.lst [])) := Gr.cell g0.a hD
    refine ⟨fun i m H' => m = items.length - i ∧ i ≤ items.length ∧ ∃ Hk' vs, Gr q HkW H2 Hk' H' ∧ Ok q n Hk' H' ∧ Hk' D = none ∧ H' D = some (.lst vs) ∧ DqAll Hk' vs (((xs.take i).filter b).map f),
      ⟨items.length, by simp, Nat.zero_le _, HkW, [], g1, o0.cell hDk hDq, hDk, upd_same, .nil⟩, ?_⟩
    rintro i m H' ⟨rfl, hi, Hk', ys, gr, ok, hDn, hl, hd⟩
    by_cases hlt : i < items.length
    · obtain ⟨go, yl⟩ := (wk i Hk' H' gr.k ok.a).1 hlt
      refine .inr ⟨go, fun H'' => ∃ Hk3 ys', Gr q HkW H2 Hk3 H'' ∧ Ok q n Hk3 H'' ∧ Hk3 D = none ∧ H'' D = some (.lst ys') ∧ DqAll Hk3 ys' (((xs.take (i + 1)).filter b).map f), fun H'' p => ⟨items.length - (i + 1), by omega, rfl, hlt, p⟩, fun v H'' y => ?_⟩
      obtain ⟨Hk2, g2, d, ed, dx⟩ := yl v H'' y
      obtain ⟨x, ex, rfl⟩ : ∃ x, xs[i]? = some x ∧ emb x = d := by
        rw [ei, List.getElem?_map] at ed
        exact Option.map_eq_some_iff.mp ed
      obtain ⟨δ', hgb, htb, hte⟩ := he xs pi x (List.mem_of_getElem? ex)
      have ok2 := ok.go g2
      have sgw : Sg Hk2 (wipe σ vs) (wipeD δ vs) := ((sg.mono g0.k).mono (gr.k.trans g2.k)).wipe vs
      have hD2 : Hk2 D = none := g2.f D hDn (by rw [hl]; exact fun z => by cases z)
      have hl2 : H'' D = some (.lst ys) := g2.s D _ (fun z => by cases z) hl
      have hd2 := DqAll.mono g2.k _ _ hd
      have gr2 := gr.trans g2.none_to
      have hx : xs.take (i + 1) = xs.take i ++ [x] := by
        rw [List.take_add_one, ex]; rfl
      refine hgb (wipe σ vs) Hk2 H'' v sgw g2.a dx _ fun σ' sg' hl' hk' => ⟨wipe_eq (by rw [hl', wipe_length]) hk', ?_⟩
      · refine htb σ' Hk2 H'' n sg' ok2 _ fun b' Hk3 H3 g3 o3 eb => ?_
        have hD3 : Hk3 D = none := g3.f D hD2 (by rw [hl2]; exact fun z => by cases z)
        have hl3 : H3 D = some (.lst ys) := g3.s D _ hDq hl2
        have hd3 := DqAll.mono g3.k _ _ hd2
        have gr3 := gr2.trans g3
        cases hb : b x with
        | true =>
          rw [hb] at eb
          subst eb
          refine iteT (hte hb σ' Hk3 H3 n (sg'.mono g3.k) o3 _ fun y w Hk4 H4 g4 o4 ey dw => ?_)
          subst ey
          have hD4 : Hk4 D = none := g4.f D hD3 (by rw [hl3]; exact fun z => by cases z)
          have hl4 : H4 D = some (.lst ys) := g4.s D _ hDq hl3
          have hd4 := DqAll.mono g4.k _ _ hd3
          refine ⟨ys, hl4, ?_, Hk4, ys ++ [w], (gr3.trans g4).put hD hD4, o4.cell hD4 hDq, hD4, upd_same, ?_⟩
          · rw [hd4.length, List.length_map]
            have z1 := List.length_filter_le b (xs.take i)
            rw [List.length_take] at z1
            have z2 := hz xs pi
            rw [sizeLine_eq]; omega
          · rw [hx, List.filter_append, List.map_append, List.filter_cons, if_pos hb]
            exact hd4.append (.cons dw .nil)
        | false =>
          rw [hb] at eb
          subst eb
          refine iteF ⟨Hk3, ys, gr3, o3, hD3, hl3, ?_⟩
          rw [hx, List.filter_append, List.map_append, List.filter_cons, if_neg (by rw [hb]; exact Bool.false_ne_true)]
          show DqAll Hk3 ys (_ ++ [])
          rw [List.append_nil]
          exact hd3
    · have e : i = items.length := by omega
      subst e
      refine .inl ⟨(wk _ Hk' H' gr.k ok.a).2 (Nat.le_refl _), ?_⟩
      rw [hlen, List.take_length] at hd
      have gf := gr.freeze hD hDn hl
      refine k _ _ _ _ (g0.trans gf) ⟨gf.a, fun p e => ?_, ok.j⟩ ⟨xs, pi, rfl⟩ (.lst upd_same (DqAll.mono (same_upd hDn) _ _ hd))
      rw [upd_ne (fun z => hDq (by rw [← z]; exact e))]
      exact ok.kf p e
theorem e_lc {α : Type} {emb : α → PyData} {wi : TI} {g : TG} {vs : List Nat} {xs : List α} (hw : IE q δ wi (xs.map emb)) (b : α → Bool) (f : α → PyData) (hz : xs.length ≤ 1000000)
    (he : ∀ x ∈ xs, ∃ δ', GB (wipeD δ vs) g (emb x) δ' vs ∧ TB q δ' tt (b x) ∧ (b x = true → E q δ' te (f x))) : E q δ (tLc wi g tt te vs) (.list ((xs.filter b).map f)) :=
  (j_lc (Ψ := fun ys => ys = xs) (fun σ H H1 n sg o R k => hw σ H H1 n sg o R fun items Jt Hk H2 g o' e w => k items Jt Hk H2 g o' ⟨xs, rfl, e⟩ w) b f (fun ys e => by rw [e]; exact hz) (fun ys e => by rw [e]; exact he)).imp fun d ⟨ys, e, r⟩ => by rw [r, e]
theorem e_lc1 {α : Type} {emb : α → PyData} {wi : TI} {g : TG} {vs : List Nat} {xs : List α} (hw : IE q δ wi (xs.map emb)) (f : α → PyData) (hz : xs.length ≤ 1000000)
    (he : ∀ x ∈ xs, ∃ δ', GB (wipeD δ vs) g (emb x) δ' vs ∧ E q δ' te (f x)) : E q δ (tLc wi g tYes te vs) (.list (xs.map f)) := by
  have h := e_lc (tt := tYes) hw (fun _ => true) f hz fun x hx => by
    obtain ⟨δ', a, b⟩ := he x hx
    exact ⟨δ', a, tb_yes, fun _ => b⟩
  rw [show xs.filter (fun _ => true) = xs from List.filter_eq_self.mpr fun _ _ => rfl] at h
  exact h
end
end Cr

set_option Elab.async false
set_option linter.all false
set_option maxRecDepth 100000
set_option maxHeartbeats 4000000
namespace Cr
open PySem PySem.Spec PyProof.Rows L2
section
variable {K : PySem.W.Frag} {q : Option Addr} {n : Nat} {δ δ' : List Sl} {te ta tb tc : TE} {tt tu : TT} {c c1 c2 c3 : Nat} {Φ Φ1 Φ2 Φ3 : PyData → Prop} {d d1 d2 : PyData} {wi : TI} {A0 B0 Hk H1 : Hp} {σ : L2.St} {D : Ends} {ts tz : TS} {g : TG}

/-! ### statements -/
theorem s_seq (h : ts { D with nx := tz D } σ H1) : tSeq ts tz D σ H1 := h
theorem s_asg {i : Nat} (h : J q δ te c Φ) (s : At q (n + c) δ A0 B0 σ Hk H1) (k : ∀ d σ' Hk' H2, Φ d → Gr q Hk H1 Hk' H2 → At q n (δ.set i (.dat d)) A0 B0 σ' Hk' H2 → D.nx σ' H2) : tAsg te (gName i) D σ H1 :=
  h σ Hk H1 n s.sg s.ok _ fun d v Hk' H2 g o p dv => k d _ Hk' H2 p g ⟨o, (s.sg.mono g.k).set i (s := .dat d) dv, s.gr.trans g⟩
theorem s_asgE {i : Nat} (h : E q δ te d) (s : At q n δ A0 B0 σ Hk H1) (k : ∀ σ' Hk' H2, Gr q Hk H1 Hk' H2 → At q n (δ.set i (.dat d)) A0 B0 σ' Hk' H2 → D.nx σ' H2) : tAsg te (gName i) D σ H1 :=
  s_asg (c := 0) h s fun d' σ' Hk' H2 e g a => by subst e; exact k σ' Hk' H2 g a
theorem s_drop (h : J q δ te c Φ) (s : At q (n + c) δ A0 B0 σ Hk H1) (k : ∀ Hk' H2, Gr q Hk H1 Hk' H2 → At q n δ A0 B0 σ Hk' H2 → D.nx σ H2) : tDrop te D σ H1 :=
  h σ Hk H1 n s.sg s.ok _ fun d v Hk' H2 g o p dv => k Hk' H2 g ⟨o, s.sg.mono g.k, s.gr.trans g⟩
/-- what the promise asks of the end -/
abbrev Fin (q : Option Addr) (n : Nat) (A0 B0 : Hp) (Φ : PyData → Prop) (Q : VK) : Prop := ∀ d v Hk' H2, Gr q A0 B0 Hk' H2 → Ok q n Hk' H2 → Φ d → Dq Hk' v d → Q v H2
theorem s_ret {m : Nat} (h : J q δ te c Φ) (s : At q m δ A0 B0 σ Hk H1) (hm : n + c ≤ m) (f : Fin q n A0 B0 Φ1 D.rt) (i : ∀ d, Φ d → Φ1 d) : tRet te D σ H1 :=
  h σ Hk H1 n s.sg (s.ok.mono hm) _ fun d v Hk' H2 g o p dv => f d v Hk' H2 (s.gr.trans g) o (i d p) dv
theorem s_retE {m : Nat} (h : E q δ te d) (s : At q m δ A0 B0 σ Hk H1) (hm : n ≤ m) (f : Fin q n A0 B0 Φ1 D.rt) (i : Φ1 d) : tRet te D σ H1 := s_ret (c := 0) h s hm f fun _ e => by rw [e]; exact i
/-- the end without a return -/
theorem s_end {m : Nat} {Q : VK} (s : At q m δ A0 B0 σ Hk H1) (hm : n ≤ m) (f : Fin q n A0 B0 Φ1 Q) (i : Φ1 .none) : Q .non H1 := f _ _ Hk H1 s.gr (s.ok.mono hm) i .non
theorem s_if {P : Bool → Prop} {t1 t2 : TS} (h : TJ q δ tt c P) (s : At q (n + c) δ A0 B0 σ Hk H1) (k1 : P true → ∀ Hk' H2, Gr q Hk H1 Hk' H2 → At q n δ A0 B0 σ Hk' H2 → t1 D σ H2) (k2 : P false → ∀ Hk' H2, Gr q Hk H1 Hk' H2 → At q n δ A0 B0 σ Hk' H2 → t2 D σ H2) : tIfS tt t1 t2 D σ H1 :=
  h σ Hk H1 n s.sg s.ok _ fun b Hk' H2 g o p => by
    cases b with
    | true => exact iteT (k1 p Hk' H2 g ⟨o, s.sg.mono g.k, s.gr.trans g⟩)
    | false => exact iteF (k2 p Hk' H2 g ⟨o, s.sg.mono g.k, s.gr.trans g⟩)
theorem s_ifB {b : Bool} {t1 t2 : TS} (h : TB q δ tt b) (s : At q n δ A0 B0 σ Hk H1) (k1 : b = true → ∀ Hk' H2, Gr q Hk H1 Hk' H2 → At q n δ A0 B0 σ Hk' H2 → t1 D σ H2) (k2 : b = false → ∀ Hk' H2, Gr q Hk H1 Hk' H2 → At q n δ A0 B0 σ Hk' H2 → t2 D σ H2) : tIfS tt t1 t2 D σ H1 :=
  s_if (c := 0) h s (fun e => k1 e.symm) (fun e => k2 e.symm)
/-- if it does not hold, nothing happens (a raise that is never reached) -/
theorem s_ifNo {t1 : TS} (h : TB q δ tt false) (s : At q n δ A0 B0 σ Hk H1) (k2 : ∀ Hk' H2, Gr q Hk H1 Hk' H2 → At q n δ A0 B0 σ Hk' H2 → D.nx σ H2) : tIfS tt t1 tNext D σ H1 :=
  s_ifB h s (fun e => by cases e) (fun _ Hk' H2 g a => k2 Hk' H2 g a)
/-- a, b = x, y -/
theorem s_par {i j : Nat} {ta : TA} {Ψ : PyData → PyData → Prop} (h : AJ q δ ta c (fun sls => ∃ a b, sls = [.dat a, .dat b] ∧ Ψ a b)) (s : At q (n + c) δ A0 B0 σ Hk H1)
    (k : ∀ a b σ' Hk' H2, Ψ a b → Gr q Hk H1 Hk' H2 → At q n ((δ.set i (.dat a)).set j (.dat b)) A0 B0 σ' Hk' H2 → D.nx σ' H2) : tPar i j ta D σ H1 :=
  h σ Hk H1 n s.sg s.ok _ fun sls vs Hk' H2 g o ⟨a, b, e, p⟩ hv => by
    subst e
    obtain ⟨x, y, rfl, dx, dy⟩ := (VS.dats (ds := [a, b]) hv).two
    exact ⟨x, y, rfl, k a b _ Hk' H2 p g ⟨o, ((s.sg.mono g.k).set i (s := .dat a) dx).set j (s := .dat b) dy, s.gr.trans g⟩⟩
/-! ### loops -/
theorem s_for {tb : TS} {Ψ : List PyData → Prop} (hw : IJ q δ wi c Ψ) (s : At q (n + c) δ A0 B0 σ Hk H1)
    (k : ∀ items HkW H2, Ψ items → Gr q Hk H1 HkW H2 → At q n δ A0 B0 σ HkW H2 → ∃ P : Nat → L2.St → Hp → Hp → Prop, P 0 σ HkW H2 ∧ (∀ i σ' Hk' H', P i σ' Hk' H' → Same HkW Hk' ∧ Same Hk' H') ∧
      (∀ i d σ' Hk' H', items[i]? = some d → P i σ' Hk' H' → ∀ v Hk2 H2', Gr none Hk' H' Hk2 H2' → Dq Hk2 v d → g v σ' H2' fun σ2 H3 => tb { D with nx := fun σ3 H4 => ∃ Hk3, P (i + 1) σ3 Hk3 H4, ct := fun σ3 H4 => ∃ Hk3, P (i + 1) σ3 Hk3 H4, bk := D.nx } σ2 H3) ∧
      (∀ σ' Hk' H', P items.length σ' Hk' H' → D.nx σ' H')) : tFor wi g tb D σ H1 :=
  hw σ Hk H1 n s.sg s.ok _ fun items Jt HkW H2 g0 o0 pi wk => by
    obtain ⟨P, p0, ps, pt, pe⟩ := k items HkW H2 pi g0 ⟨o0, s.sg.mono g0.k, s.gr.trans g0⟩
    refine ⟨fun i m σ' H' => m = items.length - i ∧ i ≤ items.length ∧ ∃ Hk', P i σ' Hk' H', ⟨items.length, by simp, Nat.zero_le _, HkW, p0⟩, ?_⟩
    rintro i m σ' H' ⟨rfl, hi, Hk', p⟩
    obtain ⟨s1, s2⟩ := ps i σ' Hk' H' p
    by_cases hlt : i < items.length
    · obtain ⟨go, yl⟩ := (wk i Hk' H' s1 s2).1 hlt
      refine .inr ⟨go, fun σ3 H4 => ∃ Hk3, P (i + 1) σ3 Hk3 H4, fun σ3 H4 p => ⟨items.length - (i + 1), by omega, rfl, hlt, p⟩, fun v H'' y => ?_⟩
      obtain ⟨Hk2, g2, d, ed, dv⟩ := yl v H'' y
      exact pt i d σ' Hk' H' ed p v Hk2 H'' g2 dv
    · have e : i = items.length := by omega
      subst e
      exact .inl ⟨(wk _ Hk' H' s1 s2).2 (Nat.le_refl _), pe σ' Hk' H' p⟩
end

/-! ### the same with something behind -/
section
variable {K : PySem.W.Frag} {q : Option Addr} {n : Nat} {δ δ' : List Sl} {te ta tb tc : TE} {tt tu : TT} {c c1 c2 c3 : Nat} {Φ Φ1 Φ2 Φ3 : PyData → Prop} {d d1 d2 : PyData} {wi : TI} {A0 B0 Hk H1 : Hp} {σ : L2.St} {D : Ends} {ts tz : TS} {g : TG}
theorem q_asg {i : Nat} (h : J q δ te c Φ) (s : At q (n + c) δ A0 B0 σ Hk H1) (k : ∀ d σ' Hk' H2, Φ d → Gr q Hk H1 Hk' H2 → At q n (δ.set i (.dat d)) A0 B0 σ' Hk' H2 → tz D σ' H2) : tSeq (tAsg te (gName i)) tz D σ H1 := s_asg (D := { D with nx := tz D }) h s k
theorem q_asgE {i : Nat} (h : E q δ te d) (s : At q n δ A0 B0 σ Hk H1) (k : ∀ σ' Hk' H2, Gr q Hk H1 Hk' H2 → At q n (δ.set i (.dat d)) A0 B0 σ' Hk' H2 → tz D σ' H2) : tSeq (tAsg te (gName i)) tz D σ H1 := s_asgE (D := { D with nx := tz D }) h s k
theorem q_asgX {i : Nat} (h : E q δ te d) (s : At q n δ A0 B0 σ Hk H1) (k : ∀ v Hk' H2, Gr q Hk H1 Hk' H2 → At q n (δ.set i (.dat d)) A0 B0 (σ.set i (some v)) Hk' H2 → Dq Hk' v d → tz D (σ.set i (some v)) H2) : tSeq (tAsg te (gName i)) tz D σ H1 :=
  h σ Hk H1 n s.sg s.ok _ fun d' v Hk' H2 g o p dv => by
    subst p
    exact k v Hk' H2 g ⟨o, (s.sg.mono g.k).set i (s := .dat d') dv, s.gr.trans g⟩ dv
theorem q_drop (h : J q δ te c Φ) (s : At q (n + c) δ A0 B0 σ Hk H1) (k : ∀ Hk' H2, Gr q Hk H1 Hk' H2 → At q n δ A0 B0 σ Hk' H2 → tz D σ H2) : tSeq (tDrop te) tz D σ H1 := s_drop (D := { D with nx := tz D }) h s k
theorem q_if {P : Bool → Prop} {t1 t2 : TS} (h : TJ q δ tt c P) (s : At q (n + c) δ A0 B0 σ Hk H1) (k1 : P true → ∀ Hk' H2, Gr q Hk H1 Hk' H2 → At q n δ A0 B0 σ Hk' H2 → t1 { D with nx := tz D } σ H2) (k2 : P false → ∀ Hk' H2, Gr q Hk H1 Hk' H2 → At q n δ A0 B0 σ Hk' H2 → t2 { D with nx := tz D } σ H2) : tSeq (tIfS tt t1 t2) tz D σ H1 := s_if (D := { D with nx := tz D }) h s k1 k2
theorem q_when {P : Bool → Prop} {t1 : TS} (h : TJ q δ tt c P) (s : At q (n + c) δ A0 B0 σ Hk H1) (k1 : P true → ∀ Hk' H2, Gr q Hk H1 Hk' H2 → At q n δ A0 B0 σ Hk' H2 → t1 { D with nx := tz D } σ H2) (k2 : P false → ∀ Hk' H2, Gr q Hk H1 Hk' H2 → At q n δ A0 B0 σ Hk' H2 → tz D σ H2) : tSeq (tIfS tt t1 tNext) tz D σ H1 := s_if (D := { D with nx := tz D }) h s k1 k2
theorem q_whenB {b : Bool} {t1 : TS} (h : TB q δ tt b) (s : At q n δ A0 B0 σ Hk H1) (k1 : b = true → ∀ Hk' H2, Gr q Hk H1 Hk' H2 → At q n δ A0 B0 σ Hk' H2 → t1 { D with nx := tz D } σ H2) (k2 : b = false → ∀ Hk' H2, Gr q Hk H1 Hk' H2 → At q n δ A0 B0 σ Hk' H2 → tz D σ H2) : tSeq (tIfS tt t1 tNext) tz D σ H1 := s_ifB (D := { D with nx := tz D }) h s k1 k2
theorem q_ifNo {t1 : TS} (h : TB q δ tt false) (s : At q n δ A0 B0 σ Hk H1) (k2 : ∀ Hk' H2, Gr q Hk H1 Hk' H2 → At q n δ A0 B0 σ Hk' H2 → tz D σ H2) : tSeq (tIfS tt t1 tNext) tz D σ H1 := s_ifNo (D := { D with nx := tz D }) h s k2
/-- a test that costs and does not hold -/
theorem q_ifNoJ {t1 : TS} (h : TJ q δ tt c (fun b => b = false)) (s : At q (n + c) δ A0 B0 σ Hk H1) (k2 : ∀ Hk' H2, Gr q Hk H1 Hk' H2 → At q n δ A0 B0 σ Hk' H2 → tz D σ H2) : tSeq (tIfS tt t1 tNext) tz D σ H1 :=
  s_if (D := { D with nx := tz D }) h s (fun e => by cases e) fun _ Hk' H2 g a => k2 Hk' H2 g a
theorem s_ifNoJ {t1 : TS} (h : TJ q δ tt c (fun b => b = false)) (s : At q (n + c) δ A0 B0 σ Hk H1) (k2 : ∀ Hk' H2, Gr q Hk H1 Hk' H2 → At q n δ A0 B0 σ Hk' H2 → D.nx σ H2) : tIfS tt t1 tNext D σ H1 :=
  s_if h s (fun e => by cases e) fun _ Hk' H2 g a => k2 Hk' H2 g a
theorem q_par {i j : Nat} {ta : TA} {Ψ : PyData → PyData → Prop} (h : AJ q δ ta c (fun sls => ∃ a b, sls = [.dat a, .dat b] ∧ Ψ a b)) (s : At q (n + c) δ A0 B0 σ Hk H1)
    (k : ∀ a b σ' Hk' H2, Ψ a b → Gr q Hk H1 Hk' H2 → At q n ((δ.set i (.dat a)).set j (.dat b)) A0 B0 σ' Hk' H2 → tz D σ' H2) : tSeq (tPar i j ta) tz D σ H1 := s_par (D := { D with nx := tz D }) h s k
theorem q_for {tb : TS} {Ψ : List PyData → Prop} (hw : IJ q δ wi c Ψ) (s : At q (n + c) δ A0 B0 σ Hk H1)
    (k : ∀ items HkW H2, Ψ items → Gr q Hk H1 HkW H2 → At q n δ A0 B0 σ HkW H2 → ∃ P : Nat → L2.St → Hp → Hp → Prop, P 0 σ HkW H2 ∧ (∀ i σ' Hk' H', P i σ' Hk' H' → Same HkW Hk' ∧ Same Hk' H') ∧
      (∀ i d σ' Hk' H', items[i]? = some d → P i σ' Hk' H' → ∀ v Hk2 H2', Gr none Hk' H' Hk2 H2' → Dq Hk2 v d → g v σ' H2' fun σ2 H3 => tb { D with nx := fun σ3 H4 => ∃ Hk3, P (i + 1) σ3 Hk3 H4, ct := fun σ3 H4 => ∃ Hk3, P (i + 1) σ3 Hk3 H4, bk := tz D } σ2 H3) ∧
      (∀ σ' Hk' H', P items.length σ' Hk' H' → tz D σ' H')) : tSeq (tFor wi g tb) tz D σ H1 := s_for (D := { D with nx := tz D }) hw s k
end

/-! ### a def -/
theorem start_sg {H : Hp} {N : List Str} {vs : List V} {sls : List Sl} (h : VS H vs sls) (hl : vs.length ≤ N.length) : Sg H (L2.start N vs) (sls ++ List.replicate (N.length - sls.length) .any) := by
  have hl1 := h.1
  refine ⟨by unfold L2.start; simp [hl1], fun i s e ne => ?_⟩
  by_cases hi : i < sls.length
  · rw [List.getElem?_append_left hi] at e
    obtain ⟨v, a, b⟩ := h.2 i s e
    refine ⟨v, ?_, b⟩
    unfold L2.start
    rw [List.getElem?_append_left (by rw [List.length_map]; omega), List.getElem?_map, a]; rfl
  · rw [List.getElem?_append_right (by omega)] at e
    have := List.eq_of_mem_replicate (List.mem_of_getElem? e)
    exact absurd this ne
section
variable {P : Program} {w : World} {K : PySem.W.Frag} {mg : Str → Option Value} {base : Heap}
theorem fn_ok {x qual : Str} {st : Stmt} {f : Addr} {fd : FuncData} {N ps : List Str} {k : Nat} {R : RelX} (F : Fun K x qual st f fd) (S : FnScope N ps (defScope st)) (hN : ps.length ≤ N.length) (len : ∀ q sls c Φ, R q sls c Φ → sls.length = ps.length)
    (body : ∀ (cdv : Value) (A : Around) (outer : List Env) (s : Shared) (B0 : Hp) (E : XK), Room k (A.deeper (envOfC qual (defScope st) s.heap.objs.size f cdv)) →
      ∃ t, PSs (cxOf CX0 P w K mg base N qual (defScope st) f cdv A outer s B0 E).nox (defBody st) t ∧
        ∀ (q : Option Addr) (sls : List Sl) (n c : Nat) (Φ : PyData → Prop) (A0 : Hp) (σ : L2.St) (Q : VK), R q sls c Φ → At q (n + c) (sls ++ List.replicate (N.length - sls.length) .any) A0 B0 σ A0 B0 → Fin q n A0 B0 Φ Q → t { nx := fun _ H' => Q .non H', rt := Q } σ B0) :
    FnOk P w K mg base CX0 (k + 1) f fd ps (spX R) := by
  refine F.ok S (fun vs H Q E h => ?_) (fun cdv A outer s H vs Q E hr h => ?_)
  · obtain ⟨q, Hk, sls, n, c, Φ, o, hv, r, _⟩ := h
    rw [hv.1]; exact len q sls c Φ r
  · obtain ⟨q, Hk, sls, n, c, Φ, o, hv, r, fin⟩ := h
    obtain ⟨t, ht, hq⟩ := body cdv A outer s H E hr
    refine ⟨t, ht, hq q sls n c Φ Hk (L2.start N vs) Q r ⟨o, start_sg hv (by rw [hv.1, len q sls c Φ r]; exact hN), Gr.refl o.a⟩ fin⟩
end
end Cr

set_option linter.all false
set_option maxHeartbeats 4000000
namespace Cr
open PySem PySem.Spec PyProof.Rows L2
def isIntD : PyData → Bool
  | .int _ => true
  | _ => false
def isiInt : PyData → Bool
  | .int _ => true
  | .bool _ => true
  | _ => false
def isiBool : PyData → Bool
  | .bool _ => true
  | _ => false
def isiTup : PyData → Bool
  | .tuple _ => true
  | _ => false
def isiLst : PyData → Bool
  | .list _ => true
  | _ => false
theorem kit_int (d : PyData) : kitB (tyN d) "int" = some (isiInt d) := by
  cases d with
  | none => exact (by decide +kernel : kitB "NoneType" "int" = some false)
  | bool _ => exact (by decide +kernel : kitB "bool" "int" = some true)
  | int _ => exact (by decide +kernel : kitB "int" "int" = some true)
  | str _ => exact (by decide +kernel : kitB "str" "int" = some false)
  | list _ => exact (by decide +kernel : kitB "list" "int" = some false)
  | tuple _ => exact (by decide +kernel : kitB "tuple" "int" = some false)
  | dict _ => exact (by decide +kernel : kitB "dict" "int" = some false)

theorem kit_bool (d : PyData) : kitB (tyN d) "bool" = some (isiBool d) := by
  cases d with
  | none => exact (by decide +kernel : kitB "NoneType" "bool" = some false)
  | bool _ => exact (by decide +kernel : kitB "bool" "bool" = some true)
  | int _ => exact (by decide +kernel : kitB "int" "bool" = some false)
  | str _ => exact (by decide +kernel : kitB "str" "bool" = some false)
  | list _ => exact (by decide +kernel : kitB "list" "bool" = some false)
  | tuple _ => exact (by decide +kernel : kitB "tuple" "bool" = some false)
  | dict _ => exact (by decide +kernel : kitB "dict" "bool" = some false)

theorem kit_tuple (d : PyData) : kitB (tyN d) "tuple" = some (isiTup d) := by
  cases d with
  | none => exact (by decide +kernel : kitB "NoneType" "tuple" = some false)
  | bool _ => exact (by decide +kernel : kitB "bool" "tuple" = some false)
  | int _ => exact (by decide +kernel : kitB "int" "tuple" = some false)
  | str _ => exact (by decide +kernel : kitB "str" "tuple" = some false)
  | list _ => exact (by decide +kernel : kitB "list" "tuple" = some false)
  | tuple _ => exact (by decide +kernel : kitB "tuple" "tuple" = some true)
  | dict _ => exact (by decide +kernel : kitB "dict" "tuple" = some false)

theorem kit_list (d : PyData) : kitB (tyN d) "list" = some (isiLst d) := by
  cases d with
  | none => exact (by decide +kernel : kitB "NoneType" "list" = some false)
  | bool _ => exact (by decide +kernel : kitB "bool" "list" = some false)
  | int _ => exact (by decide +kernel : kitB "int" "list" = some false)
  | str _ => exact (by decide +kernel : kitB "str" "list" = some false)
  | list _ => exact (by decide +kernel : kitB "list" "list" = some true)
  | tuple _ => exact (by decide +kernel : kitB "tuple" "list" = some false)
  | dict _ => exact (by decide +kernel : kitB "dict" "list" = some false)

theorem isInt_eq (d : PyData) : (isiInt d && !isiBool d) = isIntD d := by cases d <;> rfl

/-! ### ledgers -/
def pr (x : Int × Int) : PyData := .tuple [.int x.1, .int x.2]
def pd (l : List (Int × Int)) : List PyData := l.map pr
def led (l : List (Int × Int)) : PyData := .tuple (pd l)
def Led (l : List (Int × Int)) : Prop := l.Pairwise (fun a b => a.1 < b.1) ∧ ∀ x ∈ l, x.2 ≠ 0
theorem pd_len (l : List (Int × Int)) : (pd l).length = l.length := List.length_map ..
def tot : List (Int × Int) → Int → Int
  | [], _ => 0
  | x :: r, k => (if x.1 = k then x.2 else 0) + tot r k
theorem tot_append (a b : List (Int × Int)) (k : Int) : tot (a ++ b) k = tot a k + tot b k := by
  induction a with
  | nil => show tot b k = 0 + tot b k; omega
  | cons x r ih => show (if x.1 = k then x.2 else 0) + tot (r ++ b) k = ((if x.1 = k then x.2 else 0) + tot r k) + tot b k; rw [ih]; omega
theorem tot_no {l : List (Int × Int)} {k : Int} (h : k ∉ l.map (·.1)) : tot l k = 0 := by
  induction l with
  | nil => rfl
  | cons x r ih =>
    rw [List.map_cons, List.mem_cons, not_or] at h
    show (if x.1 = k then x.2 else 0) + tot r k = 0
    rw [if_neg (fun e => h.1 e.symm), ih h.2]; rfl
theorem tot_mem {l : List (Int × Int)} {k : Int} (h : tot l k ≠ 0) : k ∈ l.map (·.1) := by
  by_cases hk : k ∈ l.map (·.1)
  · exact hk
  · exact absurd (tot_no hk) h
/-- sorted, each once -/
def insK (k : Int) : List Int → List Int
  | [] => [k]
  | a :: r => if k < a then k :: a :: r else if k = a then a :: r else a :: insK k r
def usort (l : List Int) : List Int := l.foldr insK []
theorem insK_mem (k x : Int) : ∀ l : List Int, x ∈ insK k l ↔ x = k ∨ x ∈ l
  | [] => by simp [insK]
  | a :: r => by
    unfold insK
    split
    · simp
    · split
      · rename_i h1 h2; subst h2; simp
      · rw [List.mem_cons, insK_mem k x r, List.mem_cons]
        constructor
        · rintro (h | h | h) <;> simp [h]
        · rintro (h | h | h) <;> simp [h]
theorem insK_sorted (k : Int) : ∀ {l : List Int}, l.Pairwise (· < ·) → (insK k l).Pairwise (· < ·)
  | [], _ => by simp [insK]
  | a :: r, h => by
    unfold insK
    obtain ⟨h1, h2⟩ := List.pairwise_cons.mp h
    split
    · rename_i hk
      refine List.pairwise_cons.mpr ⟨fun b hb => ?_, h⟩
      rcases List.mem_cons.mp hb with e | hb
      · rw [e]; exact hk
      · exact Int.lt_trans hk (h1 b hb)
    · split
      · exact h
      · rename_i h3 h4
        refine List.pairwise_cons.mpr ⟨fun b hb => ?_, insK_sorted k h2⟩
        rcases (insK_mem k b r).mp hb with e | hb
        · subst e; omega
        · exact h1 b hb
theorem usort_mem (x : Int) : ∀ l : List Int, x ∈ usort l ↔ x ∈ l
  | [] => by simp [usort]
  | a :: r => by
    show x ∈ insK a (usort r) ↔ _
    rw [insK_mem, usort_mem x r, List.mem_cons]
theorem usort_sorted : ∀ l : List Int, (usort l).Pairwise (· < ·)
  | [] => by simp [usort]
  | a :: r => insK_sorted a (usort_sorted r)
/-- two rising lists with the same members are one -/
theorem rising_eq {α : Type} {f : α → Int} : ∀ {l m : List α}, l.Pairwise (fun a b => f a < f b) → m.Pairwise (fun a b => f a < f b) → (∀ x, x ∈ l ↔ x ∈ m) → l = m
  | [], [], _, _, _ => rfl
  | [], b :: m, _, _, h => by have := (h b).mpr List.mem_cons_self; cases this
  | a :: l, [], _, _, h => by have := (h a).mp List.mem_cons_self; cases this
  | a :: l, b :: m, h1, h2, h => by
    obtain ⟨p1, p2⟩ := List.pairwise_cons.mp h1
    obtain ⟨q1, q2⟩ := List.pairwise_cons.mp h2
    have e : a = b := by
      rcases List.mem_cons.mp ((h a).mp List.mem_cons_self) with e | ha
      · exact e
      · rcases List.mem_cons.mp ((h b).mpr List.mem_cons_self) with e | hb
        · exact e.symm
        · have := q1 a ha; have := p1 b hb; omega
    subst e
    refine congrArg (a :: ·) (rising_eq p2 q2 fun x => ⟨fun hx => ?_, fun hx => ?_⟩)
    · rcases List.mem_cons.mp ((h x).mp (List.mem_cons_of_mem _ hx)) with e | hx'
      · subst e; have := p1 x hx; omega
      · exact hx'
    · rcases List.mem_cons.mp ((h x).mpr (List.mem_cons_of_mem _ hx)) with e | hx'
      · subst e; have := q1 x hx; omega
      · exact hx'
def gather (cs : List (Int × Int)) : List (Int × Int) := ((usort (cs.map (·.1))).filter (fun k => tot cs k != 0)).map (fun k => (k, tot cs k))
theorem gather_mem (cs : List (Int × Int)) (x : Int × Int) : x ∈ gather cs ↔ x.2 = tot cs x.1 ∧ x.2 ≠ 0 := by
  unfold gather
  rw [List.mem_map]
  constructor
  · rintro ⟨k, hk, rfl⟩
    have := (List.mem_filter.mp hk).2
    exact ⟨rfl, by simpa using this⟩
  · rintro ⟨h1, h2⟩
    refine ⟨x.1, List.mem_filter.mpr ⟨(usort_mem _ _).mpr (tot_mem (by rw [← h1]; exact h2)), ?_⟩, by rw [← h1]⟩
    rw [← h1]; simpa using h2
theorem gather_rising (cs : List (Int × Int)) : (gather cs).Pairwise (fun a b => a.1 < b.1) := by
  unfold gather
  rw [List.pairwise_map]
  exact (usort_sorted _).filter _
theorem gather_led (cs : List (Int × Int)) : Led (gather cs) := ⟨gather_rising cs, fun x hx => ((gather_mem cs x).mp hx).2⟩
theorem tot_led {l : List (Int × Int)} (h : l.Pairwise (fun a b => a.1 < b.1)) : ∀ x ∈ l, tot l x.1 = x.2 := by
  induction l with
  | nil => intro x hx; cases hx
  | cons a r ih =>
    obtain ⟨h1, h2⟩ := List.pairwise_cons.mp h
    intro x hx
    show (if a.1 = x.1 then a.2 else 0) + tot r x.1 = x.2
    rcases List.mem_cons.mp hx with e | hx
    · subst e
      rw [if_pos rfl, tot_no]
      · omega
      · intro hm
        obtain ⟨y, hy, ey⟩ := List.mem_map.mp hm
        have := h1 y hy; omega
    · rw [if_neg (by have := h1 x hx; omega), ih h2 x hx]; omega
theorem gather_ext {cs ds : List (Int × Int)} (h : ∀ k, tot cs k = tot ds k) : gather cs = gather ds := rising_eq (f := (·.1)) (gather_rising _) (gather_rising _) fun x => by rw [gather_mem, gather_mem, h]
theorem gather_self {l : List (Int × Int)} (h : Led l) : gather l = l := rising_eq (f := (·.1)) (gather_rising _) h.1 fun x => by
  rw [gather_mem]
  constructor
  · rintro ⟨h1, h2⟩
    have hm := tot_mem (l := l) (k := x.1) (by rw [← h1]; exact h2)
    obtain ⟨y, hy, ey⟩ := List.mem_map.mp hm
    have e2 := tot_led h.1 y hy
    rw [ey, ← h1] at e2
    have : x = y := Prod.ext ey.symm e2
    rw [this]; exact hy
  · intro hx
    exact ⟨(tot_led h.1 x hx).symm, h.2 x hx⟩
theorem tot_gather (cs : List (Int × Int)) (k : Int) : tot (gather cs) k = tot cs k := by
  by_cases hk : tot cs k = 0
  · rw [hk]
    refine tot_no fun hm => ?_
    obtain ⟨y, hy, ey⟩ := List.mem_map.mp hm
    have := (gather_mem cs y).mp hy
    rw [ey] at this
    exact this.2 (by rw [this.1, hk])
  · have hm : (k, tot cs k) ∈ gather cs := (gather_mem cs _).mpr ⟨rfl, hk⟩
    exact tot_led (gather_rising cs) _ hm
theorem gather_len (cs : List (Int × Int)) : (gather cs).length ≤ cs.length := by
  have h1 : ∀ l : List Int, (usort l).length ≤ l.length := fun l => by
    induction l with
    | nil => simp [usort]
    | cons a r ih =>
      have h2 : ∀ (k : Int) (m : List Int), (insK k m).length ≤ m.length + 1 := fun k m => by
        induction m with
        | nil => simp [insK]
        | cons b m ih2 =>
          unfold insK
          split
          · simp
          · split
            · simp
            · simp; exact ih2
      have := h2 a (usort r)
      show (insK a (usort r)).length ≤ r.length + 1
      omega
  unfold gather
  rw [List.length_map]
  exact Nat.le_trans (List.length_filter_le ..) (by have := h1 (cs.map (·.1)); rw [List.length_map] at this; exact this)
/-! ### the dict that is filled -/
def getI (m : List (Int × Int)) (k : Int) : Option Int := (m.find? fun x => decide (x.1 = k)).map (·.2)
def putI (m : List (Int × Int)) (k v : Int) : List (Int × Int) := if (m.any fun x => decide (x.1 = k)) = true then m.map (fun x => if x.1 = k then (x.1, v) else x) else m ++ [(k, v)]
def addI (m : List (Int × Int)) (x : Int × Int) : List (Int × Int) := putI m x.1 ((getI m x.1).getD 0 + x.2)
theorem inl_dec (a b : Int) : decide ((Sum.inl a : Key) = Sum.inl b) = decide (a = b) := by
  by_cases h : a = b
  · subst h; simp
  · rw [decide_eq_false h, decide_eq_false (fun e => h (Sum.inl.inj e))]
theorem mdict_val (m : List (Int × Int)) (k : Int) : valV (mdict m) (Sum.inl k) = (getI m k).map V.int := by
  unfold valV getI mdict
  rw [List.find?_map]
  have : (fun kv : Key × V => decide (kv.1 = Sum.inl k)) ∘ (fun x : Int × Int => ((Sum.inl x.1 : Key), V.int x.2)) = fun x => decide (x.1 = k) := by
    funext x; exact inl_dec x.1 k
  rw [this]
  cases m.find? (fun x => decide (x.1 = k)) <;> rfl
theorem mdict_put (m : List (Int × Int)) (k v : Int) : putK (mdict m) (Sum.inl k) (.int v) = mdict (putI m k v) := by
  unfold putK putI mdict
  rw [List.any_map]
  have : (fun kv : Key × V => decide (kv.1 = Sum.inl k)) ∘ (fun x : Int × Int => ((Sum.inl x.1 : Key), V.int x.2)) = fun x => decide (x.1 = k) := by
    funext x; exact inl_dec x.1 k
  rw [this]
  by_cases h : (m.any fun x => decide (x.1 = k)) = true
  · rw [if_pos h, if_pos h, List.map_map, List.map_map]
    refine List.map_congr_left fun x _ => ?_
    show (if (Sum.inl x.1 : Key) = Sum.inl k then _ else _) = _
    by_cases e : x.1 = k
    · rw [if_pos (by rw [e])]; show _ = ((Sum.inl (if x.1 = k then (x.1, v) else x).1 : Key), V.int (if x.1 = k then (x.1, v) else x).2); rw [if_pos e]
    · rw [if_neg (fun z => e (Sum.inl.inj z))]; show _ = ((Sum.inl (if x.1 = k then (x.1, v) else x).1 : Key), V.int (if x.1 = k then (x.1, v) else x).2); rw [if_neg e]
  · rw [if_neg h, if_neg h, List.map_append]; rfl
theorem getI_none {m : List (Int × Int)} {k : Int} : getI m k = none ↔ k ∉ m.map (·.1) := by
  unfold getI
  rw [Option.map_eq_none_iff, List.find?_eq_none]
  constructor
  · intro h hm
    obtain ⟨y, hy, e⟩ := List.mem_map.mp hm
    exact h y hy (decide_eq_true e)
  · intro h x hx e
    exact h (List.mem_map.mpr ⟨x, hx, of_decide_eq_true e⟩)
theorem any_mem {m : List (Int × Int)} {k : Int} : (m.any fun x => decide (x.1 = k)) = true ↔ k ∈ m.map (·.1) := by simp
theorem putI_keys (m : List (Int × Int)) (k v : Int) : (putI m k v).map (·.1) = if k ∈ m.map (·.1) then m.map (·.1) else m.map (·.1) ++ [k] := by
  unfold putI
  by_cases h : k ∈ m.map (·.1)
  · rw [if_pos (any_mem.mpr h), if_pos h, List.map_map]
    refine List.map_congr_left fun x _ => ?_
    show (if x.1 = k then (x.1, v) else x).1 = x.1
    split <;> rfl
  · rw [if_neg (fun z => h (any_mem.mp z)), if_neg h, List.map_append]; rfl
theorem putI_get (m : List (Int × Int)) (k v j : Int) : getI (putI m k v) j = if j = k then some v else getI m j := by
  have h := valV_put (mdict m) (Sum.inl k : Key) (Sum.inl j) (.int v)
  rw [mdict_put, mdict_val] at h
  have inj : ∀ a b : Option Int, a.map V.int = b.map V.int → a = b := fun a b e => by
    cases a <;> cases b <;> first | rfl | (simp at e; done) | (simp at e; exact congrArg some e)
  refine inj _ _ (h.trans ?_)
  by_cases e : j = k
  · rw [if_pos e, if_pos (by rw [e])]; rfl
  · rw [if_neg e, if_neg (fun z => e (Sum.inl.inj z)), mdict_val]
structure DictOf (p : List (Int × Int)) (m : List (Int × Int)) : Prop where
  nd : (m.map (·.1)).Nodup
  mem : ∀ k, k ∈ m.map (·.1) ↔ k ∈ p.map (·.1)
  get : ∀ k, k ∈ p.map (·.1) → getI m k = some (tot p k)
  len : m.length ≤ p.length
theorem DictOf.nil : DictOf [] [] := ⟨by simp, by simp, by simp, by simp⟩
theorem DictOf.add {p m : List (Int × Int)} (h : DictOf p m) (x : Int × Int) : DictOf (p ++ [x]) (addI m x) := by
  have key : ∀ k, k ∈ (p ++ [x]).map (·.1) ↔ k ∈ p.map (·.1) ∨ k = x.1 := fun k => by simp
  have tt : ∀ k, tot (p ++ [x]) k = tot p k + if x.1 = k then x.2 else 0 := fun k => by
    rw [tot_append]; show _ + ((if x.1 = k then x.2 else 0) + 0) = _; omega
  have gv : (getI m x.1).getD 0 = tot p x.1 := by
    by_cases hx : x.1 ∈ p.map (·.1)
    · rw [h.get _ hx]; rfl
    · rw [getI_none.mpr (fun z => hx ((h.mem _).mp z)), tot_no hx]; rfl
  unfold addI
  refine ⟨?_, fun k => ?_, fun k hk => ?_, ?_⟩
  · rw [putI_keys]
    split
    · exact h.nd
    · rename_i hn
      exact List.nodup_append.mpr ⟨h.nd, by simp, fun a ha b hb => by simp at hb; subst hb; exact fun e => hn (e ▸ ha)⟩
  · rw [putI_keys, key]
    split
    · rename_i hm
      rw [h.mem]
      exact ⟨.inl, fun z => z.elim id fun e => by rw [e]; exact (h.mem _).mp hm⟩
    · rw [List.mem_append, h.mem]; simp
  · rw [putI_get, tt, gv]
    by_cases e : k = x.1
    · rw [if_pos e, if_pos e.symm, e]
    · rw [if_neg e, if_neg (fun z => e z.symm), h.get k (((key k).mp hk).resolve_right e)]
      simp
  · have e := congrArg List.length (putI_keys m x.1 ((getI m x.1).getD 0 + x.2))
    rw [List.length_map] at e
    rw [e, List.length_append]
    have := h.len
    split
    · rw [List.length_map]; simp; omega
    · rw [List.length_append, List.length_map]; simp; omega
theorem sorted_keys {p m : List (Int × Int)} (h : DictOf p m) {ks : List Int} (hp : ks.Perm (m.map (·.1))) (hs : ks.Pairwise (· ≤ ·)) : ks = usort (p.map (·.1)) := by
  have nd : ks.Nodup := hp.nodup_iff.mpr h.nd
  have st : ks.Pairwise (· < ·) := (hs.and nd).imp fun {a b} z => by have := z.1; have := z.2; omega
  refine rising_eq (f := id) st (usort_sorted _) fun x => ?_
  rw [hp.mem_iff, usort_mem, h.mem]
end Cr

set_option Elab.async false
set_option linter.all false
set_option maxRecDepth 100000
set_option maxHeartbeats 4000000
namespace Cr
open PySem PySem.Spec PyProof.Rows L2
section
variable {K : PySem.W.Frag} {q : Option Addr} {n : Nat} {δ δ' : List Sl} {te ta tb tc tk : TE} {tt tu : TT} {c c1 c2 c3 : Nat} {Φ Φ1 Φ2 Φ3 : PyData → Prop} {d d1 d2 : PyData} {wi : TI} {A0 B0 Hk H1 : Hp} {σ : L2.St} {D : Ends} {ts tz : TS} {g : TG}
/-- low <= key < high -/
theorem e_chainI {g g' : Int → Int → Bool} {i j k : Int} (ha : E q δ ta (.int i)) (hb : E q δ tb (.int j)) (hc : g i j = true → E q δ tc (.int k)) :
    E q δ (tChain (rI0 fun i j => .bl (g i j)) (rI0 fun i j => .bl (g' i j)) ta tb tc) (.bool (g i j && g' j k)) := fun σ H H1 n sg o Q kk =>
  ha σ H H1 n sg o _ fun d v Hk H2 g1 o1 e dv => hb σ Hk H2 n (sg.mono g1.k) o1 _ fun d' v' Hk' H3 g2 o2 e' dv' => by
    subst e; subst e'
    rw [dv.intOf, dv'.intOf]
    refine ⟨i, j, rfl, rfl, g i j, rfl, ?_⟩
    cases hg : g i j with
    | true =>
      refine iteT (hc hg σ Hk' H3 n (sg.mono (g1.k.trans g2.k)) o2 _ fun d2 v2 Hk2 H4 g3 o3 e2 dv2 => ?_)
      subst e2
      rw [dv2.intOf]
      exact ⟨j, k, rfl, rfl, kk _ _ Hk2 H4 ((g1.trans g2).trans g3) o3 (by rw [hg, Bool.true_and]) (.bl _)⟩
    | false => exact iteF (kk (.bool false) _ Hk' H3 (g1.trans g2) o2 (by rw [hg, Bool.false_and]) (.bl _))
/-! ### dicts of ints -/
theorem e_dget {i : Nat} {m : List (Int × Int)} {k v : Int} (hi : δ[i]? = some (.dic m)) (hk : E q δ tk (.int k)) (hv : getI m k = some v) : E q δ (tDGet (tVar i) tk) (.int v) := fun σ H H1 n sg o Q kk => by
  obtain ⟨x, a, p, rfl, hp⟩ := sg.2 i _ hi (fun z => by cases z)
  refine ⟨.ref p, a, hk σ H H1 n sg o _ fun d w Hk H2 g o1 e dv => ?_⟩
  subst e
  rw [dv.intOf]
  refine ⟨p, .int v, rfl, ?_, kk _ _ Hk H2 g o1 rfl (.int v)⟩
  have h := DGet.k (H := H2) (a := p) (k := (Sum.inl k : Key)) (g.a _ _ (g.k _ _ hp))
  rw [mdict_val, hv] at h
  exact h
theorem e_sortedD {i : Nat} {m p : List (Int × Int)} (hi : δ[i]? = some (.dic m)) (hd : DictOf p m) : E q δ (tCB rSrtDI (tCons (tVar i) tNil)) (.list ((usort (p.map (·.1))).map .int)) := fun σ H H1 n sg o Q kk => by
  obtain ⟨x, a, b, rfl, hp⟩ := sg.2 i _ hi (fun z => by cases z)
  refine ⟨.ref b, a, b, mdict m, m.map (·.1), rfl, .inl (o.a _ _ hp), by unfold mdict; rw [List.map_map, List.map_map]; rfl, fun ys l hy hs hl => ?_⟩
  have e := sorted_keys hd hy hs
  subst e
  have g1 := Gr.new (q := q) (o := .lst ((usort (p.map (·.1))).map V.int)) o.a hl
  exact kk _ _ _ _ g1 (o.go ⟨g1.k, g1.a, fun b' o' _ h => by rw [upd_ne (ne_of_none h hl)]; exact h, g1.f, g1.t⟩) rfl (.lst upd_same (DqAll.ofInts _))
theorem s_addI {i ik ib : Nat} {p : Addr} {m : List (Int × Int)} {k v : Int} (s : At q n δ A0 B0 σ Hk H1) (hi : δ[i]? = some (.adr p)) (hk : δ[ik]? = some (.dat (.int k))) (hb : δ[ib]? = some (.dat (.int v)))
    (hm : H1 p = some (.dK (mdict m))) (nk : Hk p = none) (nq : q ≠ some p) (nb : B0 p = none) (hl : m.length < 1000000)
    (kont : At q n δ A0 B0 σ Hk (upd H1 p (.dK (mdict (addI m (k, v))))) → D.nx σ (upd H1 p (.dK (mdict (addI m (k, v)))))) :
    sDPut (tVar i) (tVar ik) (tOp (rAddU K) (tDGet2 (tVar i) (tVar ik) (tC (.int 0))) (tVar ib)) D σ H1 := by
  have a1 := s.sg.getA hi
  obtain ⟨w, a2, d2⟩ := s.sg.get hk
  obtain ⟨x, a3, d3⟩ := s.sg.get hb
  have e2 := d2.intOf
  have e3 := d3.intOf
  subst e2; subst e3
  have hg := DGet.k (H := H1) (a := p) (k := (Sum.inl k : Key)) hm
  rw [mdict_val] at hg
  have hv : ((getI m k).map V.int).getD (.int 0) = .int ((getI m k).getD 0) := by cases getI m k <;> rfl
  refine ⟨.ref p, a1, p, rfl, .inl ⟨_, .inl hm⟩, .int k, a2, _, hg, ?_⟩
  refine ⟨.int v, a3, .inl ⟨(getI m k).getD 0, v, hv, rfl, .ref p, a1, .int k, a2, p, _, rfl, DPut.k (k := (Sum.inl k : Key)) hm ?_, ?_⟩⟩
  · unfold mdict; rw [List.length_map, sizeLine_eq]; omega
  · rw [mdict_put]
    exact kont ⟨s.ok.cell nk nq, s.sg, s.gr.put nb nk⟩
/-- the defs that gather changes -/
theorem read_summed {Q : VK} {nx : L2.St → Hp → Prop} (cs : List (Int × Int)) (hl : cs.length ≤ 100000) (s : At q n [.dat (.list (pd cs)), .any, .any, .any] A0 B0 σ A0 B0) (fin : Fin q n A0 B0 (fun x => x = led (gather cs)) Q) :
    tSeq (tAsg tDNewK (gName 1)) (tSeq (tFor (iList K (tVar 0)) (gTup K 2 (gCons (gName 2) (gCons (gName 3) gNil))) (sDPut (tVar 1) (tVar 2) (tOp (rAddU K) (tDGet2 (tVar 1) (tVar 2) (tC (.int 0))) (tVar 3))))
      (tRet (tCB (rTupQ K) (tCons (tLc (iList K (tCB rSrtDI (tCons (tVar 1) tNil))) (gName 2) (tTest (tOp (rNeD K) (tDGet (tVar 1) (tVar 2)) (tC (.int 0)))) (tTup (tCons (tVar 2) (tCons (tDGet (tVar 1) (tVar 2)) tNil))) [2]) tNil)))) { nx := nx, rt := Q } σ B0 := by
  intro p hp
  have hk : A0 p = none := s.ok.a.free hp
  have nq : q ≠ some p := fun e => (s.ok.j p e).ne hp
  -- the new dict is ours
  have s1 : At q n [.dat (.list (pd cs)), .adr p, .any, .any] A0 B0 (σ.set 1 (some (.ref p))) A0 (upd B0 p (.dK (mdict []))) :=
    ⟨s.ok.cell hk nq, s.sg.set 1 (s := .adr p) rfl, Gr.cell s.ok.a hp⟩
  refine q_for (n := n) (c := 0) (ie_lst (e_var rfl)) s1 fun items HkW H2 e g0 s2 => ?_
  subst e
  have hkw : HkW p = none := g0.f p hk (by rw [upd_same]; exact fun z => by cases z)
  have hpw : H2 p = some (.dK (mdict [])) := g0.s p _ nq upd_same
  refine ⟨fun i σ' Hk' H' => Same HkW Hk' ∧ ∃ m, DictOf (cs.take i) m ∧ H' p = some (.dK (mdict m)) ∧ Hk' p = none ∧ At q n [.dat (.list (pd cs)), .adr p, .any, .any] A0 B0 σ' Hk' H', ⟨Same.refl _, [], DictOf.nil, hpw, hkw, s2⟩, ?_, ?_, ?_⟩
  · rintro i σ' Hk' H' ⟨h1, m, _, _, _, st⟩
    exact ⟨h1, st.ok.a⟩
  · rintro i d σ' Hk' H' ed ⟨h1, m, hd, hm, hn, st⟩ v Hk2 H3 g2 dv
    obtain ⟨x, ex, rfl⟩ : ∃ x, cs[i]? = some x ∧ pr x = d := by
      unfold pd at ed
      rw [List.getElem?_map] at ed
      exact Option.map_eq_some_iff.mp ed
    have hn2 : Hk2 p = none := g2.f p hn (by rw [hm]; exact fun z => by cases z)
    have hm2 : H3 p = some (.dK (mdict m)) := g2.s p _ (fun z => by cases z) hm
    refine gb_tup2 (vs := [2, 3]) (by simp) (by simp) σ' Hk2 H3 v (st.sg.mono g2.k) g2.a dv _ fun σ2 sg2 hl2 _ => ?_
    have st2 : At q n _ A0 B0 σ2 Hk2 H3 := ⟨st.ok.go g2, sg2, st.gr.trans g2.none_to⟩
    have hlm : m.length ≤ 100000 := by have h1 := hd.len; rw [List.length_take] at h1; omega
    refine s_addI (p := p) (k := x.1) (v := x.2) st2 rfl rfl rfl hm2 hn2 nq hp (by omega) fun st3 => ⟨Hk2, h1.trans g2.k, addI m x, ?_, upd_same, hn2, ?_⟩
    · rw [List.take_add_one, ex]
      exact hd.add x
    · exact st3.weak rfl fun i s e => by
        match i, e with
        | 0, e => exact .inr e
        | 1, e => exact .inr e
        | 2, e => exact .inl (Option.some.inj e).symm
        | 3, e => exact .inl (Option.some.inj e).symm
        | i + 4, e => exact absurd e (by simp)
  · rintro σ' Hk' H' ⟨h1, m, hd, hm, hn, st⟩
    have hlen : (pd cs).length = cs.length := pd_len cs
    rw [hlen, List.take_length] at hd
    -- the dict stands still from here
    have gf := st.gr.freeze hp hn hm
    have st4 : At q n [.dat (.list (pd cs)), .dic m, .any, .any] A0 B0 σ' (upd Hk' p (.dK (mdict m))) H' := by
      refine ⟨⟨gf.a, fun r e => ?_, st.ok.j⟩, ?_, gf⟩
      · rw [upd_ne (fun z => nq (by rw [← z]; exact e))]; exact st.ok.kf r e
      · have g1 := (st.sg.mono (same_upd (o := .dK (mdict m)) hn)).weak (δ' := [.dat (.list (pd cs)), .any, .any, .any]) rfl fun i s e => by
          match i, e with
          | 0, e => exact .inr e
          | 1, e => exact .inl (Option.some.inj e).symm
          | 2, e => exact .inr e
          | 3, e => exact .inr e
          | i + 4, e => exact absurd e (by simp)
        refine ⟨g1.1, fun i s e ne => ?_⟩
        by_cases hi : i = 1
        · subst hi
          have es : s = .dic m := (Option.some.inj e).symm
          subst es
          exact ⟨.ref p, st.sg.getA rfl, p, rfl, upd_same⟩
        · refine g1.2 i s ?_ ne
          match i, e, hi with
          | 0, e, _ => exact e
          | 2, e, _ => exact e
          | 3, e, _ => exact e
          | 1, _, hi => exact absurd rfl hi
          | i + 4, e, _ => exact absurd e (by simp)
    have hget : ∀ k ∈ usort (cs.map (·.1)), getI m k = some (tot cs k) := fun k hk => hd.get k ((usort_mem k _).mp hk)
    refine s_retE (n := n) (d := led (gather cs)) (Φ1 := fun x => x = led (gather cs)) ?_ st4 (Nat.le_refl _) fin rfl
    refine e_tupL (e_is (e_lc (vs := [2]) (emb := PyData.int) (xs := usort (cs.map (·.1))) (ie_lst (e_sortedD rfl hd)) (fun k => tot cs k != 0) (fun k => pr (k, tot cs k)) ?_ fun k hk => ⟨_, gb_name (by simp), tb_is (tb_test (e_neDI (e_dget (m := m) rfl (e_var rfl) (hget k hk)) e_int)) rfl, fun _ => ?_⟩) ?_)
    · have h1 : (usort (cs.map (·.1))).length ≤ cs.length := by
        have nd : (usort (cs.map (·.1))).Nodup := (usort_sorted _).imp fun {a b} h => by omega
        have e : (usort (cs.map (·.1))) = usort (cs.map (·.1)) := rfl
        have hp := hd.len
        have h2 : (usort (cs.map (·.1))).length ≤ (m.map (·.1)).length := nd.length_le_of_subset fun x hx => (hd.mem x).mpr ((usort_mem x _).mp hx)
        rw [List.length_map] at h2; omega
      omega
    · exact e_tup (ds := [.int k, .int (tot cs k)]) (ae_cons (e_var rfl) (ae_cons (e_dget (m := m) rfl (e_var rfl) (hget k hk)) ae_nil))
    · unfold pd gather
      rw [List.map_map]; rfl
end
end Cr

set_option Elab.async false
set_option linter.all false
set_option maxRecDepth 100000
set_option maxHeartbeats 4000000
namespace Cr
open PySem PySem.Spec PyProof.Rows L2
section
variable {q : Option Addr} {n : Nat} {δ : List Sl} {A0 B0 Hk H1 : Hp} {σ : L2.St}
theorem At.forget (s : At q n δ A0 B0 σ Hk H1) (i : Nat) : At q n (δ.set i .any) A0 B0 σ Hk H1 := s.weak (List.length_set ..) fun j t e => by
  by_cases h : i = j
  · subst h
    by_cases hl : i < δ.length
    · rw [List.getElem?_set_self hl] at e; exact .inl (Option.some.inj e).symm
    · rw [List.getElem?_eq_none (by rw [List.length_set]; omega)] at e; cases e
  · rw [List.getElem?_set_ne h] at e; exact .inr e
end
theorem e_andNo {q : Option Addr} {δ : List Sl} {ta tb : TE} (h : E q δ ta (.bool false)) : E q δ (tAndV ta tb) (.bool false) := e_is (e_andV (b := false) h (fun e => by cases e)) rfl
def Bd (B : Nat) (l : List (Int × Int)) : Prop := ∀ x ∈ l, x.1.natAbs < 2 ^ B ∧ x.2.natAbs < 2 ^ B
def isChangeD : PyData → Bool
  | .tuple [.int _, .int _] => true
  | _ => false
def unpr : PyData → Option (Int × Int)
  | .tuple [.int a, .int b] => some (a, b)
  | _ => none
theorem change_pr {d : PyData} (h : isChangeD d = true) : ∃ x, d = pr x := by
  match d, h with
  | .tuple [.int a, .int b], _ => exact ⟨(a, b), rfl⟩
theorem changes_pd : ∀ {ds : List PyData}, ds.all isChangeD = true → ∃ l, ds = pd l
  | [], _ => ⟨[], rfl⟩
  | d :: ds, h => by
    rw [List.all_cons, Bool.and_eq_true] at h
    obtain ⟨x, rfl⟩ := change_pr h.1
    obtain ⟨l, rfl⟩ := changes_pd h.2
    exact ⟨x :: l, rfl⟩
theorem pd_changes (l : List (Int × Int)) : (pd l).all isChangeD = true := by
  rw [List.all_eq_true]
  intro d hd
  obtain ⟨x, _, rfl⟩ := List.mem_map.mp hd
  rfl
def adj {α : Type} (l : List α) : List (α × α) := l.zip (l.drop 1)
def asc (l : List (Int × Int)) : Bool := (adj l).all fun p => decide (p.1.1 < p.2.1)
def nz (l : List (Int × Int)) : Bool := l.all fun x => !(x.2 == 0)
def isLedD : PyData → Bool
  | .tuple ds => ds.all isChangeD && (asc (ds.filterMap unpr) && nz (ds.filterMap unpr))
  | _ => false
theorem unpr_pd (l : List (Int × Int)) : (pd l).filterMap unpr = l := by
  unfold pd
  rw [List.filterMap_map]
  have : unpr ∘ pr = some := by funext x; rfl
  rw [this, List.filterMap_some]
theorem isLed_led (l : List (Int × Int)) : isLedD (led l) = (asc l && nz l) := by
  show ((pd l).all isChangeD && (asc ((pd l).filterMap unpr) && nz ((pd l).filterMap unpr))) = _
  rw [unpr_pd, pd_changes, Bool.true_and]
theorem adj_of {α : Type} {R : α → α → Prop} : ∀ {l : List α}, l.Pairwise R → ∀ p ∈ adj l, R p.1 p.2
  | [], _, p, h => by simp [adj] at h
  | [a], _, p, h => by simp [adj] at h
  | a :: b :: r, h, p, hp => by
    have e : adj (a :: b :: r) = (a, b) :: adj (b :: r) := rfl
    rw [e] at hp
    obtain ⟨h1, h2⟩ := List.pairwise_cons.mp h
    rcases List.mem_cons.mp hp with e | hp
    · subst e; exact h1 b List.mem_cons_self
    · exact adj_of h2 p hp
theorem led_isLed {l : List (Int × Int)} (h : Led l) : isLedD (led l) = true := by
  rw [isLed_led, Bool.and_eq_true]
  refine ⟨List.all_eq_true.mpr fun p hp => decide_eq_true (adj_of h.1 p hp), List.all_eq_true.mpr fun x hx => ?_⟩
  have := h.2 x hx
  simpa using this
theorem zip_adj (l : List (Int × Int)) : zipD (pd l) (cutD (pd l) (some 1) none) = (adj l).map fun p => .tuple [pr p.1, pr p.2] := by
  have h1 : cutD (pd l) (some 1) none = pd (l.drop 1) := by
    unfold cutD
    rw [show HT.sIx (pd l).length 0 (some 1) = min 1 (pd l).length from HT.sIx_nat _ 0 1, HT.sIx_none, pd_len]
    unfold pd
    rw [← List.map_drop, ← List.map_take]
    cases l with
    | nil => rfl
    | cons a r =>
      rw [show min 1 (a :: r).length = 1 by rw [List.length_cons]; omega]
      rw [List.take_of_length_le (by rw [List.length_drop]; omega)]
  rw [h1]
  have h2 : ∀ a b : List (Int × Int), zipD (pd a) (pd b) = (a.zip b).map fun p => .tuple [pr p.1, pr p.2] := fun a => by
    induction a with
    | nil => intro b; rfl
    | cons x r ih =>
      intro b
      cases b with
      | nil => rfl
      | cons y s => exact congrArg (PyData.tuple [pr x, pr y] :: ·) (ih s)
  exact h2 l (l.drop 1)
theorem bools_map {α : Type} (l : List α) (f : α → Bool) : l.map (fun x => PyData.bool (f x)) = (l.map f).map PyData.bool := by rw [List.map_map]; rfl
theorem all_id_map {α : Type} (l : List α) (f : α → Bool) : (l.map f).all id = l.all f := by rw [List.all_map]; rfl
theorem pow_bits {b : Int} {B : Nat} (h : b.natAbs < 2 ^ B) : ∀ n : Nat, (b ^ n).natAbs < 2 ^ (B * n + 1)
  | 0 => by rw [Int.pow_zero, Nat.mul_zero]; decide
  | n + 1 => by
    have ih := pow_bits h n
    rw [Int.pow_succ, Int.natAbs_mul, show B * (n + 1) + 1 = (B * n + 1) + B by rw [Nat.mul_succ]; omega, Nat.pow_add]
    exact Nat.mul_lt_mul'' ih h
end Cr

set_option Elab.async false
set_option linter.all false
set_option maxRecDepth 100000
set_option maxHeartbeats 4000000
namespace Cr
open PySem PySem.Spec PyProof.Rows L2
section
variable {K : PySem.W.Frag} {q : Option Addr} {n : Nat} {δ δ' : List Sl} {te ta tb tc tk : TE} {tt tu : TT} {c c1 c2 c3 : Nat} {Φ Φ1 Φ2 Φ3 : PyData → Prop} {d d1 d2 : PyData} {wi : TI} {A0 B0 Hk H1 : Hp} {σ : L2.St} {D : Ends} {ts tz : TS} {g : TG}
/-! ### the script -/
theorem e_lenS {i : Nat} {ns : List Int} (hi : δ[i]? = some (.scr K ns)) : E q δ (tCB (rLenQ K) (tCons (tVar i) tNil)) (.int ns.length) := fun σ H H1 n sg o Q k => by
  obtain ⟨v, a, p, rfl, h⟩ := sg.2 i _ hi (fun z => by cases z)
  refine ⟨.ref p, a, p, ns.map V.int, rfl, .inl (Same.seq o.a h), ?_⟩
  rw [List.length_map]
  exact k _ _ H H1 (Gr.refl o.a) o rfl (.int _)
theorem e_iS {i : Nat} {ns : List Int} {j v : Int} (hi : δ[i]? = some (.scr K ns)) (hb : E q δ tb (.int j)) (e : atI ns j = some v) : E q δ (tOp (rIx K) (tVar i) tb) (.int v) := fun σ H H1 n sg o Q k => by
  obtain ⟨x, a, p, rfl, h⟩ := sg.2 i _ hi (fun z => by cases z)
  refine ⟨.ref p, a, hb σ H H1 n sg o _ fun d w Hk H2 g o1 ed dw => ?_⟩
  subst ed
  rw [dw.intOf]
  refine .inl ⟨p, ns.map V.int, j, .int v, rfl, rfl, Same.seq (g.k.trans g.a) h, ?_, k _ _ Hk H2 g o1 rfl (.int v)⟩
  unfold atI at e ⊢
  rw [List.length_map]
  cases hx : ixN ns.length j with
  | none => rw [hx] at e; cases e
  | some m =>
    rw [hx] at e
    show (ns.map V.int)[m]? = some (.int v)
    rw [List.getElem?_map, show ns[m]? = some v from e]; rfl
/-! ### the jar: its three ints, drawn from in turn -/
def KJ (p : Addr) (L : List V) : Hp := fun b => if b = p then some (.lst L) else none
theorem KJ.at {p : Addr} {L : List V} : KJ p L p = some (.lst L) := if_pos rfl
theorem KJ.same {p : Addr} {L : List V} {H : Hp} (h : H p = some (.lst L)) : Same (KJ p L) H := fun b o e => by
  unfold KJ at e
  split at e
  · rename_i hb; subst hb; rw [h]; exact e
  · cases e
/-- the state seen from the jar alone -/
theorem at_jar {p : Addr} {x y z : Int} {b : PyData} {σ : L2.St} {H : Hp} (h : H p = some (.lst [.int x, .int y, .int z])) (h0 : σ[0]? = some (some (.ref p))) {δr : List Sl} (hs : ∀ H', Sg H' σ (.any :: δr)) :
    At none 0 (.dat (.list [.int x, .int y, .int z]) :: δr) (KJ p [.int x, .int y, .int z]) H σ (KJ p [.int x, .int y, .int z]) H := by
  refine ⟨⟨KJ.same h, fun r e => (by cases e), fun r e => (by cases e)⟩, ⟨(hs (KJ p [])).1, fun i s e ne => ?_⟩, Gr.refl (KJ.same h)⟩
  cases i with
  | zero =>
    have es : s = .dat (.list [.int x, .int y, .int z]) := (Option.some.inj e).symm
    subst es
    exact ⟨.ref p, h0, .lst KJ.at (.cons (.int x) (.cons (.int y) (.cons (.int z) .nil)))⟩
  | succ i => exact (hs _).2 (i + 1) s e ne
/-- xs[j] = e at a list that stands at p -/
theorem s_setAt {p : Addr} {xs : List V} {j : Nat} (h : E none δ te d) (s : At none 0 δ A0 B0 σ Hk H1) (h0 : σ[0]? = some (some (.ref p))) (hp : H1 p = some (.lst xs)) (hj : j < xs.length)
    (k : ∀ v Hk' H2, Dq Hk' v d → Same H1 H2 → (∀ b, H1 b ≠ none → H2 b ≠ none) → D.nx σ (upd H2 p (.lst (xs.set j v)))) : tAsg te (gSub (tVar 0) (tC (.int (j : Int))) rSetL) D σ H1 :=
  h σ Hk H1 0 s.sg s.ok _ fun d' v Hk' H2 g o e dv => by
    subst e
    have sm : Same H1 H2 := fun b o h => g.s b o (fun z => by cases z) h
    exact ⟨.ref p, h0, p, xs, (j : Int), j, rfl, rfl, sm _ _ hp, by unfold ixN; rw [if_pos (by omega), if_pos (by omega)]; simp, k v Hk' H2 dv sm g.t⟩
/-- what a draw leaves -/
structure Drawn1 (p : Addr) (H H2 : Hp) : Prop where
  s : ∀ b o, b ≠ p → H b = some o → H2 b = some o
  t : ∀ b, H b ≠ none → H2 b ≠ none
theorem Drawn1.refl {p : Addr} {H : Hp} : Drawn1 p H H := ⟨fun _ _ _ h => h, fun _ h => h⟩
theorem Drawn1.same {p : Addr} {H H1 H2 : Hp} (a : Drawn1 p H H1) (s : Same H1 H2) (t : ∀ b, H1 b ≠ none → H2 b ≠ none) : Drawn1 p H H2 := ⟨fun b o n h => s b o (a.s b o n h), fun b h => t b (a.t b h)⟩
theorem Drawn1.put {p : Addr} {H H1 : Hp} {o : HO} (a : Drawn1 p H H1) : Drawn1 p H (upd H1 p o) := ⟨fun b u n h => by rw [upd_ne n]; exact a.s b u n h, fun b h => by
  by_cases e : b = p
  · rw [e, upd_same]; exact fun z => by cases z
  · rw [upd_ne e]; exact a.t b h⟩
theorem Drawn1.end {p : Addr} {A0 B0 H2 : Hp} {m : Nat} {x y z : Int} (a : Drawn1 p B0 H2) (ok : Ok (some p) m A0 B0) (h2 : H2 p = some (.lst [.int x, .int y, .int z])) (hy : 0 ≤ y) (hy2 : y < 2 ^ 140) (hz : 0 ≤ z) (hn : z + n ≤ 1000000000) :
    Gr (some p) A0 B0 A0 H2 ∧ Ok (some p) n A0 H2 := by
  have nk := ok.kf p rfl
  have sm : Same A0 H2 := fun b o h => a.s b o (ne_of_none h nk) (ok.a b o h)
  refine ⟨⟨Same.refl _, sm, fun b o nb h => a.s b o (fun e => nb (by rw [e])) h, fun b h _ => h, a.t⟩, sm, ok.kf, fun r e => ?_⟩
  cases e
  exact ⟨x, y, z, h2, hy, hy2, hz, hn⟩
def R_pick : RelX := fun q sls c Φ => c = 1 ∧ ∃ p b, q = some p ∧ 0 < b ∧ b.natAbs < 2 ^ 400 ∧ sls = [.adr p, .dat (.int b)] ∧ Φ = fun d => ∃ i, (0 ≤ i ∧ i < b) ∧ d = .int i
theorem fmod_in {a b : Int} (h : 0 < b) : 0 ≤ a.fmod b ∧ a.fmod b < b := ⟨Int.fmod_nonneg_of_pos a h, Int.fmod_lt_of_pos a h⟩
/-- the text of a draw -/
abbrev tJ (K : PySem.W.Frag) (i : Int) : TE := tOp (rIx K) (tVar 0) (tC (.int i))
abbrev tBlend (K : PySem.W.Frag) (first : TE) (f e m a : Int) : TE := tOp (rI (fun _ j => j ≠ 0) fun i j => .int (i.fmod j)) (tOp (rI CPowW fun i j => .int (i ^ j.toNat)) (tCB rIntQ (tCons (tOp (rAddU K) first (tOp rMulU (tC (.int f)) (tJ K 2))) tNil)) (tC (.int e))) (tOp (rAddU K) (tOp (rI CPowW fun i j => .int (i ^ j.toNat)) (tC (.int 10)) (tC (.int m))) (tC (.int a)))
theorem read_pick {Q : VK} {nx : L2.St → Hp → Prop} {p : Addr} {b : Int} (hb : 0 < b) (hb2 : b.natAbs < 2 ^ 400) (s : At (some p) (n + 1) [.adr p, .dat (.int b), .any, .any] A0 B0 σ A0 B0) (fin : Fin (some p) n A0 B0 (fun d => ∃ i, (0 ≤ i ∧ i < b) ∧ d = .int i) Q) :
    tSeq (tIfS (tTest (tOp (rI0 fun i j => .bl (decide (j < i))) (tJ K 0) (tC (.int 0)))) (tSeq (tAsg (tOp (rI (fun _ j => j ≠ 0) fun i j => .int (i.fmod j)) (tCB rIntQ (tCons (tJ K 0) tNil)) (tVar 1)) (gName 2)) (tSeq (tAsg (tOp (rI CDivW fun i j => .int (i / j)) (tJ K 0) (tVar 1)) (gSub (tVar 0) (tC (.int 0)) rSetL)) (tRet (tVar 2)))) tNext)
      (tSeq (tAsg (tOp (rAddU K) (tJ K 2) (tC (.int 1))) (gSub (tVar 0) (tC (.int 2)) rSetL)) (tSeq (tAsg (tBlend K (tJ K 1) 90019 2 38 183) (gName 3)) (tSeq (tAsg (tBlend K (tVar 3) 1299827 3 39 187) (gName 3))
        (tRet (tOp (rI (fun _ j => j ≠ 0) fun i j => .int (i.fmod j)) (tOp (rI CDivW fun i j => .int (i / j)) (tVar 3) (tC (.int 65536))) (tVar 1)))))) { nx := nx, rt := Q } σ B0 := by
  obtain ⟨x, y, z, hj, hy, hy2, hz, hn⟩ := s.ok.j p rfl
  have h0 : σ[0]? = some (some (.ref p)) := s.sg.getA rfl
  obtain ⟨vb, h1, db⟩ := s.sg.get (i := 1) rfl
  have eb := db.intOf
  subst eb
  have hlen : σ.length = 4 := s.sg.1
  have hs : ∀ H', Sg H' σ [.any, .dat (.int b), .any, .any] := fun H' => ⟨hlen, fun i s e ne => by
    match i, e with
    | 0, e => exact absurd (Option.some.inj e).symm ne
    | 1, e => cases (Option.some.inj e); exact ⟨_, h1, .int b⟩
    | 2, e => exact absurd (Option.some.inj e).symm ne
    | 3, e => exact absurd (Option.some.inj e).symm ne
    | i + 4, e => exact absurd e (by simp)⟩
  have nb : b ≠ 0 := by omega
  have sJ := at_jar (b := .none) hj h0 hs
  refine q_whenB (b := decide (0 < x)) (tb_test (e_gtI (e_iL (e_var rfl) e_int rfl) e_int)) sJ (fun hx Hk1 H1 g1 a1 => ?_) (fun hx Hk1 H1 g1 a1 => ?_)
  · -- digit by digit
    refine q_asgX (e_mod (e_intI (e_iL (e_var rfl) e_int rfl)) (e_var rfl) nb) a1 fun v2 Hk2 H2 g2 a2 dv2 => ?_
    have ev2 := dv2.intOf
    subst ev2
    have j2 : H2 p = some (.lst [.int x, .int y, .int z]) := g2.s _ _ (fun z => by cases z) (g1.s _ _ (fun z => by cases z) hj)
    have d1 : Drawn1 p B0 H2 := (Drawn1.refl.same (fun b o h => g1.s b o (fun z => by cases z) h) g1.t).same (fun b o h => g2.s b o (fun z => by cases z) h) g2.t
    refine s_setAt (D := { nx := _, rt := Q }) (j := 0) (e_fdiv (e_iL (e_var rfl) e_int rfl) (e_var rfl) (wide_div hb hb2 (by omega) (by omega))) a2 (by rw [List.getElem?_set_ne (by omega)]; exact h0) j2 (by simp) fun v Hk3 H3 dv sm tm => ?_
    have ev := dv.intOf
    subst ev
    obtain ⟨ge, oe⟩ := ((d1.same sm tm).put (o := .lst [.int (x / b), .int y, .int z])).end (n := n) s.ok upd_same hy hy2 hz (by omega)
    exact ⟨_, List.getElem?_set_self (by omega), fin _ _ A0 _ ge oe ⟨_, fmod_in hb, rfl⟩ (.int _)⟩
  · -- by the blend
    have j1 : H1 p = some (.lst [.int x, .int y, .int z]) := g1.s _ _ (fun z => by cases z) hj
    have d1 : Drawn1 p B0 H1 := Drawn1.refl.same (fun b o h => g1.s b o (fun z => by cases z) h) g1.t
    refine s_setAt (D := { nx := _, rt := Q }) (j := 2) (e_addI (e_iL (e_var rfl) e_int rfl) e_int) a1 h0 j1 (by simp) fun v Hk2 H2 dv sm tm => ?_
    have ev := dv.intOf
    subst ev
    have d2 : Drawn1 p B0 (upd H2 p (.lst [.int x, .int y, .int (z + 1)])) := (d1.same sm tm).put
    obtain ⟨z1, ez⟩ : ∃ z1, z1 = z + 1 := ⟨_, rfl⟩
    rw [← ez] at d2
    show tSeq _ _ { nx := nx, rt := Q } σ (upd H2 p (.lst [.int x, .int y, .int (z + 1)]))
    rw [← ez]
    have sK := at_jar (p := p) (b := .none) (x := x) (y := y) (z := z1) (H := upd H2 p (.lst [.int x, .int y, .int z1])) upd_same h0 hs
    obtain ⟨m1, em1⟩ : ∃ m : Int, m = (10 : Int) ^ (38 : Int).toNat + 183 := ⟨_, rfl⟩
    obtain ⟨m2, em2⟩ : ∃ m : Int, m = (10 : Int) ^ (39 : Int).toNat + 187 := ⟨_, rfl⟩
    have hm1 : 0 < m1 ∧ m1 < 2 ^ 140 := by rw [em1]; exact ⟨by decide, by decide⟩
    have hm2 : 0 < m2 := by rw [em2]; decide
    refine q_asgX (e_mod (j := m1) (e_pow (i := y + 90019 * z1) (j := 2) (e_intI (e_addI (e_iL (e_var rfl) e_int rfl) (e_mulI e_int (e_iL (e_var rfl) e_int rfl) (wide_mul (a := 17) (b := 40) (by decide) (by omega) (by omega) (by omega) (by omega))))) e_int (pow_ok (a := 150) (by omega) (by omega) (by omega) (by omega))) (e_is (e_addI (e_pow e_int e_int (pow_ok (a := 4) (by decide) (by omega) (by omega) (by omega))) e_int) (by rw [em1])) (by omega)) sK fun v3 Hk3 H3 g3 a3 dv3 => ?_
    have b1 := fmod_in (a := (y + 90019 * z1) ^ (2 : Int).toNat) hm1.1
    obtain ⟨f1, ef1⟩ : ∃ f, f = ((y + 90019 * z1) ^ (2 : Int).toNat).fmod m1 := ⟨_, rfl⟩
    rw [← ef1] at a3 b1
    refine q_asgX (e_mod (j := m2) (e_pow (i := f1 + 1299827 * z1) (j := 3) (e_intI (e_addI (e_var rfl) (e_mulI e_int (e_iL (e_var rfl) e_int rfl) (wide_mul (a := 21) (b := 40) (by decide) (by omega) (by omega) (by omega) (by omega))))) e_int (pow_ok (a := 150) (by omega) (by omega) (by omega) (by omega))) (e_is (e_addI (e_pow e_int e_int (pow_ok (a := 4) (by decide) (by omega) (by omega) (by omega))) e_int) (by rw [em2])) (by omega)) a3 fun v4 Hk4 H4 g4 a4 dv4 => ?_
    obtain ⟨f2, ef2⟩ : ∃ f, f = ((f1 + 1299827 * z1) ^ (3 : Int).toNat).fmod m2 := ⟨_, rfl⟩
    rw [← ef2] at a4
    have d4 : Drawn1 p B0 H4 := (d2.same (fun b o h => g3.s b o (fun z => by cases z) h) g3.t).same (fun b o h => g4.s b o (fun z => by cases z) h) g4.t
    have j4 : H4 p = some (.lst [.int x, .int y, .int z1]) := g4.s _ _ (fun z => by cases z) (g3.s _ _ (fun z => by cases z) upd_same)
    refine e_mod (i := f2 / 65536) (j := b) (e_fdiv (e_var rfl) e_int (wide_div (b := 20) (by omega) (by decide) (by omega) (by omega))) (e_var rfl) nb _ Hk4 H4 0 a4.sg a4.ok _ fun d v Hk5 H5 g5 o5 ed dv5 => ?_
    subst ed
    have ev5 := dv5.intOf
    subst ev5
    have j5 : H5 p = some (.lst [.int x, .int y, .int z1]) := g5.s _ _ (fun z => by cases z) j4
    obtain ⟨ge, oe⟩ := (d4.same (fun b o h => g5.s b o (fun z => by cases z) h) g5.t).end (n := n) s.ok j5 hy hy2 (by omega) (by omega)
    exact fin _ _ A0 _ ge oe ⟨_, fmod_in hb, rfl⟩ (.int _)
end
end Cr

set_option Elab.async false
set_option linter.all false
set_option maxRecDepth 100000
set_option maxHeartbeats 4000000
namespace Cr
open PySem PySem.Spec PyProof.Rows L2
section
variable {K : PySem.W.Frag} {q : Option Addr} {n : Nat} {δ δ' : List Sl} {te ta tb tc tk : TE} {tt tu : TT} {c c1 c2 c3 : Nat} {Φ Φ1 Φ2 Φ3 : PyData → Prop} {d d1 d2 : PyData} {wi : TI} {A0 B0 Hk H1 H2 Hk' : Hp} {σ : L2.St} {D : Ends} {ts tz : TS} {g : TG} {p : Addr} {ds : List PyData}
/-! ### a list of our own that grows -/
structure Cell (q : Option Addr) (B0 Hk H1 : Hp) (p : Addr) (ds : List PyData) : Prop where
  nk : Hk p = none
  nq : q ≠ some p
  nb : B0 p = none
  ex : ∃ xs, H1 p = some (.lst xs) ∧ DqAll Hk xs ds
theorem Cell.go (x : Cell q B0 Hk H1 p ds) (g : Gr q Hk H1 Hk' H2) : Cell q B0 Hk' H2 p ds := by
  obtain ⟨xs, e, h⟩ := x.ex
  exact ⟨g.f p x.nk (by rw [e]; exact fun z => by cases z), x.nq, x.nb, xs, g.s p _ x.nq e, DqAll.mono g.k _ _ h⟩
theorem s_append {i : Nat} (h : J q δ te c Φ) (s : At q (n + c) δ A0 B0 σ Hk H1) (cl : Cell q B0 Hk H1 p ds) (hi : δ[i]? = some (.adr p)) (hl : ds.length < 1000000)
    (k : ∀ d Hk' H2, Φ d → Same Hk Hk' → At q n δ A0 B0 σ Hk' H2 → Cell q B0 Hk' H2 p (ds ++ [d]) → D.nx σ H2) : tDrop (tBM K "list" rAppend (tVar i) (tCons te tNil)) D σ H1 := by
  obtain ⟨xs, e, hd⟩ := cl.ex
  refine ⟨.ref p, s.sg.getA hi, .inl ⟨rfl, xs, .inl (.inl e)⟩, h σ Hk H1 n s.sg s.ok _ fun d v Hk' H2 g o pd dv => ?_⟩
  have cl2 := cl.go g
  have e2 := g.s p _ cl.nq e
  refine ⟨p, xs, v, rfl, rfl, e2, by rw [hd.length, sizeLine_eq]; omega, k d Hk' _ pd g.k ⟨o.cell cl2.nk cl.nq, s.sg.mono g.k, (s.gr.trans g).put cl.nb cl2.nk⟩ ⟨cl2.nk, cl.nq, cl.nb, xs ++ [v], upd_same, (DqAll.mono g.k _ _ hd).append (.cons dv .nil)⟩⟩
theorem q_append {i : Nat} (h : J q δ te c Φ) (s : At q (n + c) δ A0 B0 σ Hk H1) (cl : Cell q B0 Hk H1 p ds) (hi : δ[i]? = some (.adr p)) (hl : ds.length < 1000000)
    (k : ∀ d Hk' H2, Φ d → Same Hk Hk' → At q n δ A0 B0 σ Hk' H2 → Cell q B0 Hk' H2 p (ds ++ [d]) → tz D σ H2) : tSeq (tDrop (tBM K "list" rAppend (tVar i) (tCons te tNil))) tz D σ H1 := s_append (D := { D with nx := tz D }) h s cl hi hl k
/-- x = [] -/
theorem s_newL {i : Nat} (s : At q n δ A0 B0 σ Hk H1) (k : ∀ p H2, At q n (δ.set i (.adr p)) A0 B0 (σ.set i (some (.ref p))) Hk H2 → Cell q B0 Hk H2 p [] → D.nx (σ.set i (some (.ref p))) H2) : tAsg (tLst tNil) (gName i) D σ H1 := by
  refine ⟨Nat.zero_le _, fun p hp => ?_⟩
  have hk : Hk p = none := s.ok.a.free hp
  have hb : B0 p = none := by
    cases e : B0 p with
    | none => rfl
    | some o => exact absurd hp (s.gr.t p (by rw [e]; exact fun z => by cases z))
  have nq : q ≠ some p := fun e => (s.ok.j p e).ne hp
  exact k p _ ⟨s.ok.cell hk nq, s.sg.set i (s := .adr p) rfl, s.gr.put hb hk⟩ ⟨hk, nq, hb, [], upd_same, .nil⟩
theorem q_newL {i : Nat} (s : At q n δ A0 B0 σ Hk H1) (k : ∀ p H2, At q n (δ.set i (.adr p)) A0 B0 (σ.set i (some (.ref p))) Hk H2 → Cell q B0 Hk H2 p [] → tz D (σ.set i (some (.ref p))) H2) : tSeq (tAsg (tLst tNil) (gName i)) tz D σ H1 := s_newL (D := { D with nx := tz D }) s k
/-- x, y = [], e -/
theorem q_parNew {i j : Nat} (h : J q δ te c Φ) (s : At q (n + c) δ A0 B0 σ Hk H1)
    (k : ∀ p d σ' Hk' H2, Φ d → At q n ((δ.set i (.adr p)).set j (.dat d)) A0 B0 σ' Hk' H2 → Cell q B0 Hk' H2 p [] → tz D σ' H2) : tSeq (tPar i j (tCons (tLst tNil) (tCons te tNil))) tz D σ H1 := by
  refine ⟨Nat.zero_le _, fun p hp => ?_⟩
  have hk : Hk p = none := s.ok.a.free hp
  have hb : B0 p = none := by
    cases e : B0 p with
    | none => rfl
    | some o => exact absurd hp (s.gr.t p (by rw [e]; exact fun z => by cases z))
  have nq : q ≠ some p := fun e => (s.ok.j p e).ne hp
  have s1 : At q (n + c) δ A0 B0 σ Hk (upd H1 p (.lst [])) := ⟨s.ok.cell hk nq, s.sg, s.gr.put hb hk⟩
  have c1 : Cell q B0 Hk (upd H1 p (.lst [])) p [] := ⟨hk, nq, hb, [], upd_same, .nil⟩
  refine h σ Hk _ n s1.sg s1.ok _ fun d v Hk' H2 g o pd dv => ?_
  exact ⟨.ref p, v, rfl, k p d _ Hk' H2 pd ⟨o, ((s1.sg.mono g.k).set i (s := .adr p) rfl).set j (s := .dat d) dv, s1.gr.trans g⟩ (c1.go g)⟩
/-- it stands still from here -/
theorem At.freeze {i : Nat} (s : At q n δ A0 B0 σ Hk H1) (cl : Cell q B0 Hk H1 p ds) (hi : δ[i]? = some (.adr p)) : ∃ Hk', Same Hk Hk' ∧ At q n (δ.set i (.dat (.list ds))) A0 B0 σ Hk' H1 := by
  obtain ⟨xs, e, hd⟩ := cl.ex
  have gf := s.gr.freeze cl.nb cl.nk e
  refine ⟨upd Hk p (.lst xs), same_upd cl.nk, ⟨gf.a, fun r er => ?_, s.ok.j⟩, ?_, gf⟩
  · rw [upd_ne (fun z => cl.nq (by rw [← z]; exact er))]; exact s.ok.kf r er
  · have sg := s.sg.mono (same_upd (o := .lst xs) cl.nk)
    refine ⟨by rw [List.length_set]; exact sg.1, fun j t ej ne => ?_⟩
    by_cases hj : i = j
    · subst hj
      have hl : i < δ.length := (List.getElem?_eq_some_iff.mp hi).1
      rw [List.getElem?_set_self hl] at ej
      cases ej
      exact ⟨.ref p, sg.getA hi, .lst upd_same (DqAll.mono (same_upd cl.nk) _ _ hd)⟩
    · rw [List.getElem?_set_ne hj] at ej
      exact sg.2 j t ej ne
/-- return [..] as a list of its own -/
theorem s_retLst {ta : TA} (h : AE q δ ta (ds.map Sl.dat)) (hl : ds.length ≤ 1000000) (s : At q n δ A0 B0 σ Hk H1) (k : ∀ p vs Hk2 H2, Gr q Hk H1 Hk2 H2 → H2 p = none → DqAll Hk2 vs ds → D.rt (.ref p) (upd H2 p (.lst vs))) : tRet (tLst ta) D σ H1 :=
  h σ Hk H1 n s.sg s.ok _ fun sls vs Hk2 H2 g o e hv => by
    subst e
    exact ⟨Nat.le_trans (by rw [hv.dats.length]; exact hl) (by rw [sizeLine_eq]; decide), fun p hp => k p vs Hk2 H2 g hp hv.dats⟩
/-! ### draws -/
theorem j_pick {i : Nat} {b : Int} {E0 : XK} (hi : δ[i]? = some (.adr p)) (h : E (some p) δ te (.int b)) (hb : 0 < b) (hb2 : b.natAbs < 2 ^ 400) : J (some p) δ (tCall (spX R_pick) [] E0 (tCons (tVar i) (tCons te tNil))) 1 (IntP fun x => 0 ≤ x ∧ x < b) :=
  (j_call (R := R_pick) (c := 1) (ae_adr hi (ae_cons h ae_nil)) fun sls e => ⟨rfl, p, b, rfl, hb, hb2, e, rfl⟩).cost (by omega)
theorem j_pickJ {i : Nat} {P : Int → Prop} {E0 : XK} (hi : δ[i]? = some (.adr p)) (h : J (some p) δ te c (IntP P)) (hb : ∀ b, P b → 0 < b ∧ b.natAbs < 2 ^ 400) : J (some p) δ (tCall (spX R_pick) [] E0 (tCons (tVar i) (tCons te tNil))) (1 + c) (IntP fun x => ∃ b, P b ∧ 0 ≤ x ∧ x < b) := by
  have ha : AJ (some p) δ (tCons te tNil) (0 + c) (fun sls => ∃ b, P b ∧ sls = [.dat (.int b)]) := aj_cons h ae_nil fun d sls ⟨b, pb, e⟩ e2 => ⟨b, pb, by rw [e, e2]⟩
  have hb2 : AJ (some p) δ (tCons (tVar i) (tCons te tNil)) (0 + c) (fun sls => ∃ b, P b ∧ sls = [.adr p, .dat (.int b)]) := aj_adr hi ha fun sls ⟨b, pb, e⟩ => ⟨b, pb, by rw [e]⟩
  exact (j_callD (R := R_pick) (c := 1) hb2 fun sls ⟨b, pb, e⟩ => ⟨_, ⟨rfl, p, b, rfl, (hb b pb).1, (hb b pb).2, e, rfl⟩, fun d ⟨i, hi, e⟩ => ⟨i, ⟨b, pb, hi⟩, e⟩⟩).cost (by omega)
end
/-! ### bounds -/
def Amt (M : Int) (l : List (Int × Int)) : Prop := ∀ x ∈ l, -M ≤ x.2 ∧ x.2 ≤ M
theorem tot_bound {M : Int} (hM : 0 ≤ M) : ∀ {l : List (Int × Int)}, Amt M l → ∀ k, -(M * l.length) ≤ tot l k ∧ tot l k ≤ M * l.length
  | [], _, k => by show -(M * 0) ≤ 0 ∧ 0 ≤ M * 0; rw [Int.mul_zero]; omega
  | x :: r, h, k => by
    have ih := tot_bound hM (l := r) (fun y hy => h y (List.mem_cons_of_mem _ hy)) k
    have hx := h x List.mem_cons_self
    have e : M * ((x :: r).length : Int) = M * r.length + M := by rw [List.length_cons, Int.natCast_add, Int.mul_add]; omega
    rw [e]
    show -(M * r.length + M) ≤ (if x.1 = k then x.2 else 0) + tot r k ∧ (if x.1 = k then x.2 else 0) + tot r k ≤ M * r.length + M
    split <;> omega
theorem gather_keys {cs : List (Int × Int)} {P : Int → Prop} (h : ∀ x ∈ cs, P x.1) : ∀ x ∈ gather cs, P x.1 := fun x hx => by
  have h1 := (gather_mem cs x).mp hx
  have h2 := tot_mem (l := cs) (k := x.1) (by rw [← h1.1]; exact h1.2)
  obtain ⟨y, hy, e⟩ := List.mem_map.mp h2
  rw [← e]; exact h y hy
/-! ### what the law holds for one and the same -/
def okS : Nat → PyData → Bool
  | 0, _ => false
  | k + 1, .list ds => decide (ds.length ≤ 100000) && ds.all (okS k)
  | k + 1, .tuple ds => decide (ds.length ≤ 100000) && ds.all (okS k)
  | _ + 1, .dict _ => false
  | _ + 1, .str x => PyData.strOk x
  | _ + 1, _ => true
def R_same (k : Nat) : RelX := fun _ sls c Φ => c = 0 ∧ ∃ d, okS k d = true ∧ sls = [.dat d, .dat d] ∧ Φ = fun x => x = .bool true
theorem okS_pr (k : Nat) (x : Int × Int) : okS (k + 2) (pr x) = true := rfl
theorem okS_led (k : Nat) {l : List (Int × Int)} (hl : l.length ≤ 100000) : okS (k + 3) (led l) = true := by
  show (decide ((pd l).length ≤ 100000) && (pd l).all (okS (k + 2))) = true
  rw [Bool.and_eq_true]
  refine ⟨decide_eq_true (by rw [pd_len]; exact hl), List.all_eq_true.mpr fun d hd => ?_⟩
  obtain ⟨x, _, rfl⟩ := List.mem_map.mp hd
  rfl
/-- a new jar -/
def spMk (K : PySem.W.Frag) : Sp := fun vs H Q _ => ∃ (a : Addr) (ns : List Int) (t : Int), vs = [.ref a, .int t] ∧ SqL K H a (ns.map V.int) ∧ 0 ≤ t ∧ t ≤ 1000 ∧
  ∀ p H2, Same H H2 → H p = none → Jar 999999999 H2 p → Q (.ref p) H2
end Cr

set_option Elab.async false
set_option linter.all false
set_option maxRecDepth 100000
set_option maxHeartbeats 800000
namespace Cr
open PySem PySem.Spec PyProof.Rows L2
/-! ### shaped data -/
theorem canAll_of : ∀ {ds : List PyData}, (∀ d ∈ ds, d.canLay0 = true) → PyData.canLayAll0 ds = true
  | [], _ => by simp [PyData.canLayAll0]
  | d :: ds, h => by
    rw [PyData.canLayAll0, Bool.and_eq_true]
    exact ⟨h d List.mem_cons_self, canAll_of fun x hx => h x (List.mem_cons_of_mem _ hx)⟩
theorem depthAll_le {k : Nat} : ∀ {ds : List PyData}, (∀ d ∈ ds, d.depth ≤ k) → PyData.depthAll ds ≤ k
  | [], _ => by simp [PyData.depthAll]
  | d :: ds, h => by
    rw [PyData.depthAll]
    exact Nat.max_le.mpr ⟨h d List.mem_cons_self, depthAll_le fun x hx => h x (List.mem_cons_of_mem _ hx)⟩
theorem pr_shape (x : Int × Int) : (pr x).canLay0 = true ∧ (pr x).depth ≤ 2 := by
  unfold pr
  constructor
  · simp [PyData.canLay0, PyData.canLayAll0]
  · simp [PyData.depth, PyData.depthAll]
theorem led_shape (l : List (Int × Int)) : (led l).canLay0 = true ∧ (led l).depth ≤ 3 := by
  unfold led
  constructor
  · rw [PyData.canLay0]
    exact canAll_of fun d hd => by obtain ⟨x, _, rfl⟩ := List.mem_map.mp hd; exact (pr_shape x).1
  · rw [PyData.depth]
    have : PyData.depthAll (pd l) ≤ 2 := depthAll_le fun d hd => by obtain ⟨x, _, rfl⟩ := List.mem_map.mp hd; exact (pr_shape x).2
    omega
theorem shaped_led (l : List (Int × Int)) : SeqAt.shaped (led l) = true := by
  unfold SeqAt.shaped
  rw [Bool.and_eq_true]
  exact ⟨(led_shape l).1, decide_eq_true (by have := (led_shape l).2; omega)⟩
theorem eqv_led_nil (l : List (Int × Int)) : PyData.eqv (led l) (.tuple []) = l.isEmpty := by
  cases l <;> simp [led, pd, PyData.eqv, PyData.eqvAll]
section
variable {K : PySem.W.Frag} {q : Option Addr} {n : Nat} {δ δ' : List Sl} {te ta tb tc tk ti : TE} {tt tu : TT} {c c1 c2 c3 ci : Nat} {Φ Φ1 Φ2 Φ3 : PyData → Prop} {d d1 d2 : PyData} {wi : TI} {A0 B0 Hk H1 H2 Hk' : Hp} {σ : L2.St} {D : Ends} {ts tz : TS} {g : TG} {p : Addr} {ds : List PyData} {P P1 P2 : Int → Prop} {N : Nat}
theorem tj_and {Ψ : Bool → Prop} {a : Bool} (h1 : TB q δ tt a) (h2 : a = true → TJ q δ tu c Ψ) (h0 : a = false → Ψ false) : TJ q δ (tAnd tt tu) c Ψ := fun σ H H1 n sg o Q k => h1 σ H H1 (n + c) sg o _ fun x Hk H2 g o1 e => by
  subst e
  cases x with
  | true => exact iteT (h2 rfl σ Hk H2 n (sg.mono g.k) o1 _ fun b Hk' H3 g' o2 e => k _ Hk' H3 (g.trans g') o2 e)
  | false => exact iteF (k _ Hk H2 g (o1.mono (by omega)) (h0 rfl))
theorem tj_not {P : Bool → Prop} (h : TJ q δ tt c P) : TJ q δ (tNot tt) c (fun b => P (!b)) := fun σ H H1 n sg o Q k => h σ H H1 n sg o _ fun x Hk H2 g o1 e => k _ Hk H2 g o1 (by show P (!(!x)); rw [Bool.not_not]; exact e)
/-- neither holds -/
theorem tj_or {P1 P2 : Bool → Prop} (h1 : TJ q δ tt c P1) (h2 : P1 false → TJ q δ tu c1 P2) (n1 : ¬ P1 true := by decide) (n2 : ¬ P2 true := by decide) : TJ q δ (tOr tt tu) (c1 + c) (fun b => b = false) := fun σ H H1 n sg o Q k => h1 σ H H1 (n + c1) sg (by rw [Nat.add_assoc]; exact o) _ fun x Hk H2 g o1 e => by
  cases x with
  | true => exact absurd e n1
  | false => exact iteF (h2 e σ Hk H2 n (sg.mono g.k) o1 _ fun b Hk' H3 g' o2 e2 => k b Hk' H3 (g.trans g') o2 (by
      cases b with
      | false => rfl
      | true => exact absurd e2 n2))
theorem boolP_true : (BoolP fun b => b = true) = fun x => x = PyData.bool true := by
  funext x
  exact propext ⟨fun ⟨b, h, e⟩ => by rw [e, h], fun e => ⟨true, rfl, e⟩⟩
/-! ### menus: [a, b, ..][draw] -/
def AJI (q : Option Addr) (δ : List Sl) (ta : TA) (c N : Nat) (P : Int → Prop) : Prop := AJ q δ ta c (fun sls => ∃ ns : List Int, sls = (ns.map PyData.int).map Sl.dat ∧ ns.length = N ∧ ∀ x ∈ ns, P x)
theorem aji_nil : AJI q δ tNil 0 0 P := AJ.imp ae_nil fun _ e => ⟨[], e, rfl, by simp⟩
theorem aji_cons {tr : TA} (h : J q δ te c1 (IntP P)) (t : AJI q δ tr c2 N P) : AJI q δ (tCons te tr) (c2 + c1) (N + 1) P := aj_cons h t fun d sls ⟨i, pi, e⟩ ⟨ns, e2, hl, hp⟩ => ⟨i :: ns, by rw [e, e2]; rfl, by rw [List.length_cons, hl], fun x hx => by
  rcases List.mem_cons.mp hx with h | h
  · rw [h]; exact pi
  · exact hp x h⟩
theorem j_menu {tl : TA} (h : AJI q δ tl c N P) (hN : N ≤ 1000000) (hi : J q δ ti ci (IntP fun i => 0 ≤ i ∧ i < N)) : J q δ (tOp (rIx K) (tLst tl) ti) (ci + c) (IntP P) := by
  refine j_iL (Ψ := fun ds => ∃ ns : List Int, ds = ns.map PyData.int ∧ ns.length = N ∧ ∀ x ∈ ns, P x) (j_lst (AJ.imp h fun sls ⟨ns, e, hl, hp⟩ => ⟨ns.map PyData.int, e, by rw [List.length_map]; omega, ns, rfl, hl, hp⟩)) hi fun ds i ⟨ns, e, hl, hp⟩ hi => ?_
  subst e
  have hlt : i.toNat < ns.length := by omega
  refine ⟨.int ns[i.toNat], ?_, ns[i.toNat], hp _ (List.getElem_mem hlt), rfl⟩
  have h3 := atI_nat (xs := ns.map PyData.int) (j := i.toNat) (v := .int ns[i.toNat]) (by rw [List.getElem?_map, List.getElem?_eq_getElem hlt]; rfl)
  rw [Int.toNat_of_nonneg hi.1] at h3
  exact h3
theorem E.is {i : Int} (h : E q δ te (.int i)) (hp : P i) : J q δ te 0 (IntP P) := h.imp fun d e => ⟨i, hp, e⟩
theorem J.intImp (h : J q δ te c (IntP P)) (hc : c ≤ c1) (i : ∀ x, P x → P1 x) : J q δ te c1 (IntP P1) := h.to hc fun d ⟨x, px, e⟩ => ⟨x, i x px, e⟩
theorem aj_int {tr : TA} {Φr Φ' : List Sl → Prop} (h : J q δ te c1 (IntP P)) (hr : AJ q δ tr c2 Φr) (hp : ∀ i sls, P i → Φr sls → Φ' (.dat (.int i) :: sls)) : AJ q δ (tCons te tr) (c2 + c1) Φ' := aj_cons h hr fun d sls ⟨i, pi, e⟩ s => by subst e; exact hp i sls pi s
/-! ### comprehensions over a ledger's pairs -/
theorem e_lcPd {l : List (Int × Int)} {i j : Nat} (hw : IE q δ wi (pd l)) (f : Int × Int → Int × Int) (hz : l.length ≤ 1000000)
    (he : ∀ x ∈ l, E q (((wipeD δ [i, j]).set i (.dat (.int x.1))).set j (.dat (.int x.2))) te (pr (f x))) : E q δ (tLc wi (gTup K 2 (gCons (gName i) (gCons (gName j) gNil))) tYes te [i, j]) (.list (pd (l.map f))) :=
  e_is (e_lc1 (vs := [i, j]) (emb := pr) (xs := l) hw (fun x => pr (f x)) hz fun x hx => ⟨_, gb_tup2 (by simp) (by simp), he x hx⟩) (by unfold pd; rw [List.map_map]; rfl)
theorem e_pr {a b : TE} {x y : Int} (h1 : E q δ a (.int x)) (h2 : E q δ b (.int y)) : E q δ (tTup (tCons a (tCons b tNil))) (pr (x, y)) := e_tup (ds := [.int x, .int y]) (ae_cons h1 (ae_cons h2 ae_nil))
/-! ### the same twice -/
theorem e_same2 {E0 : XK} {t1 t2 t3 t4 : TE} {X : PyData} (h1 : E q δ t1 X) (h2 : E q δ t2 X) (h3 : E q δ t3 X) (h4 : E q δ t4 X) (ok : okS 5 X = true) :
    E q δ (tCall (spX (R_same 6)) [] E0 (tCons (tLst (tCons t1 (tCons t2 tNil))) (tCons (tLst (tCons t3 (tCons t4 tNil))) tNil))) (.bool true) :=
  j_call (R := R_same 6) (ae_cons (e_lst (ds := [X, X]) (ae_cons h1 (ae_cons h2 ae_nil))) (ae_cons (e_lst (ds := [X, X]) (ae_cons h3 (ae_cons h4 ae_nil))) ae_nil)) fun sls e => ⟨rfl, .list [X, X], by
    show (decide (2 ≤ 100000) && (okS 5 X && (okS 5 X && true))) = true
    rw [ok]; rfl, e, rfl⟩
/-! ### keyword calls, told -/
theorem e_callK {R : RelX} {E0 : XK} {ta tk : TA} {gV : List V → List V → List V} {ss us rs : List Sl} (ha : AE q δ ta ss) (hk : AE q δ tk us) (hg : ∀ (H : Hp) (vs zs : List V), VS H vs ss → VS H zs us → VS H (gV vs zs) rs) (hr : R q rs 0 (fun x => x = d)) : E q δ (tCallK (spX R) gV E0 ta tk) d :=
  j_callK (R := R) (gS := fun _ _ => rs) ha hk (fun H vs zs s u h1 h2 e1 e2 => by subst e1; subst e2; exact hg H vs zs h1 h2) fun _ _ _ _ => hr
theorem VS.inv0 {H : Hp} {vs : List V} (h : VS H vs []) : vs = [] := List.length_eq_zero_iff.mp h.1
theorem VS.inv1 {H : Hp} {vs : List V} {s : Sl} {r : List Sl} (h : VS H vs (s :: r)) : ∃ v t, vs = v :: t ∧ SlOk H v s ∧ VS H t r := by
  cases vs with
  | nil => have := h.1; simp at this
  | cons v t =>
    obtain ⟨w, a, b⟩ := h.2 0 s rfl
    have e : v = w := by simpa using a
    subst e
    exact ⟨v, t, rfl, b, by have := h.1; simpa using this, fun i u e => by
      obtain ⟨x, p, q⟩ := h.2 (i + 1) u (by simpa using e)
      exact ⟨x, by simpa using p, q⟩⟩
/-- if c: x = e, joined -/
theorem q_ifAsg {i : Nat} {P0 : Bool → Prop} {d0 : PyData} (h : TJ q δ tt c P0) (s : At q (n + c1 + c) δ A0 B0 σ Hk H1) (he : P0 true → J q δ te c1 Φ) (hd : δ[i]? = some (.dat d0)) (h0 : P0 false → Φ d0)
    (k : ∀ d σ' Hk' H2, Φ d → At q n (δ.set i (.dat d)) A0 B0 σ' Hk' H2 → tz D σ' H2) : tSeq (tIfS tt (tAsg te (gName i)) tNext) tz D σ H1 :=
  q_when h s (fun e Hk' H2 g a => s_asg (D := { D with nx := tz D }) (he e) a fun d σ' Hk2 H3 pd g2 a2 => k d σ' Hk2 H3 pd a2) fun e Hk' H2 g a => k d0 σ Hk' H2 (h0 e) ((a.mono (by omega)).weak (List.length_set ..) fun j t et => .inr (by
    by_cases hj : i = j
    · subst hj
      have hl : i < δ.length := (List.getElem?_eq_some_iff.mp hd).1
      rw [List.getElem?_set_self hl] at et
      rw [hd]; exact et
    · rw [List.getElem?_set_ne hj] at et; exact et))
theorem j_iTP {l : List (Int × Int)} (h : E q δ ta (led l)) (hi : J q δ tb c (IntP fun i => 0 ≤ i ∧ i < l.length)) : J q δ (tOp (rIx K) ta tb) c (fun d => ∃ x ∈ l, d = pr x) :=
  (j_iT (Ψ := fun ds => ds = pd l) (E.tupP h) hi fun ds i e hi => by
    subst e
    have hlt : i.toNat < l.length := by omega
    refine ⟨pr l[i.toNat], ?_, _, List.getElem_mem hlt, rfl⟩
    have h3 := atI_nat (xs := pd l) (j := i.toNat) (v := pr l[i.toNat]) (by unfold pd; rw [List.getElem?_map, List.getElem?_eq_getElem hlt]; rfl)
    rw [Int.toNat_of_nonneg hi.1] at h3
    exact h3).cost (by omega)
/-! ### the law's own level -/
theorem At.reset (s : At q n δ A0 B0 σ Hk H1) : At none 0 δ Hk H1 σ Hk H1 := ⟨⟨s.ok.a, fun p e => (by cases e), fun p e => (by cases e)⟩, s.sg, Gr.refl s.ok.a⟩
theorem At.reset2 (s : At q n δ A0 B0 σ Hk H1) : At q n δ Hk H1 σ Hk H1 := ⟨s.ok, s.sg, Gr.refl s.ok.a⟩
theorem q_mkJar {i j k : Nat} {E0 : XK} {ns : List Int} {t : Int} (s : At none 0 δ A0 B0 σ Hk H1) (hi : δ[i]? = some (.scr K ns)) (hj : δ[j]? = some (.dat (.int t))) (h0 : 0 ≤ t) (h1 : t ≤ 1000)
    (kont : ∀ p σ' H2, Same H1 H2 → At (some p) 999999999 (δ.set k (.adr p)) Hk H2 σ' Hk H2 → tz D σ' H2) : tSeq (tAsg (tCall (spMk K) [] E0 (tCons (tVar i) (tCons (tVar j) tNil))) (gName k)) tz D σ H1 := by
  obtain ⟨v, a, b, rfl, hS⟩ := s.sg.2 i _ hi (fun z => by cases z)
  obtain ⟨w, e, dw⟩ := s.sg.get hj
  have ew := dw.intOf
  subst ew
  refine ⟨.ref b, a, .int t, e, ?_⟩
  refine ⟨b, ns, t, rfl, Same.seq s.ok.a hS, h0, h1, fun p H2 sm hp hJ => ?_⟩
  have hk : Hk p = none := s.ok.a.free hp
  refine kont p _ H2 sm ⟨⟨s.ok.a.trans sm, fun r er => by cases er; exact hk, fun r er => by cases er; exact hJ⟩, s.sg.set k (s := .adr p) rfl, Gr.refl (s.ok.a.trans sm)⟩
def spLaw (K : PySem.W.Frag) : Sp := fun vs H Q _ => ∃ (a : Addr) (ns : List Int), vs = [.ref a] ∧ SqL K H a (ns.map V.int) ∧ ns.length ≤ 63 ∧ ∀ H', Q (.bl true) H'
/-- for at in range(max(1, min(m, len(script)))) -/
theorem e_ats {m : Int} {i : Nat} {ns : List Int} (hi : δ[i]? = some (.scr K ns)) (hm : 1 ≤ m) (hm2 : m ≤ 100) : IJ q δ (iRng1 (tCons (tCB rMaxQ (tCons (tC (.int 1)) (tCons (tCB rMinQ (tCons (tC (.int m)) (tCons (tCB (rLenQ K) (tCons (tVar i) tNil)) tNil))) tNil))) tNil)) 0 (fun items => ∃ k : Nat, k ≤ 100 ∧ items = rng 0 k) :=
  ij_rng1 (E.intP (e_max e_int (e_min e_int (e_lenS hi)))) fun j e => by
    have h1 : 0 ≤ j ∧ j ≤ 100 := by
      rw [e]
      have : (0 : Int) ≤ (ns.length : Int) := Int.natCast_nonneg _
      split <;> split <;> omega
    exact ⟨by omega, j.toNat, by omega, rfl⟩
end
end Cr

set_option Elab.async false
set_option linter.all false
set_option maxRecDepth 100000
set_option maxHeartbeats 4000000
namespace Cr
open PySem PySem.Spec PyProof.Rows L2
/-! ### def f( *v ): all arguments become one tuple -/
def spV (R : RelX) : Sp := fun vs H Q _ => ∃ (q : Option Addr) (Hk : Hp) (ds : List PyData) (n c : Nat) (Φ : PyData → Prop), Ok q (n + c) Hk H ∧ DqAll Hk vs ds ∧ ds.length ≤ 100000 ∧ R q [.dat (.tuple ds)] c Φ ∧
  ∀ d v Hk' H2, Gr q Hk H Hk' H2 → Ok q n Hk' H2 → Φ d → Dq Hk' v d → Q v H2
section
variable {P : Program} {w : World} {K : PySem.W.Frag} {mg : Str → Option Value} {base : Heap}
theorem fnV_ok {x qual pv : Str} {st : Stmt} {f : Addr} {fd : FuncData} {N : List Str} {k : Nat} {R : RelX} (F : Fun K x qual st f fd) (S : FnScope N [pv] (defScope st)) (hN : 1 ≤ N.length) (len : ∀ q sls c Φ, R q sls c Φ → sls.length = 1) (lx : ∀ q ds c Φ, R q [.dat (.tuple ds)] c Φ → lax ds = true)
    (hb : ∀ (kV doc pm : Value) (an : Option Addr) (cdv ct : Value) (rest : List Value), bindArgs (PySem.W.fnOf x qual (defArgs st) (defBody st) (defScope st) .none kV doc pm an cdv ct) ⟨rest, []⟩ = (newTuple rest >>= fun t => pure [(pv, t)]))
    (body : ∀ (cdv : Value) (A : Around) (outer : List Env) (s : Shared) (B0 : Hp) (E : XK), Room k (A.deeper (envOfC qual (defScope st) s.heap.objs.size f cdv)) →
      ∃ t, PSs (cxOf CX0 P w K mg base N qual (defScope st) f cdv A outer s B0 E).nox (defBody st) t ∧
        ∀ (q : Option Addr) (sls : List Sl) (n c : Nat) (Φ : PyData → Prop) (A0 : Hp) (σ : L2.St) (Q : VK), R q sls c Φ → At q (n + c) (sls ++ List.replicate (N.length - sls.length) .any) A0 B0 σ A0 B0 → Fin q n A0 B0 Φ Q → t { nx := fun _ H' => Q .non H', rt := Q } σ B0) :
    FnR P w K mg base CX0 (k + 1) f (spV R) := by
  obtain ⟨oc, od, kV, doc, pm, an, cdv, ct, osl, rfl, lk, hcd⟩ := F.ex
  refine (StX.fn_star (ps := []) (pv := pv) (sp := spX R) lk hcd S StX.cxUp_none (fun us rest hl => ?_) (fun A outer s H vs Q E hr h => ?_)).imp fun vs H Q E h => ?_
  · obtain rfl := List.length_eq_zero_iff.mp hl
    exact hb kV doc pm an cdv ct rest
  · obtain ⟨q, Hk, sls, n, c, Φ, o, hv, r, fin⟩ := h
    obtain ⟨t, ht, hq⟩ := body cdv A outer s H E hr
    exact ⟨t, ht.nox, hq q sls n c Φ Hk (L2.start N vs) Q r ⟨o, start_sg hv (by rw [hv.1, len q sls c Φ r]; exact hN), Gr.refl o.a⟩ fin⟩
  · obtain ⟨q, Hk, ds, n, c, Φ, o, hv, hl, r, fin⟩ := h
    refine ⟨[], vs, rfl, rfl, by rw [hv.length, sizeLine_eq]; omega, fun p hp => ?_⟩
    have g := Gr.new (q := none) (o := .tup vs) o.a hp
    exact ⟨q, _, [.dat (.tuple ds)], n, c, Φ, o.go g, VS.cons (.tup (.inr ⟨lx q ds c Φ r, upd_same⟩) (DqAll.mono g.k _ _ hv)) VS.nil, r, fun d v Hk' H2 g' o' pd dv => fin d v Hk' H2 (g.none_to.trans g') o' pd dv⟩
end
section
variable {X : Cx} {CX : CXT} {k : Nat} {f : Addr} {sp : Sp} {E : XK} {x : Str} {e : Expr} {es : List Expr} {t : TA} {p pos : Pos}
theorem pe_callR (F : FnR X.prog X.w X.K X.mg X.base CX k f sp) (hr : Room k X.A) (hg : Gl X x) (hm : X.mg x = some (.ref f)) (hk : PySem.W.keepIn X.K (.ref f) = true) (hx : Passes CX X E)
    (ha : PA X (e :: es) t) (hdb : (x == ("__debug__" : Str)) = false := by decide) (he : starEach (e :: es) X.env = (false, eval e X.env) :: starEach es X.env := by rfl) (hpl : (backTo pos (starEach es X.env)).any (·.1) = false := by rfl) :
    PE X (.Call (.Name x p) (e :: es) [] pos) (tCall sp [] E t) := by
  refine ⟨fun pins s σ H Q I h => ?_⟩
  refine wpAny_Call_Name_kw (ld_glob I hg hm ?_ hdb)
  refine PySem.W.callWith_K (h₀ := X.base) I.ok.mod.kin hk (thn (ha.run pos pins s σ H _ I h) fun us s1 ⟨vs, H1, I1, r, q⟩ => ⟨I1.kIn, ?_⟩) he hpl
  have q2 : sp (vs ++ []) H1 Q E := q
  rw [List.append_nil] at q2
  exact wpAny_call (run_fnR F hr hx I1 r q2)
theorem pe_callR0 (F : FnR X.prog X.w X.K X.mg X.base CX k f sp) (hr : Room k X.A) (hg : Gl X x) (hm : X.mg x = some (.ref f)) (hk : PySem.W.keepIn X.K (.ref f) = true) (hx : Passes CX X E)
    (hdb : (x == ("__debug__" : Str)) = false := by decide) : PE X (.Call (.Name x p) [] [] pos) (tCall sp [] E tNil) := by
  refine ⟨fun pins s σ H Q I h => ?_⟩
  refine wpAny_Call_Name_kw (ld_glob I hg hm ?_ hdb)
  exact PySem.W.callWith_K0 I.kIn hk (wpAny_call (run_fnR (us := []) F hr hx I .nil h))
end
section
variable {K : PySem.W.Frag} {q : Option Addr} {n : Nat} {δ δ' : List Sl} {te ta tb tc tk ti : TE} {tt tu : TT} {c c1 c2 c3 ci : Nat} {Φ Φ1 Φ2 Φ3 : PyData → Prop} {d d1 d2 : PyData} {A0 B0 Hk H1 H2 Hk' : Hp} {σ : L2.St} {D : Ends} {ts tz : TS} {g : TG} {p : Addr} {ds : List PyData} {P P1 P2 : Int → Prop} {N : Nat}
theorem j_callV {R : RelX} {E : XK} {ta : TA} {Φa : List Sl → Prop} (ha : AJ q δ ta c1 Φa) (hr : ∀ sls, Φa sls → ∃ ds : List PyData, sls = ds.map Sl.dat ∧ ds.length ≤ 100000 ∧ R q [.dat (.tuple ds)] c Φ) : J q δ (tCall (spV R) [] E ta) (c + c1) Φ := fun σ H H1 n sg o Q k =>
  ha σ H H1 (n + c) sg (by rw [Nat.add_assoc]; exact o) _ fun sls vs Hk H2 g o1 p hv => by
    obtain ⟨ds, es, hl, r⟩ := hr sls p
    subst es
    show spV R (vs ++ []) H2 Q E
    rw [List.append_nil]
    exact ⟨q, Hk, ds, n, c, Φ, o1, hv.dats, hl, r, fun d v Hk' H3 g' o2 pd dv => k d v Hk' H3 (g.trans g') o2 pd dv⟩

/-! ### [e for a in x for b in y] -/
theorem e_lc2 {α β : Type} {emb : α → PyData} {emb2 : α → β → PyData} {wi wi1 : TI} {g g1 : TG} {vs vs1 : List Nat} {xs : List α} {ys : α → List β} (hw : IE q δ wi (xs.map emb)) (f : α → β → PyData) (hz : (xs.flatMap ys).length ≤ 1000000)
    (he : ∀ x ∈ xs, ∃ δ', GB (wipeD δ vs) g (emb x) δ' vs ∧ IE q δ' wi1 ((ys x).map (emb2 x)) ∧ ∀ y ∈ ys x, ∃ δ2, GB (wipeD δ' vs1) g1 (emb2 x y) δ2 vs1 ∧ E q δ2 te (f x y)) :
    E q δ (tLc2 wi g tYes wi1 g1 tYes te vs vs1) (.list (xs.flatMap fun x => (ys x).map (f x))) := fun σ H H1 n sg o Q k =>
  hw σ H H1 n sg o _ fun items Jt HkW H2 g0 o0 ei wk D hD => by
    have hlen : items.length = xs.length := by rw [ei, List.length_map]
    have hDk : HkW D = none := g0.a.free hD
    have hDq : q ≠ some D := fun e => (o0.j D e).ne hD
    have g1' : Gr q HkW H2 HkW (upd H2 D (.lst [])) := Gr.cell g0.a hD
    refine ⟨fun i m H' => m = items.length - i ∧ i ≤ items.length ∧ ∃ Hk' vs, Gr q HkW H2 Hk' H' ∧ Ok q n Hk' H' ∧ Hk' D = none ∧ H' D = some (.lst vs) ∧ DqAll Hk' vs ((xs.take i).flatMap fun x => (ys x).map (f x)),
      ⟨items.length, by simp, Nat.zero_le _, HkW, [], g1', o0.cell hDk hDq, hDk, upd_same, .nil⟩, ?_⟩
    rintro i m H' ⟨rfl, hi, Hk', zs, gr, ok, hDn, hl, hd⟩
    by_cases hlt : i < items.length
    · obtain ⟨go, yl⟩ := (wk i Hk' H' gr.k ok.a).1 hlt
      refine .inr ⟨go, fun H'' => ∃ Hk3 ys', Gr q HkW H2 Hk3 H'' ∧ Ok q n Hk3 H'' ∧ Hk3 D = none ∧ H'' D = some (.lst ys') ∧ DqAll Hk3 ys' ((xs.take (i + 1)).flatMap fun x => (ys x).map (f x)), fun H'' p => ⟨items.length - (i + 1), by omega, rfl, hlt, p⟩, fun v H'' y => ?_⟩
      obtain ⟨Hk2, g2, d, ed, dx⟩ := yl v H'' y
      obtain ⟨x, ex, rfl⟩ : ∃ x, xs[i]? = some x ∧ emb x = d := by
        rw [ei, List.getElem?_map] at ed
        exact Option.map_eq_some_iff.mp ed
      have hxm := List.mem_of_getElem? ex
      obtain ⟨δ', hgb, hwi, hin⟩ := he x hxm
      have ok2 := ok.go g2
      have sgw : Sg Hk2 (wipe σ vs) (wipeD δ vs) := ((sg.mono g0.k).mono (gr.k.trans g2.k)).wipe vs
      have hD2 : Hk2 D = none := g2.f D hDn (by rw [hl]; exact fun z => by cases z)
      have hl2 : H'' D = some (.lst zs) := g2.s D _ (fun z => by cases z) hl
      have hd2 := DqAll.mono g2.k _ _ hd
      have gr2 := gr.trans g2.none_to
      have hx : xs.take (i + 1) = xs.take i ++ [x] := by
        rw [List.take_add_one, ex]; rfl
      have hfl : ((xs.take i).flatMap fun x => (ys x).map (f x)).length + (ys x).length ≤ 1000000 := by
        have e1 : xs = xs.take (i + 1) ++ xs.drop (i + 1) := (List.take_append_drop _ _).symm
        have e2 : (xs.flatMap ys).length = ((xs.take i).flatMap ys).length + (ys x).length + ((xs.drop (i + 1)).flatMap ys).length := by
          conv => lhs; rw [e1, List.flatMap_append, List.length_append, hx, List.flatMap_append, List.length_append]
          rw [List.flatMap_cons, List.flatMap_nil, List.append_nil]
        have e3 : ((xs.take i).flatMap fun x => (ys x).map (f x)).length = ((xs.take i).flatMap ys).length := by
          rw [List.length_flatMap, List.length_flatMap]
          simp
        omega
      refine hgb (wipe σ vs) Hk2 H'' v sgw g2.a dx _ fun σ' sg' hl' hk' => ⟨wipe_eq (by rw [hl', wipe_length]) hk', ?_⟩
      unfold tYes
      refine iteT (hwi σ' Hk2 H'' n sg' ok2 _ fun items1 Jt1 HkV H3 g3 o3 ei1 wk1 => ?_)
      have hlen1 : items1.length = (ys x).length := by rw [ei1, List.length_map]
      have gr3 := gr2.trans g3
      refine ⟨fun j m H' => m = items1.length - j ∧ j ≤ items1.length ∧ ∃ Hk' vs, Same HkV Hk' ∧ Gr q HkW H2 Hk' H' ∧ Ok q n Hk' H' ∧ Hk' D = none ∧ H' D = some (.lst vs) ∧ DqAll Hk' vs (((xs.take i).flatMap fun x => (ys x).map (f x)) ++ ((ys x).take j).map (f x)),
        ⟨items1.length, by simp, Nat.zero_le _, HkV, zs, Same.refl _, gr3, o3, g3.f D hD2 (by rw [hl2]; exact fun z => by cases z), g3.s D _ hDq hl2, by rw [List.take_zero, List.map_nil, List.append_nil]; exact DqAll.mono g3.k _ _ hd2⟩, ?_⟩
      rintro j m H5 ⟨rfl, hj, Hk5, us, sm5, gr5, ok5, hD5, hl5, hd5⟩
      by_cases hlt1 : j < items1.length
      · obtain ⟨go1, yl1⟩ := (wk1 j Hk5 H5 sm5 ok5.a).1 hlt1
        refine .inr ⟨go1, fun H'' => ∃ Hk3 ys', Same HkV Hk3 ∧ Gr q HkW H2 Hk3 H'' ∧ Ok q n Hk3 H'' ∧ Hk3 D = none ∧ H'' D = some (.lst ys') ∧ DqAll Hk3 ys' (((xs.take i).flatMap fun x => (ys x).map (f x)) ++ ((ys x).take (j + 1)).map (f x)), fun H'' p => ⟨items1.length - (j + 1), by omega, rfl, hlt1, p⟩, fun v1 H6 y1 => ?_⟩
        obtain ⟨Hk6, g6, d1, ed1, dx1⟩ := yl1 v1 H6 y1
        obtain ⟨y, ey, rfl⟩ : ∃ y, (ys x)[j]? = some y ∧ emb2 x y = d1 := by
          rw [ei1, List.getElem?_map] at ed1
          exact Option.map_eq_some_iff.mp ed1
        obtain ⟨δ2, hgb1, hte⟩ := hin y (List.mem_of_getElem? ey)
        have ok6 := ok5.go g6
        have sg6 : Sg Hk6 (wipe σ' vs1) (wipeD δ' vs1) := (sg'.mono ((g3.k.trans sm5).trans g6.k)).wipe vs1
        have hD6 : Hk6 D = none := g6.f D hD5 (by rw [hl5]; exact fun z => by cases z)
        have hl6 : H6 D = some (.lst us) := g6.s D _ (fun z => by cases z) hl5
        have hd6 := DqAll.mono g6.k _ _ hd5
        have gr6 := gr5.trans g6.none_to
        have hy : (ys x).take (j + 1) = (ys x).take j ++ [y] := by
          rw [List.take_add_one, ey]; rfl
        refine hgb1 (wipe σ' vs1) Hk6 H6 v1 sg6 g6.a dx1 _ fun σ3 sg3 hl3 hk3 => ⟨wipe_eq (by rw [hl3, wipe_length]) hk3, ?_⟩
        refine iteT (hte σ3 Hk6 H6 n sg3 ok6 _ fun z w Hk7 H7 g7 o7 ez dw => ?_)
        subst ez
        have hD7 : Hk7 D = none := g7.f D hD6 (by rw [hl6]; exact fun z => by cases z)
        have hl7 : H7 D = some (.lst us) := g7.s D _ hDq hl6
        have hd7 := DqAll.mono g7.k _ _ hd6
        refine ⟨us, hl7, ?_, Hk7, us ++ [w], (sm5.trans g6.k).trans g7.k, (gr6.trans g7).put hD hD7, o7.cell hD7 hDq, hD7, upd_same, ?_⟩
        · rw [hd7.length, List.length_append, List.length_map, List.length_take]
          rw [sizeLine_eq]; omega
        · rw [hy, List.map_append, ← List.append_assoc]
          exact hd7.append (.cons dw .nil)
      · have e : j = items1.length := by omega
        subst e
        refine .inl ⟨(wk1 _ Hk5 H5 sm5 ok5.a).2 (Nat.le_refl _), Hk5, us, gr5, ok5, hD5, hl5, ?_⟩
        rw [hlen1, List.take_length] at hd5
        rw [hx, List.flatMap_append, List.flatMap_cons, List.flatMap_nil, List.append_nil]
        exact hd5
    · have e : i = items.length := by omega
      subst e
      refine .inl ⟨(wk _ Hk' H' gr.k ok.a).2 (Nat.le_refl _), ?_⟩
      rw [hlen, List.take_length] at hd
      have gf := gr.freeze hD hDn hl
      refine k _ _ _ _ (g0.trans gf) ⟨gf.a, fun p e => ?_, ok.j⟩ rfl (.lst upd_same (DqAll.mono (same_upd hDn) _ _ hd))
      rw [upd_ne (fun z => hDq (by rw [← z]; exact e))]
      exact ok.kf p e

/-! ### a list that still changes, read within an expression -/
mutual
def plain : PyData → Bool
  | .list _ => false
  | .dict _ => false
  | .tuple ds => plainAll ds
  | _ => true
def plainAll : List PyData → Bool
  | [] => true
  | d :: ds => plain d && plainAll ds
end
section
variable {Ha Hb : Hp}
/-- a tuple, known or not -/
def isT : HO → Prop
  | .tup _ => True
  | .frz _ (.tup _) => True
  | _ => False
mutual
theorem Dq.keep (e : ∀ b u, isT u → Ha b = some u → Hb b = some u) : ∀ (d : PyData) (v : V), plain d = true → Dq Ha v d → Dq Hb v d
  | .none, _, _, h => by cases h; exact .non
  | .bool b, _, _, h => by cases h; exact .bl b
  | .int i, _, _, h => by cases h; exact .int i
  | .str x, _, _, h => by cases h; exact .str x
  | .list ds, _, z, h => Bool.noConfusion (show false = true from z)
  | .tuple ds, _, z, h => by
    cases h with
    | tup hs ha =>
      refine .tup ?_ (DqAll.keep e ds _ z ha)
      rcases hs with ⟨o, d, q⟩ | ⟨d, q⟩
      · exact .inl ⟨o, d, e _ _ trivial q⟩
      · exact .inr ⟨d, e _ _ trivial q⟩
  | .dict _, _, z, h => by cases h
theorem DqAll.keep (e : ∀ b u, isT u → Ha b = some u → Hb b = some u) : ∀ (ds : List PyData) (vs : List V), plainAll ds = true → DqAll Ha vs ds → DqAll Hb vs ds
  | [], _, _, h => by cases h; exact .nil
  | d :: ds, _, z, h => by
    have z' : (plain d && plainAll ds) = true := z
    rw [Bool.and_eq_true] at z'
    cases h with
    | cons h1 h2 => exact .cons (Dq.keep e d _ z'.1 h1) (DqAll.keep e ds _ z'.2 h2)
end
end
theorem plainAll_of : ∀ {ds : List PyData}, (∀ d ∈ ds, plain d = true) → plainAll ds = true
  | [], _ => rfl
  | d :: ds, h => by
    show (plain d && plainAll ds) = true
    rw [h d (by simp), plainAll_of fun x hx => h x (by simp [hx])]; rfl
theorem plain_led (l : List (Int × Int)) : plain (led l) = true := by
  show plainAll (pd l) = true
  refine plainAll_of fun d hd => ?_
  obtain ⟨x, _, rfl⟩ := List.mem_map.mp hd
  rfl
theorem evalC {i : Nat} {Q : VK} (h : J q (δ.set i (.dat (.list ds))) te c Φ) (s : At q (n + c) δ A0 B0 σ Hk H1) (cl : Cell q B0 Hk H1 p ds) (hi : δ[i]? = some (.adr p)) (pl : ∀ d, Φ d → plain d = true)
    (k : ∀ d v Hk' H2, Φ d → Dq Hk' v d → Gr q Hk H1 Hk' H2 → At q n δ A0 B0 σ Hk' H2 → Cell q B0 Hk' H2 p ds → Q v H2) : te σ H1 Q := by
  obtain ⟨xs, ex, hd⟩ := cl.ex
  have gf := (Gr.refl (q := q) s.ok.a).freeze (o := .lst xs) (p := p)
  have hn := cl.nk
  have sm : Same Hk (upd Hk p (.lst xs)) := same_upd hn
  have smA : Same (upd Hk p (.lst xs)) H1 := fun b u z => by
    by_cases hb : b = p
    · subst hb; rw [upd_same] at z; rw [← z]; exact ex
    · rw [upd_ne hb] at z; exact s.ok.a b u z
  have ok1 : Ok q (n + c) (upd Hk p (.lst xs)) H1 := ⟨smA, fun r er => by rw [upd_ne (fun z => cl.nq (by rw [← z]; exact er))]; exact s.ok.kf r er, s.ok.j⟩
  have sg1 : Sg (upd Hk p (.lst xs)) σ (δ.set i (.dat (.list ds))) := by
    have sg := s.sg.mono sm
    refine ⟨by rw [List.length_set]; exact sg.1, fun j t ej ne => ?_⟩
    by_cases hj : i = j
    · subst hj
      have hl : i < δ.length := (List.getElem?_eq_some_iff.mp hi).1
      rw [List.getElem?_set_self hl] at ej
      cases ej
      exact ⟨.ref p, sg.getA hi, .lst upd_same (DqAll.mono sm _ _ hd)⟩
    · rw [List.getElem?_set_ne hj] at ej
      exact sg.2 j t ej ne
  refine h σ _ H1 n sg1 ok1 _ fun d v Hk2 H2 g o pd dv => ?_
  have e2 : Hk2 p = some (.lst xs) := g.k _ _ upd_same
  have eH2 : H2 p = some (.lst xs) := g.a _ _ e2
  obtain ⟨Hr, eHr⟩ : ∃ Hr : Hp, Hr = fun b => if b = p then none else Hk2 b := ⟨_, rfl⟩
  have rp : Hr p = none := by rw [eHr]; exact if_pos rfl
  have rn : ∀ b, b ≠ p → Hr b = Hk2 b := fun b hb => by rw [eHr]; exact if_neg hb
  have s1 : Same Hk Hr := fun b u z => by
    have hb : b ≠ p := ne_of_none z hn
    rw [rn b hb]; exact g.k b u (by rw [upd_ne hb]; exact z)
  have s2 : Same Hr H2 := fun b u z => by
    by_cases hb : b = p
    · rw [hb, rp] at z; cases z
    · rw [rn b hb] at z; exact g.a b u z
  have gg : Gr q Hk H1 Hr H2 := ⟨s1, s2, g.s, fun b hb h1 => by
    by_cases hbp : b = p
    · rw [hbp]; exact rp
    · rw [rn b hbp]; exact g.f b (by rw [upd_ne hbp]; exact hb) h1, g.t⟩
  refine k d v Hr H2 pd (Dq.keep (fun b ys iz z => ?_) d v (pl d pd) dv) gg ⟨⟨s2, fun r er => ?_, o.j⟩, s.sg.mono s1, s.gr.trans gg⟩ ⟨rp, cl.nq, cl.nb, xs, eH2, DqAll.mono s1 _ _ hd⟩
  · rw [rn b (fun hb => by rw [hb, e2] at z; cases z; exact iz.elim)]; exact z
  · rw [rn r (fun hb => cl.nq (by rw [← hb]; exact er))]; exact o.kf r er
theorem DqAll.set {H : Hp} : ∀ {vs : List V} {ds : List PyData} {v : V} {d : PyData}, DqAll H vs ds → ∀ j : Nat, Dq H v d → DqAll H (vs.set j v) (ds.set j d)
  | [], _, _, _, h, j, dv => by cases h; exact .nil
  | x :: xs, _, _, _, h, 0, dv => by
    cases h with
    | cons h1 h2 => exact .cons dv h2
  | x :: xs, _, _, _, h, j + 1, dv => by
    cases h with
    | cons h1 h2 => exact .cons h1 (DqAll.set h2 j dv)
/-- xs[j] = e at a list that still changes -/
theorem s_setC {i jx j : Nat} {m : Int} (h : J q (δ.set i (.dat (.list ds))) te c Φ) (s : At q (n + c) δ A0 B0 σ Hk H1) (cl : Cell q B0 Hk H1 p ds) (hi : δ[i]? = some (.adr p)) (pl : ∀ d, Φ d → plain d = true)
    (hx : δ[jx]? = some (.dat (.int m))) (hm : m = (j : Int)) (hj : j < ds.length)
    (k : ∀ d Hk' H2, Φ d → Same Hk Hk' → At q n δ A0 B0 σ Hk' H2 → Cell q B0 Hk' H2 p (ds.set j d) → D.nx σ H2) : tAsg te (gSub (tVar i) (tVar jx) rSetL) D σ H1 := by
  refine evalC h s cl hi pl fun d v Hk' H2 pd dv g a cl2 => ?_
  obtain ⟨xs, ex, hd⟩ := cl2.ex
  obtain ⟨w, hw, dw⟩ := a.sg.get hx
  have ew := dw.intOf
  subst ew
  refine ⟨.ref p, a.sg.getA hi, .int m, hw, p, xs, m, j, rfl, rfl, ex, ?_, k d Hk' _ pd g.k ⟨a.ok.cell cl2.nk cl2.nq, a.sg, a.gr.put cl2.nb cl2.nk⟩ ⟨cl2.nk, cl2.nq, cl2.nb, xs.set j v, upd_same, ?_⟩⟩
  · rw [hm, hd.length]; unfold ixN; rw [if_pos (by omega), if_pos (by omega)]; simp
  · exact DqAll.set hd j dv
/-- x = [e, ..], a list that changes -/
theorem q_newLs {i : Nat} {ta : TA} (h : AJ q δ ta c (fun sls => sls = ds.map Sl.dat)) (hl : ds.length ≤ 1000000) (s : At q (n + c) δ A0 B0 σ Hk H1)
    (k : ∀ p Hk' H2, Gr q Hk H1 Hk' H2 → At q n (δ.set i (.adr p)) A0 B0 (σ.set i (some (.ref p))) Hk' H2 → Cell q B0 Hk' H2 p ds → tz D (σ.set i (some (.ref p))) H2) : tSeq (tAsg (tLst ta) (gName i)) tz D σ H1 :=
  h σ Hk H1 n s.sg s.ok _ fun sls vs Hk2 H2 g o e hv => by
    subst e
    refine ⟨Nat.le_trans (by rw [hv.dats.length]; exact hl) (by rw [sizeLine_eq]; decide), fun p hp => ?_⟩
    have hk : Hk2 p = none := o.a.free hp
    have hb : B0 p = none := by
      cases e : B0 p with
      | none => rfl
      | some u => exact absurd hp ((s.gr.trans g).t p (by rw [e]; exact fun z => by cases z))
    have nq : q ≠ some p := fun e => (o.j p e).ne hp
    have gc : Gr q Hk H1 Hk2 (upd H2 p (.lst vs)) := g.trans (Gr.cell o.a hp)
    exact k p Hk2 _ gc ⟨o.cell hk nq, (s.sg.mono g.k).set i (s := .adr p) rfl, s.gr.trans gc⟩ ⟨hk, nq, hb, vs, upd_same, hv.dats⟩
theorem q_ifB {b : Bool} {t1 t2 : TS} (h : TB q δ tt b) (s : At q n δ A0 B0 σ Hk H1) (k1 : b = true → ∀ Hk' H2, Gr q Hk H1 Hk' H2 → At q n δ A0 B0 σ Hk' H2 → t1 { D with nx := tz D } σ H2) (k2 : b = false → ∀ Hk' H2, Gr q Hk H1 Hk' H2 → At q n δ A0 B0 σ Hk' H2 → t2 { D with nx := tz D } σ H2) : tSeq (tIfS tt t1 t2) tz D σ H1 :=
  s_ifB (D := { D with nx := tz D }) h s k1 k2
theorem AE.is {ta : TA} {a b : List Sl} (h : AE q δ ta a) (e : a = b) : AE q δ ta b := by rw [← e]; exact h
/-- b[0], b[1], .. -/
theorem ae_drop {i j : Nat} {ii : Int} {tr : TA} (hi : δ[i]? = some (.dat (.list ds))) (hj : j < ds.length) (t : AE q δ tr ((ds.drop (j + 1)).map Sl.dat)) (e : ii = (j : Int) := by rfl) : AE q δ (tCons (tOp (rIx K) (tVar i) (tC (.int ii))) tr) ((ds.drop j).map Sl.dat) := by
  rw [List.drop_eq_getElem_cons hj, List.map_cons]
  refine ae_cons (e_iL (e_var hi) e_int ?_) t
  rw [e]
  unfold atI ixN
  rw [if_pos (by omega), if_pos (by omega)]
  simp [hj]
/-- same([..], [..]) -/
theorem e_sameX {E0 : XK} {t1 t2 : TE} {X : PyData} {k : Nat} (h1 : E q δ t1 X) (h2 : E q δ t2 X) (ok : okS k X = true) : E q δ (tCall (spX (R_same k)) [] E0 (tCons t1 (tCons t2 tNil))) (.bool true) :=
  j_call (R := R_same k) (ae_cons h1 (ae_cons h2 ae_nil)) fun sls e => ⟨rfl, X, ok, e, rfl⟩
theorem okS_list {k : Nat} {ds : List PyData} (hl : ds.length ≤ 100000) (h : ∀ d ∈ ds, okS k d = true) : okS (k + 1) (.list ds) = true := by
  show (decide (ds.length ≤ 100000) && ds.all (okS k)) = true
  rw [decide_eq_true hl, Bool.true_and]; exact List.all_eq_true.mpr h
end
end Cr

set_option Elab.async false
set_option linter.all false
set_option maxRecDepth 100000
set_option maxHeartbeats 800000
namespace Cr
open PySem PySem.Spec PyProof.Rows L2
theorem flat_len {α : Type} {M : Nat} : ∀ {ls : List (List α)}, (∀ l ∈ ls, l.length ≤ M) → ∀ {N : Nat}, ls.length * M ≤ N → ls.flatten.length ≤ N
  | [], _, N, _ => Nat.zero_le _
  | l :: ls, h, N, hN => by
    rw [List.flatten_cons, List.length_append]
    have h1 := h l (by simp)
    rw [List.length_cons, Nat.add_mul, Nat.one_mul] at hN
    have h2 := flat_len (ls := ls) (fun x hx => h x (by simp [hx])) (N := N - M) (by omega)
    omega
theorem flat_pd (ls : List (List (Int × Int))) : (ls.flatMap fun l => l.map fun x => pr x) = pd ls.flatten := by
  unfold pd
  rw [List.map_flatten, List.flatMap_def]
theorem tot_map_mul (l : List (Int × Int)) (b k : Int) : tot (l.map fun x => (x.1, x.2 * b)) k = tot l k * b := by
  induction l with
  | nil => show (0 : Int) = 0 * b; rw [Int.zero_mul]
  | cons x l ih =>
    show (if x.1 = k then x.2 * b else 0) + tot (l.map fun x => (x.1, x.2 * b)) k = ((if x.1 = k then x.2 else 0) + tot l k) * b
    rw [ih, Int.add_mul]
    by_cases h : x.1 = k
    · rw [if_pos h, if_pos h]
    · rw [if_neg h, if_neg h, Int.zero_mul]
theorem tot_map_neg (l : List (Int × Int)) (k : Int) : tot (l.map fun x => (x.1, -x.2)) k = -tot l k := by
  have h := tot_map_mul l (-1) k
  rw [show (fun x : Int × Int => (x.1, x.2 * -1)) = fun x => (x.1, -x.2) from funext fun x => by rw [Int.mul_neg_one]] at h
  rw [h, Int.mul_neg_one]
theorem less_back {a b : List (Int × Int)} (ha : Led a) : gather [gather (a ++ b.map fun x => (x.1, -x.2)), b].flatten = a := by
  rw [← gather_self ha]
  conv => lhs; rw [gather_self ha]
  refine gather_ext fun k => ?_
  show tot (gather (a ++ b.map fun x => (x.1, -x.2)) ++ (b ++ [])) k = tot a k
  rw [List.append_nil, tot_append, tot_gather, tot_append, tot_map_neg]
  omega
theorem less_self (b : List (Int × Int)) : gather (b ++ b.map fun x => (x.1, -x.2)) = [] := by
  rw [gather_ext (ds := []) fun k => by
    rw [tot_append, tot_map_neg]
    show _ = (0 : Int)
    omega]
  rfl
theorem neg_book {l : List (Int × Int)} {b : Int} (hL : Led l) (hB : Bd 60 l) (hb : b.natAbs = 1) : Led (gather (l.map fun x => (x.1, x.2 * b))) ∧ Bd 60 (gather (l.map fun x => (x.1, x.2 * b))) ∧ (gather (l.map fun x => (x.1, x.2 * b))).length ≤ l.length := by
  refine ⟨gather_led _, fun x hx => ?_, by have := gather_len (l.map fun x => (x.1, x.2 * b)); rwa [List.length_map] at this⟩
  have h1 := (gather_mem _ x).mp hx
  rw [tot_map_mul] at h1
  have h2 : tot l x.1 ≠ 0 := fun e => h1.2 (by rw [h1.1, e, Int.zero_mul])
  have h3 : (x.1, tot l x.1) ∈ l := by
    have z : (x.1, tot l x.1) ∈ gather l := (gather_mem l _).mpr ⟨rfl, h2⟩
    rwa [gather_self hL] at z
  have h4 := hB _ h3
  refine ⟨h4.1, ?_⟩
  rw [h1.1, Int.natAbs_mul, hb, Nat.mul_one]
  exact h4.2
theorem cutD_to (xs : List PyData) (n : Nat) : cutD xs none (some (n : Int)) = xs.take n := by
  unfold cutD
  have h0 : HT.sIx xs.length 0 none = 0 := rfl
  rw [h0, List.drop_zero, Nat.sub_zero]
  have h1 : HT.sIx xs.length xs.length (some (n : Int)) = min n xs.length := by
    simp [HT.sIx]
    try omega
  rw [h1]
  by_cases h : n ≤ xs.length
  · rw [Nat.min_eq_left h]
  · rw [Nat.min_eq_right (by omega), List.take_length, List.take_of_length_le (by omega)]
section
variable {K : PySem.W.Frag} {q : Option Addr} {n : Nat} {δ δ' : List Sl} {te ta tb tc tk ti : TE} {tt tu tt1 tt2 tt3 : TT} {c c1 c2 c3 ci : Nat} {Φ Φ1 Φ2 Φ3 : PyData → Prop} {d d1 d2 : PyData} {A0 B0 Hk H1 H2 Hk' : Hp} {σ : L2.St} {D : Ends} {ts tz : TS} {g : TG} {p : Addr} {ds : List PyData}
theorem q_elif3A {i : Nat} {b1 b2 b3 : Bool} {te1 te2 te3 te4 : TE} (h1 : TB q δ tt1 b1) (h2 : TB q δ tt2 b2) (h3 : TB q δ tt3 b3) (e1 : b1 = true → E q δ te1 d) (e2 : b2 = true → E q δ te2 d) (e3 : b3 = true → E q δ te3 d) (e4 : b1 = false → b2 = false → b3 = false → E q δ te4 d)
    (s : At q n δ A0 B0 σ Hk H1) (cl : Cell q B0 Hk H1 p ds) (hi : δ[i]? = some (.adr p)) (hl : ds.length < 1000000)
    (k : ∀ Hk' H2, At q n δ A0 B0 σ Hk' H2 → Cell q B0 Hk' H2 p (ds ++ [d]) → tz D σ H2) :
    tSeq (tIfS tt1 (tDrop (tBM K "list" rAppend (tVar i) (tCons te1 tNil))) (tIfS tt2 (tDrop (tBM K "list" rAppend (tVar i) (tCons te2 tNil))) (tIfS tt3 (tDrop (tBM K "list" rAppend (tVar i) (tCons te3 tNil))) (tDrop (tBM K "list" rAppend (tVar i) (tCons te4 tNil)))))) tz D σ H1 := by
  have fin : ∀ {te : TE} {Hk' H2 : Hp}, E q δ te d → Gr q Hk H1 Hk' H2 → At q n δ A0 B0 σ Hk' H2 → tDrop (tBM K "list" rAppend (tVar i) (tCons te tNil)) { D with nx := tz D } σ H2 := fun e g a =>
    s_append (c := 0) e a (cl.go g) hi hl fun d' Hk2 H3 ed sm a2 c2 => by subst ed; exact k Hk2 H3 a2 c2
  refine q_ifB h1 s (fun b Hk1 H2 g1 a1 => fin (e1 b) g1 a1) fun b Hk1 H2 g1 a1 => ?_
  refine s_ifB h2 a1 (fun b' Hk2 H3 g2 a2 => fin (e2 b') (g1.trans g2) a2) fun b' Hk2 H3 g2 a2 => ?_
  exact s_ifB h3 a2 (fun b2 Hk3 H4 g3 a3 => fin (e3 b2) ((g1.trans g2).trans g3) a3) fun b2 Hk3 H4 g3 a3 => fin (e4 b b' b2) ((g1.trans g2).trans g3) a3
end
end Cr

set_option Elab.async false
set_option linter.all false
set_option maxRecDepth 100000
set_option maxHeartbeats 800000
namespace Cr
open PySem PySem.Spec PyProof.Rows L2
/-! ### products of ledgers -/
def prodL (a b : List (Int × Int)) : List (Int × Int) := a.flatMap fun x => b.map fun y => (x.1 + y.1, x.2 * y.2)
def powL (l : List (Int × Int)) : Nat → List (Int × Int)
  | 0 => [(0, 1)]
  | i + 1 => gather (prodL (powL l i) l)
theorem tot_one (b : List (Int × Int)) (x : Int × Int) (k : Int) : tot (b.map fun y => (x.1 + y.1, x.2 * y.2)) k = tot (b.map fun y => (y.1 + x.1, y.2 * x.2)) k := by
  congr 1
  exact List.map_congr_left fun y _ => by rw [Int.add_comm, Int.mul_comm]
theorem tot_prod_cons (b a : List (Int × Int)) (x : Int × Int) (k : Int) : tot (prodL b (x :: a)) k = tot (b.map fun y => (y.1 + x.1, y.2 * x.2)) k + tot (prodL b a) k := by
  induction b with
  | nil => rfl
  | cons y b ih =>
    show tot ((y.1 + x.1, y.2 * x.2) :: (a.map fun z => (y.1 + z.1, y.2 * z.2)) ++ prodL b (x :: a)) k = tot ((y.1 + x.1, y.2 * x.2) :: b.map fun y => (y.1 + x.1, y.2 * x.2)) k + tot ((a.map fun z => (y.1 + z.1, y.2 * z.2)) ++ prodL b a) k
    rw [List.cons_append]
    show (if y.1 + x.1 = k then y.2 * x.2 else 0) + tot ((a.map fun z => (y.1 + z.1, y.2 * z.2)) ++ prodL b (x :: a)) k = ((if y.1 + x.1 = k then y.2 * x.2 else 0) + tot (b.map fun y => (y.1 + x.1, y.2 * x.2)) k) + tot ((a.map fun z => (y.1 + z.1, y.2 * z.2)) ++ prodL b a) k
    rw [tot_append, tot_append, ih]
    omega
theorem tot_prod_comm (a b : List (Int × Int)) (k : Int) : tot (prodL a b) k = tot (prodL b a) k := by
  induction a with
  | nil =>
    have h : ∀ b : List (Int × Int), prodL b [] = [] := fun b => by
      unfold prodL
      induction b with
      | nil => rfl
      | cons x b ih => rw [List.flatMap_cons, ih]; rfl
    rw [h]; rfl
  | cons x a ih =>
    rw [tot_prod_cons]
    show tot ((b.map fun y => (x.1 + y.1, x.2 * y.2)) ++ prodL a b) k = _
    rw [tot_append, ih, tot_one]
theorem prod_comm (a b : List (Int × Int)) : gather (prodL a b) = gather (prodL b a) := gather_ext fun k => tot_prod_comm a b k
theorem prod_len (a b : List (Int × Int)) : (prodL a b).length = a.length * b.length := by
  unfold prodL
  induction a with
  | nil => simp
  | cons x a ih => rw [List.flatMap_cons, List.length_append, ih, List.length_map, List.length_cons, Nat.add_mul, Nat.one_mul, Nat.add_comm]
/-! ### sums with a weight -/
def wsum (φ : Int → Int) : List (Int × Int) → Int
  | [] => 0
  | x :: r => x.2 * φ x.1 + wsum φ r
def ksum (φ : Int → Int) (f : Int → Int) : List Int → Int
  | [] => 0
  | k :: r => f k * φ k + ksum φ f r
theorem ksum_add (φ f g : Int → Int) : ∀ S : List Int, ksum φ (fun k => f k + g k) S = ksum φ f S + ksum φ g S
  | [] => rfl
  | k :: S => by
    show (f k + g k) * φ k + ksum φ (fun k => f k + g k) S = (f k * φ k + ksum φ f S) + (g k * φ k + ksum φ g S)
    rw [ksum_add φ f g S, Int.add_mul]; omega
theorem ksum_no (φ : Int → Int) (x c : Int) : ∀ S : List Int, x ∉ S → ksum φ (fun k => if x = k then c else 0) S = 0
  | [], _ => rfl
  | k :: S, h => by
    show (if x = k then c else 0) * φ k + _ = 0
    rw [if_neg (fun e => h (by rw [e]; simp)), Int.zero_mul, ksum_no φ x c S fun z => h (by simp [z])]
    rfl
theorem ksum_at (φ : Int → Int) (x c : Int) : ∀ S : List Int, S.Pairwise (· < ·) → x ∈ S → ksum φ (fun k => if x = k then c else 0) S = c * φ x
  | [], _, h => by cases h
  | k :: S, hp, h => by
    have hp' := List.pairwise_cons.mp hp
    show (if x = k then c else 0) * φ k + ksum φ (fun k => if x = k then c else 0) S = c * φ x
    by_cases e : x = k
    · subst e
      rw [if_pos rfl, ksum_no φ x c S fun z => absurd (hp'.1 x z) (by omega), Int.add_zero]
    · rw [if_neg e, Int.zero_mul, Int.zero_add]
      exact ksum_at φ x c S hp'.2 (by
        rcases List.mem_cons.mp h with z | z
        · exact absurd z e
        · exact z)
theorem ksum_zero (φ : Int → Int) : ∀ S : List Int, ksum φ (fun _ => 0) S = 0
  | [] => rfl
  | k :: S => by
    show 0 * φ k + ksum φ (fun _ => 0) S = 0
    rw [ksum_zero φ S, Int.zero_mul]; rfl
theorem wsum_keys (φ : Int → Int) {S : List Int} (hp : S.Pairwise (· < ·)) : ∀ l : List (Int × Int), (∀ x ∈ l, x.1 ∈ S) → wsum φ l = ksum φ (tot l) S
  | [], _ => (ksum_zero φ S).symm
  | x :: l, h => by
    show x.2 * φ x.1 + wsum φ l = ksum φ (fun k => (if x.1 = k then x.2 else 0) + tot l k) S
    rw [ksum_add, ksum_at φ x.1 x.2 S hp (h x (by simp)), wsum_keys φ hp l fun y hy => h y (by simp [hy])]
theorem wsum_gather (φ : Int → Int) (cs : List (Int × Int)) : wsum φ (gather cs) = wsum φ cs := by
  have hp := usort_sorted (cs.map (·.1))
  rw [wsum_keys φ hp (gather cs) fun x hx => ?_, wsum_keys φ hp cs fun x hx => (usort_mem _ _).mpr (List.mem_map.mpr ⟨x, hx, rfl⟩)]
  · congr 1
    exact funext fun k => tot_gather cs k
  · have h := (gather_mem cs x).mp hx
    exact (usort_mem _ _).mpr (tot_mem (by rw [← h.1]; exact h.2))
theorem wsum_append (φ : Int → Int) (a b : List (Int × Int)) : wsum φ (a ++ b) = wsum φ a + wsum φ b := by
  induction a with
  | nil => show wsum φ b = 0 + wsum φ b; omega
  | cons x a ih =>
    show x.2 * φ x.1 + wsum φ (a ++ b) = (x.2 * φ x.1 + wsum φ a) + wsum φ b
    rw [ih]; omega
theorem wsum_shift (φ : Int → Int) (hφ : ∀ i j, φ (i + j) = φ i * φ j) (x : Int × Int) (b : List (Int × Int)) : wsum φ (b.map fun y => (x.1 + y.1, x.2 * y.2)) = x.2 * φ x.1 * wsum φ b := by
  induction b with
  | nil => show (0 : Int) = _ * 0; rw [Int.mul_zero]
  | cons y b ih =>
    show x.2 * y.2 * φ (x.1 + y.1) + wsum φ (b.map fun y => (x.1 + y.1, x.2 * y.2)) = x.2 * φ x.1 * (y.2 * φ y.1 + wsum φ b)
    rw [ih, hφ, Int.mul_add]
    congr 1
    rw [Int.mul_assoc, Int.mul_assoc, Int.mul_left_comm y.2]
theorem wsum_prod (φ : Int → Int) (hφ : ∀ i j, φ (i + j) = φ i * φ j) (a b : List (Int × Int)) : wsum φ (prodL a b) = wsum φ a * wsum φ b := by
  induction a with
  | nil => show (0 : Int) = 0 * _; rw [Int.zero_mul]
  | cons x a ih =>
    show wsum φ ((b.map fun y => (x.1 + y.1, x.2 * y.2)) ++ prodL a b) = (x.2 * φ x.1 + wsum φ a) * wsum φ b
    rw [wsum_append, ih, Int.add_mul, wsum_shift φ hφ]
/-- 1 at even keys, the base at odd ones -/
def par (s : Int) (k : Int) : Int := if k % 2 = 1 then s else 1
theorem par_add {s : Int} (hs : s = 1 ∨ s = -1) (i j : Int) : par s (i + j) = par s i * par s j := by
  have hss : s * s = 1 := by rcases hs with rfl | rfl <;> rfl
  unfold par
  by_cases hi : i % 2 = 1 <;> by_cases hj : j % 2 = 1
  · rw [if_pos hi, if_pos hj, if_neg (by omega), hss]
  · rw [if_pos hi, if_neg hj, if_pos (by omega), Int.mul_one]
  · rw [if_neg hi, if_pos hj, if_pos (by omega), Int.one_mul]
  · rw [if_neg hi, if_neg hj, if_neg (by omega)]; rfl
theorem par_abs {s : Int} (hs : s = 1 ∨ s = -1) (k : Int) : (par s k).natAbs = 1 := by
  unfold par
  by_cases hk : k % 2 = 1
  · rw [if_pos hk]; rcases hs with rfl | rfl <;> rfl
  · rw [if_neg hk]; rfl
theorem wsum_list (s : Int) (l : List (Int × Int)) : (l.map fun x => x.2 * par s x.1).sum = wsum (par s) l := by
  induction l with
  | nil => rfl
  | cons x l ih => rw [List.map_cons, List.sum_cons, ih]; rfl
/-! ### how great amounts are -/
def Amb (B : Nat) (l : List (Int × Int)) : Prop := ∀ x ∈ l, x.2.natAbs < 2 ^ B
theorem Amb.mono {B C : Nat} {l : List (Int × Int)} (h : Amb B l) (hc : B ≤ C) : Amb C l := fun x hx => Nat.lt_of_lt_of_le (h x hx) (Nat.pow_le_pow_right (by decide) hc)
theorem wsum_bound {s : Int} (hs : s = 1 ∨ s = -1) {M : Nat} : ∀ {l : List (Int × Int)}, (∀ x ∈ l, x.2.natAbs ≤ M) → (wsum (par s) l).natAbs ≤ M * l.length
  | [], _ => Nat.zero_le _
  | x :: l, h => by
    have ih := wsum_bound hs (l := l) (fun y hy => h y (by simp [hy]))
    have h1 := h x (by simp)
    have h2 : (x.2 * par s x.1).natAbs = x.2.natAbs := by rw [Int.natAbs_mul, par_abs hs, Nat.mul_one]
    show (x.2 * par s x.1 + wsum (par s) l).natAbs ≤ M * (l.length + 1)
    have h3 := Int.natAbs_add_le (x.2 * par s x.1) (wsum (par s) l)
    rw [Nat.mul_add, Nat.mul_one]
    omega
theorem gather_amb {cs : List (Int × Int)} {p : Nat} (h : ∀ x ∈ cs, x.2.natAbs ≤ 2 ^ p) (hl : cs.length ≤ 2 ^ 13) : Amb (p + 14) (gather cs) := fun x hx => by
  have h1 := (gather_mem cs x).mp hx
  have h2 := tot_bound (M := ((2 ^ p : Nat) : Int)) (Int.natCast_nonneg _) (l := cs) (fun y hy => by have := h y hy; omega) x.1
  rw [← h1.1] at h2
  have h3 : 2 ^ p * cs.length ≤ 2 ^ p * 2 ^ 13 := Nat.mul_le_mul_left _ hl
  have h4 : (2 : Nat) ^ (p + 14) = 2 ^ p * 2 ^ 13 * 2 := by rw [Nat.pow_add, Nat.mul_assoc]
  have h5 : 0 < (2 : Nat) ^ p := Nat.pos_of_ne_zero (by simp)
  have h6 : ((2 ^ p : Nat) : Int) * (cs.length : Int) = ((2 ^ p * cs.length : Nat) : Int) := by rw [Int.natCast_mul]
  rw [h6] at h2
  generalize 2 ^ p * cs.length = u at h2 h3
  have h7 : 0 < 2 ^ p * 2 ^ 13 := Nat.mul_pos h5 (by decide)
  generalize 2 ^ p * 2 ^ 13 = w at h3 h4 h7
  rw [h4]
  omega
theorem prod_amb {a b : List (Int × Int)} {p r : Nat} (ha : Amb p a) (hb : Amb r b) (hl : a.length * b.length ≤ 2 ^ 13) : Amb (p + r + 14) (gather (prodL a b)) := by
  refine gather_amb (fun x hx => ?_) (by rw [prod_len]; exact hl)
  obtain ⟨y, hy, hx2⟩ := List.mem_flatMap.mp hx
  obtain ⟨z, hz, rfl⟩ := List.mem_map.mp hx2
  show (y.2 * z.2).natAbs ≤ _
  rw [Int.natAbs_mul, Nat.pow_add]
  exact Nat.mul_le_mul (Nat.le_of_lt (ha y hy)) (Nat.le_of_lt (hb z hz))
theorem pow_facts {l : List (Int × Int)} (hA : Amb 60 l) (hl : l.length ≤ 6) : ∀ i : Nat, i ≤ 4 → Led (powL l i) ∧ (powL l i).length ≤ 6 ^ i ∧ Amb (1 + 80 * i) (powL l i)
  | 0, _ => ⟨⟨by simp [powL], by simp [powL]⟩, by simp [powL], fun x hx => by
    have e : x = (0, 1) := by simpa [powL] using hx
    rw [e]; decide⟩
  | i + 1, hi => by
    obtain ⟨h0, h1, h2⟩ := pow_facts hA hl i (by omega)
    have h6 : (6 : Nat) ^ i ≤ 6 ^ 3 := Nat.pow_le_pow_right (by decide) (by omega)
    have h3 : (powL l i).length * l.length ≤ 6 ^ i * 6 := Nat.mul_le_mul h1 hl
    refine ⟨gather_led _, ?_, ?_⟩
    · have z := gather_len (prodL (powL l i) l)
      rw [prod_len] at z
      exact Nat.le_trans z (by rw [Nat.pow_succ]; exact h3)
    · exact (prod_amb h2 hA (Nat.le_trans h3 (by omega))).mono (by omega)
theorem pow_len {l : List (Int × Int)} (hA : Amb 60 l) (hl : l.length ≤ 6) {i : Nat} (hi : i ≤ 4) : (powL l i).length ≤ 1296 := by
  have h := (pow_facts hA hl i hi).2.1
  have h6 : (6 : Nat) ^ i ≤ 6 ^ 4 := Nat.pow_le_pow_right (by decide) (by omega)
  omega
theorem flat_const {α β : Type} (a : List α) (b : List β) : (a.flatMap fun _ => b).length = a.length * b.length := by
  induction a with
  | nil => simp
  | cons x a ih => rw [List.flatMap_cons, List.length_append, ih, List.length_cons, Nat.add_mul, Nat.one_mul, Nat.add_comm]
theorem prod_pd (a b : List (Int × Int)) : (a.flatMap fun x => b.map fun y => pr (x.1 + y.1, x.2 * y.2)) = pd (prodL a b) := by
  unfold pd prodL
  rw [List.map_flatMap]
  congr 1
  exact funext fun x => by rw [List.map_map]; rfl
theorem prod_snoc (a b : List (Int × Int)) (x : Int × Int) : prodL (a ++ [x]) b = prodL a b ++ b.map fun y => (x.1 + y.1, x.2 * y.2) := by
  unfold prodL
  rw [List.flatMap_append, List.flatMap_cons, List.flatMap_nil, List.append_nil]
theorem and_one (k : Int) : Builtin.bitAnd k 1 = k % 2 := bitAnd_m1 k
end Cr

set_option Elab.async false
set_option linter.all false
set_option maxRecDepth 100000
set_option maxHeartbeats 800000
namespace Cr
open PySem PySem.Spec PyProof.Rows L2
/-! ### one key's amount -/
theorem held_tot (l : List (Int × Int)) (k : Int) : ((l.filter fun x => x.1 == k).map (·.2)).sum = tot l k := by
  induction l with
  | nil => rfl
  | cons x l ih =>
    show _ = (if x.1 = k then x.2 else 0) + tot l k
    by_cases h : x.1 = k
    · rw [List.filter_cons, if_pos (by simpa using h), List.map_cons, List.sum_cons, ih, if_pos h]
    · rw [List.filter_cons, if_neg (by simpa using h), ih, if_neg h]; omega
theorem tot_filter_ne (l : List (Int × Int)) (k j : Int) : tot (l.filter fun x => !(x.1 == k)) j = if j = k then 0 else tot l j := by
  induction l with
  | nil => show (0 : Int) = if j = k then 0 else 0; rw [ite_self]
  | cons x l ih =>
    show _ = if j = k then 0 else (if x.1 = j then x.2 else 0) + tot l j
    by_cases h : x.1 = k
    · rw [List.filter_cons, if_neg (by simpa using h), ih]
      by_cases hj : j = k
      · rw [if_pos hj, if_pos hj]
      · rw [if_neg hj, if_neg hj, if_neg (by omega)]; omega
    · rw [List.filter_cons, if_pos (by simpa using h)]
      show (if x.1 = j then x.2 else 0) + tot (l.filter fun x => !(x.1 == k)) j = _
      rw [ih]
      by_cases hj : j = k
      · rw [if_pos hj, if_pos hj, if_neg (by omega)]; omega
      · rw [if_neg hj, if_neg hj]
theorem with_is (l : List (Int × Int)) (k a : Int) : gather ((l.filter fun x => !(x.1 == k)) ++ [(k, a)]) = gather (l ++ [(k, a - tot l k)]) := gather_ext fun j => by
  rw [tot_append, tot_append, tot_filter_ne]
  show (if j = k then 0 else tot l j) + ((if k = j then a else 0) + 0) = tot l j + ((if k = j then a - tot l k else 0) + 0)
  by_cases hj : j = k
  · subst hj; rw [if_pos rfl, if_pos rfl, if_pos rfl]; omega
  · rw [if_neg hj, if_neg (by omega), if_neg (by omega)]
end Cr

set_option Elab.async false
set_option linter.all false
set_option maxRecDepth 100000
set_option maxHeartbeats 800000
namespace Cr
open PySem PySem.Spec PyProof.Rows L2
/-! ### repr of a list or a tuple -/
def rReprD (K : PySem.W.Frag) : List V → Hp → VK → Prop := fun xs H Q => ∃ (a : Addr) (d : PyData), xs = [.ref a] ∧ Dp K H (.ref a) d ∧ d.showable = true ∧ d.hasDict = false ∧ d.depth ≤ 40 ∧ d.shown.length ≤ sizeLine ∧ Q (.str d.shown) H
theorem call_reprD {X : Cx} (hg : X.A.guards = some []) (hu : X.A.units + 64 < cLine) : CallR X (.builtin "repr") (rReprD X.K) := by
  intro pins s σ H xs us Q I r h
  obtain ⟨a, d, rfl, hd, hs, hn, hk, hz, q⟩ := h
  obtain ⟨u, rfl, ru⟩ := vals1 r
  obtain rfl : u = Value.ref a := ru
  obtain ⟨as, rd⟩ := Dp.reads I d _ _ hd rfl
  exact repr_of_reads' rd hs (fun z => by rw [hn] at z; cases z) hg (by omega) (fun _ _ e => e) (fun h' t tk keep => ⟨.str d.shown, H, I.kept keep, ⟨t, rfl⟩, q⟩) hz
theorem k_reprD {X : Cx} {K : PySem.W.Frag} (h : X.K = K) (hg : X.A.guards = some []) (hu : X.A.units + 64 < cLine) : CallR X (.builtin "repr") (rReprD K) := h ▸ call_reprD hg hu
section
variable {K : PySem.W.Frag} {q : Option Addr} {δ : List Sl} {te ta tb : TE} {d : PyData}
theorem e_repr {ds : List PyData} (h : E q δ te (.list ds)) (hs : (PyData.list ds).showable = true) (hn : (PyData.list ds).hasDict = false) (hk : (PyData.list ds).depth ≤ 40) (hz : (PyData.list ds).shown.length ≤ sizeLine) : E q δ (tCB (rReprD K) (tCons te tNil)) (.str (PyData.list ds).shown) :=
  e_cb1 h fun vs H H1 hv e Q k => by
    obtain ⟨v, rfl, dv⟩ := hv.one
    obtain ⟨a, xs, rfl, h1, h2⟩ := dv.lstOf
    exact ⟨a, _, rfl, Dq.dp K _ _ (Dq.mono e _ _ dv), hs, hn, hk, hz, k _ _ H H1 (Gr.refl e) rfl (.str _)⟩
theorem e_neS {x y : Str} (ha : E q δ ta (.str x)) (hb : E q δ tb (.str y)) : E q δ (tOp rNe ta tb) (.bool (!decide (x = y))) := e_op ha hb fun u v H H1 hx hy e Q k => by
  rw [hx.strOf, hy.strOf]
  refine ⟨rfl, k (.bool (!decide (x = y))) _ H H1 (Gr.refl e) rfl ?_⟩
  rw [show decide (V.str x = V.str y) = decide (x = y) by by_cases h : x = y <;> simp [h]]
  exact .bl _
end
theorem shows_pd : ∀ {cs : List (Int × Int)}, Bd 52 cs → PyData.showableAll (pd cs) = true ∧ PyData.hasDictAll (pd cs) = false ∧ PyData.leavesShortAll 60 (pd cs) = true
  | [], _ => ⟨rfl, rfl, rfl⟩
  | x :: cs, h => by
    obtain ⟨i1, i2, i3⟩ := shows_pd (cs := cs) fun y hy => h y (by simp [hy])
    have hx := h x (by simp)
    have lg : ∀ i : Int, i.natAbs < 2 ^ 52 → i.natAbs.log2 < 53 := fun i hi => PySem.Flt.log2_lt_of (by omega) (Nat.lt_of_lt_of_le hi (by omega))
    have ln : ∀ i : Int, i.natAbs < 2 ^ 52 → (PyData.shown (.int i)).length ≤ 60 := fun i hi => by
      have z := int_text_length_le (a := i) (k := 53) (by omega) (lg i hi)
      have e : (PyData.shown (.int i)).length = (toString i).length := by
        show (Str.ofString (toString i)).length = _
        rw [Str.ofString_eq_toList]
        show (((toString i).toList.map Char.toNat).toArray).size = _
        rw [List.size_toArray, List.length_map]
        first | rfl | exact String.length_toList | exact String.length_toList.symm
      omega
    refine ⟨?_, ?_, ?_⟩
    · show (PyData.showable (pr x) && PyData.showableAll (pd cs)) = true
      rw [i1, Bool.and_true]
      show (decide (x.1.natAbs.log2 < 1920) && (decide (x.2.natAbs.log2 < 1920) && true)) = true
      rw [decide_eq_true (by have := lg x.1 hx.1; omega), decide_eq_true (by have := lg x.2 hx.2; omega)]; rfl
    · show (PyData.hasDict (pr x) || PyData.hasDictAll (pd cs)) = false
      rw [i2]; rfl
    · show (PyData.leavesShort 60 (pr x) && PyData.leavesShortAll 60 (pd cs)) = true
      rw [i3, Bool.and_true]
      show (decide ((PyData.shown (.int x.1)).length ≤ 60) && (decide ((PyData.shown (.int x.2)).length ≤ 60) && true)) = true
      rw [decide_eq_true (ln x.1 hx.1), decide_eq_true (ln x.2 hx.2)]; rfl
theorem weight_pd : ∀ {cs : List (Int × Int)}, Bd 52 cs → PyData.weightAll (pd cs) ≤ 120 * cs.length
  | [], _ => Nat.le_refl _
  | x :: cs, h => by
    have ih := weight_pd (cs := cs) fun y hy => h y (by simp [hy])
    have hx := h x (by simp)
    have lg : ∀ i : Int, i.natAbs < 2 ^ 52 → PyData.weight (.int i) ≤ 54 := fun i hi => by
      have z : i.natAbs.log2 < 53 := PySem.Flt.log2_lt_of (by omega) (Nat.lt_of_lt_of_le hi (by omega))
      show (if i == 0 then 0 else i.natAbs.log2 + 1) ≤ 54
      split <;> omega
    have h1 := lg x.1 hx.1
    have h2 := lg x.2 hx.2
    show PyData.weight (pr x) + 1 + PyData.weightAll (pd cs) ≤ 120 * (cs.length + 1)
    have e : PyData.weight (pr x) = PyData.weight (.int x.1) + 1 + (PyData.weight (.int x.2) + 1 + 0) := rfl
    omega
theorem shown_pd {cs : List (Int × Int)} (h : Bd 52 cs) (hl : cs.length ≤ 400) : (PyData.list (pd cs)).shown.length ≤ sizeLine := by
  have z := PyData.shown_le 60 (by omega) (.list (pd cs)) (shows_pd h).2.2
  have w : PyData.weight (.list (pd cs)) ≤ 48000 := by
    have y := weight_pd h
    show PyData.weightAll (pd cs) ≤ 48000
    omega
  have e : sizeLine = 16777216 := by decide
  rw [e]
  have m := Nat.mul_le_mul_left (60 + 2) w
  omega
theorem depth_pd (cs : List (Int × Int)) : (PyData.list (pd cs)).depth ≤ 40 := by
  have h : PyData.depthAll (pd cs) ≤ 2 := depthAll_le fun d hd => by
    obtain ⟨x, _, rfl⟩ := List.mem_map.mp hd
    exact (pr_shape x).2
  simp only [PyData.depth]
  omega
/-! ### a law that is entered at the caller itself: its guards are known -/
section
variable {P : Program} {w : World} {K : PySem.W.Frag} {mg mb : Str → Option Value} {base : Heap} {k : Nat}
theorem runG {x qual x0 : Str} {st : Stmt} {f : Addr} {fd : FuncData} {N : List Str} {A : Around} {outer : List Env} {s : Shared} {H : Hp} {u : Value} {v : V} {Q : VK} {E0 : XK} (F : Fun K x qual st f fd) (S : FnScope N [x0] (defScope st)) (hr : Room (k + 1) A) (e0 : Env0 P w K mg base A outer s H) (rv : RelV v u)
    (hb : ∀ (kV doc pm : Value) (an : Option Addr) (cdv ct u : Value), bindArgs (PySem.W.fnOf x qual (defArgs st) (defBody st) (defScope st) .none kV doc pm an cdv ct) ⟨[u], []⟩ = pure [(x0, u)])
    (body : ∀ (s2 : Shared) (cdv : Value), Room k (A.deeper (envOfC qual (defScope st) s2.heap.objs.size f cdv)) → ∃ t, PSs (cxOf CX0 P w K mg base N qual (defScope st) f cdv A outer s2 H E0).nox (defBody st) t ∧ t { nx := fun _ H' => Q .non H', rt := Q } (L2.start N [v]) H) :
    codeAny (model P w) A (.call (.ref f) ⟨[u], []⟩) (CR CX0 outer P w H s Q E0) s := by
  obtain ⟨oc, od, kV, doc, pm, an, cdv, ct, osl, rfl, lk, hcd⟩ := F.ex
  refine StX.run_bnd (G := fun vs H2 => vs = [v] ∧ H2 = H) lk hcd S hr e0 (fun A' Ex Q' h => ?_) fun s2 H2 vs g hr2 => ?_
  · rw [hb]
    exact wpAny_pure (h s H [v] [u] e0 Un.refl rfl (fun _ _ z => z) (.cons rv .nil) rfl ⟨rfl, rfl⟩)
  · obtain ⟨rfl, rfl⟩ := g
    obtain ⟨t, ht, hq⟩ := body s2 cdv hr2
    exact ⟨t, ht.nox, hq⟩
/-- the heap at the law's entry: at most the script is tracked -/
theorem scriptHp (K : PySem.W.Frag) {h : Heap} {a : Addr} {vs : List Value} {ns : List Int} (KX : K.In h) (ho : h.get? a = some { cls := .type "list", data := .seq vs.toArray }) (hi : IntsAre vs ns) (hl : ns.length ≤ sizeLine) :
    ∃ H : Hp, (∀ b u, H b = some u → b = a ∧ K.lookup a = none ∧ u = .frz { cls := .type "list", data := .seq vs.toArray } (.lst (ns.map V.int))) ∧ SqL K H a (ns.map V.int) := by
  have hv := vals_ints hi
  cases hk : K.lookup a with
  | none =>
    refine ⟨fun b => if b = a then some (.frz { cls := .type "list", data := .seq vs.toArray } (.lst (ns.map V.int))) else none, fun b u z => ?_, .inl (.inr ⟨_, if_pos rfl⟩)⟩
    change (if b = a then _ else _) = some u at z
    by_cases hb : b = a
    · rw [if_pos hb] at z
      exact ⟨hb, rfl, (Option.some.inj z).symm⟩
    · rw [if_neg hb] at z; cases z
  | some o =>
    have e := KX a o hk
    rw [ho] at e
    obtain rfl := Option.some.inj e
    exact ⟨fun _ => none, fun b u z => (by cases z), .inr ⟨_, vs.toArray, _, hk, rfl, rfl, rfl, by rw [List.size_toArray, hi.length]; exact hl, by simpa using hv⟩⟩
theorem topG {fa a : Addr} {s : Shared} {vs : List Value} {ns : List Int} (KX : K.In s.heap) (n1 : s.heap.Ns mainGlobals mg) (n2 : s.heap.Ns builtinsNs mb) (n3 : ∀ x : Str, x ≠ "__name__" → mb x = bootBuiltins x) (n4 : s.heap.NoLimit) (n5 : s.gens = #[])
    (ho : s.heap.get? a = some { cls := .type "list", data := .seq vs.toArray }) (hi : IntsAre vs ns) (hl : ns.length ≤ sizeLine)
    (run : ∀ (base : Heap) (H : Hp), K.In base → base.Ns mainGlobals mg → Env0 P w K mg base callerA [] s H → SqL K H a (ns.map V.int) → codeAny (model P w) callerA (.call (.ref fa) ⟨[.ref a], []⟩) (CR CX0 [] P w H s (fun v _ => v = .bl true) fun _ _ _ => False) s) :
    codeAny (model P w) callerA (.call (.ref fa) ⟨[.ref a], []⟩) (fun r t => r = .ok (.ret (.bool true)) ∧ OldK s.heap t.heap ∧ t.os = s.os ∧ AllBare t.gens) s := by
  obtain ⟨H, tr, hS⟩ := scriptHp K KX ho hi hl
  have ok : HOk P w H s.heap := fun b u z => by
    obtain ⟨e1, _, e3⟩ := tr b u z
    subst e1; subst e3
    exact ⟨ho, by rw [List.length_map]; exact hl, vs, _, vals_ints hi, ho⟩
  have un1 : ∀ b o, s.heap.get? b = some o → (∀ hb : b = a, o.data = .seq vs.toArray → K.lookup a ≠ none) → H b = none := fun b o e h => by
    cases z : H b with
    | none => rfl
    | some u =>
      obtain ⟨e1, e2, _⟩ := tr b u z
      subst e1
      rw [ho] at e
      exact absurd e2 (h rfl (by rw [← Option.some.inj e]))
  have hid : ∀ b o, s.heap.get? b = some o → H b = none → (hidT s.heap H).get? b = some o := fun b o e n => hidT_get e n
  have nsH : ∀ {c : Addr} {m : Str → Option Value}, s.heap.Ns c m → (hidT s.heap H).Ns c m := fun {c m} h => by
    obtain ⟨o, es, ep, e, d, r⟩ := h
    exact ⟨o, es, ep, hid c o e (un1 c o e fun hb dd => by rw [d] at dd; cases dd), d, r⟩
  have kin : K.In (hidT s.heap H) := fun b o e => hid b o (KX b o e) (by
    cases z : H b with
    | none => rfl
    | some u =>
      obtain ⟨e1, e2, _⟩ := tr b u z
      rw [e1, e2] at e; cases e)
  obtain ⟨mc, l1, l2⟩ := n4
  have e0 : Env0 P w K mg (hidT s.heap H) callerA [] s H := { frames := rfl, mod := ⟨kin, nsH n1, ⟨mb, nsH n2, n3⟩, mc, nsH l1, l2⟩, bs := fun b o e => of_hidT e, bsz := Nat.le_of_eq (hidT_size _ _), funs := trivial, frf := (fun b hb => nomatch hb), hok := ok, bare := .of_eq n5 }
  refine codeAny_mono (run _ H kin (nsH n1) e0 hS) fun r t h => ?_
  match r, h with
  | .ok (.ret u), h =>
    obtain ⟨v, H', hos, hbr, hun, hok', hrv, hv⟩ := h
    have hv' : v = .bl true := hv
    subst hv'
    have hu : u = Value.bool true := hrv
    refine ⟨by rw [hu], OldK.of_keep fun b o e => ?_, hos, hbr⟩
    cases z : H b with
    | none => exact hun.keep b o e z (fun m => nomatch m) (fun m => nomatch m)
    | some u2 =>
      obtain ⟨_, _, e3⟩ := tr b u2 z
      subst e3
      have y1 := (ok b _ z).1
      have y2 := (hok' b _ (hun.frzs b _ _ z)).1
      rw [e] at y1
      rw [Option.some.inj y1]; exact y2
  | .ok .next, h => exact False.elim h
  | .ok .brk, h => exact False.elim h
  | .ok .cont, h => exact False.elim h
  | .error e, h => exact False.elim h
end
theorem walkG {l : PySem.W.OpenLaw} {n : Nat} {qp : Program} {lo : List Str} {XP : (Str → Option Value) → Heap → Prop} {YP : World → Heap → Prop} {d : DefRec} {K : Params → PySem.W.Frag} (hn : l.most = some n) (hz : n ≤ sizeLine) (hdf : d.params.defaults = [])
    (hY : ∀ (w : World) (h : Heap), YP w h → (K w.params).In h)
    (F : ∀ (w : World) (mg : Str → Option Value) (fa : Addr) (h : Heap), (K w.params).In h → h.Ns mainGlobals mg → mg d.name = some (.ref fa) →
      ∀ (base : Heap) (s : Shared) (H : Hp) (a : Addr) (ns : List Int), Env0 l.prog w (K w.params) mg base callerA [] s H → ns.length ≤ n → SqL (K w.params) H a (ns.map V.int) → codeAny (model l.prog w) callerA (.call (.ref fa) ⟨[.ref a], []⟩) (CR CX0 [] l.prog w H s (fun v _ => v = .bl true) fun _ _ _ => False) s) :
    PySem.W.WalkO qp lo XP YP l.row.toRowW d [] (fun f vs => PySem.call f vs) :=
  Att.attach_call hn hdf fun w _ s1 mg mb fa _ _ _ _ a vs ns G Y _ _ _ g1 g2 g3 g4 g5 =>
    topG (hY w _ Y) G.T.g G.T.b G.T.builtins G.T.nolimit g5 g2 g3 (Nat.le_trans g4 hz) fun base H _ _ e0 hS => F w mg fa _ (hY w _ Y) G.T.g g1 base s1 H a ns e0 g4 hS
section
variable {K : PySem.W.Frag} {q : Option Addr} {n : Nat} {δ : List Sl} {te : TE} {tt : TT} {c c1 : Nat} {Φ : PyData → Prop} {A0 B0 Hk H1 : Hp} {σ : L2.St} {D : Ends} {tz : TS}
/-- if c: x = e, joined; what was known stays known -/
theorem q_ifAsgS {i : Nat} {P0 : Bool → Prop} {d0 : PyData} (h : TJ q δ tt c P0) (s : At q (n + c1 + c) δ A0 B0 σ Hk H1) (he : P0 true → J q δ te c1 Φ) (hd : δ[i]? = some (.dat d0)) (h0 : P0 false → Φ d0)
    (k : ∀ d σ' Hk' H2, Φ d → Same Hk Hk' → At q n (δ.set i (.dat d)) A0 B0 σ' Hk' H2 → tz D σ' H2) : tSeq (tIfS tt (tAsg te (gName i)) tNext) tz D σ H1 :=
  q_when h s (fun e Hk' H2 g a => s_asg (D := { D with nx := tz D }) (he e) a fun d σ' Hk2 H3 pd g2 a2 => k d σ' Hk2 H3 pd (g.k.trans g2.k) a2) fun e Hk' H2 g a => k d0 σ Hk' H2 (h0 e) g.k ((a.mono (by omega)).weak (List.length_set ..) fun j t et => .inr (by
    by_cases hj : i = j
    · subst hj
      have hl : i < δ.length := (List.getElem?_eq_some_iff.mp hd).1
      rw [List.getElem?_set_self hl] at et
      rw [hd]; exact et
    · rw [List.getElem?_set_ne hj] at et; exact et))
end
end Cr

set_option Elab.async false
set_option linter.all false
set_option maxRecDepth 100000
set_option maxHeartbeats 800000
namespace Cr
open PySem PySem.Spec PyProof.Rows L2
section
variable {K : PySem.W.Frag} {q : Option Addr} {n : Nat} {δ δ' : List Sl} {te ta tb tn ti : TE} {tt : TT} {c c1 c2 : Nat} {Φ : PyData → Prop} {d : PyData} {A0 B0 Hk H1 : Hp} {σ : L2.St} {D : Ends} {tz tbody : TS} {g : TG} {p : Addr} {ds : List PyData}
/-- elements that are drawn: each costs c1 at most -/
theorem j_lcD {α : Type} {emb : α → PyData} {wi : TI} {vs : List Nat} {Ψ : List α → Prop} {N : Nat} (hw : IJ q δ wi c (fun items => ∃ xs, Ψ xs ∧ items = xs.map emb)) (hz : ∀ xs, Ψ xs → xs.length ≤ N) (hN : N ≤ 1000000)
    (he : ∀ xs, Ψ xs → ∀ x ∈ xs, ∃ δ', GB (wipeD δ vs) g (emb x) δ' vs ∧ J q δ' te c1 Φ) :
    J q δ (tLc wi g tYes te vs) (c1 * N + c) (fun r => ∃ (xs : List α) (ds : List PyData), Ψ xs ∧ ds.length = xs.length ∧ (∀ d ∈ ds, Φ d) ∧ r = .list ds) := fun σ H H1 n sg o Q k =>
  hw σ H H1 (n + c1 * N) sg (by rw [Nat.add_assoc]; exact o) _ fun items Jt HkW H2 g0 o0 pi wk D hD => by
    obtain ⟨xs, pi, ei⟩ := pi
    have hlen : items.length = xs.length := by rw [ei, List.length_map]
    have hxN := hz xs pi
    have hDk : HkW D = none := g0.a.free hD
    have hDq : q ≠ some D := fun e => (o0.j D e).ne hD
    have g1 : Gr q HkW H2 HkW (upd H2 D (.lst [])) := Gr.cell g0.a hD
    refine ⟨fun i m H' => m = items.length - i ∧ i ≤ items.length ∧ ∃ Hk' vs ds, Gr q HkW H2 Hk' H' ∧ Ok q (n + c1 * (N - i)) Hk' H' ∧ Hk' D = none ∧ H' D = some (.lst vs) ∧ DqAll Hk' vs ds ∧ ds.length = i ∧ ∀ d ∈ ds, Φ d,
      ⟨items.length, by simp, Nat.zero_le _, HkW, [], [], g1, o0.cell hDk hDq, hDk, upd_same, .nil, rfl, by simp⟩, ?_⟩
    rintro i m H' ⟨rfl, hi, Hk', ys, es, gr, ok, hDn, hl, hd, hel, hep⟩
    by_cases hlt : i < items.length
    · obtain ⟨go, yl⟩ := (wk i Hk' H' gr.k ok.a).1 hlt
      refine .inr ⟨go, fun H'' => ∃ Hk3 ys' es', Gr q HkW H2 Hk3 H'' ∧ Ok q (n + c1 * (N - (i + 1))) Hk3 H'' ∧ Hk3 D = none ∧ H'' D = some (.lst ys') ∧ DqAll Hk3 ys' es' ∧ es'.length = i + 1 ∧ ∀ d ∈ es', Φ d, fun H'' p => ⟨items.length - (i + 1), by omega, rfl, hlt, p⟩, fun v H'' y => ?_⟩
      obtain ⟨Hk2, g2, d, ed, dx⟩ := yl v H'' y
      obtain ⟨x, ex, rfl⟩ : ∃ x, xs[i]? = some x ∧ emb x = d := by
        rw [ei, List.getElem?_map] at ed
        exact Option.map_eq_some_iff.mp ed
      obtain ⟨δ', hgb, hte⟩ := he xs pi x (List.mem_of_getElem? ex)
      have hf : n + c1 * (N - i) = (n + c1 * (N - (i + 1))) + c1 := by
        rw [show N - i = (N - (i + 1)) + 1 by omega, Nat.mul_add, Nat.mul_one, Nat.add_assoc]
      rw [hf] at ok
      have ok2 := ok.go g2
      have sgw : Sg Hk2 (wipe σ vs) (wipeD δ vs) := ((sg.mono g0.k).mono (gr.k.trans g2.k)).wipe vs
      have hD2 : Hk2 D = none := g2.f D hDn (by rw [hl]; exact fun z => by cases z)
      have hl2 : H'' D = some (.lst ys) := g2.s D _ (fun z => by cases z) hl
      have hd2 := DqAll.mono g2.k _ _ hd
      have gr2 := gr.trans g2.none_to
      refine hgb (wipe σ vs) Hk2 H'' v sgw g2.a dx _ fun σ' sg' hl' hk' => ⟨wipe_eq (by rw [hl', wipe_length]) hk', ?_⟩
      unfold tYes
      refine iteT (hte σ' Hk2 H'' _ sg' ok2 _ fun y w Hk4 H4 g4 o4 ey dw => ?_)
      have hD4 : Hk4 D = none := g4.f D hD2 (by rw [hl2]; exact fun z => by cases z)
      have hl4 : H4 D = some (.lst ys) := g4.s D _ hDq hl2
      have hd4 := DqAll.mono g4.k _ _ hd2
      refine ⟨ys, hl4, ?_, Hk4, ys ++ [w], es ++ [y], (gr2.trans g4).put hD hD4, o4.cell hD4 hDq, hD4, upd_same, hd4.append (.cons dw .nil), by rw [List.length_append, hel]; rfl, fun z hz => ?_⟩
      · rw [hd4.length, hel, sizeLine_eq]; omega
      · rcases List.mem_append.mp hz with h | h
        · exact hep z h
        · rw [List.mem_singleton.mp h]; exact ey
    · have e : i = items.length := by omega
      subst e
      refine .inl ⟨(wk _ Hk' H' gr.k ok.a).2 (Nat.le_refl _), ?_⟩
      have gf := gr.freeze hD hDn hl
      refine k _ _ _ _ (g0.trans gf) ⟨gf.a, fun p e => ?_, fun p e => (ok.j p e).mono (Nat.le_add_right _ _)⟩ ⟨xs, es, pi, by rw [hel, hlen], hep, rfl⟩ (.lst upd_same (DqAll.mono (same_upd hDn) _ _ hd))
      rw [upd_ne (fun z => hDq (by rw [← z]; exact e))]
      exact ok.kf p e
/-- while: P by a measure -/
theorem q_while (P : Nat → L2.St → Hp → Hp → Prop) (m0 : Nat) (h0 : P m0 σ Hk H1)
    (turn : ∀ m σ' Hk' H', P m σ' Hk' H' → ∃ (δ' : List Sl) (b : Bool) (n' : Nat), TB q δ' tt b ∧ At q n' δ' A0 B0 σ' Hk' H' ∧
      (b = true → ∀ Hk2 H2, Gr q Hk' H' Hk2 H2 → At q n' δ' A0 B0 σ' Hk2 H2 → tbody { D with nx := fun σ3 H4 => ∃ m' Hk3, m' < m ∧ P m' σ3 Hk3 H4, ct := fun σ3 H4 => ∃ m' Hk3, m' < m ∧ P m' σ3 Hk3 H4, bk := tz D } σ' H2) ∧
      (b = false → ∀ Hk2 H2, Gr q Hk' H' Hk2 H2 → At q n' δ' A0 B0 σ' Hk2 H2 → tz D σ' H2)) : tSeq (tWhile tt tbody) tz D σ H1 := by
  refine ⟨fun m σ' H' => ∃ Hk', P m σ' Hk' H', ⟨m0, Hk, h0⟩, ?_⟩
  rintro m σ' H' ⟨Hk', hp⟩
  obtain ⟨δ', b, n', ht, a, k1, k2⟩ := turn m σ' Hk' H' hp
  refine ht σ' Hk' H' n' a.sg a.ok _ fun b' Hk2 H2 g o e => ?_
  subst e
  have a2 : At q n' δ' A0 B0 σ' Hk2 H2 := ⟨o, a.sg.mono g.k, a.gr.trans g⟩
  cases b' with
  | true => exact iteT ⟨_, fun σ3 H4 ⟨m', Hk3, h1, h2⟩ => ⟨m', h1, Hk3, h2⟩, k1 rfl Hk2 H2 g a2⟩
  | false => exact iteF (k2 rfl Hk2 H2 g a2)
/-- xs[e2] = e at a list that still changes -/
theorem s_setCE {i j : Nat} {m : Int} (h : J q (δ.set i (.dat (.list ds))) te c Φ) (s : At q (n + c) δ A0 B0 σ Hk H1) (cl : Cell q B0 Hk H1 p ds) (hi : δ[i]? = some (.adr p)) (pl : ∀ d, Φ d → plain d = true)
    (hx : E q δ ti (.int m)) (hm : m = (j : Int)) (hj : j < ds.length)
    (k : ∀ d Hk' H2, Φ d → Same Hk Hk' → At q n δ A0 B0 σ Hk' H2 → Cell q B0 Hk' H2 p (ds.set j d) → D.nx σ H2) : tAsg te (gSub (tVar i) ti rSetL) D σ H1 := by
  refine evalC h s cl hi pl fun d v Hk' H2 pd dv g a cl2 => ?_
  refine ⟨.ref p, a.sg.getA hi, hx σ Hk' H2 n a.sg a.ok _ fun d' w Hk3 H3 g3 o3 ed dw => ?_⟩
  subst ed
  have ew := dw.intOf
  subst ew
  have cl3 := cl2.go g3
  obtain ⟨xs, ex, hd⟩ := cl3.ex
  refine ⟨p, xs, m, j, rfl, rfl, ex, ?_, k d Hk3 _ pd (g.k.trans g3.k) ⟨o3.cell cl3.nk cl3.nq, a.sg.mono g3.k, (a.gr.trans g3).put cl3.nb cl3.nk⟩ ⟨cl3.nk, cl3.nq, cl3.nb, xs.set j v, upd_same, ?_⟩⟩
  · rw [hm, hd.length]; unfold ixN; rw [if_pos (by omega), if_pos (by omega)]; simp
  · exact DqAll.set hd j (Dq.mono g3.k _ _ dv)
/-- x = [e] * k, a list that changes -/
theorem q_newRep {i : Nat} {ta : TA} {m : Int} {es : List PyData} (h : AE q δ ta (es.map Sl.dat)) (hes : es.length ≤ 1000000) (hk : E q δ tn (.int m)) (h0 : -(2 ^ 63) ≤ m) (h1 : m < 2 ^ 63) (hl : es.length * m.toNat ≤ 1000000) (s : At q n δ A0 B0 σ Hk H1)
    (k : ∀ p Hk' H2, Gr q Hk H1 Hk' H2 → At q n (δ.set i (.adr p)) A0 B0 (σ.set i (some (.ref p))) Hk' H2 → Cell q B0 Hk' H2 p (List.replicate m.toNat es).flatten → tz D (σ.set i (some (.ref p))) H2) : tSeq (tAsg (tOp rMulU (tLst ta) tn) (gName i)) tz D σ H1 := by
  unfold tSeq tAsg tOp
  refine e_lst (ds := es) h hes σ Hk H1 n s.sg s.ok _ fun d x Hk2 H2 g o ed dx => ?_
  subst ed
  refine hk σ Hk2 H2 n (s.sg.mono g.k) o _ fun d' y Hk3 H3 g3 o3 ed dy => ?_
  subst ed
  obtain ⟨a, xs, rfl, e1, e2⟩ := (Dq.mono g3.k _ _ dx).lstOf
  rw [dy.intOf]
  have hall : ∀ r : Nat, DqAll Hk3 (List.replicate r xs).flatten (List.replicate r es).flatten := fun r => by
    induction r with
    | zero => exact .nil
    | succ r ih => rw [List.replicate_succ, List.replicate_succ, List.flatten_cons, List.flatten_cons]; exact e2.append ih
  refine .inr ⟨a, m, xs, rfl, rfl, g3.a _ _ e1, h0, h1, Nat.le_trans (by rw [e2.length]; exact hl) (by rw [sizeLine_eq]; decide), fun r hr => ?_⟩
  have gg := g.trans g3
  have hkn : Hk3 r = none := o3.a.free hr
  have hb : B0 r = none := by
    cases e : B0 r with
    | none => rfl
    | some u => exact absurd hr ((s.gr.trans gg).t r (by rw [e]; exact fun z => by cases z))
  have nq : q ≠ some r := fun e => (o3.j r e).ne hr
  have gc : Gr q Hk H1 Hk3 (upd H3 r (.lst (List.replicate m.toNat xs).flatten)) := gg.trans (Gr.cell o3.a hr)
  exact k r Hk3 _ gc ⟨o3.cell hkn nq, (s.sg.mono gg.k).set i (s := .adr r) rfl, s.gr.trans gc⟩ ⟨hkn, nq, hb, _, upd_same, hall _⟩
end
end Cr

set_option Elab.async false
set_option linter.all false
set_option maxRecDepth 100000
set_option maxHeartbeats 1000000
namespace Cr
open PySem PySem.Spec PyProof.Rows L2
/-! ### enumerate(v) of a tuple -/
theorem enumNew1 {v : Value} {cell : Obj} {G : Heap → Prop} (B : Begins v cell G) :
    Meets (Builtin.«enumerate.__new__» ⟨[.type "enumerate", v], []⟩) (fun _ R t => G t.heap ∧
      R (.ok (.ret (.ref (t.heap.push cell).objs.size))) { t with heap := (t.heap.push cell).push { cls := .type "enumerate", data := .fields #[.none, .bool false, .ref t.heap.objs.size, rawInt 0, .none, .none] } }) :=
  .of_wp fun prog w A R t hh => by
    obtain ⟨hp, gs, ds, tks, os⟩ := t
    obtain ⟨hG, hh⟩ := hh
    have sub1 := sub_enumerate
    have go : ∀ {A2 : Around} {E2 : Value → Shared → Prop} {Q2 : Value → Shared → Prop}, Q2 (.ref hp.objs.size) ⟨hp.push cell, gs, ds, tks, os⟩ → wpAny (model prog w) A2 (pyIter v) Q2 E2 ⟨hp, gs, ds, tks, os⟩ :=
      fun z => B.iter prog w _ _ ⟨hp, gs, ds, tks, os⟩ _ hG z
    wp_walk using go
    refine wpAny_stack_any fun fr => wpAny_pure ?_
    split
    · rename_i cc _ _ _ _ _
      cases (cc == Value.type "enumerate")
      · wp_walk using go
        exact ⟨_, rfl, hh⟩
      · wp_walk using go
        exact ⟨_, rfl, hh⟩
    · wp_walk using go
      exact ⟨_, rfl, hh⟩
theorem callEnum1 {prog : Program} {w : World} {A : Around} {E : Value → Shared → Prop} {t : Shared} {v : Value} {cell : Obj} {G : Heap → Prop} {Q : Value → Shared → Prop} (B : Begins v cell G) (hG : G t.heap)
    (h : ∀ h', IsEnum h' (t.heap.objs.size + 1) t.heap.objs.size 0 .none → h'.get? t.heap.objs.size = some cell → h'.objs.size = t.heap.objs.size + 2 →
      (∀ b u, t.heap.get? b = some u → h'.get? b = some u) → Q (.ref (t.heap.objs.size + 1)) { t with heap := h' }) : wpAny (model prog w) A (call (.type "enumerate") [v]) Q E t := by
  refine callType_new F.called_enumerate (by decide) (F.typeCall_enumerate_1 _) (F.newCall_enumerate_1 _) (fun ob => F.args_object_init_2 ob _) F.entry_enumerate_new (enumNew1 B) ⟨hG, ?_⟩
  have sz : (t.heap.push cell).objs.size = t.heap.objs.size + 1 := Heap.size_push ..
  show _ ∧ _
  rw [sz]
  have ie : IsEnum ((t.heap.push cell).push { cls := .type "enumerate", data := .fields #[.none, .bool false, .ref t.heap.objs.size, rawInt 0, .none, .none] }) (t.heap.objs.size + 1) t.heap.objs.size 0 .none := by
    have z := Heap.get?_push_size (t.heap.push cell) (o := { cls := .type "enumerate", data := .fields #[.none, .bool false, .ref t.heap.objs.size, rawInt 0, .none, .none] }) rfl
    rw [sz] at z
    exact z
  exact ⟨⟨_, ie, rfl⟩, h _ ie (Heap.get?_push_of_some _ (Heap.get?_push_size _ B.free)) (by rw [Heap.size_push, sz]) fun b u z => Heap.get?_push_of_some _ (Heap.get?_push_of_some _ z)⟩
def IteT (K : PySem.W.Frag) (a : Addr) : It :=
  ⟨fun i H => ∃ (xs : List V) (x : V), SqT K H a xs ∧ xs[i]? = some x,
   fun i H v H' => ∃ T x, v = .ref T ∧ H T = none ∧ H' = upd H T (.tup [.int (i : Nat), x]) ∧ ∀ xs, SqT K H a xs → xs[i]? = some x,
   fun i H => ∃ xs : List V, SqT K H a xs ∧ xs.length ≤ i⟩
theorem turnEnumT {P : Program} {w : World} {K : PySem.W.Frag} {elts : List Expr} {kk : Nat} {tpos : Pos} (a e it : Addr) :
    Turn P w K (.Tuple elts kk tpos) (IteT K a) [e, it] e (fun i h => (∃ old, IsEnum h e it ((i : Nat) : Int) old) ∧ h.IsTupleIter it a i ∧ e ≠ it) where
  mem := by simp
  obj := fun i h st b hb => by
    obtain ⟨⟨old, he⟩, ⟨ob, ho, hc, hd⟩, _⟩ := st
    rcases (show b = e ∨ b = it by simpa using hb) with z | z
    · subst z; exact ⟨_, he, fun v y => nomatch y⟩
    · subst z; exact ⟨ob, ho, fun v y => by rw [hd] at y; cases y⟩
  keep := fun i h h' st k => by
    obtain ⟨⟨old, he⟩, hi, hne⟩ := st
    exact ⟨⟨old, k e (by simp) _ he⟩, hi.at fun ob y => k it (by simp) ob y, hne⟩
  item := by
    intro X hP hw hK hc i pins t σ H E I hf st hg
    subst hP hw hK
    obtain ⟨⟨old, he⟩, hit, hne⟩ := st
    obtain ⟨xs, x, hq, hx⟩ := hg
    obtain ⟨its, rv, p, hz⟩ := I.tuple hq
    obtain ⟨u, hu, ru⟩ := rv.get hx
    have le1 : e < t.heap.objs.size := Heap.lt_size he
    have le2 : it < t.heap.objs.size := by obtain ⟨_, y, _⟩ := hit; exact Heap.lt_size y
    have nai : a ≠ it := fun z => by
      subst z
      obtain ⟨o1, y1, _, d1⟩ := hit
      obtain ⟨o2, y2, _, _, d2⟩ := p
      rw [y1] at y2; cases y2
      rw [d1] at d2; cases d2
    have nae : e ≠ a := fun z => by
      subst z
      obtain ⟨o2, y2, c2, _, d2⟩ := p
      have y1 := he
      unfold IsEnum at y1
      rw [y2] at y1; cases y1
      cases d2
    have lt : i < its.toArray.size := by
      have z := (List.getElem?_eq_some_iff.mp hu).1
      simpa using z
    refine wpAny_pyNext_enum_itemD (Draws.tuple (prog := X.prog) (w := X.w) (A := X.A.in1) (I.ok.hd hc) it a nai its.toArray) he ⟨hit, p⟩ lt hne (by simp [hne, nae]) fun y h' tk hy ho' st' hT hsz hk => ?_
    have ey : y = u := by
      have z : its[i]? = some y := by simpa using hy
      rw [hu] at z; exact (Option.some.inj z).symm
    subst ey
    refine ⟨_, rfl, wpAny_letOwnedTupleGo_enum (s := { t with heap := h', toks := tk + 1 }) ho' fun h2 he2 sb => ?_⟩
    have hT2 : h2.get? t.heap.objs.size = some { cls := .type "tuple", data := .seq #[.int i tk, y] } := (sb.2 _ (Nat.ne_of_gt le1)).trans hT
    have new : ObjOk X.prog X.w (upd H t.heap.objs.size (.tup [.int (i : Nat), x])) h2 t.heap.objs.size (.tup [.int (i : Nat), x]) :=
      ⟨by show 2 ≤ sizeLine; decide, [.int i tk, y], .cons ⟨_, rfl⟩ (.cons ru .nil), ⟨_, hT2, rfl, _, rfl⟩⟩
    have I1 : Inv X pins σ (upd H t.heap.objs.size (.tup [.int (i : Nat), x])) { t with heap := h2, toks := tk + 1 } :=
      I.turnedNew (ch := [e, it]) (fun b ob hb z => (sb.2 b (fun w => hb (by simp [w]))).trans (hk b ob (fun w => hb (by simp [w])) (fun w => hb (by simp [w])) z)) hf (Nat.le_refl _) new
    refine ⟨.ref t.heap.objs.size, _, I1, rfl, ⟨_, x, rfl, I.hok.fresh (Nat.le_refl _), rfl, fun zs hzs => ?_⟩, ⟨⟨y, ?_⟩, st'.1.at fun ob z => (sb.2 it (Ne.symm hne)).trans z, hne⟩, fun b hb => ?_⟩
    · rw [I.tuple_inj hzs hq]; exact hx
    · have e1 : ((i + 1 : Nat) : Int) = (i : Int) + 1 := by omega
      rw [e1]; exact he2
    · rcases (show b = e ∨ b = it by simpa using hb) with z | z
      · rw [upd_ne (by rw [z]; exact Nat.ne_of_lt le1)]; exact (hf b hb).1
      · rw [upd_ne (by rw [z]; exact Nat.ne_of_lt le2)]; exact (hf b hb).1
  done := by
    intro X hP hw hK hc i pins t σ H E I hf st hg
    subst hP hw hK
    obtain ⟨⟨old, he⟩, hit, hne⟩ := st
    obtain ⟨xs, hq, hx⟩ := hg
    obtain ⟨its, rv, p, hz⟩ := I.tuple hq
    obtain ⟨f0, f1, f2, f3, f4, f5⟩ := hf it (by simp)
    have hl := rv.length
    have D2 : Draws X.prog X.w X.A.in1 it [it, a] i (fun _ _ => False) (fun j h => j = i ∧ h.IsTupleIter it a i ∧ h.IsTuple a its.toArray) :=
      { live := fun _ _ st => by obtain ⟨_, ⟨ob, ho, _⟩, _⟩ := st; exact ⟨ob, ho⟩,
        frame := fun _ _ _ st k => ⟨st.1, st.2.1.at fun ob z => k it (by simp) ob z, st.2.2.at fun ob z => k a (by simp) ob z⟩,
        item := fun j s Q E lt st _ => absurd st.1 (Nat.ne_of_lt lt),
        done := fun s Q E st hE => wpAny_nextOf_tuple_end (I.ok.hd hc) st.2.1 st.2.2 (by simp; omega) hE }
    exact wpAny_pyNext_enum_endD D2 he ⟨rfl, hit, p⟩ fun h' eb => ⟨rfl, I.turned (t' := t.toks) (fun b o hb z => eb b o hb z) f0 f1 f3 f4 f5⟩
  self := fun A i t Q E st h => by
    obtain ⟨⟨_, he⟩, _⟩ := st
    exact wpAny_pyIter_enum he h
def iEnumT (K : PySem.W.Frag) (ta : TA) : TI := fun σ H R => ta σ H fun vs H1 => ∃ a xs, vs = [.ref a] ∧ SqT K H1 a xs ∧ R (IteT K a) H1
theorem pi_enumT {X : Cx} {K : PySem.W.Frag} {e : Expr} {ta : TA} {p pos tpos : Pos} {elts : List Expr} {kk : Nat} (hK : X.K = K) (hg : Gl X "enumerate") (hm : X.mg "enumerate" = none) (ha : PA X [e] ta) (hs : starEach [e] X.env = [(false, eval e X.env)] := by rfl) :
    PI X (.Tuple elts kk tpos) (.Call (.Name "enumerate" p) [e] [] pos) (iEnumT K ta) := by
  subst hK
  refine ⟨fun pins t σ H R I h => Call_ (ld_blt I hg hm boot_enumerate (PyProof.Rows.callWith_type1 (thn (ha.run pos pins t σ H _ I h) fun us t1 ⟨vs, H1, I1, r1, q1⟩ => ?_) hs rfl))⟩
  obtain ⟨a, xs, ex, hq, q⟩ := q1
  subst ex
  obtain ⟨u, rfl, ru⟩ := vals1 r1
  obtain rfl : u = Value.ref a := ru
  obtain ⟨its, rv, p2, hz⟩ := I1.tuple hq
  refine callEnum1 (begins_tuple a its.toArray) p2 fun h' he hit hsz hk => wpAny_pyIter_enum he ?_
  refine ⟨t1.heap.objs.size + 1, [t1.heap.objs.size + 1, t1.heap.objs.size], _, _, H1, rfl, I1.kept (t' := t1.toks) hk, turnEnumT a (t1.heap.objs.size + 1) t1.heap.objs.size, ⟨⟨.none, he⟩, ⟨_, hit, rfl, rfl⟩, Nat.succ_ne_self _⟩, fun b hb => ?_, q⟩
  have le : t1.heap.objs.size ≤ b := by
    rcases (show b = t1.heap.objs.size + 1 ∨ b = t1.heap.objs.size by simpa using hb) with z | z
    · rw [z]; exact Nat.le_add_right _ _
    · rw [z]; exact Nat.le_refl _
  exact I1.fpOk le (I1.hok.fresh le)
section
variable {K : PySem.W.Frag} {q : Option Addr} {δ : List Sl} {te : TE}
/-- the items: pairs of index and item -/
def enumD (ds : List PyData) : List PyData := (List.range ds.length).zipWith (fun i d => .tuple [.int (i : Nat), d]) ds
theorem enumD_get {ds : List PyData} {i : Nat} {d : PyData} (h : ds[i]? = some d) : (enumD ds)[i]? = some (.tuple [.int (i : Nat), d]) := by
  unfold enumD
  have hi : i < ds.length := (List.getElem?_eq_some_iff.mp h).1
  rw [List.getElem?_zipWith, List.getElem?_range hi, h]
theorem enumD_len (ds : List PyData) : (enumD ds).length = ds.length := by
  unfold enumD
  rw [List.length_zipWith, List.length_range, Nat.min_self]
theorem walk_enumT {H : Hp} {a : Addr} {xs : List V} {ds : List PyData} {fs : List PyData} (h : Tp H a xs fs) (hd : DqAll H xs ds) : WalkD (IteT K a) (enumD ds) H := fun i Hk H' s1 s2 => by
  have e := ((h.mono s1).mono s2).rd
  rw [enumD_len]
  refine ⟨fun hi => ⟨⟨xs, xs[i]'(by rw [hd.length]; exact hi), .inl e, List.getElem?_eq_getElem _⟩, fun v H2 y => ?_⟩, fun hi => ⟨xs, .inl e, by rw [hd.length]; exact hi⟩⟩
  obtain ⟨T, x, rfl, hT, rfl, y2⟩ := y
  obtain ⟨d, g1, g2⟩ := hd.get' (y2 xs (.inl e))
  have g := Gr.new (q := none) (o := .tup [.int (i : Nat), x]) s2 hT
  exact ⟨_, g, _, enumD_get g1, .tup (.inr ⟨rfl, upd_same⟩) (.cons (.int _) (.cons (Dq.mono (s1.trans g.k) _ _ g2) .nil))⟩
theorem ie_enumT {ds : List PyData} (h : E q δ te (.tuple ds)) : IE q δ (iEnumT K (tCons te tNil)) (enumD ds) := fun σ H H1 n sg o R k =>
  h σ H H1 n sg o _ fun d v Hk H2 g o1 ed dv => by
    subst ed
    obtain ⟨a, xs, rfl, h1, h2⟩ := dv.tupOf
    exact ⟨a, xs, rfl, .inl (h1.mono g.a).rd, k _ _ Hk H2 g o1 rfl (walk_enumT h1 h2)⟩
end
end Cr

set_option Elab.async false
set_option linter.all false
set_option maxRecDepth 100000
set_option maxHeartbeats 1000000
namespace Cr
open PySem PySem.Spec PyProof.Rows L2
/-! ### t[::-1] of a tuple -/
theorem revPlaces (n : Nat) : Builtin.Slice.slicePlaces ((n : Int) - 1) (-1) (-1) = n := by
  unfold Builtin.Slice.slicePlaces
  rw [if_neg (by omega)]
  by_cases h : n = 0
  · subst h; rfl
  · rw [if_pos (by omega)]
    have e : ((n : Int) - 1 - -1 - 1) / (- -1) = (n : Int) - 1 := by
      rw [show (- -1 : Int) = 1 from rfl, Int.ediv_one]; omega
    rw [e]; omega
theorem fm_congr {α β : Type} {f g : α → Option β} : ∀ {l : List α}, (∀ x ∈ l, f x = g x) → l.filterMap f = l.filterMap g
  | [], _ => rfl
  | x :: l, h => by
    rw [List.filterMap_cons, List.filterMap_cons, h x (by simp), fm_congr fun y hy => h y (by simp [hy])]
theorem fm_some {α β : Type} (g : α → β) : ∀ l : List α, l.filterMap (fun x => some (g x)) = l.map g
  | [] => rfl
  | x :: l => by rw [List.filterMap_cons, fm_some g l]; rfl
theorem revPick (xs : Array Value) : ((List.range xs.size).filterMap fun (m : Nat) => xs[((xs.size : Int) - 1 + (m : Int) * -1).toNat]?).toArray = xs.toList.reverse.toArray := by
  congr 1
  have h : ∀ m ∈ List.range xs.size, (fun (m : Nat) => xs[((xs.size : Int) - 1 + (m : Int) * -1).toNat]?) m = (fun m => some (xs.toList.reverse.getD m .none)) m := fun m hm => by
    have hm' := List.mem_range.mp hm
    have e : ((xs.size : Int) - 1 + (m : Int) * -1).toNat = xs.size - 1 - m := by omega
    show xs[((xs.size : Int) - 1 + (m : Int) * -1).toNat]? = some (xs.toList.reverse.getD m .none)
    rw [e, List.getD_eq_getElem?_getD, List.getElem?_reverse (by simpa using hm')]
    have hx : xs.size - 1 - m < xs.size := by omega
    simp [hx]
  rw [fm_congr h, fm_some]
  refine List.ext_getElem? fun i => ?_
  rw [List.getElem?_map]
  by_cases hi : i < xs.size
  · rw [List.getElem?_range hi]
    have z : i < xs.toList.reverse.length := by simpa using hi
    simp [List.getD_eq_getElem?_getD, z]
    rw [List.getElem?_eq_getElem z]; rfl
  · rw [List.getElem?_eq_none (by simpa using hi), List.getElem?_eq_none (by simpa using hi)]
    rfl
section
variable {prog : Program} {w : World} {A : Around} {E : Value → Shared → Prop} {s : Shared}
theorem revApplied {sl : Addr} {vl vu vs : Value} {n : Nat} {Q : Int × Int × Nat → Shared → Prop} (hs : s.heap.IsSliceOf sl vl vu vs) (pl : IsPart vl none) (pu : IsPart vu none) (ps : IsPart vs (some (-1)))
    (h : Q ((n : Int) - 1, -1, n) s) : wpAny (model prog w) A (Builtin.Slice.sliceApplied (.ref sl) (pure (n : Int))) Q E s := by
  obtain ⟨ob, ho, hc, hd⟩ := id hs
  unfold Builtin.Slice.sliceApplied Builtin.Slice.sliceFields
  refine wpAny_bind (wpAny_bind (wpAny_field ho hd (x := vl) rfl (wpAny_bind (wpAny_field ho hd (x := vu) rfl (wpAny_bind (wpAny_field ho hd (x := vs) rfl (wpAny_pure ?_)))))))
  refine wpAny_bind (HT.slicePart_ ps ?_)
  show wpAny _ _ (if ((-1 : Int) == 0) = true then _ else _) _ _ s
  rw [if_neg (by decide)]
  refine wpAny_bind (HT.slicePart_ pl (wpAny_bind (HT.slicePart_ pu (wpAny_bind (wpAny_pure ?_)))))
  show wpAny _ _ (pure ((n : Int) - 1, (-1 : Int), Builtin.Slice.slicePlaces ((n : Int) - 1) (-1) (-1))) _ _ s
  rw [revPlaces]
  exact wpAny_pure h
theorem getTupRev {t sl : Addr} {items : Array Value} {vl vu vs : Value} {Q : Value → Shared → Prop} (ht : IsTup s.heap t items) (hs : s.heap.IsSliceOf sl vl vu vs) (pl : IsPart vl none) (pu : IsPart vu none) (ps : IsPart vs (some (-1)))
    (h : Q (.ref s.heap.objs.size) { s with heap := s.heap.push { cls := .type "tuple", data := .seq items.toList.reverse.toArray } }) (hz : items.size ≤ sizeLine) : wpAny (model prog w) A (getItem (.ref t) (.ref sl)) Q E s := by
  have room : sizeOk (.seq items.toList.reverse.toArray) := by
    show items.toList.reverse.toArray.size ≤ sizeLine
    simpa using hz
  obtain ⟨ob, ho, hc, hd⟩ := id hs
  have isSl : s.TypeIs (.ref sl) "slice" := ⟨ob, ho, hc⟩
  unfold getItem
  try with_reducible refine wpAny_holding ?_
  first | refine wpAny_bind (wpAny_pure ?_) | skip
  refine wpAny_bind (wpAny_sequenceKey ht.typeIs (by decide) ?_)
  refine wpAny_bind (wpAny_callSpecial?_slot (name := Str.ofString "__getitem__") ht.typeIs PyProof.Rows.slot_tuple_getitem (wpAny_call_entry PyProof.Rows.slot_tuple_getitem ht.typeIs entry_tuple_getitem ?_ (args_tuple_getitem _ _)))
  show wpAny _ _ (Builtin.Tuple.tupleItemsOf (.ref t) >>= _) _ _ s
  refine wpAny_bind (PyProof.Rows.tupleItemsOf_ ht (wpAny_bind (wpAny_typeOf isSl ?_)))
  rw [if_pos (by decide)]
  refine wpAny_bind (revApplied hs pl pu ps ?_)
  have no : ¬ ((((items.size : Int) - 1) == 0 && (-1 : Int) == 1 && items.size == items.size) = true) := by
    intro z
    rw [Bool.and_eq_true, Bool.and_eq_true] at z
    exact absurd z.1.2 (by decide)
  show wpAny _ _ (if (((items.size : Int) - 1) == 0 && (-1 : Int) == 1 && items.size == items.size) = true then _ else _) _ _ s
  rw [if_neg no, revPick]
  first
    | exact wpAny_bind (m := Builtin.Tuple.tupleExact _) (wpAny_newObj_type (wpAny_pure ⟨_, rfl, wpAny_pure h⟩) room)
    | exact wpAny_bind (m := Builtin.Tuple.tupleExact _) (wpAny_newObj_type (wpAny_bind (wpAny_pure (wpAny_pure ⟨_, rfl, wpAny_pure h⟩))) room)
    | exact wpAny_bind (wpAny_bind (m := Builtin.Tuple.tupleExact _) (wpAny_newObj_type (wpAny_pure (wpAny_pure ⟨_, rfl, wpAny_pure h⟩)) room))
    | exact wpAny_bind (wpAny_bind (m := Builtin.Tuple.tupleExact _) (wpAny_newObj_type (wpAny_pure ⟨_, rfl, wpAny_pure h⟩) room))
end
def tRevT (K : PySem.W.Frag) (te : TE) : TE := fun σ H Q => te σ H fun x H1 => ∃ a xs, x = .ref a ∧ SqT K H1 a xs ∧ LaidT H1 xs.reverse Q
theorem pe_revT {X : Cx} {K : PySem.W.Frag} {e : Expr} {te : TE} {k : Nat} {p1 p2 p3 pos : Pos} (hK : X.K = K) (he : PE X e te) : PE X (.Subscript e (.Slice none none (some (.UnaryOp .USub (.Constant (.int 1) k p1) p2)) p3) pos) (tRevT K te) := by
  subst hK
  refine ⟨fun pins s σ H Q I h => Subscript_ (thn (he.run pins s σ H _ I h) fun v s1 ⟨x, H1, I1, r1, a, xs, ex, hx, q⟩ => ?_)⟩
  subst ex
  obtain rfl : v = Value.ref a := r1
  have step : PO X (some (.UnaryOp .USub (.Constant (.int 1) k p1) p2)) (tPart (tUn (rU fun i => .int (-i)) (tC (.int 1)))) := po_some (pe_un un_neg pe_int)
  refine wpAny_Slice (thn (po_none.run pins s1 σ H1 (fun o H2 => o = none ∧ H2 = H1) I1 ⟨rfl, rfl⟩) fun vl s2 ⟨l, H2, I2, pl, el, e2⟩ => ?_)
  subst el; subst e2
  refine thn (po_none.run pins s2 σ H2 (fun o H3 => o = none ∧ H3 = H2) I2 ⟨rfl, rfl⟩) fun vu s3 ⟨u, H3, I3, pu, eu, e3⟩ => ?_
  subst eu; subst e3
  refine thn (step.run pins s3 σ H3 (fun o H4 => o = some (-1) ∧ H4 = H3) I3 ⟨1, rfl, -1, rfl, rfl, rfl⟩) fun vs s4 ⟨o, H4, I4, ps, eo, e4⟩ => ?_
  subst eo; subst e4
  have I5 : Inv X pins σ H4 { s4 with heap := s4.heap.push { cls := .type "slice", data := .fields #[vl, vu, vs] } } := I4.kept (t' := s4.toks) fun b ob z => Heap.get?_push_of_some _ z
  obtain ⟨its, r, ht, hz⟩ := I5.tuple hx
  have hlen := r.length
  show wpAny (model X.prog X.w) X.A (subscriptTail e (.Slice none none (some (.UnaryOp .USub (.Constant (.int 1) k p1) p2)) p3) (.ref a) (.ref s4.heap.objs.size)) (EP X pins σ Q) X.xe { s4 with heap := s4.heap.push { cls := .type "slice", data := .fields #[vl, vu, vs] } }
  refine tail_any (ops := [.ref a, .ref s4.heap.objs.size]) ht.typeIs PyProof.Rows.slot_tuple_getitem.lookup (getTupRev ht (Heap.IsSliceOf.new _ vl vu vs) pl pu ps ?_ (by rw [List.size_toArray]; omega)) (by with_unfolding_all rfl)
  exact laidT I5 r.reverse (by rw [List.length_reverse]; exact hz) q
section
variable {K : PySem.W.Frag} {q : Option Addr} {δ : List Sl} {te : TE}
theorem DqAll.reverse {H : Hp} : ∀ {vs : List V} {ds : List PyData}, DqAll H vs ds → DqAll H vs.reverse ds.reverse
  | [], _, h => by cases h; exact .nil
  | v :: vs, _, h => by
    cases h with
    | cons h1 h2 => rw [List.reverse_cons, List.reverse_cons]; exact (DqAll.reverse h2).append (.cons h1 .nil)
theorem e_revT {ds : List PyData} (h : E q δ te (.tuple ds)) : E q δ (tRevT K te) (.tuple ds.reverse) := fun σ H H1 n sg o Q k =>
  h σ H H1 n sg o _ fun d v Hk H2 g o1 ed dv => by
    subst ed
    obtain ⟨a, xs, rfl, h1, h2⟩ := dv.tupOf
    refine ⟨a, xs, rfl, .inl (h1.mono g.a).rd, fun p ob od hp => ?_⟩
    have g1 := Gr.new (q := none) (o := .frz ob (.tup xs.reverse)) g.a hp
    exact k _ _ _ _ (g.trans g1.none_to) (o1.go g1) rfl (.tup (Tp.new od) (DqAll.mono g1.k _ _ h2.reverse))
end
end Cr

set_option Elab.async false
set_option linter.all false
set_option maxRecDepth 100000
set_option maxHeartbeats 800000
namespace Cr
open PySem PySem.Spec PyProof.Rows L2
/-! ### polynomials: coefficients by their indexes -/
def enF : Nat → List Int → List (Int × Int)
  | _, [] => []
  | k, a :: f => ((k : Int), a) :: enF (k + 1) f
abbrev en (f : List Int) : List (Int × Int) := enF 0 f
def evalP (f : List Int) (x : Int) : Int := f.foldr (fun a r => r * x + a) 0
def pw (x : Int) (k : Int) : Int := x ^ k.toNat
theorem enF_mem : ∀ {f : List Int} {k : Nat} {y : Int × Int}, y ∈ enF k f → (k : Int) ≤ y.1 ∧ y.1 < (k : Int) + f.length
  | [], _, _, h => by cases h
  | a :: f, k, y, h => by
    rcases List.mem_cons.mp h with e | e
    · subst e; simp; omega
    · have z := enF_mem e
      rw [List.length_cons]
      omega
theorem wsum_enF (x : Int) : ∀ (f : List Int) (k : Nat), wsum (pw x) (enF k f) = x ^ k * evalP f x
  | [], k => by show (0 : Int) = x ^ k * 0; rw [Int.mul_zero]
  | a :: f, k => by
    show a * pw x (k : Int) + wsum (pw x) (enF (k + 1) f) = x ^ k * (evalP f x * x + a)
    rw [wsum_enF x f (k + 1)]
    unfold pw
    rw [Int.toNat_natCast, Int.pow_succ, Int.mul_add, Int.mul_comm a, Int.mul_assoc, Int.mul_comm x (evalP f x)]
    omega
theorem tot_enF : ∀ (f : List Int) (k n : Nat), tot (enF k f) ((k + n : Nat) : Int) = f.getD n 0
  | [], k, n => by simp [enF, tot]
  | a :: f, k, 0 => by
    show (if (k : Int) = ((k + 0 : Nat) : Int) then a else 0) + tot (enF (k + 1) f) ((k + 0 : Nat) : Int) = a
    rw [if_pos (by omega), tot_no fun h => by
      obtain ⟨y, hy, e⟩ := List.mem_map.mp h
      have z := (enF_mem hy).1
      omega]
    omega
  | a :: f, k, n + 1 => by
    show (if (k : Int) = ((k + (n + 1) : Nat) : Int) then a else 0) + tot (enF (k + 1) f) ((k + (n + 1) : Nat) : Int) = f.getD n 0
    rw [if_neg (by omega), show k + (n + 1) = (k + 1) + n by omega, tot_enF f (k + 1) n]
    omega
theorem pw_add {x i j : Int} (hi : 0 ≤ i) (hj : 0 ≤ j) : pw x (i + j) = pw x i * pw x j := by
  unfold pw
  rw [show (i + j).toNat = i.toNat + j.toNat by omega, Int.pow_add]
/-- products, keys from 0 on -/
theorem wsum_prodN (x : Int) {a b : List (Int × Int)} (ha : ∀ y ∈ a, 0 ≤ y.1) (hb : ∀ y ∈ b, 0 ≤ y.1) : wsum (pw x) (prodL a b) = wsum (pw x) a * wsum (pw x) b := by
  have sh : ∀ (y : Int × Int), 0 ≤ y.1 → ∀ b : List (Int × Int), (∀ z ∈ b, 0 ≤ z.1) → wsum (pw x) (b.map fun z => (y.1 + z.1, y.2 * z.2)) = y.2 * pw x y.1 * wsum (pw x) b := fun y hy b => by
    induction b with
    | nil => intro _; show (0 : Int) = _ * 0; rw [Int.mul_zero]
    | cons z b ih =>
      intro hb
      show y.2 * z.2 * pw x (y.1 + z.1) + wsum (pw x) (b.map fun z => (y.1 + z.1, y.2 * z.2)) = y.2 * pw x y.1 * (z.2 * pw x z.1 + wsum (pw x) b)
      rw [ih fun w hw => hb w (by simp [hw]), pw_add hy (hb z (by simp)), Int.mul_add]
      congr 1
      rw [Int.mul_assoc, Int.mul_assoc, Int.mul_left_comm z.2]
  induction a with
  | nil => show (0 : Int) = 0 * _; rw [Int.zero_mul]
  | cons y a ih =>
    show wsum (pw x) ((b.map fun z => (y.1 + z.1, y.2 * z.2)) ++ prodL a b) = (y.2 * pw x y.1 + wsum (pw x) a) * wsum (pw x) b
    rw [wsum_append, ih fun w hw => ha w (by simp [hw]), Int.add_mul, sh y (ha y (by simp)) b hb]
/-- one step of both loops -/
def addAt (r : List Int) (k : Nat) (c : Int) : List Int := r.set k (r.getD k 0 + c)
def addOps : List Int → List (Nat × Int) → List Int
  | r, [] => r
  | r, o :: os => addOps (addAt r o.1 o.2) os
theorem addAt_len (r : List Int) (k : Nat) (c : Int) : (addAt r k c).length = r.length := List.length_set ..
theorem addOps_len : ∀ (os : List (Nat × Int)) (r : List Int), (addOps r os).length = r.length
  | [], _ => rfl
  | o :: os, r => by
    show (addOps (addAt r o.1 o.2) os).length = _
    rw [addOps_len os, addAt_len]
theorem addAt_get {r : List Int} {k : Nat} {c : Int} (hk : k < r.length) (n : Nat) : (addAt r k c).getD n 0 = r.getD n 0 + if (k : Int) = (n : Int) then c else 0 := by
  unfold addAt
  rw [List.getD_eq_getElem?_getD, List.getD_eq_getElem?_getD]
  by_cases h : k = n
  · subst h
    rw [List.getElem?_set_self hk, if_pos rfl]
    simp [List.getD_eq_getElem?_getD]
  · rw [List.getElem?_set_ne h, if_neg (by omega), Int.add_zero]
    simp [List.getD_eq_getElem?_getD]
theorem addOps_get : ∀ (os : List (Nat × Int)) {r : List Int}, (∀ o ∈ os, o.1 < r.length) → ∀ n : Nat, (addOps r os).getD n 0 = r.getD n 0 + tot (os.map fun o => ((o.1 : Int), o.2)) n
  | [], r, _, n => by show r.getD n 0 = r.getD n 0 + 0; omega
  | o :: os, r, h, n => by
    show (addOps (addAt r o.1 o.2) os).getD n 0 = r.getD n 0 + ((if (o.1 : Int) = (n : Int) then o.2 else 0) + tot (os.map fun o => ((o.1 : Int), o.2)) n)
    rw [addOps_get os (fun p hp => by rw [addAt_len]; exact h p (by simp [hp])) n, addAt_get (h o (by simp))]
    omega
theorem evalP_wsum (f : List Int) (x : Int) : evalP f x = wsum (pw x) (en f) := by
  rw [wsum_enF, Int.pow_zero, Int.one_mul]
def opsOf (f g : List Int) : List (Nat × Int) := (List.range f.length).flatMap fun i => (List.range g.length).map fun j => (i + j, f.getD i 0 * g.getD j 0)
/-- what both loops make -/
def conv (f g : List Int) : List Int := addOps (List.replicate (f.length + g.length - 1) 0) (opsOf f g)
theorem enF_range : ∀ (f : List Int) (k : Nat), enF k f = (List.range f.length).map fun i => (((k + i : Nat) : Int), f.getD i 0)
  | [], k => rfl
  | a :: f, k => by
    rw [List.length_cons, List.range_succ_eq_map, List.map_cons, List.map_map]
    show ((k : Int), a) :: enF (k + 1) f = (((k + 0 : Nat) : Int), a) :: _
    rw [enF_range f (k + 1)]
    congr 1
    exact List.map_congr_left fun i _ => by
      show (((k + 1 + i : Nat) : Int), f.getD i 0) = (((k + (i + 1) : Nat) : Int), f.getD i 0)
      rw [show k + 1 + i = k + (i + 1) by omega]
theorem ops_prod (f g : List Int) : (opsOf f g).map (fun o => ((o.1 : Int), o.2)) = prodL (en f) (en g) := by
  unfold opsOf prodL en
  rw [enF_range f 0, enF_range g 0, List.map_flatMap, List.flatMap_map]
  congr 1
  funext i
  rw [List.map_map, List.map_map]
  exact List.map_congr_left fun j _ => by
    show (((i + j : Nat) : Int), f.getD i 0 * g.getD j 0) = (((0 + i : Nat) : Int) + ((0 + j : Nat) : Int), f.getD i 0 * g.getD j 0)
    rw [show ((i + j : Nat) : Int) = ((0 + i : Nat) : Int) + ((0 + j : Nat) : Int) by omega]
theorem ops_lt (f g : List Int) : ∀ o ∈ opsOf f g, o.1 < f.length + g.length - 1 := fun o ho => by
  unfold opsOf at ho
  obtain ⟨i, hi, h⟩ := List.mem_flatMap.mp ho
  obtain ⟨j, hj, rfl⟩ := List.mem_map.mp h
  have h1 := List.mem_range.mp hi
  have h2 := List.mem_range.mp hj
  show i + j < _
  omega
theorem conv_len (f g : List Int) : (conv f g).length = f.length + g.length - 1 := by
  unfold conv
  rw [addOps_len, List.length_replicate]
theorem conv_get (f g : List Int) (n : Nat) : (conv f g).getD n 0 = tot (prodL (en f) (en g)) n := by
  unfold conv
  rw [addOps_get _ (fun o ho => by rw [List.length_replicate]; exact ops_lt f g o ho), ops_prod]
  have z : (List.replicate (f.length + g.length - 1) (0 : Int)).getD n 0 = 0 := by
    rw [List.getD_eq_getElem?_getD, List.getElem?_replicate]
    split <;> rfl
  rw [z]; omega
theorem conv_comm (f g : List Int) : conv f g = conv g f := by
  refine List.ext_getElem (by rw [conv_len, conv_len]; omega) fun n h1 h2 => ?_
  have e1 := conv_get f g n
  have e2 := conv_get g f n
  rw [List.getD_eq_getElem?_getD, List.getElem?_eq_getElem h1] at e1
  rw [List.getD_eq_getElem?_getD, List.getElem?_eq_getElem h2] at e2
  have z := tot_prod_comm (en f) (en g) n
  exact (show (conv f g)[n] = _ from e1).trans (z.trans (show _ = (conv g f)[n] from e2.symm))
theorem ksum_congr (φ f g : Int → Int) : ∀ {S : List Int}, (∀ k ∈ S, f k = g k) → ksum φ f S = ksum φ g S
  | [], _ => rfl
  | k :: S, h => by
    show f k * φ k + ksum φ f S = g k * φ k + ksum φ g S
    rw [h k (by simp), ksum_congr φ f g fun j hj => h j (by simp [hj])]
theorem upto_sorted (N : Nat) : ((List.range N).map fun i => ((i : Nat) : Int)).Pairwise (· < ·) := by
  rw [List.pairwise_map]
  exact List.pairwise_lt_range.imp fun h => by omega
theorem upto_mem {N : Nat} {k : Int} (h0 : 0 ≤ k) (h1 : k < (N : Int)) : k ∈ (List.range N).map fun i => ((i : Nat) : Int) :=
  List.mem_map.mpr ⟨k.toNat, List.mem_range.mpr (by omega), by omega⟩
theorem conv_val (f g : List Int) (x : Int) : evalP (conv f g) x = evalP f x * evalP g x := by
  rw [evalP_wsum, evalP_wsum f, evalP_wsum g, ← wsum_prodN x (fun y hy => by have := (enF_mem hy).1; omega) (fun y hy => by have := (enF_mem hy).1; omega)]
  have hS := upto_sorted (f.length + g.length - 1)
  rw [wsum_keys (pw x) hS (en (conv f g)) fun y hy => ?_, wsum_keys (pw x) hS (prodL (en f) (en g)) fun y hy => ?_]
  · refine ksum_congr _ _ _ fun k hk => ?_
    obtain ⟨n, hn, rfl⟩ := List.mem_map.mp hk
    rw [← conv_get]
    have z := tot_enF (conv f g) 0 n
    rw [Nat.zero_add] at z
    exact z
  · rw [← ops_prod] at hy
    obtain ⟨o, ho, rfl⟩ := List.mem_map.mp hy
    have z := ops_lt f g o ho
    exact upto_mem (by show (0 : Int) ≤ (o.1 : Int); omega) (by show (o.1 : Int) < _; omega)
  · have z := enF_mem hy
    rw [conv_len] at z
    exact upto_mem (by omega) (by omega)
theorem enF_append : ∀ (f g : List Int) (k : Nat), enF k (f ++ g) = enF k f ++ enF (k + f.length) g
  | [], g, k => rfl
  | a :: f, g, k => by
    show ((k : Int), a) :: enF (k + 1) (f ++ g) = ((k : Int), a) :: (enF (k + 1) f ++ enF (k + (f.length + 1)) g)
    rw [enF_append f g (k + 1), show k + 1 + f.length = k + (f.length + 1) by omega]
theorem tot_above {l : List (Int × Int)} {n : Int} (h : ∀ y ∈ l, y.1 < n) : tot l n = 0 := tot_no fun z => by
  obtain ⟨y, hy, e⟩ := List.mem_map.mp z
  have := h y hy
  omega
/-- the last coefficient of a product -/
theorem conv_last (f g : List Int) (a b : Int) : (conv (f ++ [a]) (g ++ [b])).getD (f.length + g.length) 0 = a * b := by
  rw [conv_get]
  have ef : en (f ++ [a]) = en f ++ [(((f.length : Nat) : Int), a)] := by
    show enF 0 (f ++ [a]) = _
    rw [enF_append, Nat.zero_add]; rfl
  have eg : en (g ++ [b]) = en g ++ [(((g.length : Nat) : Int), b)] := by
    show enF 0 (g ++ [b]) = _
    rw [enF_append, Nat.zero_add]; rfl
  rw [ef, prod_snoc, tot_append, eg, List.map_append, tot_append, tot_above, tot_above]
  · show (0 : Int) + (0 + ((if ((f.length : Nat) : Int) + ((g.length : Nat) : Int) = ((f.length + g.length : Nat) : Int) then a * b else 0) + 0)) = a * b
    rw [if_pos (by omega)]; omega
  · intro y hy
    obtain ⟨z, hz, rfl⟩ := List.mem_map.mp hy
    have h := enF_mem hz
    show ((f.length : Nat) : Int) + z.1 < _
    omega
  · intro y hy
    obtain ⟨u, hu, h⟩ := List.mem_flatMap.mp hy
    obtain ⟨z, hz, rfl⟩ := List.mem_map.mp h
    have h1 := enF_mem hu
    rw [← eg] at hz
    have h2 := enF_mem hz
    rw [List.length_append, List.length_singleton] at h2
    show u.1 + z.1 < _
    omega
end Cr

set_option Elab.async false
set_option linter.all false
set_option maxRecDepth 100000
set_option maxHeartbeats 800000
namespace Cr
open PySem PySem.Spec PyProof.Rows L2
/-- a polynomial as data -/
def pol (f : List Int) : PyData := .tuple (f.map .int)
def Pl (f : List Int) : Prop := f.getLast? ≠ some 0
def CB (B : Nat) (f : List Int) : Prop := ∀ a ∈ f, a.natAbs < 2 ^ B
theorem pol_len (f : List Int) : (f.map PyData.int).length = f.length := List.length_map ..
theorem pol_last {f : List Int} {a : Int} (h : f.getLast? = some a) : atI (f.map PyData.int) (-1) = some (.int a) := by
  rcases List.eq_nil_or_concat f with e | ⟨r, x, e⟩
  · rw [e] at h; cases h
  · rw [List.concat_eq_append] at e
    subst e
    rw [List.getLast?_append] at h
    simp at h
    subst h
    rw [List.map_append]
    exact atI_last _ _
theorem pol_shape (f : List Int) : SeqAt.shaped (pol f) = true := by
  unfold SeqAt.shaped
  rw [Bool.and_eq_true]
  refine ⟨?_, decide_eq_true ?_⟩
  · show PyData.canLayAll0 (f.map .int) = true
    exact canAll_of fun d hd => by
      obtain ⟨x, _, rfl⟩ := List.mem_map.mp hd
      rfl
  · have h : PyData.depthAll (f.map PyData.int) ≤ 1 := depthAll_le fun d hd => by
      obtain ⟨x, _, rfl⟩ := List.mem_map.mp hd
      simp [PyData.depth]
    show (PyData.tuple (f.map .int)).depth ≤ 64
    simp only [PyData.depth]
    omega
theorem eqv_pol_nil (f : List Int) : PyData.eqv (pol f) (.tuple []) = f.isEmpty := by
  cases f <;> simp [pol, PyData.eqv, PyData.eqvAll]
theorem evalP_bound {x : Int} (hx : x.natAbs < 2 ^ 60) {B : Nat} : ∀ {f : List Int}, CB B f → (evalP f x).natAbs < 2 ^ (B + 61 * f.length)
  | [], _ => by show (0 : Int).natAbs < _; exact Nat.pos_of_ne_zero (by simp)
  | a :: f, h => by
    have ih := evalP_bound hx (f := f) fun b hb => h b (by simp [hb])
    have ha := h a (by simp)
    show (evalP f x * x + a).natAbs < 2 ^ (B + 61 * (f.length + 1))
    have h1 := Int.natAbs_add_le (evalP f x * x) a
    rw [Int.natAbs_mul] at h1
    have h2 : (evalP f x).natAbs * x.natAbs ≤ 2 ^ (B + 61 * f.length) * 2 ^ 60 := Nat.mul_le_mul (Nat.le_of_lt ih) (Nat.le_of_lt hx)
    have h3 : (2 : Nat) ^ (B + 61 * (f.length + 1)) = 2 ^ (B + 61 * f.length) * 2 ^ 60 * 2 := by
      rw [show B + 61 * (f.length + 1) = (B + 61 * f.length) + 60 + 1 by omega, Nat.pow_add, Nat.pow_add]
    have h4 : (2 : Nat) ^ B ≤ 2 ^ (B + 61 * f.length) * 2 ^ 60 := Nat.le_trans (Nat.pow_le_pow_right (by decide) (Nat.le_add_right B (61 * f.length))) (Nat.le_mul_of_pos_right _ (by decide))
    rw [h3]
    generalize 2 ^ (B + 61 * f.length) * 2 ^ 60 = u at h2 h4
    omega
theorem CB.mono {B C : Nat} {f : List Int} (h : CB B f) (hc : B ≤ C) : CB C f := fun a ha => Nat.lt_of_lt_of_le (h a ha) (Nat.pow_le_pow_right (by decide) hc)
end Cr

set_option Elab.async false
set_option linter.all false
set_option maxRecDepth 100000
set_option maxHeartbeats 800000
namespace Cr
open PySem PySem.Spec PyProof.Rows L2
theorem addOps_append : ∀ (a b : List (Nat × Int)) (r : List Int), addOps r (a ++ b) = addOps (addOps r a) b
  | [], b, r => rfl
  | o :: a, b, r => addOps_append a b (addAt r o.1 o.2)
def rowOps (f g : List Int) (i j : Nat) : List (Nat × Int) := (List.range j).map fun k => (i + k, f.getD i 0 * g.getD k 0)
def rowsOps (f g : List Int) (i : Nat) : List (Nat × Int) := (List.range i).flatMap fun k => rowOps f g k g.length
theorem rowOps_succ (f g : List Int) (i j : Nat) : rowOps f g i (j + 1) = rowOps f g i j ++ [(i + j, f.getD i 0 * g.getD j 0)] := by
  unfold rowOps
  rw [List.range_succ, List.map_append]; rfl
theorem rowsOps_succ (f g : List Int) (i : Nat) : rowsOps f g (i + 1) = rowsOps f g i ++ rowOps f g i g.length := by
  unfold rowsOps
  rw [List.range_succ, List.flatMap_append, List.flatMap_cons, List.flatMap_nil, List.append_nil]
/-- behind i rows and j steps of the next one -/
def part (f g : List Int) (i j : Nat) : List Int := addOps (List.replicate (f.length + g.length - 1) 0) (rowsOps f g i ++ rowOps f g i j)
theorem part_len (f g : List Int) (i j : Nat) : (part f g i j).length = f.length + g.length - 1 := by
  unfold part
  rw [addOps_len, List.length_replicate]
theorem part_step (f g : List Int) (i j : Nat) : part f g i (j + 1) = addAt (part f g i j) (i + j) (f.getD i 0 * g.getD j 0) := by
  unfold part
  rw [rowOps_succ, ← List.append_assoc, addOps_append]; rfl
theorem part_row (f g : List Int) (i : Nat) : part f g i g.length = part f g (i + 1) 0 := by
  unfold part
  rw [rowsOps_succ]
  show _ = addOps _ (_ ++ [])
  rw [List.append_nil]
theorem part_zero (f g : List Int) : part f g 0 0 = List.replicate (f.length + g.length - 1) 0 := rfl
theorem part_end (f g : List Int) : part f g f.length 0 = conv f g := by
  unfold part conv
  show addOps _ (rowsOps f g f.length ++ []) = _
  rw [List.append_nil]; rfl
theorem zeros_data (n : Nat) : (List.replicate n [PyData.int 0]).flatten = (List.replicate n (0 : Int)).map PyData.int := by
  induction n with
  | zero => rfl
  | succ n ih => rw [List.replicate_succ, List.flatten_cons, ih]; rfl
def convP (f g : List Int) : List Int := if f = [] ∨ g = [] then [] else conv f g
theorem plain_int : ∀ d : PyData, (∃ i, d = .int i) → plain d = true := fun d ⟨i, e⟩ => by rw [e]; rfl
theorem enumD_ints {f : List Int} {i : Nat} {d : PyData} (h : (enumD (f.map PyData.int))[i]? = some d) : ∃ hi : i < f.length, d = .tuple [.int (i : Nat), .int (f.getD i 0)] := by
  have hi : i < f.length := by
    have z := (List.getElem?_eq_some_iff.mp h).1
    rw [enumD_len, List.length_map] at z
    exact z
  refine ⟨hi, ?_⟩
  have e : (f.map PyData.int)[i]? = some (.int (f.getD i 0)) := by
    rw [List.getElem?_map, List.getElem?_eq_getElem hi]
    simp [List.getD_eq_getElem?_getD, hi]
  rw [enumD_get e] at h
  exact (Option.some.inj h).symm
theorem getD_mem {f : List Int} {i : Nat} (hi : i < f.length) : f.getD i 0 ∈ f := by
  rw [List.getD_eq_getElem?_getD, List.getElem?_eq_getElem hi]
  exact List.getElem_mem hi
theorem evalP_snoc (x : Int) : ∀ (f : List Int) (a : Int), evalP (f ++ [a]) x = evalP f x + a * x ^ f.length
  | [], a => by show (0 : Int) * x + a = 0 + a * x ^ 0; rw [Int.pow_zero, Int.mul_one, Int.zero_mul]
  | b :: f, a => by
    show evalP (f ++ [a]) x * x + b = (evalP f x * x + b) + a * x ^ (f.length + 1)
    rw [evalP_snoc x f a, Int.add_mul, Int.pow_succ, Int.mul_assoc a]
    omega
/-- without zeros at the end -/
def trimL (r : List Int) : List Int := (r.reverse.dropWhile (· == 0)).reverse
theorem trimL_snoc0 (r : List Int) : trimL (r ++ [0]) = trimL r := by
  unfold trimL
  rw [List.reverse_append]
  rfl
theorem trimL_snoc (r : List Int) {a : Int} (h : a ≠ 0) : trimL (r ++ [a]) = r ++ [a] := by
  unfold trimL
  rw [List.reverse_append]
  show (List.dropWhile _ (a :: r.reverse)).reverse = _
  rw [List.dropWhile_cons, if_neg (by simpa using h), List.reverse_cons, List.reverse_reverse]
theorem trimL_nil : trimL [] = [] := rfl
theorem tot_amb {cs : List (Int × Int)} {p : Nat} (h : ∀ x ∈ cs, x.2.natAbs ≤ 2 ^ p) (hl : cs.length ≤ 2 ^ 13) (k : Int) : (tot cs k).natAbs < 2 ^ (p + 14) := by
  have h2 := tot_bound (M := ((2 ^ p : Nat) : Int)) (Int.natCast_nonneg _) (l := cs) (fun y hy => by have := h y hy; omega) k
  have h3 : 2 ^ p * cs.length ≤ 2 ^ p * 2 ^ 13 := Nat.mul_le_mul_left _ hl
  have h4 : (2 : Nat) ^ (p + 14) = 2 ^ p * 2 ^ 13 * 2 := by rw [Nat.pow_add, Nat.mul_assoc]
  have h5 : 0 < (2 : Nat) ^ p := Nat.pos_of_ne_zero (by simp)
  have h6 : ((2 ^ p : Nat) : Int) * (cs.length : Int) = ((2 ^ p * cs.length : Nat) : Int) := by rw [Int.natCast_mul]
  rw [h6] at h2
  generalize 2 ^ p * cs.length = u at h2 h3
  have h7 : 0 < 2 ^ p * 2 ^ 13 := Nat.mul_pos h5 (by decide)
  generalize 2 ^ p * 2 ^ 13 = w at h3 h4 h7
  rw [h4]
  omega
theorem enF_CB {B : Nat} : ∀ {f : List Int} {k : Nat}, CB B f → ∀ y ∈ enF k f, y.2.natAbs < 2 ^ B
  | [], _, _, y, hy => by cases hy
  | a :: f, k, h, y, hy => by
    rcases List.mem_cons.mp hy with e | e
    · rw [e]; exact h a (by simp)
    · exact enF_CB (fun b hb => h b (by simp [hb])) y e
theorem enF_len : ∀ (f : List Int) (k : Nat), (enF k f).length = f.length
  | [], _ => rfl
  | a :: f, k => by show (enF (k + 1) f).length + 1 = f.length + 1; rw [enF_len f]
theorem conv_CB {p r : Nat} {f g : List Int} (hf : CB p f) (hg : CB r g) (hl : f.length * g.length ≤ 2 ^ 13) : CB (p + r + 14) (conv f g) := fun a ha => by
  obtain ⟨n, hn, e⟩ := List.mem_iff_getElem.mp ha
  have z := conv_get f g n
  rw [List.getD_eq_getElem?_getD, List.getElem?_eq_getElem hn] at z
  have z' : (conv f g)[n] = _ := z
  rw [← e, z']
  refine tot_amb (fun x hx => ?_) (by rw [prod_len, enF_len, enF_len]; exact hl) _
  obtain ⟨y, hy, hx2⟩ := List.mem_flatMap.mp hx
  obtain ⟨u, hu, rfl⟩ := List.mem_map.mp hx2
  show (y.2 * u.2).natAbs ≤ _
  rw [Int.natAbs_mul, Nat.pow_add]
  exact Nat.mul_le_mul (Nat.le_of_lt (enF_CB hf y hy)) (Nat.le_of_lt (enF_CB hg u hu))
def rootsP (rs : List Int) : List Int := rs.foldl (fun P r => conv P [-r, 1]) [1]
theorem rootsP_snoc (rs : List Int) (r : Int) : rootsP (rs ++ [r]) = conv (rootsP rs) [-r, 1] := by
  unfold rootsP
  rw [List.foldl_append]; rfl
theorem rootsP_len : ∀ (rs : List Int) (n : Nat), n ≤ rs.length → (rootsP (rs.take n)).length = n + 1
  | rs, 0, _ => rfl
  | rs, n + 1, h => by
    rw [List.take_add_one, List.getElem?_eq_getElem h]
    show (rootsP (rs.take n ++ [rs[n]])).length = _
    rw [rootsP_snoc, conv_len, rootsP_len rs n (by omega)]
    rfl
theorem rootsP_CB {rs : List Int} (hr : CB 56 rs) (hl : rs.length ≤ 400) : ∀ n : Nat, n ≤ rs.length → CB (1 + 70 * n) (rootsP (rs.take n))
  | 0, _ => fun a ha => by
    have e : a = 1 := by simpa [rootsP] using ha
    rw [e]; decide
  | n + 1, h => by
    rw [List.take_add_one, List.getElem?_eq_getElem h]
    show CB _ (rootsP (rs.take n ++ [rs[n]]))
    rw [rootsP_snoc]
    have z := conv_CB (rootsP_CB hr hl n (by omega)) (r := 56) (g := [-rs[n], 1]) (fun a ha => by
      simp at ha
      rcases ha with e | e
      · rw [e, Int.natAbs_neg]; exact hr _ (List.getElem_mem h)
      · rw [e]; decide) (by rw [rootsP_len rs n (by omega)]; simp; omega)
    exact z.mono (by omega)
theorem convP_ne {f g : List Int} (hf : f ≠ []) (hg : g ≠ []) : convP f g = conv f g := by
  unfold convP
  rw [if_neg (by simp [hf, hg])]
theorem trimL_zeros : ∀ n : Nat, trimL (List.replicate n 0) = []
  | 0 => rfl
  | n + 1 => by
    rw [List.replicate_succ', trimL_snoc0]
    exact trimL_zeros n
theorem ops_nil_l (g : List Int) : opsOf [] g = [] := rfl
theorem ops_nil_r (f : List Int) : opsOf f [] = [] := by
  unfold opsOf
  induction (List.range f.length) with
  | nil => rfl
  | cons x l ih => rw [List.flatMap_cons, ih]; rfl
theorem trim_conv {f g : List Int} (hf : Pl f) (hg : Pl g) : trimL (conv f g) = convP f g := by
  unfold convP
  rcases List.eq_nil_or_concat f with e | ⟨f', a, e⟩
  · subst e
    rw [if_pos (.inl rfl)]
    exact trimL_zeros _
  · rcases List.eq_nil_or_concat g with e2 | ⟨g', b, e2⟩
    · subst e2
      rw [if_pos (.inr rfl)]
      unfold conv
      rw [ops_nil_r]
      exact trimL_zeros _
    · rw [List.concat_eq_append] at e e2
      subst e; subst e2
      have ha : a ≠ 0 := fun z => hf (by rw [z]; simp)
      have hb : b ≠ 0 := fun z => hg (by rw [z]; simp)
      rw [if_neg (by simp)]
      have hl := conv_last f' g' a b
      have hlen := conv_len (f' ++ [a]) (g' ++ [b])
      rw [List.length_append, List.length_append, List.length_singleton, List.length_singleton] at hlen
      rcases List.eq_nil_or_concat (conv (f' ++ [a]) (g' ++ [b])) with e | ⟨c, z, e⟩
      · rw [e] at hlen
        have hlen' : 0 = f'.length + 1 + (g'.length + 1) - 1 := hlen
        omega
      · rw [List.concat_eq_append] at e
        rw [e] at hl hlen ⊢
        rw [List.length_append, List.length_singleton] at hlen
        have ec : c.length = f'.length + g'.length := by omega
        rw [← ec, List.getD_eq_getElem?_getD, List.getElem?_append_right (Nat.le_refl _), Nat.sub_self] at hl
        have hz : z = a * b := hl
        exact trimL_snoc c (by rw [hz]; exact Int.mul_ne_zero ha hb)
theorem ints_of {P : Int → Prop} : ∀ {ds : List PyData}, (∀ d ∈ ds, ∃ v, P v ∧ d = .int v) → ∃ r : List Int, ds = r.map .int ∧ ∀ v ∈ r, P v
  | [], _ => ⟨[], rfl, by simp⟩
  | d :: ds, h => by
    obtain ⟨v, hv, e⟩ := h d (by simp)
    obtain ⟨r, e2, hr⟩ := ints_of (ds := ds) fun x hx => h x (by simp [hx])
    exact ⟨v :: r, by rw [e, e2]; rfl, fun x hx => by
      rcases List.mem_cons.mp hx with z | z
      · rw [z]; exact hv
      · exact hr x z⟩
theorem trimL_pre (r : List Int) : ∃ t, r = trimL r ++ t := by
  refine ⟨(r.reverse.takeWhile (· == 0)).reverse, ?_⟩
  unfold trimL
  rw [← List.reverse_append, List.takeWhile_append_dropWhile, List.reverse_reverse]
theorem trimL_len (r : List Int) : (trimL r).length ≤ r.length := by
  obtain ⟨t, e⟩ := trimL_pre r
  have z := congrArg List.length e
  rw [List.length_append] at z
  omega
theorem trimL_mem {r : List Int} {a : Int} (h : a ∈ trimL r) : a ∈ r := by
  obtain ⟨t, e⟩ := trimL_pre r
  rw [e]; exact List.mem_append_left _ h
theorem trimL_Pl (r : List Int) : Pl (trimL r) := by
  intro h
  unfold trimL at h
  rw [List.getLast?_reverse] at h
  cases hd : r.reverse.dropWhile (· == 0) with
  | nil => rw [hd] at h; cases h
  | cons a l =>
    rw [hd] at h
    have e : a = 0 := by simpa using h
    have z := List.head_dropWhile_not (p := (· == (0 : Int))) (l := r.reverse) (by rw [hd]; simp)
    simp only [hd, List.head_cons] at z
    rw [e] at z
    simp at z
section
variable {K : PySem.W.Frag} {q : Option Addr} {n : Nat} {δ δ' : List Sl} {te : TE} {d : PyData} {A0 B0 Hk H1 : Hp} {σ : L2.St} {D : Ends} {tz : TS} {g : TG} {vs : List Nat}
/-- a target of any kind -/
theorem q_asgG (h : E q δ te d) (hg : GB δ g d δ' vs) (s : At q n δ A0 B0 σ Hk H1) (k : ∀ σ' Hk' H2, Gr q Hk H1 Hk' H2 → At q n δ' A0 B0 σ' Hk' H2 → tz D σ' H2) : tSeq (tAsg te g) tz D σ H1 :=
  h σ Hk H1 n s.sg s.ok _ fun d' v Hk' H2 gg o ed dv => by
    subst ed
    exact hg σ Hk' H2 v (s.sg.mono gg.k) o.a dv _ fun σ' sg' _ _ => k σ' Hk' H2 gg ⟨o, sg', s.gr.trans gg⟩
end
end Cr

set_option Elab.async false
set_option linter.all false
set_option maxRecDepth 100000
set_option maxHeartbeats 800000
namespace Cr
open PySem PySem.Spec PyProof.Rows L2
theorem okS_pol (k : Nat) {f : List Int} (hl : f.length ≤ 100000) : okS (k + 2) (pol f) = true := by
  show (decide ((f.map PyData.int).length ≤ 100000) && (f.map PyData.int).all (okS (k + 1))) = true
  rw [Bool.and_eq_true]
  refine ⟨decide_eq_true (by rw [pol_len]; exact hl), List.all_eq_true.mpr fun d hd => ?_⟩
  obtain ⟨x, _, rfl⟩ := List.mem_map.mp hd
  rfl
theorem lst_shape (f : List Int) : SeqAt.shaped (.list (f.map .int)) = true := by
  unfold SeqAt.shaped
  rw [Bool.and_eq_true]
  refine ⟨?_, decide_eq_true ?_⟩
  · show PyData.canLayAll0 (f.map .int) = true
    exact canAll_of fun d hd => by
      obtain ⟨x, _, rfl⟩ := List.mem_map.mp hd
      rfl
  · have h : PyData.depthAll (f.map PyData.int) ≤ 1 := depthAll_le fun d hd => by
      obtain ⟨x, _, rfl⟩ := List.mem_map.mp hd
      simp [PyData.depth]
    show (PyData.list (f.map .int)).depth ≤ 64
    simp only [PyData.depth]
    omega
theorem eqvAll_ints : ∀ f : List Int, PyData.eqvAll (f.map .int) (f.map .int) = true
  | [] => by simp [PyData.eqvAll]
  | a :: f => by
    show PyData.eqvAll (.int a :: f.map .int) (.int a :: f.map .int) = true
    simp [PyData.eqvAll, PyData.eqv, eqvAll_ints f]
theorem eqv_lst_self (f : List Int) : PyData.eqv (.list (f.map .int)) (.list (f.map .int)) = true := by
  simp [PyData.eqv, eqvAll_ints]
theorem eqv_pol_self (f : List Int) : PyData.eqv (pol f) (pol f) = true := by
  simp [pol, PyData.eqv, eqvAll_ints]
theorem convP_comm (f g : List Int) : convP f g = convP g f := by
  unfold convP
  by_cases h : f = [] ∨ g = []
  · rw [if_pos h, if_pos (h.symm)]
  · rw [if_neg h, if_neg (fun z => h z.symm), conv_comm]
theorem convP_Pl {f g : List Int} (hf : Pl f) (hg : Pl g) : Pl (convP f g) := by
  rw [← trim_conv hf hg]; exact trimL_Pl _
theorem convP_len (f g : List Int) : (convP f g).length ≤ f.length + g.length := by
  unfold convP
  split
  · simp
  · rw [conv_len]; omega
theorem convP_CB {p r : Nat} {f g : List Int} (hf : CB p f) (hg : CB r g) (hl : f.length * g.length ≤ 2 ^ 13) : CB (p + r + 14) (convP f g) := by
  unfold convP
  split
  · intro a ha; cases ha
  · exact conv_CB hf hg hl
theorem convP_val (f g : List Int) (x : Int) : evalP (convP f g) x = evalP f x * evalP g x := by
  unfold convP
  split
  · rename_i h
    rcases h with h | h
    · subst h; show (0 : Int) = 0 * _; rw [Int.zero_mul]
    · subst h; show (0 : Int) = _ * 0; rw [Int.mul_zero]
  · exact conv_val f g x
theorem Pl_nil : Pl [] := by simp [Pl]
theorem Pl_one (f : List Int) : Pl (f ++ [1]) := by simp [Pl]
theorem roots_one (P : List Int) (r : Int) (h : ∃ f, P = f ++ [1]) : ∃ f, conv P [-r, 1] = f ++ [1] := by
  obtain ⟨f, rfl⟩ := h
  have h1 := conv_last f [-r] 1 1
  have hl : (conv (f ++ [1]) ([-r] ++ [1])).length = f.length + 2 := by rw [conv_len]; simp
  have hn : (f.length + [-r].length) < (conv (f ++ [1]) ([-r] ++ [1])).length := by rw [hl]; simp
  rw [List.getD_eq_getElem?_getD, List.getElem?_eq_getElem hn] at h1
  have h2 : (conv (f ++ [1]) ([-r] ++ [1]))[f.length + [-r].length] = 1 := by simpa using h1
  refine ⟨(conv (f ++ [1]) ([-r] ++ [1])).take (f.length + 1), ?_⟩
  have h3 := List.take_append_drop (f.length + 1) (conv (f ++ [1]) ([-r] ++ [1]))
  rw [List.drop_eq_getElem_cons (by rw [hl]; omega)] at h3
  rw [List.drop_eq_nil_of_le (by rw [hl]; omega)] at h3
  have h4 : (conv (f ++ [1]) ([-r] ++ [1]))[f.length + 1]'(by rw [hl]; omega) = 1 := h2
  rw [h4] at h3
  exact h3.symm
theorem rootsP_one (rs : List Int) : ∃ f, rootsP rs = f ++ [1] := by
  unfold rootsP
  have h : ∀ (rs P : List Int), (∃ f, P = f ++ [1]) → ∃ f, rs.foldl (fun P r => conv P [-r, 1]) P = f ++ [1] := by
    intro rs
    induction rs with
    | nil => intro P h; exact h
    | cons r rs ih => intro P h; exact ih _ (roots_one P r h)
  exact h rs [1] ⟨[], rfl⟩
theorem rootsP_Pl (rs : List Int) : Pl (rootsP rs) := by
  obtain ⟨f, e⟩ := rootsP_one rs
  rw [e]; exact Pl_one f
theorem rootsP_ne (rs : List Int) : rootsP rs ≠ [] := by
  obtain ⟨f, e⟩ := rootsP_one rs
  rw [e]; simp
theorem rootsP_zero (rs : List Int) {x : Int} (hx : x ∈ rs) : evalP (rootsP rs) x = 0 := by
  unfold rootsP
  have h : ∀ (rs P : List Int), (evalP P x = 0 ∨ x ∈ rs) → evalP (rs.foldl (fun P r => conv P [-r, 1]) P) x = 0 := by
    intro rs
    induction rs with
    | nil =>
      intro P h
      rcases h with h | h
      · exact h
      · cases h
    | cons r rs ih =>
      intro P h
      refine ih _ ?_
      rcases h with h | h
      · left; rw [conv_val, h, Int.zero_mul]
      · rcases List.mem_cons.mp h with h | h
        · left
          rw [conv_val, h]
          show _ * ((0 * r + 1) * r + -r) = 0
          have : ((0 * r + 1) * r + -r : Int) = 0 := by rw [Int.zero_mul, Int.zero_add, Int.one_mul]; omega
          rw [this, Int.mul_zero]
        · exact .inr h
  exact h rs [1] (.inr hx)
section
variable {K : PySem.W.Frag} {q : Option Addr} {n : Nat} {δ δ' : List Sl} {te te2 ta tb tc : TE} {tt tu : TT} {c c1 c2 c3 : Nat} {Φ Φ1 Φ2 Φ3 : PyData → Prop} {d d1 d2 : PyData} {A0 B0 Hk H1 : Hp} {σ : L2.St} {D : Ends} {tz t1 : TS} {p : Addr} {ds : List PyData}
/-- x, y = list(e), e2 -/
theorem q_parLst {i j : Nat} (h : E q δ te (.list ds)) (h2 : E q δ te2 d2) (s : At q n δ A0 B0 σ Hk H1)
    (k : ∀ p σ' Hk' H2, Gr q Hk H1 Hk' H2 → At q n ((δ.set i (.adr p)).set j (.dat d2)) A0 B0 σ' Hk' H2 → Cell q B0 Hk' H2 p ds → tz D σ' H2) :
    tSeq (tAsg (tTup (tCons (tCB (rLstQ K) (tCons te tNil)) (tCons te2 tNil))) (gTup K 2 (gCons (gName i) (gCons (gName j) gNil)))) tz D σ H1 := by
  refine h σ Hk H1 n s.sg s.ok _ fun d v Hk' H2 g o e dv => ?_
  subst e
  obtain ⟨a, xs, rfl, e1, e2⟩ := dv.lstOf
  refine ⟨a, xs, rfl, .inl (.inl (.inl (g.a _ _ e1))), fun p hp => ?_⟩
  have hk : Hk' p = none := g.a.free hp
  have nb : ∀ {Hk3 H3 : Hp} (gg : Gr q Hk H1 Hk3 H3) {t : Addr}, H3 t = none → B0 t = none := fun {Hk3 H3} gg {t} ht => by
    cases e : B0 t with
    | none => rfl
    | some u => exact absurd ht ((s.gr.trans gg).t t (by rw [e]; exact fun z => by cases z))
  have nq : q ≠ some p := fun e => (o.j p e).ne hp
  have gc : Gr q Hk' H2 Hk' (upd H2 p (.lst xs)) := Gr.cell g.a hp
  have o1 : Ok q n Hk' (upd H2 p (.lst xs)) := o.cell hk nq
  have c1 : Cell q B0 Hk' (upd H2 p (.lst xs)) p ds := ⟨hk, nq, nb g hp, xs, upd_same, e2⟩
  refine h2 σ Hk' _ n (s.sg.mono g.k) o1 _ fun d' w Hk2 H3 g2 o2 e' dw => ?_
  subst e'
  have cl2 := c1.go g2
  refine ⟨by show 2 ≤ sizeLine; rw [sizeLine_eq]; decide, fun t ob od ht => ?_⟩
  have gt : Gr q Hk2 H3 Hk2 (upd H3 t (.frz ob (.tup [.ref p, w]))) := Gr.cell o2.a ht
  have ht' : Hk2 t = none := o2.a.free ht
  have nqt : q ≠ some t := fun e => (o2.j t e).ne ht
  have gg : Gr q Hk H1 Hk2 (upd H3 t (.frz ob (.tup [.ref p, w]))) := ((g.trans gc).trans g2).trans gt
  refine ⟨t, [.ref p, w], rfl, .inl (.inr ⟨_, upd_same⟩), rfl, .ref p, [w], rfl, w, [], rfl, rfl, ?_⟩
  exact k p _ Hk2 _ gg ⟨o2.cell ht' nqt, (((s.sg.mono g.k).mono g2.k).set i (s := .adr p) rfl).set j (s := .dat d') dw, s.gr.trans gg⟩ (cl2.go gt)
/-- x, y = ([], e) -/
theorem q_tupNew {i j : Nat} (h2 : E q δ te2 d2) (s : At q n δ A0 B0 σ Hk H1)
    (k : ∀ p σ' Hk' H2, Gr q Hk H1 Hk' H2 → At q n ((δ.set i (.adr p)).set j (.dat d2)) A0 B0 σ' Hk' H2 → Cell q B0 Hk' H2 p [] → tz D σ' H2) :
    tSeq (tAsg (tTup (tCons (tLst tNil) (tCons te2 tNil))) (gTup K 2 (gCons (gName i) (gCons (gName j) gNil)))) tz D σ H1 := by
  refine ⟨Nat.zero_le _, fun p hp => ?_⟩
  have hk : Hk p = none := s.ok.a.free hp
  have nb : ∀ {Hk3 H3 : Hp} (gg : Gr q Hk H1 Hk3 H3) {t : Addr}, H3 t = none → B0 t = none := fun {Hk3 H3} gg {t} ht => by
    cases e : B0 t with
    | none => rfl
    | some u => exact absurd ht ((s.gr.trans gg).t t (by rw [e]; exact fun z => by cases z))
  have nq : q ≠ some p := fun e => (s.ok.j p e).ne hp
  have gc : Gr q Hk H1 Hk (upd H1 p (.lst [])) := Gr.cell s.ok.a hp
  have o1 : Ok q n Hk (upd H1 p (.lst [])) := s.ok.cell hk nq
  have c1 : Cell q B0 Hk (upd H1 p (.lst [])) p [] := ⟨hk, nq, nb (Gr.refl s.ok.a) hp, [], upd_same, .nil⟩
  refine h2 σ Hk _ n s.sg o1 _ fun d' w Hk2 H3 g2 o2 e' dw => ?_
  subst e'
  have cl2 := c1.go g2
  refine ⟨by show 2 ≤ sizeLine; rw [sizeLine_eq]; decide, fun t ob od ht => ?_⟩
  have gt : Gr q Hk2 H3 Hk2 (upd H3 t (.frz ob (.tup [.ref p, w]))) := Gr.cell o2.a ht
  have ht' : Hk2 t = none := o2.a.free ht
  have nqt : q ≠ some t := fun e => (o2.j t e).ne ht
  have gg : Gr q Hk H1 Hk2 (upd H3 t (.frz ob (.tup [.ref p, w]))) := (gc.trans g2).trans gt
  refine ⟨t, [.ref p, w], rfl, .inl (.inr ⟨_, upd_same⟩), rfl, .ref p, [w], rfl, w, [], rfl, rfl, ?_⟩
  exact k p _ Hk2 _ gg ⟨o2.cell ht' nqt, ((s.sg.mono g2.k).set i (s := .adr p) rfl).set j (s := .dat d') dw, s.gr.trans gg⟩ (cl2.go gt)
/-- a test that reads a list that still changes -/
theorem testC {i : Nat} {P : Bool → Prop} {Q : Bool → Hp → Prop} (h : TJ q (δ.set i (.dat (.list ds))) tt c P) (s : At q (n + c) δ A0 B0 σ Hk H1) (cl : Cell q B0 Hk H1 p ds) (hi : δ[i]? = some (.adr p))
    (k : ∀ b Hk' H2, P b → Gr q Hk H1 Hk' H2 → At q n δ A0 B0 σ Hk' H2 → Cell q B0 Hk' H2 p ds → Q b H2) : tt σ H1 Q := by
  obtain ⟨xs, ex, hd⟩ := cl.ex
  have hn := cl.nk
  have sm : Same Hk (upd Hk p (.lst xs)) := same_upd hn
  have smA : Same (upd Hk p (.lst xs)) H1 := fun b u z => by
    by_cases hb : b = p
    · subst hb; rw [upd_same] at z; rw [← z]; exact ex
    · rw [upd_ne hb] at z; exact s.ok.a b u z
  have ok1 : Ok q (n + c) (upd Hk p (.lst xs)) H1 := ⟨smA, fun r er => by rw [upd_ne (fun z => cl.nq (by rw [← z]; exact er))]; exact s.ok.kf r er, s.ok.j⟩
  have sg1 : Sg (upd Hk p (.lst xs)) σ (δ.set i (.dat (.list ds))) := by
    have sg := s.sg.mono sm
    refine ⟨by rw [List.length_set]; exact sg.1, fun j t ej ne => ?_⟩
    by_cases hj : i = j
    · subst hj
      have hl : i < δ.length := (List.getElem?_eq_some_iff.mp hi).1
      rw [List.getElem?_set_self hl] at ej
      cases ej
      exact ⟨.ref p, sg.getA hi, .lst upd_same (DqAll.mono sm _ _ hd)⟩
    · rw [List.getElem?_set_ne hj] at ej
      exact sg.2 j t ej ne
  refine h σ _ H1 n sg1 ok1 _ fun b Hk2 H2 g o pb => ?_
  have e2 : Hk2 p = some (.lst xs) := g.k _ _ upd_same
  have eH2 : H2 p = some (.lst xs) := g.a _ _ e2
  obtain ⟨Hr, eHr⟩ : ∃ Hr : Hp, Hr = fun b => if b = p then none else Hk2 b := ⟨_, rfl⟩
  have rp : Hr p = none := by rw [eHr]; exact if_pos rfl
  have rn : ∀ b, b ≠ p → Hr b = Hk2 b := fun b hb => by rw [eHr]; exact if_neg hb
  have s1 : Same Hk Hr := fun b u z => by
    have hb : b ≠ p := ne_of_none z hn
    rw [rn b hb]; exact g.k b u (by rw [upd_ne hb]; exact z)
  have s2 : Same Hr H2 := fun b u z => by
    by_cases hb : b = p
    · rw [hb, rp] at z; cases z
    · rw [rn b hb] at z; exact g.a b u z
  have gg : Gr q Hk H1 Hr H2 := ⟨s1, s2, g.s, fun b hb h1 => by
    by_cases hbp : b = p
    · rw [hbp]; exact rp
    · rw [rn b hbp]; exact g.f b (by rw [upd_ne hbp]; exact hb) h1, g.t⟩
  refine k b Hr H2 pb gg ⟨⟨s2, fun r er => ?_, o.j⟩, s.sg.mono s1, s.gr.trans gg⟩ ⟨rp, cl.nq, cl.nb, xs, eH2, DqAll.mono s1 _ _ hd⟩
  rw [rn r (fun hb => cl.nq (by rw [← hb]; exact er))]; exact o.kf r er
theorem q_ifNoC {i : Nat} (h : TB q (δ.set i (.dat (.list ds))) tt false) (s : At q n δ A0 B0 σ Hk H1) (cl : Cell q B0 Hk H1 p ds) (hi : δ[i]? = some (.adr p))
    (k : ∀ Hk' H2, Gr q Hk H1 Hk' H2 → At q n δ A0 B0 σ Hk' H2 → Cell q B0 Hk' H2 p ds → tz D σ H2) : tSeq (tIfS tt t1 tNext) tz D σ H1 :=
  testC (c := 0) h s cl hi fun b Hk' H2 e g a cl2 => by
    subst e
    exact iteF (k Hk' H2 g a cl2)
end
end Cr
namespace Cr
open PySem PySem.Spec PyProof.Rows L2
section
variable {q : Option Addr} {δ : List Sl} {tt : TT} {c : Nat}
theorem tj_notT (h : TJ q δ tt c (fun b => b = true)) : TJ q δ (tNot tt) c (fun b => b = false) := fun σ H H1 n sg o Q k => h σ H H1 n sg o _ fun x Hk H2 g o1 e => k _ Hk H2 g o1 (by rw [e]; rfl)
end
end Cr

set_option Elab.async false
set_option linter.all false
set_option maxRecDepth 100000
set_option maxHeartbeats 800000
namespace Cr
open PySem PySem.Spec PyProof.Rows L2
/-! ### sums of powers -/
def tms (l : List (Int × Int)) (j : Nat) : List Int := l.map fun x => x.2 * x.1 ^ j
def psum (l : List (Int × Int)) (j : Nat) : Int := (tms l j).sum
def psums (l : List (Int × Int)) (n : Nat) : List Int := (List.range n).map (psum l)
def Kb (A B : Nat) (l : List (Int × Int)) : Prop := ∀ x ∈ l, x.1.natAbs < 2 ^ A ∧ x.2.natAbs < 2 ^ B
theorem Kb.mono {A B A' B' : Nat} {l : List (Int × Int)} (h : Kb A B l) (ha : A ≤ A') (hb : B ≤ B') : Kb A' B' l := fun x hx => ⟨Nat.lt_of_lt_of_le (h x hx).1 (Nat.pow_le_pow_right (by decide) ha), Nat.lt_of_lt_of_le (h x hx).2 (Nat.pow_le_pow_right (by decide) hb)⟩
theorem Bd.kb {B : Nat} {l : List (Int × Int)} (h : Bd B l) : Kb B B l := h
theorem psums_len (l : List (Int × Int)) (n : Nat) : (psums l n).length = n := by simp [psums]
theorem psums_get {l : List (Int × Int)} {n i : Nat} (h : i < n) : (psums l n)[i]? = some (psum l i) := by
  unfold psums; rw [List.getElem?_map, List.getElem?_range h]; rfl
theorem psums_succ (l : List (Int × Int)) (n : Nat) : psums l (n + 1) = psums l n ++ [psum l n] := by
  unfold psums; rw [List.range_succ, List.map_append]; rfl
theorem tms_zero (l : List (Int × Int)) : tms l 0 = l.map (·.2) := by
  unfold tms
  exact List.map_congr_left fun x _ => by rw [Int.pow_zero, Int.mul_one]
theorem psum_nil (j : Nat) : psum [] j = 0 := rfl
theorem psum_cons (x : Int × Int) (l : List (Int × Int)) (j : Nat) : psum (x :: l) j = x.2 * x.1 ^ j + psum l j := by
  unfold psum tms; rw [List.map_cons, List.sum_cons]
theorem psum_append (a b : List (Int × Int)) (j : Nat) : psum (a ++ b) j = psum a j + psum b j := by
  unfold psum tms; rw [List.map_append, List.sum_append]
theorem psum_one (k a : Int) (j : Nat) : psum [(k, a)] j = a * k ^ j := by rw [psum_cons, psum_nil, Int.add_zero]
theorem psum_wsum (l : List (Int × Int)) (j : Nat) : psum l j = wsum (fun k => k ^ j) l := by
  induction l with
  | nil => rfl
  | cons x l ih => rw [psum_cons, ih]; rfl
theorem psum_gather (cs : List (Int × Int)) (j : Nat) : psum (gather cs) j = psum cs j := by
  rw [psum_wsum, psum_wsum, wsum_gather]
theorem psums_gather (cs : List (Int × Int)) (n : Nat) : psums (gather cs) n = psums cs n := by
  unfold psums
  exact List.map_congr_left fun j _ => psum_gather cs j
theorem tm_bits {x : Int × Int} {A B : Nat} (ha : x.1.natAbs < 2 ^ A) (hb : x.2.natAbs < 2 ^ B) (j : Nat) : (x.2 * x.1 ^ j).natAbs < 2 ^ (B + A * j) := by
  induction j with
  | zero => simpa using hb
  | succ j ih =>
    rw [Int.pow_succ, ← Int.mul_assoc, Int.natAbs_mul, show B + A * (j + 1) = (B + A * j) + A by rw [Nat.mul_add, Nat.mul_one, Nat.add_assoc], Nat.pow_add]
    exact Nat.mul_lt_mul'' ih ha
theorem sum_bits {b N : Nat} : ∀ {ns : List Int}, (∀ x ∈ ns, x.natAbs < 2 ^ b) → ns.length ≤ 2 ^ N → ns.sum.natAbs < 2 ^ (b + N + 1) := by
  intro ns h hl
  have z : ∀ ms : List Int, (∀ x ∈ ms, x.natAbs < 2 ^ b) → ms.sum.natAbs ≤ 2 ^ b * ms.length := by
    intro ms
    induction ms with
    | nil => intro _; simp
    | cons m ms ih =>
      intro h
      rw [List.sum_cons, List.length_cons, Nat.mul_add, Nat.mul_one]
      have h1 := ih fun x hx => h x (by simp [hx])
      have h2 := h m (by simp)
      have h3 := Int.natAbs_add_le m ms.sum
      omega
  have z1 := z ns h
  have z2 : 2 ^ b * ns.length ≤ 2 ^ b * 2 ^ N := Nat.mul_le_mul_left _ hl
  rw [← Nat.pow_add] at z2
  have z3 : 2 ^ (b + N) < 2 ^ (b + N + 1) := Nat.pow_lt_pow_right (by decide) (by omega)
  omega
theorem psum_bits {l : List (Int × Int)} {A B N : Nat} (h : Kb A B l) (hl : l.length ≤ 2 ^ N) (j : Nat) : (psum l j).natAbs < 2 ^ (B + A * j + N + 1) := by
  unfold psum
  refine sum_bits (fun x hx => ?_) (by unfold tms; rw [List.length_map]; exact hl)
  obtain ⟨y, hy, rfl⟩ := List.mem_map.mp hx
  exact tm_bits (h y hy).1 (h y hy).2 j
theorem psums_CB {l : List (Int × Int)} {A B N n : Nat} (h : Kb A B l) (hl : l.length ≤ 2 ^ N) : CB (B + A * n + N + 1) (psums l n) := fun a ha => by
  unfold psums at ha
  obtain ⟨j, hj, rfl⟩ := List.mem_map.mp ha
  have hj' := List.mem_range.mp hj
  refine Nat.lt_of_lt_of_le (psum_bits h hl j) (Nat.pow_le_pow_right (by decide) ?_)
  have := Nat.mul_le_mul_left A (Nat.le_of_lt hj')
  omega
theorem zipD_map {α : Type} (f g : α → PyData) : ∀ l : List α, zipD (l.map f) (l.map g) = l.map fun x => .tuple [f x, g x]
  | [] => rfl
  | x :: l => by
    show .tuple [f x, g x] :: zipD (l.map f) (l.map g) = _
    rw [zipD_map f g l]; rfl
theorem zipD_ints : ∀ f g : List Int, zipD (f.map .int) (g.map .int) = (f.zip g).map pr
  | [], _ => by simp [zipD]
  | _ :: _, [] => by simp [zipD]
  | a :: f, b :: g => by
    show PyData.tuple [.int a, .int b] :: zipD (f.map .int) (g.map .int) = _
    rw [zipD_ints f g]; rfl
/-! ### math.comb -/
def rCombQ : List V → Hp → VK → Prop := fun vs H Q => ∃ a b : Nat, vs = [.int (a : Int), .int (b : Int)] ∧ a ≤ 9000 ∧ b ≤ 9000 ∧ Q (.int (PySem.W.mcComb a b)) H
end Cr

set_option Elab.async false
set_option linter.all false
set_option maxRecDepth 100000
set_option maxHeartbeats 800000
namespace L2
open PySem PySem.Spec PyProof.Rows
section
variable {X : Cx}
theorem call_combQ : CallR X (.builtin "math.comb") Cr.rCombQ := by
  intro pins s σ H vs us Q I r h
  obtain ⟨a, b, rfl, h1, h2, q⟩ := h
  obtain ⟨t, u, rfl⟩ := Vals.int2 r
  exact PySem.W.mc_comb (Int.natCast_nonneg _) (Int.natCast_nonneg _) (by omega) (.inl (by omega)) fun _ => ⟨.int _, H, I.tok _, ⟨_, rfl⟩, q⟩
end
end L2
namespace Cr
open PySem PySem.Spec PyProof.Rows L2
section
variable {K : PySem.W.Frag} {q : Option Addr} {n : Nat} {δ δ' : List Sl} {te ta tb tc tj : TE} {tt : TT} {c c1 c2 c3 : Nat} {Φ Φ1 Φ2 : PyData → Prop} {d : PyData} {wi : TI} {A0 B0 Hk H1 : Hp} {σ : L2.St} {D : Ends} {tz t1 : TS} {g : TG} {p : Addr} {P P1 P2 : Int → Prop}
theorem walk_zipL {H : Hp} {a b : Addr} {xs ys : List V} {ds es : List PyData} (np : ∀ d ∈ ds, notPair d = true) (h : H a = some (.lst xs)) (hd : DqAll H xs ds) (h2 : H b = some (.lst ys)) (he : DqAll H ys es) : WalkD (Itz K a b) (zipD ds es) H := fun i Hk H' s1 s2 => by
  have e := s2 _ _ (s1 _ _ h)
  have e2 := s2 _ _ (s1 _ _ h2)
  have hl1 := hd.length
  have hl2 := he.length
  rw [zipD_len]
  refine ⟨fun hi => ?_, fun hi => ⟨xs, ys, SqL.of1 e, SqL.of1 e2, by omega⟩⟩
  have g1 : xs[i]? = some (xs[i]'(by omega)) := List.getElem?_eq_getElem _
  have g2 : ys[i]? = some (ys[i]'(by omega)) := List.getElem?_eq_getElem _
  refine ⟨⟨xs, ys, _, _, SqL.of1 e, SqL.of1 e2, g1, g2⟩, fun v H2 y => ?_⟩
  obtain ⟨T, x, y, rfl, hT, rfl, f1, f2⟩ := y
  obtain ⟨d1, p1, p2⟩ := hd.get' (f1 xs (SqL.of1 e))
  obtain ⟨d2, p3, p4⟩ := he.get' (f2 ys (SqL.of1 e2))
  have g := Gr.new (q := none) (o := .tup [x, y]) s2 hT
  refine ⟨_, g, _, zipD_get ds es i d1 d2 p1 p3, .tup (.inr ⟨np d1 (List.mem_of_getElem? p1), upd_same⟩) (.cons (Dq.mono (s1.trans g.k) _ _ p2) (.cons (Dq.mono (s1.trans g.k) _ _ p4) .nil))⟩
theorem ie_zipL {ds es : List PyData} (h : E q δ ta (.list ds)) (h2 : E q δ tb (.list es)) (np : ∀ d ∈ ds, notPair d = true := by intro d hd; obtain ⟨x, _, rfl⟩ := List.mem_map.mp hd; rfl) : IE q δ (RZ.iZipA K (tCons ta (tCons tb tNil))) (zipD ds es) := fun σ H H1 n sg o R k =>
  h σ H H1 n sg o _ fun d v Hk H2 g o1 e dv => h2 σ Hk H2 n (sg.mono g.k) o1 _ fun d' v' Hk' H3 g' o2 e' dv' => by
    subst e; subst e'
    obtain ⟨a, xs, rfl, p1, p2⟩ := (Dq.mono g'.k _ _ dv).lstOf
    obtain ⟨b, ys, rfl, p3, p4⟩ := dv'.lstOf
    exact ⟨a, b, xs, ys, rfl, .inl ⟨SqL.of1 (g'.a _ _ p1), SqL.of1 (g'.a _ _ p3), k _ _ Hk' H3 (g.trans g') o2 rfl (walk_zipL np p1 p2 p3 p4)⟩⟩
theorem IE.is {wi : TI} {xs ys : List PyData} (h : IE q δ wi xs) (e : xs = ys) : IE q δ wi ys := by rw [← e]; exact h
theorem e_comb {a b : Nat} (h : E q δ ta (.int (a : Int))) (h2 : E q δ tb (.int (b : Int))) (ha : a ≤ 9000) (hb : b ≤ 9000) : E q δ (tCB rCombQ (tCons ta (tCons tb tNil))) (.int (PySem.W.mcComb a b)) := e_cb (ds := [.int (a : Int), .int (b : Int)]) (ae_cons h (ae_cons h2 ae_nil)) fun vs H H1 h e Q k => by
  obtain ⟨v, w, rfl, h1, h2⟩ := h.two
  rw [h1.intOf, h2.intOf]
  exact ⟨a, b, rfl, ha, hb, k _ _ H H1 (Gr.refl e) rfl (.int _)⟩
theorem aj_two {ta : TE} {tb : TE} (h : J q δ ta c1 (IntP P1)) (h2 : J q δ tb c2 (IntP P2)) : AJ q δ (tCons ta (tCons tb tNil)) (c2 + c1) (fun sls => ∃ ds : List PyData, sls = ds.map Sl.dat ∧ ∃ i j, P1 i ∧ P2 j ∧ ds = [.int i, .int j]) :=
  (aj_int (c1 := c1) (c2 := c2) (Φr := fun sls => ∃ j, P2 j ∧ sls = [.dat (.int j)]) h ((aj_int (c1 := c2) (c2 := 0) (Φr := fun sls => sls = []) h2 ae_nil fun i sls hi e => ⟨i, hi, by rw [e]⟩).cost (by omega)) fun i sls hi ⟨j, hj, e⟩ => ⟨[.int i, .int j], by rw [e]; rfl, i, j, hi, hj, rfl⟩)
theorem j_min (h : J q δ ta c1 (IntP P1)) (h2 : J q δ tb c2 (IntP P2)) (hp : ∀ i j, P1 i → P2 j → P (if j < i then j else i)) : J q δ (tCB rMinQ (tCons ta (tCons tb tNil))) (c2 + c1) (IntP P) :=
  j_cb (Ψ := fun ds => ∃ i j, P1 i ∧ P2 j ∧ ds = [.int i, .int j]) (aj_two h h2) fun ds ⟨i, j, hi, hj, e⟩ vs H H1 h e2 Q k => by
    subst e
    obtain ⟨v, w, rfl, h1, h2⟩ := h.two
    rw [h1.intOf, h2.intOf]
    exact ⟨i, j, rfl, k _ _ H H1 (Gr.refl e2) ⟨_, hp i j hi hj, rfl⟩ (.int _)⟩
theorem j_max (h : J q δ ta c1 (IntP P1)) (h2 : J q δ tb c2 (IntP P2)) (hp : ∀ i j, P1 i → P2 j → P (if j > i then j else i)) : J q δ (tCB rMaxQ (tCons ta (tCons tb tNil))) (c2 + c1) (IntP P) :=
  j_cb (Ψ := fun ds => ∃ i j, P1 i ∧ P2 j ∧ ds = [.int i, .int j]) (aj_two h h2) fun ds ⟨i, j, hi, hj, e⟩ vs H H1 h e2 Q k => by
    subst e
    obtain ⟨v, w, rfl, h1, h2⟩ := h.two
    rw [h1.intOf, h2.intOf]
    exact ⟨i, j, rfl, k _ _ H H1 (Gr.refl e2) ⟨_, hp i j hi hj, rfl⟩ (.int _)⟩
/-- x[0] of a pair of the ledger -/
theorem j_fst {l : List (Int × Int)} (h : J q δ ta c (fun d => ∃ x ∈ l, d = pr x)) : J q δ (tOp (rIx K) ta (tC (.int 0))) c (IntP fun k => ∃ x ∈ l, x.1 = k) :=
  (j_iT (P := fun i => i = 0) (Ψ := fun ds => ∃ x ∈ l, ds = [.int x.1, .int x.2]) (h.imp fun d ⟨x, hx, e⟩ => ⟨_, ⟨x, hx, rfl⟩, e⟩) e_int.intP fun ds i ⟨x, hx, e⟩ hi => by
    subst hi; subst e
    exact ⟨.int x.1, rfl, x.1, ⟨x, hx, rfl⟩, rfl⟩).cost (by omega)
theorem ij_rng2 {Ψ : List PyData → Prop} (h : J q δ ta c1 (IntP P1)) (h2 : J q δ tb c2 (IntP P2)) (hp : ∀ i j, P1 i → P2 j → (-(2 ^ 62) ≤ i ∧ i < 2 ^ 62 ∧ -(2 ^ 62) ≤ j ∧ j < 2 ^ 62) ∧ Ψ (rng i (j - i).toNat)) : IJ q δ (iRng2 (tCons ta (tCons tb tNil))) (c2 + c1) Ψ := fun σ H H1 n sg o R k =>
  aj_two h h2 σ H H1 n sg o _ fun sls vs Hk H2 g o1 ⟨ds, e, i, j, hi, hj, e2⟩ hv => by
    subst e; subst e2
    obtain ⟨v, w, rfl, h1, h2⟩ := hv.dats.two
    rw [h1.intOf, h2.intOf]
    exact ⟨i, j, rfl, (hp i j hi hj).1, k _ _ Hk H2 g o1 (hp i j hi hj).2 walk_rng⟩
theorem ie_rng2 {i j : Int} (h : E q δ ta (.int i)) (h2 : E q δ tb (.int j)) (hp : -(2 ^ 62) ≤ i ∧ i < 2 ^ 62 ∧ -(2 ^ 62) ≤ j ∧ j < 2 ^ 62) : IE q δ (iRng2 (tCons ta (tCons tb tNil))) (rng i (j - i).toNat) :=
  ij_rng2 (c1 := 0) (c2 := 0) h.intP h2.intP fun a b ha hb => by subst ha; subst hb; exact ⟨hp, rfl⟩
theorem len_scr {i : Nat} {ns : List Int} (hi : δ[i]? = some (.scr K ns)) : J q δ (tCB (rLenQ K) (tCons (tVar i) tNil)) 0 (IntP fun x => 0 ≤ x) := (e_lenS hi).imp fun d e => ⟨_, Int.natCast_nonneg _, e⟩
/-- for at in range(1, max(2, min(len(script), m))) -/
theorem e_ats1 {m : Int} {i : Nat} {ns : List Int} (hi : δ[i]? = some (.scr K ns)) (hm : 1 ≤ m) (hm2 : m ≤ 100) : IJ q δ (iRng2 (tCons (tC (.int 1)) (tCons (tCB rMaxQ (tCons (tC (.int 2)) (tCons (tCB rMinQ (tCons (tCB (rLenQ K) (tCons (tVar i) tNil)) (tCons (tC (.int m)) tNil))) tNil))) tNil))) 0 (fun items => ∃ k : Nat, k ≤ 100 ∧ items = rng 1 k) :=
  ij_rng2 (c1 := 0) (c2 := 0) (P1 := fun x => x = 1) (P2 := fun x => 0 ≤ x ∧ x ≤ 100) e_int.intP ((j_max (c1 := 0) (c2 := 0) (P1 := fun x => x = 2) (P2 := fun x => 0 ≤ x ∧ x ≤ 100) e_int.intP ((j_min (c1 := 0) (c2 := 0) (P1 := fun x => 0 ≤ x) (P2 := fun x => x = m) (len_scr hi) e_int.intP fun a b ha hb => by split <;> omega)) fun a b ha hb => by split <;> omega)) fun a b ha hb => ⟨by omega, (b - a).toNat, by omega, by rw [ha]⟩
/-- for at in range(max(1, min(len(script), m))) -/
theorem e_ats0 {m : Int} {i : Nat} {ns : List Int} (hi : δ[i]? = some (.scr K ns)) (hm : 1 ≤ m) (hm2 : m ≤ 100) : IJ q δ (iRng1 (tCons (tCB rMaxQ (tCons (tC (.int 1)) (tCons (tCB rMinQ (tCons (tCB (rLenQ K) (tCons (tVar i) tNil)) (tCons (tC (.int m)) tNil))) tNil))) tNil)) 0 (fun items => ∃ k : Nat, k ≤ 100 ∧ items = rng 0 k) :=
  ij_rng1 (P := fun x => 0 ≤ x ∧ x ≤ 100) ((j_max (c1 := 0) (c2 := 0) (P1 := fun x => x = 1) (P2 := fun x => 0 ≤ x ∧ x ≤ 100) e_int.intP ((j_min (c1 := 0) (c2 := 0) (P1 := fun x => 0 ≤ x) (P2 := fun x => x = m) (len_scr hi) e_int.intP fun a b ha hb => by split <;> omega)) fun a b ha hb => by split <;> omega)) fun j hj => ⟨by omega, j.toNat, by omega, rfl⟩
/-- jar = _law_jar(script, e) -/
theorem q_mkJarE {i k : Nat} {E0 : XK} {ns : List Int} {t : Int} (s : At none 0 δ A0 B0 σ Hk H1) (hi : δ[i]? = some (.scr K ns)) (hj : E none δ tj (.int t)) (h0 : 0 ≤ t) (h1 : t ≤ 1000)
    (kont : ∀ p σ' Hk' H2, Same Hk Hk' → At (some p) 999999999 (δ.set k (.adr p)) Hk' H2 σ' Hk' H2 → tz D σ' H2) : tSeq (tAsg (tCall (spMk K) [] E0 (tCons (tVar i) (tCons tj tNil))) (gName k)) tz D σ H1 := by
  obtain ⟨v, a, b, rfl, hS⟩ := s.sg.2 i _ hi (fun z => by cases z)
  refine ⟨.ref b, a, hj σ Hk H1 0 s.sg s.ok _ fun d w Hk' H2 g o ed dw => ?_⟩
  subst ed
  have ew := dw.intOf
  subst ew
  refine ⟨b, ns, t, rfl, Same.seq (g.k.trans g.a) hS, h0, h1, fun p H3 sm hp hJ => ?_⟩
  have hk : Hk' p = none := o.a.free hp
  exact kont p _ Hk' H3 g.k ⟨⟨o.a.trans sm, fun r er => by cases er; exact hk, fun r er => by cases er; exact hJ⟩, (s.sg.mono g.k).set k (s := .adr p) rfl, Gr.refl (o.a.trans sm)⟩
/-- f(_law_jar(script, e), ..) -/
theorem j_callMk {R : RelX} {i : Nat} {E0 E1 : XK} {ns : List Int} {t : Int} {ta : TA} {sls : List Sl} (hi : δ[i]? = some (.scr K ns)) (hj : E none δ tj (.int t)) (h0 : 0 ≤ t) (h1 : t ≤ 1000) (ha : ∀ p, AE (some p) δ ta sls) (hr : ∀ p, R (some p) (.adr p :: sls) c Φ) (hc : c ≤ 999999999) :
    J none δ (tCall (spX R) [] E1 (tCons (tCall (spMk K) [] E0 (tCons (tVar i) (tCons tj tNil))) ta)) 0 Φ := fun σ H H1 n sg o Q k => by
  obtain ⟨v, a, b, rfl, hS⟩ := sg.2 i _ hi (fun z => by cases z)
  refine ⟨.ref b, a, hj σ H H1 n sg o _ fun d w Hk' H2 g o1 ed dw => ?_⟩
  subst ed
  have ew := dw.intOf
  subst ew
  refine ⟨b, ns, t, rfl, Same.seq (g.k.trans g.a) hS, h0, h1, fun p H3 sm hp hJ => ?_⟩
  have hk : Hk' p = none := o1.a.free hp
  have g3 : ∀ {Hk2 H4 : Hp}, Gr (some p) Hk' H3 Hk2 H4 → Gr none H H1 Hk2 H4 := fun {Hk2 H4} y => by
    refine ⟨g.k.trans y.k, y.a, fun b o _ hb => ?_, fun b hb h1 => ?_, fun b hb => ?_⟩
    · have h2 := g.s b o (fun z => by cases z) hb
      refine y.s b o (fun z => ?_) (sm b o h2)
      cases z; rw [hp] at h2; cases h2
    · have h2 := g.t b h1
      refine y.f b (g.f b hb h1) (fun z => ?_)
      cases e : H2 b with
      | none => exact h2 e
      | some u => rw [sm b u e] at z; cases z
    · have h2 := g.t b hb
      refine y.t b (fun z => ?_)
      cases e : H2 b with
      | none => exact h2 e
      | some u => rw [sm b u e] at z; cases z
  have o3 : Ok (some p) (0 + c) Hk' H3 := ⟨o1.a.trans sm, fun r er => by cases er; exact hk, fun r er => by cases er; exact hJ.mono (by omega)⟩
  refine ha p σ Hk' H3 (0 + c) (sg.mono g.k) o3 _ fun s2 vs Hk2 H4 g4 o4 es hv => ?_
  subst es
  show spX R ((.ref p :: vs) ++ []) H4 Q E1
  rw [List.append_nil]
  have hv2 : VS Hk2 (.ref p :: vs) (.adr p :: s2) := VS.cons (s := .adr p) rfl hv
  exact ⟨some p, Hk2, .adr p :: s2, 0, c, Φ, o4, hv2, hr p, fun d v Hk3 H5 g5 o5 pd dv => k d v Hk3 H5 (g3 (g4.trans g5)) ⟨o5.a, fun r er => (by cases er), fun r er => (by cases er)⟩ pd dv⟩
end
/-! ### math of the changes -/
def wch (f : List Int) (k b : Int) : List Int := (f.zip (psums [(k, b)] f.length)).map fun x => x.1 + x.2
theorem wch_len (f : List Int) (k b : Int) : (wch f k b).length = f.length := by
  simp [wch, psums_len]
theorem wch_get {f : List Int} {k b : Int} {i : Nat} (h : i < f.length) : (wch f k b)[i]? = some (f[i] + b * k ^ i) := by
  unfold wch
  rw [List.getElem?_map, List.zip_eq_zipWith, List.getElem?_zipWith, List.getElem?_eq_getElem h, psums_get h]
  show some (f[i] + psum [(k, b)] i) = _
  rw [psum_one]
theorem wch_psums (l : List (Int × Int)) (n : Nat) (k b : Int) : wch (psums l n) k b = psums (l ++ [(k, b)]) n := by
  refine List.ext_getElem? fun i => ?_
  by_cases h : i < n
  · rw [wch_get (by rw [psums_len]; exact h), psums_get h, psum_append, psum_one]
    congr 2
    have z := psums_get (l := l) h
    rw [List.getElem?_eq_getElem (by rw [psums_len]; exact h)] at z
    exact Option.some.inj z
  · rw [List.getElem?_eq_none (by rw [wch_len, psums_len]; omega), List.getElem?_eq_none (by rw [psums_len]; omega)]
theorem wch_range (f : List Int) (k b : Int) : (List.range f.length).map (fun j => f.getD j 0 + b * k ^ j) = wch f k b := by
  refine List.ext_getElem? fun i => ?_
  rw [List.getElem?_map]
  by_cases h : i < f.length
  · rw [List.getElem?_range h, wch_get h]
    simp [List.getD_eq_getElem?_getD, h]
  · rw [List.getElem?_eq_none (l := wch f k b) (by rw [wch_len]; omega), List.getElem?_eq_none (l := List.range f.length) (by rw [List.length_range]; omega)]; rfl
theorem zip_terms (l : List (Int × Int)) (j : Nat) : zipD ((tms l j).map .int) ((l.map (·.1)).map .int) = l.map fun x => pr (x.2 * x.1 ^ j, x.1) := by
  unfold tms
  rw [List.map_map, List.map_map]
  exact zipD_map _ _ l
theorem tms_succ (l : List (Int × Int)) (j : Nat) : tms l (j + 1) = l.map fun x => x.2 * x.1 ^ j * x.1 := by
  unfold tms
  exact List.map_congr_left fun x _ => by rw [Int.pow_succ, Int.mul_assoc]
theorem terms_range (l : List (Int × Int)) (j : Nat) : (List.range l.length).map (fun i => (tms l j).getD i 0 * (l.getD i (0, 0)).1) = tms l (j + 1) := by
  refine List.ext_getElem? fun i => ?_
  rw [List.getElem?_map, tms_succ, List.getElem?_map]
  by_cases h : i < l.length
  · rw [List.getElem?_range h, List.getElem?_eq_getElem h]
    simp [tms, List.getD_eq_getElem?_getD, h]
  · rw [List.getElem?_eq_none (l := List.range l.length) (by rw [List.length_range]; omega), List.getElem?_eq_none (l := l) (by omega)]; rfl
theorem tot_abs {A B N : Nat} {cs : List (Int × Int)} (h : Kb A B cs) (hl : cs.length ≤ 2 ^ N) (k : Int) : (tot cs k).natAbs < 2 ^ (B + N + 1) := by
  have hA : Amt (2 ^ B) cs := fun x hx => by
    have z := (h x hx).2
    have e : ((2 : Int) ^ B) = ((2 ^ B : Nat) : Int) := by simp
    rw [e]
    generalize 2 ^ B = w at z ⊢
    omega
  have z := tot_bound (M := 2 ^ B) (Int.le_of_lt (Int.pow_pos (by decide))) hA k
  have e : ((2 : Int) ^ B) * (cs.length : Int) = ((2 ^ B * cs.length : Nat) : Int) := by simp
  rw [e] at z
  have z2 : 2 ^ B * cs.length ≤ 2 ^ B * 2 ^ N := Nat.mul_le_mul_left _ hl
  rw [← Nat.pow_add] at z2
  have z3 : 2 ^ (B + N) < 2 ^ (B + N + 1) := Nat.pow_lt_pow_right (by decide) (by omega)
  generalize 2 ^ B * cs.length = w at z z2
  omega
theorem gather_Kb {A B N : Nat} {cs : List (Int × Int)} (h : Kb A B cs) (hl : cs.length ≤ 2 ^ N) : Kb A (B + N + 1) (gather cs) := fun x hx => by
  refine ⟨gather_keys (P := fun k => k.natAbs < 2 ^ A) (fun y hy => (h y hy).1) x hx, ?_⟩
  rw [((gather_mem cs x).mp hx).1]
  exact tot_abs h hl x.1
theorem tot_is {l : List (Int × Int)} (hL : Led l) {B : Nat} (h : ∀ x ∈ l, x.2.natAbs < 2 ^ B) (k : Int) : (tot l k).natAbs < 2 ^ B := by
  by_cases hz : tot l k = 0
  · rw [hz]; exact Nat.pos_of_ne_zero (by simp)
  · obtain ⟨x, hx, e⟩ := List.mem_map.mp (tot_mem hz)
    rw [← e, tot_led hL.1 x hx]; exact h x hx
theorem Kb.app {A B : Nat} {a b : List (Int × Int)} (h : Kb A B a) (h2 : Kb A B b) : Kb A B (a ++ b) := fun x hx => by
  rcases List.mem_append.mp hx with z | z
  · exact h x z
  · exact h2 x z
theorem Kb.one {A B : Nat} {k b : Int} (h : k.natAbs < 2 ^ A) (h2 : b.natAbs < 2 ^ B) : Kb A B [(k, b)] := fun x hx => by
  rw [List.mem_singleton.mp hx]; exact ⟨h, h2⟩
end Cr

set_option Elab.async false
set_option linter.all false
set_option maxRecDepth 100000
set_option maxHeartbeats 800000
namespace Cr
open PySem PySem.Spec PyProof.Rows L2
section
variable {K : PySem.W.Frag} {q : Option Addr} {δ : List Sl} {te ta tb : TE} {c : Nat} {P : Int → Prop}
theorem e_ten {k v : Int} (h0 : 0 ≤ k) (h1 : 4 * k ≤ 2 ^ 27) (e : (10 : Int) ^ k.toNat = v) : E q δ (tOp (rI CPowW fun i j => .int (i ^ j.toNat)) (tC (.int 10)) (tC (.int k))) (.int v) := e_is (e_pow e_int e_int (pow_ok (a := 4) (by decide) (by omega) h0 h1)) (by rw [e])
end
theorem lt_pow {x a b : Nat} (h : x < 2 ^ a) (hab : a ≤ b) : x < 2 ^ b := Nat.lt_of_lt_of_le h (Nat.pow_le_pow_right (by decide) hab)
theorem psums_ne {l : List (Int × Int)} {n : Nat} (h : 1 ≤ n) : psums l n ≠ [] := fun e => by
  have z := psums_len l n
  rw [e] at z; simp at z; omega
theorem psums_map (l : List (Int × Int)) (n : Nat) : (List.range n).map (fun k => PyData.int (psum l k)) = (psums l n).map .int := by
  unfold psums; rw [List.map_map]; rfl
theorem tms_map (l : List (Int × Int)) (k : Nat) : l.map (fun x => PyData.int (x.2 * x.1 ^ k)) = (tms l k).map .int := by
  unfold tms; rw [List.map_map]; rfl
theorem pd_app (a b : List (Int × Int)) : pd a ++ pd b = pd (a ++ b) := by unfold pd; rw [List.map_append]
def GoodS (l : List (Int × Int)) : Prop := Led l ∧ Kb 50 60 l ∧ l.length ≤ 60
end Cr

set_option Elab.async false
set_option linter.all false
set_option maxRecDepth 100000
set_option maxHeartbeats 800000
namespace Cr
open PySem PySem.Spec PyProof.Rows L2
section
variable {K : PySem.W.Frag} {q : Option Addr} {n : Nat} {δ δ' : List Sl} {te ta tb : TE} {tt : TT} {c c1 c2 : Nat} {Φ : PyData → Prop} {d : PyData} {A0 B0 Hk H1 : Hp} {σ : L2.St} {D : Ends} {tz : TS} {P P1 P2 : Int → Prop}
/-- x, y = (e, e2), drawn -/
theorem q_asgT2 {i j : Nat} {ta : TA} {Ψ : PyData → PyData → Prop} (h : AJ q δ ta c (fun sls => ∃ a b, sls = [.dat a, .dat b] ∧ Ψ a b)) (s : At q (n + c) δ A0 B0 σ Hk H1)
    (k : ∀ a b σ' Hk' H2, Ψ a b → Gr q Hk H1 Hk' H2 → At q n ((δ.set i (.dat a)).set j (.dat b)) A0 B0 σ' Hk' H2 → tz D σ' H2) : tSeq (tAsg (tTup ta) (gTup K 2 (gCons (gName i) (gCons (gName j) gNil)))) tz D σ H1 := by
  unfold tSeq tAsg
  exact j_tup (Ψ := fun ds => ∃ a b, ds = [a, b] ∧ Ψ a b) (h.imp fun sls ⟨a, b, e, p⟩ => ⟨[a, b], e, by simp, a, b, rfl, p⟩) σ Hk H1 n s.sg s.ok _ fun d v Hk' H2 g o ⟨ds, ⟨a, b, e, p⟩, ed⟩ dv => by
    subst e; subst ed
    exact gb_tup2 (K := K) (δ := δ) (d1 := a) (d2 := b) (vs := [i, j]) (by simp) (by simp) σ Hk' H2 v (s.sg.mono g.k) o.a dv _ fun σ' sg' _ _ => k a b σ' Hk' H2 p g ⟨o, sg', s.gr.trans g⟩
theorem aj_pair {Ψ1 Ψ2 : PyData → Prop} (h : J q δ ta c1 Ψ1) (h2 : J q δ tb c2 Ψ2) : AJ q δ (tCons ta (tCons tb tNil)) (c2 + c1) (fun sls => ∃ a b, sls = [.dat a, .dat b] ∧ Ψ1 a ∧ Ψ2 b) :=
  (aj_cons (c1 := c1) (c2 := c2) (Φr := fun sls => ∃ b, sls = [.dat b] ∧ Ψ2 b) h ((aj_cons (c1 := c2) (c2 := 0) (Φr := fun sls => sls = []) h2 ae_nil fun d sls p e => ⟨d, by rw [e], p⟩).cost (by omega)) fun d sls p ⟨b, e, p2⟩ => ⟨d, b, by rw [e], p, p2⟩)
theorem j_modI (h : J q δ ta c1 (IntP P1)) (h2 : J q δ tb c2 (IntP P2)) (hc : ∀ j, P2 j → 0 < j) (hp : ∀ x j, P2 j → 0 ≤ x → x < j → P x) : J q δ (tOp (rI (fun _ j => j ≠ 0) fun i j => .int (i.fmod j)) ta tb) (c2 + c1) (IntP P) :=
  j_I h h2 (fun i j _ hj => by have := hc j hj; omega) fun i j _ hj => ⟨_, hp _ j hj (Int.fmod_nonneg_of_pos i (hc j hj)) (Int.fmod_lt_of_pos i (hc j hj)), rfl⟩
theorem j_int (h : J q δ te c (IntP P)) : J q δ (tCB rIntQ (tCons te tNil)) c (IntP P) := j_cb1 h fun d ⟨x, hx, e⟩ => by rw [e]; exact rc_int ⟨x, hx, rfl⟩
/-- [.., ..] over range(n) of elements that are told -/
theorem e_lcR {j : Int} {m : Nat} {i : Nat} {te : TE} {tn : TE} (hn : E q δ tn (.int j)) (hj : j = (m : Int)) (hm : m ≤ 100000) (f : Nat → PyData)
    (he : ∀ k, k < m → E q ((wipeD δ [i]).set i (.dat (.int (0 + (k : Int))))) te (f k)) : E q δ (tLc (iRng1 (tCons tn tNil)) (gName i) tYes te [i]) (.list ((List.range m).map f)) := by
  subst hj
  exact e_lc1 (vs := [i]) (emb := fun k : Nat => PyData.int (0 + (k : Int))) (xs := List.range m) ((ie_rng1 hn (by omega) (by omega)).is rfl) f (by rw [List.length_range]; omega) fun k hk => ⟨_, gb_name (by simp), he k (List.mem_range.mp hk)⟩
theorem at_ints {f : List Int} {k : Nat} (h : k < f.length) : atI (f.map PyData.int) (0 + (k : Int)) = some (.int (f.getD k 0)) := by
  rw [Int.zero_add]
  exact atI_nat (by rw [List.getElem?_map, List.getElem?_eq_getElem h]; simp [List.getD_eq_getElem?_getD, h])
theorem at_ints0 {f : List Int} {k : Nat} (h : k < f.length) : atI (f.map PyData.int) (k : Int) = some (.int (f.getD k 0)) := by
  have z := at_ints h
  rwa [Int.zero_add] at z
end
/-! ### rows of integers -/
def zadd (f g : List Int) : List Int := (f.zip g).map fun x => x.1 + x.2
def zsub (f g : List Int) : List Int := (f.zip g).map fun x => x.1 - x.2
def zmul (f g : List Int) : List Int := (f.zip g).map fun x => x.1 * x.2
theorem zip_range (h : Int → Int → Int) {f g : List Int} (e : g.length = f.length) : (List.range f.length).map (fun j => h (f.getD j 0) (g.getD j 0)) = (f.zip g).map fun x => h x.1 x.2 := by
  refine List.ext_getElem? fun i => ?_
  rw [List.getElem?_map, List.getElem?_map]
  by_cases hi : i < f.length
  · rw [List.getElem?_range hi, List.zip_eq_zipWith, List.getElem?_zipWith, List.getElem?_eq_getElem hi, List.getElem?_eq_getElem (l := g) (by omega)]
    simp [List.getD_eq_getElem?_getD, hi, show i < g.length by omega]
  · rw [List.getElem?_eq_none (l := List.range f.length) (by rw [List.length_range]; omega), List.getElem?_eq_none (l := f.zip g) (by rw [List.length_zip]; omega)]; rfl
theorem zadd_len {f g : List Int} (e : g.length = f.length) : (zadd f g).length = f.length := by simp [zadd, e]
theorem zsub_len {f g : List Int} (e : g.length = f.length) : (zsub f g).length = f.length := by simp [zsub, e]
theorem zmul_len {f g : List Int} (e : g.length = f.length) : (zmul f g).length = f.length := by simp [zmul, e]
theorem psums_zip (h : Int → Int → Int) (a b c : List (Int × Int)) (n : Nat) (e : ∀ j, h (psum a j) (psum b j) = psum c j) : ((psums a n).zip (psums b n)).map (fun x => h x.1 x.2) = psums c n := by
  unfold psums
  rw [List.zip_map', List.map_map]
  exact List.map_congr_left fun j _ => e j
theorem zadd_psums (a b : List (Int × Int)) (n : Nat) : zadd (psums a n) (psums b n) = psums (a ++ b) n := psums_zip (· + ·) a b _ n fun j => (psum_append a b j).symm
theorem psum_neg (b : List (Int × Int)) (j : Nat) : psum (b.map fun x => (x.1, -x.2)) j = -psum b j := by
  induction b with
  | nil => rfl
  | cons x b ih => rw [List.map_cons, psum_cons, psum_cons, ih, Int.neg_mul, Int.neg_add]
theorem psum_scale (l : List (Int × Int)) (b : Int) (j : Nat) : psum (l.map fun x => (x.1, x.2 * b)) j = psum l j * b := by
  induction l with
  | nil => show (0 : Int) = 0 * b; rw [Int.zero_mul]
  | cons x l ih => rw [List.map_cons, psum_cons, psum_cons, ih, Int.add_mul, Int.mul_assoc, Int.mul_assoc, Int.mul_comm b]
theorem zsub_psums (a b : List (Int × Int)) (n : Nat) : zsub (psums a n) (psums b n) = psums (a ++ b.map fun x => (x.1, -x.2)) n := psums_zip (· - ·) a b _ n fun j => by
  show _ = psum _ j
  rw [psum_append, psum_neg]; rfl
theorem scl_psums (a : List (Int × Int)) (b : Int) (n : Nat) : (psums a n).map (· * b) = psums (a.map fun x => (x.1, x.2 * b)) n := by
  unfold psums
  rw [List.map_map]
  exact List.map_congr_left fun j _ => (psum_scale a b j).symm
theorem wch_back (f : List Int) (k b : Int) : wch (wch f k b) k (-b) = f := by
  refine List.ext_getElem? fun i => ?_
  by_cases h : i < f.length
  · rw [wch_get (by rw [wch_len]; exact h), List.getElem?_eq_getElem h]
    have z := wch_get (k := k) (b := b) h
    rw [List.getElem?_eq_getElem (by rw [wch_len]; exact h)] at z
    have z2 := Option.some.inj z
    rw [z2, Int.neg_mul, Int.add_neg_cancel_right]
  · rw [List.getElem?_eq_none (by rw [wch_len, wch_len]; omega), List.getElem?_eq_none (by omega)]
theorem Kb.neg {A B : Nat} {b : List (Int × Int)} (h : Kb A B b) : Kb A B (b.map fun x => (x.1, -x.2)) := fun x hx => by
  obtain ⟨y, hy, rfl⟩ := List.mem_map.mp hx
  exact ⟨(h y hy).1, by show (-y.2).natAbs < _; rw [Int.natAbs_neg]; exact (h y hy).2⟩
theorem Kb.scl {A B C : Nat} {l : List (Int × Int)} {b : Int} (h : Kb A B l) (hb : b.natAbs < 2 ^ C) : Kb A (B + C) (l.map fun x => (x.1, x.2 * b)) := fun x hx => by
  obtain ⟨y, hy, rfl⟩ := List.mem_map.mp hx
  refine ⟨(h y hy).1, ?_⟩
  show (y.2 * b).natAbs < _
  rw [Int.natAbs_mul, Nat.pow_add]
  exact Nat.mul_lt_mul'' (h y hy).2 hb
theorem Kb.take {A B : Nat} {l : List (Int × Int)} (h : Kb A B l) (n : Nat) : Kb A B (l.take n) := fun x hx => h x (List.mem_of_mem_take hx)
theorem pd_take (l : List (Int × Int)) (n : Nat) : (pd l).take n = pd (l.take n) := by unfold pd; rw [List.map_take]
end Cr

set_option Elab.async false
set_option linter.all false
set_option maxRecDepth 100000
set_option maxHeartbeats 800000
namespace Cr
open PySem PySem.Spec PyProof.Rows L2
/-! ### numbers of ways -/
def chs : Nat → Nat → Nat
  | _, 0 => 1
  | 0, _ + 1 => 0
  | n + 1, k + 1 => chs n k + chs n (k + 1)
theorem chs_above : ∀ (n k : Nat), n < k → chs n k = 0
  | 0, k + 1, _ => rfl
  | n + 1, k + 1, h => by
    show chs n k + chs n (k + 1) = 0
    rw [chs_above n k (by omega), chs_above n (k + 1) (by omega)]
theorem chs_self : ∀ n : Nat, chs n n = 1
  | 0 => rfl
  | n + 1 => by
    show chs n n + chs n (n + 1) = 1
    rw [chs_self n, chs_above n (n + 1) (by omega)]
theorem chs_zero (n : Nat) : chs n 0 = 1 := by cases n <;> rfl
theorem chs_succ (n k : Nat) : chs (n + 1) (k + 1) = chs n k + chs n (k + 1) := rfl
theorem chs_le : ∀ n k : Nat, chs n k ≤ 2 ^ n
  | 0, 0 => by decide
  | 0, k + 1 => Nat.zero_le _
  | n + 1, 0 => by rw [chs_zero]; exact Nat.one_le_two_pow
  | n + 1, k + 1 => by
    have h1 := chs_le n k
    have h2 := chs_le n (k + 1)
    rw [chs_succ, Nat.pow_succ]; omega
theorem chs_symm : ∀ n k : Nat, k ≤ n → chs n (n - k) = chs n k
  | 0, k, h => by
    have e : k = 0 := by omega
    subst e; rfl
  | n + 1, 0, _ => by rw [Nat.sub_zero, chs_self, chs_zero]
  | n + 1, k + 1, h => by
    rw [Nat.add_sub_add_right]
    by_cases e : k = n
    · subst e; rw [Nat.sub_self, chs_zero, chs_self]
    · have h1 := chs_symm n k (by omega)
      have h2 := chs_symm n (k + 1) (by omega)
      have e2 : n - k = (n - (k + 1)) + 1 := by omega
      rw [e2, chs_succ, ← e2, h1, h2, chs_succ]; omega
theorem fp_shift (m : Int) : ∀ k : Nat, Builtin.Math.fallingProduct (m + 1) (k + 1) = (m + 1) * Builtin.Math.fallingProduct m k
  | 0 => by rw [PySem.W.mc_fp_one, PySem.W.mc_fp_zero, Int.mul_one]
  | k + 1 => by
    rw [PySem.W.mc_fp_succ, fp_shift m k, PySem.W.mc_fp_succ, Int.mul_assoc]
    congr 2
    omega
theorem fp_none : ∀ k : Nat, Builtin.Math.fallingProduct 0 (k + 1) = 0
  | 0 => rfl
  | k + 1 => by rw [PySem.W.mc_fp_succ, fp_none k, Int.zero_mul]
theorem chs_fp : ∀ n k : Nat, (chs n k : Int) * Builtin.Math.fallingProduct (k : Int) k = Builtin.Math.fallingProduct (n : Int) k
  | n, 0 => by rw [chs_zero, PySem.W.mc_fp_zero, PySem.W.mc_fp_zero]; rfl
  | 0, k + 1 => by
    show (0 : Int) * _ = Builtin.Math.fallingProduct 0 (k + 1)
    rw [fp_none, Int.zero_mul]
  | n + 1, k + 1 => by
    have h1 := chs_fp n k
    have h2 := chs_fp n (k + 1)
    rw [PySem.W.mc_fp_succ (n : Int) k] at h2
    have e1 : ((k + 1 : Nat) : Int) = (k : Int) + 1 := rfl
    have e2 : ((n + 1 : Nat) : Int) = (n : Int) + 1 := rfl
    rw [e1, fp_shift] at h2
    rw [chs_succ, e1, e2, fp_shift, fp_shift, Int.natCast_add, Int.add_mul, h2, ← h1]
    generalize Builtin.Math.fallingProduct (k : Int) k = w
    have z : (chs n k : Int) * (((k : Int) + 1) * w) = ((k : Int) + 1) * ((chs n k : Int) * w) := by rw [Int.mul_left_comm]
    rw [z]
    generalize (chs n k : Int) * w = u
    rw [Int.mul_comm u, ← Int.add_mul]
    congr 1
    omega
theorem comb_chs (n k : Nat) : PySem.W.mcComb (n : Int) (k : Int) = (chs n k : Int) := by
  by_cases h : n < k
  · rw [PySem.W.mcComb_above (by omega), chs_above n k h]; rfl
  · obtain ⟨m, hm, hc⟩ : ∃ m : Nat, min (k : Int) ((n : Int) - (k : Int)) = (m : Int) ∧ chs n m = chs n k := by
      by_cases h2 : k ≤ n - k
      · exact ⟨k, by omega, rfl⟩
      · exact ⟨n - k, by omega, chs_symm n k (by omega)⟩
    rw [PySem.W.mcComb_at (Int.natCast_nonneg _) (by omega) hm, Int.toNat_natCast, ← chs_fp n m, hc]
    exact Int.mul_ediv_cancel _ (by
      have := PySem.W.mc_fp_pos (n := (m : Int)) m (Int.le_refl _)
      omega)
/-! ### sums over 0 .. n - 1 -/
def sm : Nat → (Nat → Int) → Int
  | 0, _ => 0
  | n + 1, F => sm n F + F n
theorem sm_range (F : Nat → Int) : ∀ n : Nat, ((List.range n).map F).sum = sm n F
  | 0 => rfl
  | n + 1 => by rw [List.range_succ, List.map_append, List.sum_append, sm_range F n]; simp [sm]
theorem sm_congr {F G : Nat → Int} : ∀ {n : Nat}, (∀ i, i < n → F i = G i) → sm n F = sm n G
  | 0, _ => rfl
  | n + 1, h => by
    show sm n F + F n = sm n G + G n
    rw [sm_congr fun i hi => h i (by omega), h n (by omega)]
theorem sm_add (F G : Nat → Int) : ∀ n : Nat, sm n (fun i => F i + G i) = sm n F + sm n G
  | 0 => rfl
  | n + 1 => by
    show sm n _ + (F n + G n) = (sm n F + F n) + (sm n G + G n)
    rw [sm_add F G n]; omega
theorem sm_mul (c : Int) (F : Nat → Int) : ∀ n : Nat, sm n (fun i => c * F i) = c * sm n F
  | 0 => (Int.mul_zero c).symm
  | n + 1 => by
    show sm n _ + c * F n = c * (sm n F + F n)
    rw [sm_mul c F n, Int.mul_add]
theorem sm_zero : ∀ n : Nat, sm n (fun _ => 0) = 0
  | 0 => rfl
  | n + 1 => by show sm n _ + 0 = 0; rw [sm_zero n]; rfl
theorem sm_shift (F : Nat → Int) : ∀ n : Nat, sm (n + 1) F = F 0 + sm n (fun i => F (i + 1))
  | 0 => by show (0 : Int) + F 0 = F 0 + 0; omega
  | n + 1 => by
    show sm (n + 1) F + F (n + 1) = F 0 + (sm n (fun i => F (i + 1)) + F (n + 1))
    rw [sm_shift F n]; omega
/-! ### the binomial theorem -/
def bt (j : Nat) (F : Nat → Nat → Int) : Int := sm (j + 1) fun i => (chs j i : Int) * F i (j - i)
theorem bt_succ (j : Nat) (F : Nat → Nat → Int) : bt (j + 1) F = bt j (fun a b => F (a + 1) b) + bt j (fun a b => F a (b + 1)) := by
  show sm (j + 1 + 1) (fun i => (chs (j + 1) i : Int) * F i (j + 1 - i)) = sm (j + 1) (fun i => (chs j i : Int) * F (i + 1) (j - i)) + sm (j + 1) (fun i => (chs j i : Int) * F i (j - i + 1))
  rw [sm_shift]
  have e1 : sm (j + 1) (fun i => (chs (j + 1) (i + 1) : Int) * F (i + 1) (j + 1 - (i + 1))) = sm (j + 1) (fun i => (chs j i : Int) * F (i + 1) (j - i)) + sm (j + 1) (fun i => (chs j (i + 1) : Int) * F (i + 1) (j - i)) := by
    rw [← sm_add]
    exact sm_congr fun i _ => by rw [chs_succ, Int.natCast_add, Int.add_mul, Nat.add_sub_add_right]
  have e2 : sm (j + 1) (fun i => (chs j (i + 1) : Int) * F (i + 1) (j - i)) = sm j (fun i => (chs j (i + 1) : Int) * F (i + 1) (j - i)) := by
    show sm j _ + (chs j (j + 1) : Int) * _ = _
    rw [chs_above j (j + 1) (by omega)]
    show _ + (0 : Int) * _ = _
    rw [Int.zero_mul, Int.add_zero]
  have e3 : sm (j + 1) (fun i => (chs j i : Int) * F i (j - i + 1)) = F 0 (j + 1) + sm j (fun i => (chs j (i + 1) : Int) * F (i + 1) (j - i)) := by
    rw [sm_shift]
    congr 1
    · rw [chs_zero]; show (1 : Int) * _ = _; rw [Int.one_mul, Nat.sub_zero]
    · exact sm_congr fun i hi => by rw [show j - (i + 1) + 1 = j - i by omega]
  rw [e1, e2, e3, chs_zero]
  show (1 : Int) * F 0 (j + 1 - 0) + _ = _
  rw [Int.one_mul, Nat.sub_zero]
  omega
theorem bt_mul (c : Int) (j : Nat) (F : Nat → Nat → Int) : bt j (fun a b => c * F a b) = c * bt j F := by
  unfold bt
  rw [← sm_mul]
  exact sm_congr fun i _ => Int.mul_left_comm _ _ _
theorem bt_add (j : Nat) (F G : Nat → Nat → Int) : bt j (fun a b => F a b + G a b) = bt j F + bt j G := by
  unfold bt
  rw [← sm_add]
  exact sm_congr fun i _ => Int.mul_add _ _ _
theorem bt_congr {j : Nat} {F G : Nat → Nat → Int} (h : ∀ a b, F a b = G a b) : bt j F = bt j G := by
  unfold bt
  exact sm_congr fun i _ => by rw [h]
theorem bt_zero (j : Nat) : bt j (fun _ _ => 0) = 0 := by
  show sm (j + 1) (fun i => (chs j i : Int) * 0) = 0
  rw [sm_congr (G := fun _ => 0) fun i _ => Int.mul_zero _, sm_zero]
theorem binom (x y : Int) : ∀ j : Nat, bt j (fun a b => x ^ a * y ^ b) = (x + y) ^ j
  | 0 => by
    show (0 : Int) + ((chs 0 0 : Nat) : Int) * (x ^ 0 * y ^ 0) = (x + y) ^ 0
    simp [chs]
  | j + 1 => by
    rw [bt_succ, Int.pow_succ, ← binom x y j]
    have e1 : bt j (fun a b => x ^ (a + 1) * y ^ b) = x * bt j (fun a b => x ^ a * y ^ b) := by
      rw [← bt_mul]
      exact bt_congr fun a b => by rw [Int.pow_succ, Int.mul_comm (x ^ a) x, Int.mul_assoc]
    have e2 : bt j (fun a b => x ^ a * y ^ (b + 1)) = y * bt j (fun a b => x ^ a * y ^ b) := by
      rw [← bt_mul]
      exact bt_congr fun a b => by rw [Int.pow_succ, Int.mul_comm (y ^ b) y, Int.mul_left_comm]
    rw [e1, e2, ← Int.add_mul, Int.mul_comm]
theorem psum_prod (a b : List (Int × Int)) (j : Nat) : psum (prodL a b) j = bt j (fun i k => psum a i * psum b k) := by
  induction a with
  | nil =>
    show (0 : Int) = _
    rw [← bt_zero j]
    exact bt_congr fun i k => by rw [psum_nil, Int.zero_mul]
  | cons x a ih =>
    show psum ((b.map fun y => (x.1 + y.1, x.2 * y.2)) ++ prodL a b) j = _
    rw [psum_append, ih]
    have e : psum (b.map fun y => (x.1 + y.1, x.2 * y.2)) j = bt j (fun i k => (x.2 * x.1 ^ i) * psum b k) := by
      clear ih
      induction b with
      | nil =>
        show (0 : Int) = _
        rw [← bt_zero j]
        exact bt_congr fun i k => by rw [psum_nil, Int.mul_zero]
      | cons y b ih =>
        rw [List.map_cons, psum_cons, ih]
        show x.2 * y.2 * (x.1 + y.1) ^ j + _ = _
        rw [← binom, ← bt_mul, ← bt_add]
        exact bt_congr fun i k => by
          rw [psum_cons, Int.mul_add]
          congr 1
          rw [Int.mul_assoc, Int.mul_assoc, Int.mul_left_comm y.2]
    rw [e, ← bt_add]
    exact bt_congr fun i k => by rw [psum_cons, Int.add_mul]
/-! ### products of rows of sums -/
def cpr (f g : List Int) (j : Nat) : Int := bt j fun i k => f.getD i 0 * g.getD k 0
def cprod (f g : List Int) : List Int := (List.range f.length).map (cpr f g)
theorem cprod_len (f g : List Int) : (cprod f g).length = f.length := by simp [cprod]
theorem cpr_range (f g : List Int) (j : Nat) : ((List.range (j + 1)).map fun i => (chs j i : Int) * f.getD i 0 * g.getD (j - i) 0).sum = cpr f g j := by
  rw [sm_range]
  exact sm_congr fun i _ => Int.mul_assoc _ _ _
theorem psums_getD {l : List (Int × Int)} {n i : Nat} (h : i < n) : (psums l n).getD i 0 = psum l i := by
  rw [List.getD_eq_getElem?_getD, psums_get h]; rfl
theorem cprod_psums (a b : List (Int × Int)) (n : Nat) : cprod (psums a n) (psums b n) = psums (prodL a b) n := by
  unfold cprod
  rw [psums_len]
  unfold psums
  refine List.map_congr_left fun j hj => ?_
  have hj' := List.mem_range.mp hj
  rw [psum_prod]
  unfold cpr bt
  refine sm_congr fun i hi => ?_
  have h1 := psums_getD (l := a) (n := n) (i := i) (by omega)
  have h2 := psums_getD (l := b) (n := n) (i := j - i) (by omega)
  unfold psums at h1 h2
  show _ * ((List.map (psum a) (List.range n)).getD i 0 * (List.map (psum b) (List.range n)).getD (j - i) 0) = _
  rw [h1, h2]
theorem prod_move (l : List (Int × Int)) (b : Int) : prodL l [(b, 1)] = l.map fun x => (x.1 + b, x.2) := by
  induction l with
  | nil => rfl
  | cons x l ih =>
    show (x.1 + b, x.2 * 1) :: prodL l [(b, 1)] = _
    rw [ih, Int.mul_one]; rfl
theorem psum_stretch (l : List (Int × Int)) (b : Int) (j : Nat) : psum (l.map fun x => (x.1 * b, x.2)) j = psum l j * b ^ j := by
  induction l with
  | nil => show (0 : Int) = 0 * _; rw [Int.zero_mul]
  | cons x l ih => rw [List.map_cons, psum_cons, psum_cons, ih, Int.mul_pow, Int.add_mul, Int.mul_assoc]
theorem zmul_psums (l : List (Int × Int)) (b : Int) (n : Nat) : zmul (psums l n) (psums [(b, 1)] n) = psums (l.map fun x => (x.1 * b, x.2)) n := psums_zip (· * ·) l _ _ n fun j => by
  show psum l j * psum [(b, 1)] j = _
  rw [psum_one, Int.one_mul, psum_stretch]
/-! ### rows of numbers of ways -/
def pas (m : Nat) : List Int := (List.range (m + 1)).map fun k => (chs m k : Int)
theorem pas_len (m : Nat) : (pas m).length = m + 1 := by simp [pas]
theorem pas_getD {m k : Nat} (h : k ≤ m) : (pas m).getD k 0 = (chs m k : Int) := by
  unfold pas
  rw [List.getD_eq_getElem?_getD, List.getElem?_map, List.getElem?_range (by omega)]; rfl
theorem pas_succ (m : Nat) : pas (m + 1) = [1] ++ (List.range m).map (fun j => (pas m).getD j 0 + (pas m).getD (j + 1) 0) ++ [1] := by
  have e : pas (m + 1) = ((List.range (m + 1)).map fun k => (chs (m + 1) k : Int)) ++ [1] := by
    unfold pas
    rw [List.range_succ, List.map_append, List.map_singleton, chs_self]; rfl
  rw [e]
  congr 1
  rw [List.range_succ_eq_map, List.map_cons, chs_zero, List.map_map]
  show (1 : Int) :: _ = 1 :: _
  congr 1
  refine List.map_congr_left fun j hj => ?_
  have hj' := List.mem_range.mp hj
  rw [pas_getD (by omega), pas_getD (by omega)]
  show ((chs (m + 1) (j + 1) : Nat) : Int) = _
  rw [chs_succ]; rfl
theorem pas_bits {m : Nat} {k : Nat} : ((pas m).getD k 0).natAbs < 2 ^ (m + 1) := by
  by_cases h : k ≤ m
  · rw [pas_getD h]
    have := chs_le m k
    rw [Nat.pow_succ]
    have h2 : 0 < 2 ^ m := Nat.pos_of_ne_zero (by simp)
    omega
  · rw [List.getD_eq_getElem?_getD, List.getElem?_eq_none (by rw [pas_len]; omega)]
    exact Nat.pos_of_ne_zero (by simp)
end Cr

set_option Elab.async false
set_option linter.all false
set_option maxRecDepth 100000
set_option maxHeartbeats 800000
namespace Cr
open PySem PySem.Spec PyProof.Rows L2
theorem mul_bits {a b : Int} {p r : Nat} (h : a.natAbs < 2 ^ p) (h2 : b.natAbs < 2 ^ r) : (a * b).natAbs < 2 ^ (p + r) := by
  rw [Int.natAbs_mul, Nat.pow_add]; exact Nat.mul_lt_mul'' h h2
theorem chs_bits (n k : Nat) : ((chs n k : Nat) : Int).natAbs < 2 ^ (n + 1) := by
  have h := chs_le n k
  have h2 : 0 < 2 ^ n := Nat.pos_of_ne_zero (by simp)
  rw [Nat.pow_succ]; omega
theorem CB.getD {B : Nat} {f : List Int} (h : CB B f) (i : Nat) : (f.getD i 0).natAbs < 2 ^ B := by
  by_cases hi : i < f.length
  · exact h _ (Cr.getD_mem hi)
  · rw [List.getD_eq_getElem?_getD, List.getElem?_eq_none (by omega)]
    exact Nat.pos_of_ne_zero (by simp)
def rowsL (n : Nat) : List PyData := (List.range (n + 1)).map fun m => .list ((pas m).map .int)
theorem rowsL_len (n : Nat) : (rowsL n).length = n + 1 := by simp [rowsL]
theorem rowsL_succ (n : Nat) : rowsL (n + 1) = rowsL n ++ [.list ((pas (n + 1)).map .int)] := by
  unfold rowsL
  rw [List.range_succ (n := n + 1), List.map_append]; rfl
theorem rowsL_last (n : Nat) : atI (rowsL n) (-1) = some (.list ((pas n).map .int)) := by
  unfold rowsL
  rw [List.range_succ, List.map_append]
  exact atI_last _ _
theorem rowsL_get {n m : Nat} (h : m ≤ n) : atI (rowsL n) (0 + (m : Int)) = some (.list ((pas m).map .int)) := by
  rw [Int.zero_add]
  exact atI_nat (by unfold rowsL; rw [List.getElem?_map, List.getElem?_range (by omega)]; rfl)
theorem rowsL_head (n : Nat) : ∃ es rest, rowsL n = .list es :: rest := by
  unfold rowsL
  rw [List.range_succ_eq_map]
  exact ⟨_, _, rfl⟩
section
variable {K : PySem.W.Frag} {q : Option Addr} {n : Nat} {δ δ' : List Sl} {te te2 ta tb : TE} {tt : TT} {c c1 c2 : Nat} {d d2 : PyData} {A0 B0 Hk H1 : Hp} {σ : L2.St} {D : Ends} {tz : TS} {p : Addr} {ds : List PyData} {Ψ : List Int → Prop}
/-- as evalC, where a list of integers comes out of a list of lists -/
theorem evalCL {i : Nat} {Q : VK} (h : J q (δ.set i (.dat (.list ds))) te c (fun d => ∃ ns : List Int, Ψ ns ∧ d = .list (ns.map .int))) (s : At q (n + c) δ A0 B0 σ Hk H1) (cl : Cell q B0 Hk H1 p ds) (hi : δ[i]? = some (.adr p)) (hh : ∃ es rest, ds = PyData.list es :: rest)
    (k : ∀ ns v Hk' H2, Ψ ns → Dq Hk' v (.list (ns.map .int)) → Gr q Hk H1 Hk' H2 → At q n δ A0 B0 σ Hk' H2 → Cell q B0 Hk' H2 p ds → Q v H2) : te σ H1 Q := by
  obtain ⟨xs, ex, hd⟩ := cl.ex
  have hn := cl.nk
  have sm : Same Hk (upd Hk p (.lst xs)) := same_upd hn
  have smA : Same (upd Hk p (.lst xs)) H1 := fun b u z => by
    by_cases hb : b = p
    · subst hb; rw [upd_same] at z; rw [← z]; exact ex
    · rw [upd_ne hb] at z; exact s.ok.a b u z
  have ok1 : Ok q (n + c) (upd Hk p (.lst xs)) H1 := ⟨smA, fun r er => by rw [upd_ne (fun z => cl.nq (by rw [← z]; exact er))]; exact s.ok.kf r er, s.ok.j⟩
  have sg1 : Sg (upd Hk p (.lst xs)) σ (δ.set i (.dat (.list ds))) := by
    have sg := s.sg.mono sm
    refine ⟨by rw [List.length_set]; exact sg.1, fun j t ej ne => ?_⟩
    by_cases hj : i = j
    · subst hj
      have hl : i < δ.length := (List.getElem?_eq_some_iff.mp hi).1
      rw [List.getElem?_set_self hl] at ej
      cases ej
      exact ⟨.ref p, sg.getA hi, .lst upd_same (DqAll.mono sm _ _ hd)⟩
    · rw [List.getElem?_set_ne hj] at ej
      exact sg.2 j t ej ne
  refine h σ _ H1 n sg1 ok1 _ fun d v Hk2 H2 g o ⟨ns, pn, ed⟩ dv => ?_
  subst ed
  have e2 : Hk2 p = some (.lst xs) := g.k _ _ upd_same
  have eH2 : H2 p = some (.lst xs) := g.a _ _ e2
  obtain ⟨Hr, eHr⟩ : ∃ Hr : Hp, Hr = fun b => if b = p then none else Hk2 b := ⟨_, rfl⟩
  have rp : Hr p = none := by rw [eHr]; exact if_pos rfl
  have rn : ∀ b, b ≠ p → Hr b = Hk2 b := fun b hb => by rw [eHr]; exact if_neg hb
  have s1 : Same Hk Hr := fun b u z => by
    have hb : b ≠ p := ne_of_none z hn
    rw [rn b hb]; exact g.k b u (by rw [upd_ne hb]; exact z)
  have s2 : Same Hr H2 := fun b u z => by
    by_cases hb : b = p
    · rw [hb, rp] at z; cases z
    · rw [rn b hb] at z; exact g.a b u z
  have gg : Gr q Hk H1 Hr H2 := ⟨s1, s2, g.s, fun b hb h1 => by
    by_cases hbp : b = p
    · rw [hbp]; exact rp
    · rw [rn b hbp]; exact g.f b (by rw [upd_ne hbp]; exact hb) h1, g.t⟩
  have dr : Dq Hr v (.list (ns.map .int)) := by
    obtain ⟨a, ys, rfl, h1, h2⟩ := dv.lstOf
    have h3 := DqAll.ints h2
    subst h3
    refine .lst (a := a) (xs := ns.map V.int) ?_ (DqAll.ofInts ns)
    rw [rn a (fun hb => ?_)]
    · exact h1
    · rw [hb, e2] at h1
      cases h1
      obtain ⟨es, rest, eds⟩ := hh
      subst eds
      cases ns with
      | nil => cases hd
      | cons y ns =>
        cases hd with
        | cons h5 h6 => cases h5
  refine k ns v Hr H2 pn dr gg ⟨⟨s2, fun r er => ?_, o.j⟩, s.sg.mono s1, s.gr.trans gg⟩ ⟨rp, cl.nq, cl.nb, xs, eH2, DqAll.mono s1 _ _ hd⟩
  rw [rn r (fun hb => cl.nq (by rw [← hb]; exact er))]; exact o.kf r er
theorem s_appendCL {i : Nat} (h : J q (δ.set i (.dat (.list ds))) te c (fun d => ∃ ns : List Int, Ψ ns ∧ d = .list (ns.map .int))) (s : At q (n + c) δ A0 B0 σ Hk H1) (cl : Cell q B0 Hk H1 p ds) (hi : δ[i]? = some (.adr p)) (hl : ds.length < 1000000) (hh : ∃ es rest, ds = PyData.list es :: rest)
    (k : ∀ ns Hk' H2, Ψ ns → Same Hk Hk' → At q n δ A0 B0 σ Hk' H2 → Cell q B0 Hk' H2 p (ds ++ [.list (ns.map .int)]) → D.nx σ H2) : tDrop (tBM K "list" rAppend (tVar i) (tCons te tNil)) D σ H1 := by
  obtain ⟨xs, e, hd⟩ := cl.ex
  refine ⟨.ref p, s.sg.getA hi, .inl ⟨rfl, xs, .inl (.inl e)⟩, evalCL h s cl hi hh fun ns v Hk' H2 pn dv g a cl2 => ?_⟩
  obtain ⟨ys, e2, hd2⟩ := cl2.ex
  refine ⟨p, ys, v, rfl, rfl, e2, by rw [hd2.length, sizeLine_eq]; omega, k ns Hk' _ pn g.k ⟨a.ok.cell cl2.nk cl2.nq, a.sg, a.gr.put cl2.nb cl2.nk⟩ ⟨cl2.nk, cl2.nq, cl2.nb, ys ++ [v], upd_same, hd2.append (.cons dv .nil)⟩⟩
/-- x, y = (e, []) -/
theorem q_tupNewR {i j : Nat} (hij : i ≠ j) (h2 : E q δ te2 d2) (s : At q n δ A0 B0 σ Hk H1)
    (k : ∀ p σ' Hk' H2, Gr q Hk H1 Hk' H2 → At q n ((δ.set i (.dat d2)).set j (.adr p)) A0 B0 σ' Hk' H2 → Cell q B0 Hk' H2 p [] → tz D σ' H2) :
    tSeq (tAsg (tTup (tCons te2 (tCons (tLst tNil) tNil))) (gTup K 2 (gCons (gName i) (gCons (gName j) gNil)))) tz D σ H1 := by
  refine h2 σ Hk H1 n s.sg s.ok _ fun d' w Hk2 H3 g2 o2 e' dw => ?_
  subst e'
  refine ⟨Nat.zero_le _, fun p hp => ?_⟩
  have nb : ∀ {Hk3 H3 : Hp} (gg : Gr q Hk H1 Hk3 H3) {t : Addr}, H3 t = none → B0 t = none := fun {Hk3 H3} gg {t} ht => by
    cases e : B0 t with
    | none => rfl
    | some u => exact absurd ht ((s.gr.trans gg).t t (by rw [e]; exact fun z => by cases z))
  have hk : Hk2 p = none := o2.a.free hp
  have nq : q ≠ some p := fun e => (o2.j p e).ne hp
  have gc : Gr q Hk2 H3 Hk2 (upd H3 p (.lst [])) := Gr.cell o2.a hp
  have o1 : Ok q n Hk2 (upd H3 p (.lst [])) := o2.cell hk nq
  have c1 : Cell q B0 Hk2 (upd H3 p (.lst [])) p [] := ⟨hk, nq, nb g2 hp, [], upd_same, .nil⟩
  refine ⟨by show 2 ≤ sizeLine; rw [sizeLine_eq]; decide, fun t ob od ht => ?_⟩
  have gt : Gr q Hk2 (upd H3 p (.lst [])) Hk2 (upd (upd H3 p (.lst [])) t (.frz ob (.tup [w, .ref p]))) := Gr.cell o1.a ht
  have ht' : Hk2 t = none := o1.a.free ht
  have nqt : q ≠ some t := fun e => (o1.j t e).ne ht
  have gg : Gr q Hk H1 Hk2 (upd (upd H3 p (.lst [])) t (.frz ob (.tup [w, .ref p]))) := (g2.trans gc).trans gt
  refine ⟨t, [w, .ref p], rfl, .inl (.inr ⟨_, upd_same⟩), rfl, w, [.ref p], rfl, .ref p, [], rfl, rfl, ?_⟩
  exact k p _ Hk2 _ gg ⟨o1.cell ht' nqt, ((s.sg.mono g2.k).set i (s := .dat d') dw).set j (s := .adr p) rfl, s.gr.trans gg⟩ (c1.go gt)
/-- x = [e, ..] drawn, a list that changes -/
theorem q_newLsJ {i : Nat} {ta : TA} {Ψ : List PyData → Prop} (h : AJ q δ ta c (fun sls => ∃ ds : List PyData, sls = ds.map Sl.dat ∧ ds.length ≤ 1000000 ∧ Ψ ds)) (s : At q (n + c) δ A0 B0 σ Hk H1)
    (k : ∀ ds p Hk' H2, Ψ ds → Gr q Hk H1 Hk' H2 → At q n (δ.set i (.adr p)) A0 B0 (σ.set i (some (.ref p))) Hk' H2 → Cell q B0 Hk' H2 p ds → tz D (σ.set i (some (.ref p))) H2) : tSeq (tAsg (tLst ta) (gName i)) tz D σ H1 :=
  h σ Hk H1 n s.sg s.ok _ fun sls vs Hk2 H2 g o ⟨ds, e, hl, pp⟩ hv => by
    subst e
    refine ⟨Nat.le_trans (by rw [hv.dats.length]; exact hl) (by rw [sizeLine_eq]; decide), fun p hp => ?_⟩
    have hk : Hk2 p = none := o.a.free hp
    have hb : B0 p = none := by
      cases e : B0 p with
      | none => rfl
      | some u => exact absurd hp ((s.gr.trans g).t p (by rw [e]; exact fun z => by cases z))
    have nq : q ≠ some p := fun e => (o.j p e).ne hp
    have gc : Gr q Hk H1 Hk2 (upd H2 p (.lst vs)) := g.trans (Gr.cell o.a hp)
    exact k ds p Hk2 _ pp gc ⟨o.cell hk nq, (s.sg.mono g.k).set i (s := .adr p) rfl, s.gr.trans gc⟩ ⟨hk, nq, hb, vs, upd_same, hv.dats⟩
end
end Cr
namespace Cr
open PySem PySem.Spec PyProof.Rows L2
section
variable {K : PySem.W.Frag} {q : Option Addr} {n : Nat} {δ : List Sl} {tt : TT} {c : Nat} {A0 B0 Hk H1 : Hp} {σ : L2.St} {D : Ends} {tz : TS} {p : Addr} {ds : List PyData}
/-- if c: xs[j] = v -/
theorem q_ifSet {i j : Nat} {jj v : Int} {P0 : Bool → Prop} (h : TJ q δ tt c P0) (s : At q (n + c) δ A0 B0 σ Hk H1) (cl : Cell q B0 Hk H1 p ds) (hi : δ[i]? = some (.adr p)) (hj : j < ds.length) (ej : jj = (j : Int))
    (k : ∀ es Hk' H2, (es = ds ∨ es = ds.set j (.int v)) → Same Hk Hk' → At q n δ A0 B0 σ Hk' H2 → Cell q B0 Hk' H2 p es → tz D σ H2) : tSeq (tIfS tt (tAsg (tC (.int v)) (gSub (tVar i) (tC (.int jj)) rSetL)) tNext) tz D σ H1 :=
  q_when h s (fun _ Hk' H2 g a => s_setCE (D := { D with nx := tz D }) (c := 0) (Φ := fun d => d = .int v) e_int a (cl.go g) hi (fun d e => by rw [e]; rfl) e_int ej hj fun d Hk3 H3 ed s3 a3 cl3 => k _ Hk3 H3 (.inr (by rw [ed])) (g.k.trans s3) a3 cl3) fun _ Hk' H2 g a => k ds Hk' H2 (.inl rfl) g.k a (cl.go g)
end
theorem pows_map (b : Int) (n : Nat) : (List.range n).map (fun j => PyData.int (b ^ j)) = (psums [(b, 1)] n).map .int := by
  unfold psums
  rw [List.map_map]
  exact List.map_congr_left fun j _ => by show PyData.int (b ^ j) = .int (psum [(b, 1)] j); rw [psum_one, Int.one_mul]
theorem zmul_pows (f : List Int) (b : Int) : (List.range f.length).map (fun j => PyData.int (f.getD j 0 * b ^ j)) = (zmul f (psums [(b, 1)] f.length)).map .int := by
  unfold zmul
  rw [← zip_range (fun a b => a * b) (psums_len _ _), List.map_map]
  exact List.map_congr_left fun j hj => by
    show _ = PyData.int (f.getD j 0 * (psums [(b, 1)] f.length).getD j 0)
    rw [psums_getD (List.mem_range.mp hj), psum_one, Int.one_mul]
end Cr

set_option Elab.async false
set_option linter.all false
set_option maxRecDepth 100000
set_option maxHeartbeats 800000
namespace L2
open PySem PySem.Spec PyProof.Rows
/-- // by any divisor but 0 below 2 ^ 9000 -/
def CDivNW (_ j : Int) : Prop := j ≠ 0 ∧ j.natAbs.log2 < 9000
def rIsNQ : R2 := fun x y H Q => (y = .non ∧ Q (.bl (decide (x = .non))) H) ∨ ∃ b, y = .bl b ∧ Q (.bl (decide (x = .bl b))) H
def rNotNQ : R2 := fun x y H Q => (y = .non ∧ Q (.bl (!decide (x = .non))) H) ∨ ∃ b, y = .bl b ∧ Q (.bl (!decide (x = .bl b))) H
theorem rel_bl {v : Value} {x : V} {b : Bool} (h : RelV x v) : v = .bool b ↔ x = .bl b := by
  constructor
  · intro e
    subst e
    cases x <;> first
      | (cases h; rfl)
      | (obtain ⟨t, h⟩ := h; cases h)
      | exact absurd h (by intro z; cases z)
  · intro e
    subst e
    exact h
theorem rel_plain {v : Value} {x : V} {b : Bool} (h : RelV x v) : plainIs v (.bool b) = true := by
  cases x <;> first
    | (cases h; rfl)
    | (obtain ⟨t, rfl⟩ := h; rfl)
section
variable {X : Cx}
theorem op_fdivNW : OpR X (binaryOp .FloorDiv) (rI CDivNW fun i j => .int (i.fdiv j)) := opI fun i j _ _ _ _ _ hc q => floordiv_int hc.1 q (.inl (PyProof.noPylong_of_log2 hc.2))
theorem op_isBlA : OpR X (compareOp .Is) (fun x y H Q => ∃ b, y = .bl b ∧ Q (.bl (decide (x = .bl b))) H) := by
  intro pins s σ H x y v u Q I rx ry h
  obtain ⟨b, rfl, q⟩ := h
  cases (show u = Value.bool b from ry)
  by_cases e : x = .bl b
  · have e2 := (rel_bl rx).mpr e
    subst e2
    exact wpAny_is_self rfl ⟨.bl true, H, I, rfl, by simpa [e] using q⟩
  · exact wpAny_is_other (rel_plain rx) (fun z => e ((rel_bl rx).mp z)) ⟨.bl false, H, I, rfl, by simpa [e] using q⟩
theorem op_notBlA : OpR X (compareOp .IsNot) (fun x y H Q => ∃ b, y = .bl b ∧ Q (.bl (!decide (x = .bl b))) H) := by
  intro pins s σ H x y v u Q I rx ry h
  obtain ⟨b, rfl, q⟩ := h
  cases (show u = Value.bool b from ry)
  by_cases e : x = .bl b
  · have e2 := (rel_bl rx).mpr e
    subst e2
    exact wpAny_isNot_self rfl ⟨.bl false, H, I, rfl, by simpa [e] using q⟩
  · exact wpAny_isNot_other (rel_plain rx) (fun z => e ((rel_bl rx).mp z)) ⟨.bl true, H, I, rfl, by simpa [e] using q⟩
theorem op_isNQ : OpR X (compareOp .Is) rIsNQ := OpR.or op_isN op_isBlA
theorem op_notNQ : OpR X (compareOp .IsNot) rNotNQ := OpR.or op_notN op_notBlA
end
theorem divNW {i j : Int} {b : Nat} (h : j ≠ 0) (hb : j.natAbs < 2 ^ b) (h0 : 0 < b) (h9 : b ≤ 9000) : CDivNW i j := ⟨h, Nat.lt_of_lt_of_le (PySem.Flt.log2_lt_of h0 hb) h9⟩
end L2
namespace Cr
open PySem PySem.Spec PyProof.Rows L2
def isNonD : PyData → Bool
  | .none => true
  | _ => false
theorem dq_non {H : Hp} {v : V} {d : PyData} (h : Dq H v d) : decide (v = .non) = isNonD d := by
  cases h <;> rfl
def isBlD (b : Bool) : PyData → Bool
  | .bool c => decide (c = b)
  | _ => false
theorem dq_blD {H : Hp} {v : V} {d : PyData} {b : Bool} (h : Dq H v d) : decide (v = .bl b) = isBlD b d := by
  cases h with
  | bl c => show decide (V.bl c = .bl b) = decide (c = b); simp
  | _ => rfl
section
variable {K : PySem.W.Frag} {q : Option Addr} {n : Nat} {δ δ' : List Sl} {te te2 ta tb : TE} {tt : TT} {c c1 c2 : Nat} {Φ : PyData → Prop} {d d2 : PyData} {A0 B0 Hk H1 : Hp} {σ : L2.St} {D : Ends} {tz : TS} {p : Addr} {ds es : List PyData} {g : TG} {wi : TI}
theorem e_fdivN {i j : Int} (ha : E q δ ta (.int i)) (hb : E q δ tb (.int j)) (hc : CDivNW i j) : E q δ (tOp (rI CDivNW fun i j => .int (i.fdiv j)) ta tb) (.int (i.fdiv j)) := e_I ha hb hc
theorem e_isN (h : E q δ ta d) : E q δ (tOp rIsNQ ta (tC .non)) (.bool (isNonD d)) := e_op (d2 := .none) h (fun σ H H1 n sg o Q k => k .none .non H H1 (Gr.refl o.a) o rfl .non) fun x y H H1 hx hy e Q k =>
  Or.inl ⟨hy.nonOf, by rw [dq_non hx]; exact k (.bool (isNonD d)) _ H H1 (Gr.refl e) rfl (.bl _)⟩
theorem e_notN (h : E q δ ta d) : E q δ (tOp rNotNQ ta (tC .non)) (.bool (!isNonD d)) := e_op (d2 := .none) h (fun σ H H1 n sg o Q k => k .none .non H H1 (Gr.refl o.a) o rfl .non) fun x y H H1 hx hy e Q k =>
  Or.inl ⟨hy.nonOf, by rw [dq_non hx]; exact k (.bool (!isNonD d)) _ H H1 (Gr.refl e) rfl (.bl _)⟩
theorem e_isB {b : Bool} (h : E q δ ta d) : E q δ (tOp rIsNQ ta (tC (.bl b))) (.bool (isBlD b d)) := e_op (d2 := .bool b) h e_bl fun x y H H1 hx hy e Q k =>
  Or.inr ⟨b, hy.blOf, by rw [dq_blD hx]; exact k (.bool (isBlD b d)) _ H H1 (Gr.refl e) rfl (.bl _)⟩
theorem e_notB {b : Bool} (h : E q δ ta d) : E q δ (tOp rNotNQ ta (tC (.bl b))) (.bool (!isBlD b d)) := e_op (d2 := .bool b) h e_bl fun x y H H1 hx hy e Q k =>
  Or.inr ⟨b, hy.blOf, by rw [dq_blD hx]; exact k (.bool (!isBlD b d)) _ H H1 (Gr.refl e) rfl (.bl _)⟩
/-- y = e, e reads a list that still changes -/
theorem q_asgC {i j : Nat} (h : J q (δ.set i (.dat (.list ds))) te c Φ) (s : At q (n + c) δ A0 B0 σ Hk H1) (cl : Cell q B0 Hk H1 p ds) (hi : δ[i]? = some (.adr p)) (pl : ∀ d, Φ d → plain d = true)
    (k : ∀ d σ' Hk' H2, Φ d → Same Hk Hk' → At q n (δ.set j (.dat d)) A0 B0 σ' Hk' H2 → Cell q B0 Hk' H2 p ds → tz D σ' H2) : tSeq (tAsg te (gName j)) tz D σ H1 :=
  evalC h s cl hi pl fun d v Hk' H2 pd dv g a cl2 => k d _ Hk' H2 pd g.k ⟨a.ok, a.sg.set j (s := .dat d) dv, a.gr⟩ cl2
/-- a new list, not yet known -/
def JN (q : Option Addr) (δ : List Sl) (te : TE) (es : List PyData) : Prop := ∀ (σ : L2.St) (H H1 : Hp) (n : Nat), Sg H σ δ → Ok q n H H1 → ∀ Q : VK, (∀ D xs Hk H2, Gr q H H1 Hk H2 → Ok q n Hk H2 → H1 D = none → Hk D = none → H2 D = some (.lst xs) → DqAll Hk xs es → Q (.ref D) H2) → te σ H1 Q
theorem e_lcN {α : Type} {emb : α → PyData} {vs : List Nat} {xs : List α} (hw : IE q δ wi (xs.map emb)) (f : α → PyData) (hz : xs.length ≤ 1000000)
    (he : ∀ x ∈ xs, ∃ δ', GB (wipeD δ vs) g (emb x) δ' vs ∧ E q δ' te (f x)) : JN q δ (tLc wi g tYes te vs) (xs.map f) := fun σ H H1 n sg o Q k =>
  hw σ H H1 n sg o _ fun items Jt HkW H2 g0 o0 ei wk D hD => by
    have hlen : items.length = xs.length := by rw [ei, List.length_map]
    have hDk : HkW D = none := g0.a.free hD
    have hDq : q ≠ some D := fun e => (o0.j D e).ne hD
    have hD1 : H1 D = none := by
      cases e : H1 D with
      | none => rfl
      | some u => exact absurd hD (g0.t D (by rw [e]; exact fun z => by cases z))
    have g1 : Gr q HkW H2 HkW (upd H2 D (.lst [])) := Gr.cell g0.a hD
    refine ⟨fun i m H' => m = items.length - i ∧ i ≤ items.length ∧ ∃ Hk' vs, Gr q HkW H2 Hk' H' ∧ Ok q n Hk' H' ∧ Hk' D = none ∧ H' D = some (.lst vs) ∧ DqAll Hk' vs ((xs.take i).map f),
      ⟨items.length, by simp, Nat.zero_le _, HkW, [], g1, o0.cell hDk hDq, hDk, upd_same, .nil⟩, ?_⟩
    rintro i m H' ⟨rfl, hi, Hk', ys, gr, ok, hDn, hl, hd⟩
    by_cases hlt : i < items.length
    · obtain ⟨go, yl⟩ := (wk i Hk' H' gr.k ok.a).1 hlt
      refine .inr ⟨go, fun H'' => ∃ Hk3 ys', Gr q HkW H2 Hk3 H'' ∧ Ok q n Hk3 H'' ∧ Hk3 D = none ∧ H'' D = some (.lst ys') ∧ DqAll Hk3 ys' ((xs.take (i + 1)).map f), fun H'' p => ⟨items.length - (i + 1), by omega, rfl, hlt, p⟩, fun v H'' y => ?_⟩
      obtain ⟨Hk2, g2, d, ed, dx⟩ := yl v H'' y
      obtain ⟨x, ex, rfl⟩ : ∃ x, xs[i]? = some x ∧ emb x = d := by
        rw [ei, List.getElem?_map] at ed
        exact Option.map_eq_some_iff.mp ed
      obtain ⟨δ', hgb, hte⟩ := he x (List.mem_of_getElem? ex)
      have ok2 := ok.go g2
      have sgw : Sg Hk2 (wipe σ vs) (wipeD δ vs) := ((sg.mono g0.k).mono (gr.k.trans g2.k)).wipe vs
      have hD2 : Hk2 D = none := g2.f D hDn (by rw [hl]; exact fun z => by cases z)
      have hl2 : H'' D = some (.lst ys) := g2.s D _ (fun z => by cases z) hl
      have hd2 := DqAll.mono g2.k _ _ hd
      have gr2 := gr.trans g2.none_to
      have hx : xs.take (i + 1) = xs.take i ++ [x] := by
        rw [List.take_add_one, ex]; rfl
      refine hgb (wipe σ vs) Hk2 H'' v sgw g2.a dx _ fun σ' sg' hl' hk' => ⟨wipe_eq (by rw [hl', wipe_length]) hk', ?_⟩
      unfold tYes
      refine iteT (hte σ' Hk2 H'' n sg' ok2 _ fun y w Hk4 H4 g4 o4 ey dw => ?_)
      subst ey
      have hD4 : Hk4 D = none := g4.f D hD2 (by rw [hl2]; exact fun z => by cases z)
      have hl4 : H4 D = some (.lst ys) := g4.s D _ hDq hl2
      have hd4 := DqAll.mono g4.k _ _ hd2
      refine ⟨ys, hl4, ?_, Hk4, ys ++ [w], (gr2.trans g4).put hD hD4, o4.cell hD4 hDq, hD4, upd_same, ?_⟩
      · rw [hd4.length, List.length_map, List.length_take, sizeLine_eq]; omega
      · rw [hx, List.map_append]
        exact hd4.append (.cons dw .nil)
    · have e : i = items.length := by omega
      subst e
      refine .inl ⟨(wk _ Hk' H' gr.k ok.a).2 (Nat.le_refl _), ?_⟩
      rw [hlen, List.take_length] at hd
      exact k D ys Hk' H' (g0.trans gr) ok hD1 hDn hl hd
theorem e_lcRN {j : Int} {m : Nat} {i : Nat} {tn : TE} (hn : E q δ tn (.int j)) (hj : j = (m : Int)) (hm : m ≤ 100000) (f : Nat → PyData)
    (he : ∀ k, k < m → E q ((wipeD δ [i]).set i (.dat (.int (0 + (k : Int))))) te (f k)) : JN q δ (tLc (iRng1 (tCons tn tNil)) (gName i) tYes te [i]) ((List.range m).map f) := by
  subst hj
  exact e_lcN (vs := [i]) (emb := fun k : Nat => PyData.int (0 + (k : Int))) (xs := List.range m) ((ie_rng1 hn (by omega) (by omega)).is rfl) f (by rw [List.length_range]; omega) fun k hk => ⟨_, gb_name (by simp), he k (List.mem_range.mp hk)⟩
/-- y = [.. for ..], a list that changes -/
theorem q_newLc {i : Nat} (h : JN q δ te es) (s : At q n δ A0 B0 σ Hk H1)
    (k : ∀ p Hk' H2, Gr q Hk H1 Hk' H2 → At q n (δ.set i (.adr p)) A0 B0 (σ.set i (some (.ref p))) Hk' H2 → Cell q B0 Hk' H2 p es → tz D (σ.set i (some (.ref p))) H2) : tSeq (tAsg te (gName i)) tz D σ H1 :=
  h σ Hk H1 n s.sg s.ok _ fun p xs Hk2 H2 g o h1 h2 h3 hd => by
    have hb : B0 p = none := by
      cases e : B0 p with
      | none => rfl
      | some u => exact absurd h1 (s.gr.t p (by rw [e]; exact fun z => by cases z))
    have nq : q ≠ some p := fun e => by
      have z := s.ok.j p e
      exact z.ne h1
    exact k p Hk2 H2 g ⟨o, (s.sg.mono g.k).set i (s := .adr p) rfl, s.gr.trans g⟩ ⟨h2, nq, hb, xs, h3, hd⟩
/-- y = [.. for ..], which reads a list that still changes -/
theorem q_asgCL {i j : Nat} (h : JN q (δ.set i (.dat (.list ds))) te es) (s : At q n δ A0 B0 σ Hk H1) (cl : Cell q B0 Hk H1 p ds) (hi : δ[i]? = some (.adr p)) (pl : plainAll es = true)
    (k : ∀ σ' Hk' H2, Same Hk Hk' → At q n (δ.set j (.dat (.list es))) A0 B0 σ' Hk' H2 → Cell q B0 Hk' H2 p ds → tz D σ' H2) : tSeq (tAsg te (gName j)) tz D σ H1 := by
  obtain ⟨xs, ex, hd⟩ := cl.ex
  have hn := cl.nk
  have sm : Same Hk (upd Hk p (.lst xs)) := same_upd hn
  have smA : Same (upd Hk p (.lst xs)) H1 := fun b u z => by
    by_cases hb : b = p
    · subst hb; rw [upd_same] at z; rw [← z]; exact ex
    · rw [upd_ne hb] at z; exact s.ok.a b u z
  have ok1 : Ok q n (upd Hk p (.lst xs)) H1 := ⟨smA, fun r er => by rw [upd_ne (fun z => cl.nq (by rw [← z]; exact er))]; exact s.ok.kf r er, s.ok.j⟩
  have sg1 : Sg (upd Hk p (.lst xs)) σ (δ.set i (.dat (.list ds))) := by
    have sg := s.sg.mono sm
    refine ⟨by rw [List.length_set]; exact sg.1, fun j t ej ne => ?_⟩
    by_cases hj : i = j
    · subst hj
      have hl : i < δ.length := (List.getElem?_eq_some_iff.mp hi).1
      rw [List.getElem?_set_self hl] at ej
      cases ej
      exact ⟨.ref p, sg.getA hi, .lst upd_same (DqAll.mono sm _ _ hd)⟩
    · rw [List.getElem?_set_ne hj] at ej
      exact sg.2 j t ej ne
  refine h σ _ H1 n sg1 ok1 _ fun E ys Hk2 H2 g o hE1 hE2 hE3 he => ?_
  have hEp : E ≠ p := fun e => by rw [e, ex] at hE1; cases hE1
  have e2 : Hk2 p = some (.lst xs) := g.k _ _ upd_same
  have eH2 : H2 p = some (.lst xs) := g.a _ _ e2
  obtain ⟨Hr, eHr⟩ : ∃ Hr : Hp, Hr = fun b => if b = p then none else Hk2 b := ⟨_, rfl⟩
  have rp : Hr p = none := by rw [eHr]; exact if_pos rfl
  have rn : ∀ b, b ≠ p → Hr b = Hk2 b := fun b hb => by rw [eHr]; exact if_neg hb
  have s1 : Same Hk Hr := fun b u z => by
    have hb : b ≠ p := ne_of_none z hn
    rw [rn b hb]; exact g.k b u (by rw [upd_ne hb]; exact z)
  have s2 : Same Hr H2 := fun b u z => by
    by_cases hb : b = p
    · rw [hb, rp] at z; cases z
    · rw [rn b hb] at z; exact g.a b u z
  have gg : Gr q Hk H1 Hr H2 := ⟨s1, s2, g.s, fun b hb h1 => by
    by_cases hbp : b = p
    · rw [hbp]; exact rp
    · rw [rn b hbp]; exact g.f b (by rw [upd_ne hbp]; exact hb) h1, g.t⟩
  have hrE : Hr E = none := by rw [rn E hEp]; exact hE2
  have kp : DqAll Hr ys es := DqAll.keep (fun b zs iz z => by rw [rn b (fun hb => by rw [hb, e2] at z; cases z; exact iz.elim)]; exact z) es ys pl he
  have bE : B0 E = none := by
    cases e : B0 E with
    | none => rfl
    | some u => exact absurd hE1 (s.gr.t E (by rw [e]; exact fun z => by cases z))
  have nqE : q ≠ some E := fun e => (s.ok.j E e).ne hE1
  have gf := gg.freeze (o := .lst ys) hE1 hrE hE3
  have smE : Same Hr (upd Hr E (.lst ys)) := same_upd hrE
  refine k _ (upd Hr E (.lst ys)) H2 (s1.trans smE) ⟨⟨gf.a, fun r er => ?_, o.j⟩, ((s.sg.mono s1).mono smE).set j (s := .dat (.list es)) (.lst upd_same (DqAll.mono smE _ _ kp)), s.gr.trans gf⟩ ⟨?_, cl.nq, cl.nb, xs, eH2, DqAll.mono (s1.trans smE) _ _ hd⟩
  · rw [upd_ne (fun z => nqE (by rw [← z]; exact er)), rn r (fun hb => cl.nq (by rw [← hb]; exact er))]; exact o.kf r er
  · rw [upd_ne (Ne.symm hEp)]; exact rp
end
end Cr

set_option Elab.async false
set_option linter.all false
set_option maxRecDepth 100000
set_option maxHeartbeats 800000
namespace Cr
open PySem PySem.Spec PyProof.Rows L2
theorem sm_bits {F : Nat → Int} {b N : Nat} {n : Nat} (h : ∀ i, i < n → (F i).natAbs < 2 ^ b) (hn : n ≤ 2 ^ N) : (sm n F).natAbs < 2 ^ (b + N + 1) := by
  have z : ∀ m, m ≤ n → (sm m F).natAbs ≤ 2 ^ b * m := by
    intro m
    induction m with
    | zero => intro _; simp [sm]
    | succ m ih =>
      intro hm
      show (sm m F + F m).natAbs ≤ _
      have h1 := ih (by omega)
      have h2 := h m (by omega)
      have h3 := Int.natAbs_add_le (sm m F) (F m)
      rw [Nat.mul_add, Nat.mul_one]
      omega
  have z1 := z n (Nat.le_refl _)
  have z2 : 2 ^ b * n ≤ 2 ^ b * 2 ^ N := Nat.mul_le_mul_left _ hn
  rw [← Nat.pow_add] at z2
  have z3 : 2 ^ (b + N) < 2 ^ (b + N + 1) := Nat.pow_lt_pow_right (by decide) (by omega)
  omega
theorem getD_lt {f : List Int} {i : Nat} (h : i < f.length) : f[i]? = some (f.getD i 0) := by
  rw [List.getElem?_eq_getElem h]; simp [List.getD_eq_getElem?_getD, h]
theorem getD_app {r : List Int} {x : Int} {i : Nat} (h : i < r.length) : (r ++ [x]).getD i 0 = r.getD i 0 := by
  rw [List.getD_eq_getElem?_getD, List.getD_eq_getElem?_getD, List.getElem?_append_left h]
theorem getD_end {r : List Int} {x : Int} : (r ++ [x]).getD r.length 0 = x := by
  rw [List.getD_eq_getElem?_getD, List.getElem?_append_right (Nat.le_refl _), Nat.sub_self]; rfl
def qrest (f g r : List Int) (j : Nat) : Int := f.getD j 0 - sm j (fun i => (chs j i : Int) * r.getD i 0 * g.getD (j - i) 0)
def quo (f g : List Int) : Nat → Option (List Int)
  | 0 => some []
  | j + 1 => (quo f g j).bind fun r => if (qrest f g r j).fmod (g.getD 0 0) = 0 then some (r ++ [(qrest f g r j).fdiv (g.getD 0 0)]) else none
def quot (f g : List Int) : Option (List Int) := if g.getD 0 0 = 0 then none else quo f g f.length
def oPol : Option (List Int) → PyData
  | none => .none
  | some f => pol f
theorem quo_none {f g : List Int} {j : Nat} (h : quo f g j = none) : ∀ k : Nat, quo f g (j + k) = none
  | 0 => h
  | k + 1 => by
    show (quo f g (j + k)).bind _ = none
    rw [quo_none h k]; rfl
theorem quo_none_le {f g : List Int} {j n : Nat} (h : quo f g j = none) (hn : j ≤ n) : quo f g n = none := by
  have z := quo_none h (n - j)
  rwa [Nat.add_sub_cancel' hn] at z
theorem quo_some {f g : List Int} {j : Nat} {r : List Int} (h : quo f g (j + 1) = some r) : ∃ r0, quo f g j = some r0 ∧ (qrest f g r0 j).fmod (g.getD 0 0) = 0 ∧ r = r0 ++ [(qrest f g r0 j).fdiv (g.getD 0 0)] := by
  have h' : (quo f g j).bind _ = some r := h
  obtain ⟨r0, h1, h2⟩ := Option.bind_eq_some_iff.mp h'
  split at h2
  · rename_i hz
    exact ⟨r0, h1, hz, (Option.some.inj h2).symm⟩
  · cases h2
theorem quo_len {f g : List Int} : ∀ {j : Nat} {r : List Int}, quo f g j = some r → r.length = j
  | 0, r, h => by cases h; rfl
  | j + 1, r, h => by
    obtain ⟨r0, h1, _, rfl⟩ := quo_some h
    rw [List.length_append, quo_len h1]; rfl
theorem fdiv_back {a b : Int} (h : a.fmod b = 0) : a.fdiv b * b = a := by
  have := Int.mul_fdiv_add_fmod a b
  rw [h, Int.add_zero, Int.mul_comm] at this
  exact this
theorem qrest_bits {f g r : List Int} {B C j : Nat} (hf : CB B f) (hg : CB B g) (hr : CB C r) (hB : B ≤ C) (hj : j ≤ 40) : (qrest f g r j).natAbs < 2 ^ (C + B + 60) := by
  unfold qrest
  have h1 := hf.getD j
  have h2 := sm_bits (F := fun i => (chs j i : Int) * r.getD i 0 * g.getD (j - i) 0) (b := 41 + C + B) (N := 6) (n := j) (fun i hi => by
    have z := mul_bits (mul_bits (chs_bits j i) (hr.getD i)) (hg.getD (j - i))
    exact Nat.lt_of_lt_of_le z (Nat.pow_le_pow_right (by decide) (by omega))) (by omega)
  generalize sm j _ = s at h2
  generalize f.getD j 0 = a at h1
  have h3 : (a - s).natAbs ≤ a.natAbs + s.natAbs := by omega
  have h4 : (2 : Nat) ^ B ≤ 2 ^ (41 + C + B + 6 + 1) := Nat.pow_le_pow_right (by decide) (by omega)
  have h5 : (2 : Nat) ^ (41 + C + B + 6 + 1) + 2 ^ (41 + C + B + 6 + 1) = 2 ^ (41 + C + B + 6 + 1 + 1) := (by have z : (2 : Nat) ^ (41 + C + B + 6 + 1 + 1) = 2 ^ (41 + C + B + 6 + 1) * 2 := Nat.pow_succ _ _; omega)
  have h6 : (2 : Nat) ^ (41 + C + B + 6 + 1 + 1) ≤ 2 ^ (C + B + 60) := Nat.pow_le_pow_right (by decide) (by omega)
  omega
theorem quo_CB {f g : List Int} {B : Nat} (hf : CB B f) (hg : CB B g) (h0 : g.getD 0 0 ≠ 0) : ∀ {j : Nat} {r : List Int}, j ≤ 40 → quo f g j = some r → CB (B + j * (B + 60)) r
  | 0, r, _, h => by cases h; intro a ha; cases ha
  | j + 1, r, hj, h => by
    obtain ⟨r0, h1, hz, rfl⟩ := quo_some h
    have ih := quo_CB hf hg h0 (j := j) (by omega) h1
    have hm : (j + 1) * (B + 60) = j * (B + 60) + (B + 60) := by rw [Nat.add_mul, Nat.one_mul]
    intro a ha
    rcases List.mem_append.mp ha with ha | ha
    · exact lt_pow (ih a ha) (by omega)
    · have hq := qrest_bits hf hg ih (by omega) (j := j) (by omega)
      rw [List.mem_singleton.mp ha]
      have hb := fdiv_back hz
      have hle : ((qrest f g r0 j).fdiv (g.getD 0 0)).natAbs ≤ (qrest f g r0 j).natAbs := by
        have e : ((qrest f g r0 j).fdiv (g.getD 0 0)).natAbs * (g.getD 0 0).natAbs = (qrest f g r0 j).natAbs := by rw [← Int.natAbs_mul, hb]
        have hg1 : 1 ≤ (g.getD 0 0).natAbs := by omega
        have := Nat.mul_le_mul_left ((qrest f g r0 j).fdiv (g.getD 0 0)).natAbs hg1
        omega
      refine lt_pow (Nat.lt_of_le_of_lt hle hq) (by omega)
theorem quot_len {f g r : List Int} (h : quot f g = some r) : r.length = f.length := by
  unfold quot at h
  split at h
  · cases h
  · exact quo_len h
/-- what the quotient is: times the second ones it gives the first ones -/
theorem quo_back {f g : List Int} : ∀ {j : Nat} {r : List Int}, quo f g j = some r → ∀ i, i < j → cpr r g i = f.getD i 0
  | 0, _, _, i, hi => by omega
  | j + 1, r, h, i, hi => by
    obtain ⟨r0, h1, hz, rfl⟩ := quo_some h
    have hl := quo_len h1
    by_cases e : i = j
    · subst e
      generalize eX : (qrest f g r0 i).fdiv (g.getD 0 0) = X at *
      show sm i (fun k => (chs i k : Int) * ((r0 ++ [X]).getD k 0 * g.getD (i - k) 0)) + (chs i i : Int) * ((r0 ++ [X]).getD i 0 * g.getD (i - i) 0) = _
      have e1 : (r0 ++ [X]).getD i 0 = X := by
        have z := getD_end (r := r0) (x := X)
        rwa [hl] at z
      have e2 : sm i (fun k => (chs i k : Int) * ((r0 ++ [X]).getD k 0 * g.getD (i - k) 0)) = sm i (fun k => (chs i k : Int) * r0.getD k 0 * g.getD (i - k) 0) := sm_congr fun k hk => by
        rw [getD_app (by omega), Int.mul_assoc]
      rw [e1, e2, chs_self, Nat.sub_self, ← eX, fdiv_back hz]
      show _ + (1 : Int) * _ = _
      rw [Int.one_mul]
      unfold qrest
      omega
    · have ih := quo_back h1 i (by omega)
      rw [← ih]
      generalize (qrest f g r0 j).fdiv (g.getD 0 0) = X
      show sm (i + 1) (fun k => (chs i k : Int) * ((r0 ++ [X]).getD k 0 * g.getD (i - k) 0)) = sm (i + 1) (fun k => (chs i k : Int) * (r0.getD k 0 * g.getD (i - k) 0))
      exact sm_congr fun k hk => by rw [getD_app (by omega)]
theorem quot_back {f g r : List Int} (h : quot f g = some r) : cprod r g = f := by
  have hl := quot_len h
  unfold quot at h
  split at h
  · cases h
  · refine List.ext_getElem? fun i => ?_
    unfold cprod
    rw [List.getElem?_map]
    by_cases hi : i < f.length
    · rw [List.getElem?_range (by omega), getD_lt hi, ← quo_back h i hi]; rfl
    · rw [List.getElem?_eq_none (l := List.range r.length) (by rw [List.length_range]; omega), List.getElem?_eq_none (l := f) (by omega)]; rfl
theorem cprod_getD {f g : List Int} {i : Nat} (h : i < f.length) : (cprod f g).getD i 0 = cpr f g i := by
  unfold cprod
  rw [List.getD_eq_getElem?_getD, List.getElem?_map, List.getElem?_range h]; rfl
theorem quo_cprod {f g : List Int} (h0 : g.getD 0 0 ≠ 0) : ∀ j : Nat, j ≤ f.length → quo (cprod f g) g j = some (f.take j)
  | 0, _ => rfl
  | j + 1, h => by
    show (quo (cprod f g) g j).bind _ = _
    rw [quo_cprod h0 j (by omega)]
    have e : qrest (cprod f g) g (f.take j) j = f.getD j 0 * g.getD 0 0 := by
      unfold qrest
      rw [cprod_getD (by omega)]
      show sm j (fun i => (chs j i : Int) * (f.getD i 0 * g.getD (j - i) 0)) + (chs j j : Int) * (f.getD j 0 * g.getD (j - j) 0) - _ = _
      have e2 : sm j (fun i => (chs j i : Int) * (f.take j).getD i 0 * g.getD (j - i) 0) = sm j (fun i => (chs j i : Int) * (f.getD i 0 * g.getD (j - i) 0)) := sm_congr fun i hi => by
        rw [List.getD_eq_getElem?_getD, List.getElem?_take_of_lt hi, ← List.getD_eq_getElem?_getD, Int.mul_assoc]
      rw [e2, chs_self, Nat.sub_self]
      show _ + (1 : Int) * _ - _ = _
      rw [Int.one_mul]; omega
    show (if (qrest (cprod f g) g (f.take j) j).fmod (g.getD 0 0) = 0 then some (f.take j ++ [(qrest (cprod f g) g (f.take j) j).fdiv (g.getD 0 0)]) else none) = some (f.take (j + 1))
    rw [e, if_pos (Int.mul_fmod_left _ _), Int.mul_fdiv_cancel _ h0, List.take_add_one, getD_lt (by omega)]; rfl
theorem quot_cprod {f g : List Int} (h0 : g.getD 0 0 ≠ 0) : quot (cprod f g) g = some f := by
  unfold quot
  rw [if_neg h0, cprod_len, quo_cprod h0 _ (Nat.le_refl _), List.take_length]
theorem cprod_CB {f g : List Int} {B C : Nat} (hf : CB B f) (hg : CB C g) (hl : f.length ≤ 40) : CB (B + C + 60) (cprod f g) := fun a ha => by
  unfold cprod at ha
  obtain ⟨j, hj, rfl⟩ := List.mem_map.mp ha
  have hj' := List.mem_range.mp hj
  have z := sm_bits (F := fun i => (chs j i : Int) * (f.getD i 0 * g.getD (j - i) 0)) (b := 41 + (B + C)) (N := 6) (n := j + 1) (fun i hi => lt_pow (mul_bits (chs_bits j i) (mul_bits (hf.getD i) (hg.getD (j - i)))) (by omega)) (by omega)
  exact lt_pow z (by omega)
theorem abs_fmod {a b : Int} (hb : b ≠ 0) : ((if a < 0 then -a else a).fmod (if b < 0 then -b else b) = 0) ↔ a.fmod b = 0 := by
  rw [← Int.dvd_iff_fmod_eq_zero, ← Int.dvd_iff_fmod_eq_zero]
  split <;> split <;> simp [Int.dvd_neg, Int.neg_dvd]
theorem okS_oPol {o : Option (List Int)} (h : ∀ f, o = some f → f.length ≤ 100000) : okS 5 (oPol o) = true := by
  cases o with
  | none => rfl
  | some f => exact okS_pol 3 (h f rfl)
end Cr

set_option Elab.async false
set_option linter.all false
set_option maxRecDepth 100000
set_option maxHeartbeats 800000
namespace Cr
open PySem PySem.Spec PyProof.Rows L2
section
variable {K : PySem.W.Frag} {q : Option Addr} {n : Nat} {δ δ' : List Sl} {te te2 ta tb : TE} {tl th : TO} {tt : TT} {c c1 c2 : Nat} {Φ : PyData → Prop} {d d2 : PyData} {lo hi : Option Int} {P1 P2 P : List Int → Prop}
theorem j_slT {Ψ : List PyData → Prop} (h : J q δ te c (fun d => ∃ ds, Ψ ds ∧ d = .tuple ds)) (h1 : TOj δ q tl lo) (h2 : TOj δ q th hi) : J q δ (tSl (rSlU K) te tl th) c (fun d => ∃ ds, Ψ ds ∧ d = .tuple (cutD ds lo hi)) := fun σ H H1 n sg o Q k =>
  h σ H H1 n sg o _ fun d v Hk H2 g o1 ⟨ds, ps, e⟩ dv => h1 σ Hk H2 n (sg.mono g.k) o1 _ fun Hk2 H3 g2 o2 => h2 σ Hk2 H3 n (sg.mono (g.k.trans g2.k)) o2 _ fun Hk3 H4 g3 o3 => by
    subst e
    have dv' := Dq.mono (g2.k.trans g3.k) _ _ dv
    obtain ⟨a, xs, rfl, e1, e2⟩ := dv'.tupOf
    have hl := e2.length
    refine .inr ⟨a, xs, rfl, .inl (e1.mono g3.a).rd, fun hw => ?_, fun hw p ob od hn => ?_⟩
    · have ec : cutD ds lo hi = ds := by
        unfold cutD
        rw [← hl, hw.1, hw.2, List.drop_zero, Nat.sub_zero, hl, List.take_length]
      exact k _ _ _ _ ((g.trans g2).trans g3) o3 ⟨ds, ps, by rw [ec]⟩ dv'
    · have g4 := Gr.new (q := none) (o := .frz ob (.tup (cutV xs lo hi))) g3.a hn
      refine k _ _ _ _ (((g.trans g2).trans g3).trans g4.none_to) (o3.go g4) ⟨ds, ps, rfl⟩ (.tup (Tp.new od) (DqAll.mono g4.k _ _ ?_))
      unfold cutV
      rw [hl]
      exact (e2.drop _).take _
theorem sIx_nat {l d : Nat} (n : Nat) : HT.sIx l d (some (n : Int)) = min n l := by
  unfold HT.sIx
  simp
  omega
theorem cutD_from (xs : List PyData) (n : Nat) : cutD xs (some (n : Int)) none = xs.drop n := by
  unfold cutD
  rw [sIx_nat]
  show (xs.drop (min n xs.length)).take (xs.length - min n xs.length) = _
  by_cases h : n ≤ xs.length
  · rw [Nat.min_eq_left h, List.take_of_length_le (by rw [List.length_drop]; omega)]
  · rw [Nat.min_eq_right (by omega), Nat.sub_self, List.take_zero, List.drop_eq_nil_of_le (by omega)]
theorem drop_int (f : List Int) (n : Nat) : (f.map PyData.int).drop n = (f.drop n).map .int := by rw [List.map_drop]
theorem take_int (f : List Int) (n : Nat) : (f.map PyData.int).take n = (f.take n).map .int := by rw [List.map_take]
/-- f[n:] -/
theorem j_dropI {m : Int} (h : J q δ te c (fun d => ∃ f, P1 f ∧ d = pol f)) (hn : E q δ te2 (.int m)) (em : m = (n : Int)) (hp : ∀ f, P1 f → P (f.drop n)) : J q δ (tSl (rSlU K) te (tPart te2) tNoPart) c (fun d => ∃ f, P f ∧ d = pol f) := by
  subst em
  exact (j_slT (Ψ := fun ds => ∃ f : List Int, P1 f ∧ ds = f.map .int) (h.imp fun d ⟨f, p, e⟩ => ⟨_, ⟨f, p, rfl⟩, e⟩) (to_some hn) to_none).imp fun d ⟨ds, ⟨f, p, e⟩, e2⟩ => ⟨f.drop n, hp f p, by rw [e2, e, cutD_from, drop_int]; rfl⟩
theorem e_dropI {f : List Int} {m : Int} (h : E q δ te (pol f)) (hn : E q δ te2 (.int m)) (em : m = (n : Int)) : E q δ (tSl (rSlU K) te (tPart te2) tNoPart) (pol (f.drop n)) := by
  subst em
  exact e_is (e_slT h (to_some hn) to_none) (by rw [cutD_from, drop_int]; rfl)
theorem e_takeI {f : List Int} {m : Int} (h : E q δ te (pol f)) (hn : E q δ te2 (.int m)) (em : m = (n : Int)) : E q δ (tSl (rSlU K) te tNoPart (tPart te2)) (pol (f.take n)) := by
  subst em
  exact e_is (e_slT h to_none (to_some hn)) (by rw [cutD_to, take_int]; rfl)
/-- f + g of tuples of integers -/
theorem j_catP (ha : J q δ ta c1 (fun d => ∃ f, P1 f ∧ d = pol f)) (hb : J q δ tb c2 (fun d => ∃ f, P2 f ∧ d = pol f)) (hp : ∀ f g, P1 f → P2 g → f.length + g.length ≤ 1000000 ∧ P (f ++ g)) : J q δ (tOp (rAddU K) ta tb) (c2 + c1) (fun d => ∃ f, P f ∧ d = pol f) :=
  j_op ha hb fun a b ⟨f, p1, ea⟩ ⟨g, p2, eb⟩ => by
    subst ea; subst eb
    have z := hp f g p1 p2
    exact (rj_catT (ds := f.map .int) (es := g.map .int) (Φ := fun d => ∃ f, P f ∧ d = pol f) (by rw [pol_len, pol_len]; exact z.1) ⟨f ++ g, z.2, by unfold pol; rw [List.map_append]⟩).to fun _ _ _ _ h => .inr (.inr h)
/-- (e,) -/
theorem j_oneP {R : Int → Prop} (h : J q δ te c (IntP R)) (hp : ∀ x, R x → P [x]) : J q δ (tTup (tCons te tNil)) c (fun d => ∃ f, P f ∧ d = pol f) :=
  (j_tup (Ψ := fun ds => ∃ x, R x ∧ ds = [.int x]) ((aj_int (c1 := c) (c2 := 0) (Φr := fun sls => sls = []) h ae_nil fun i sls hi e => ⟨[.int i], by rw [e]; rfl, by simp, i, hi, rfl⟩).cost (by omega))).imp fun d ⟨ds, ⟨x, hx, e⟩, e2⟩ => ⟨[x], hp x hx, by rw [e2, e]; rfl⟩
theorem E.polP {f : List Int} (h : E q δ te (pol f)) (hp : P f) : J q δ te 0 (fun d => ∃ f, P f ∧ d = pol f) := h.imp fun d e => ⟨f, hp, e⟩
end
end Cr
namespace Cr
open PySem PySem.Spec PyProof.Rows L2
section
variable {q : Option Addr} {δ : List Sl} {te : TE} {c : Nat} {P : Bool → Prop}
theorem _root_.Cr.J.boolAny (h : J q δ te c (BoolP P)) : J q δ te c (BoolP fun _ => True) := h.imp fun d ⟨b, _, e⟩ => ⟨b, trivial, e⟩
end
theorem okS6 : ∀ (d : PyData), okS 5 d = true → okS 6 d = true := by
  have h : ∀ (k : Nat) (d : PyData), okS k d = true → okS (k + 1) d = true := by
    intro k
    induction k with
    | zero => intro d h; exact Bool.noConfusion (show false = true from h)
    | succ k ih =>
      intro d h
      cases d with
      | list ds =>
        have h' : (decide (ds.length ≤ 100000) && ds.all (okS k)) = true := h
        show (decide (ds.length ≤ 100000) && ds.all (okS (k + 1))) = true
        rw [Bool.and_eq_true] at h' ⊢
        exact ⟨h'.1, List.all_eq_true.mpr fun x hx => ih x (List.all_eq_true.mp h'.2 x hx)⟩
      | tuple ds =>
        have h' : (decide (ds.length ≤ 100000) && ds.all (okS k)) = true := h
        show (decide (ds.length ≤ 100000) && ds.all (okS (k + 1))) = true
        rw [Bool.and_eq_true] at h' ⊢
        exact ⟨h'.1, List.all_eq_true.mpr fun x hx => ih x (List.all_eq_true.mp h'.2 x hx)⟩
      | none => rfl
      | bool _ => rfl
      | int _ => rfl
      | str _ => exact h
      | dict _ => exact Bool.noConfusion (show false = true from h)
  exact h 5
end Cr

set_option Elab.async false
set_option linter.all false
set_option maxRecDepth 100000
set_option maxHeartbeats 800000
namespace Cr
open PySem PySem.Spec PyProof.Rows L2
theorem evalP_take (f : List Int) (x : Int) : ∀ n : Nat, n ≤ f.length → evalP (f.take n) x = sm n (fun j => f.getD j 0 * x ^ j)
  | 0, _ => rfl
  | n + 1, h => by
    rw [List.take_add_one, getD_lt (by omega)]
    show evalP (f.take n ++ [f.getD n 0]) x = sm n _ + _
    rw [evalP_snoc, evalP_take f x n (by omega), List.length_take, Nat.min_eq_left (by omega)]
theorem evalP_sm (f : List Int) (x : Int) : evalP f x = sm f.length (fun j => f.getD j 0 * x ^ j) := by
  have z := evalP_take f x f.length (Nat.le_refl _)
  rwa [List.take_length] at z
/-- the sums of a polynomial's values -/
theorem wsum_dot (f : List Int) (l : List (Int × Int)) : wsum (evalP f) l = sm f.length (fun j => f.getD j 0 * psum l j) := by
  induction l with
  | nil =>
    show (0 : Int) = _
    rw [sm_congr (G := fun _ => 0) fun i _ => by rw [psum_nil, Int.mul_zero], sm_zero]
  | cons x l ih =>
    show x.2 * evalP f x.1 + wsum (evalP f) l = _
    rw [ih, evalP_sm, ← sm_mul, ← sm_add]
    exact sm_congr fun j _ => by rw [psum_cons, Int.mul_add, Int.mul_left_comm]
def chg : List (Int × Int) → Nat
  | x :: y :: r => (if x.2 * y.2 < 0 then 1 else 0) + chg (y :: r)
  | _ => 0
theorem chg_lt : ∀ {l : List (Int × Int)}, l ≠ [] → chg l < l.length
  | [], h => absurd rfl h
  | [x], _ => Nat.zero_lt_succ _
  | x :: y :: r, _ => by
    have ih := chg_lt (l := y :: r) (by simp)
    show (if _ then 1 else 0) + chg (y :: r) < (y :: r).length + 1
    split <;> omega
theorem pos_mul {a b : Int} (h : 0 < a) (h2 : 0 < b) : 0 < a * b := Int.mul_pos h h2
theorem chg_sign : ∀ {l : List (Int × Int)}, l.Pairwise (fun a b => a.1 < b.1) → (∀ x ∈ l, x.2 ≠ 0) → l ≠ [] →
    ∃ (f : List Int) (s : Int), f.length = chg l + 1 ∧ (∀ z ∈ l, 0 < s * (z.2 * evalP f z.1)) ∧ ∀ x, l.head? = some x → ∀ k : Int, k ≤ x.1 → 0 < s * (x.2 * evalP f k)
  | [], _, _, h => absurd rfl h
  | [x], _, hz, _ => by
    have h0 := hz x (by simp)
    have h1 : evalP [1] = fun k => (0 : Int) * k + 1 := rfl
    have hs : 0 < x.2 * (x.2 * 1) := by
      rw [Int.mul_one]
      by_cases h : 0 < x.2
      · exact pos_mul h h
      · have := pos_mul (a := -x.2) (b := -x.2) (by omega) (by omega)
        rwa [Int.neg_mul_neg] at this
    refine ⟨[1], x.2, rfl, fun z hz' => ?_, fun y hy k _ => ?_⟩
    · rw [List.mem_singleton.mp hz', h1]
      show 0 < x.2 * (x.2 * (0 * _ + 1))
      rw [Int.zero_mul, Int.zero_add]; exact hs
    · have e : x = y := by simpa using hy
      subst e
      rw [h1]
      show 0 < x.2 * (x.2 * (0 * _ + 1))
      rw [Int.zero_mul, Int.zero_add]; exact hs
  | x :: y :: r, hp, hz, _ => by
    have hp2 := List.pairwise_cons.mp hp
    obtain ⟨f, s, hl, ha, hb⟩ := chg_sign (l := y :: r) hp2.2 (fun z h => hz z (by simp [h])) (by simp)
    have hxy : x.1 < y.1 := hp2.1 y (by simp)
    have hy0 := hz y (by simp)
    have hx0 := hz x (by simp)
    have hyk : ∀ k : Int, k ≤ x.1 → 0 < s * (y.2 * evalP f k) := fun k hk => hb y rfl k (by omega)
    by_cases hc : x.2 * y.2 < 0
    · have ev : ∀ k : Int, evalP (conv f [-(2 * x.1 + 1), 2]) k = evalP f k * (2 * k - (2 * x.1 + 1)) := fun k => by
        rw [conv_val]
        congr 1
        show (0 * k + 2) * k + -(2 * x.1 + 1) = _
        rw [Int.zero_mul, Int.zero_add]; omega
      have fl : (conv f [-(2 * x.1 + 1), 2]).length = chg (x :: y :: r) + 1 := by
        rw [conv_len, hl]
        show chg (y :: r) + 1 + 2 - 1 = (if x.2 * y.2 < 0 then 1 else 0) + chg (y :: r) + 1
        rw [if_pos hc]; omega
      have hx : ∀ k : Int, k ≤ x.1 → 0 < s * (x.2 * evalP (conv f [-(2 * x.1 + 1), 2]) k) := fun k hk => by
        rw [ev]
        have h1 := hyk k hk
        have h2 : 0 < (2 * x.1 + 1) - 2 * k := by omega
        have h3 := pos_mul (pos_mul (a := -(x.2 * y.2)) (by omega) h1) h2
        have h4 : 0 < y.2 * y.2 := by
          by_cases h : 0 < y.2
          · exact pos_mul h h
          · have := pos_mul (a := -y.2) (b := -y.2) (by omega) (by omega)
            rwa [Int.neg_mul_neg] at this
        generalize evalP f k = w at h3 ⊢
        have e : -(x.2 * y.2) * (s * (y.2 * w)) * ((2 * x.1 + 1) - 2 * k) = (s * (x.2 * (w * (2 * k - (2 * x.1 + 1))))) * (y.2 * y.2) := by
          rw [show ((2 * x.1 + 1) - 2 * k : Int) = -(2 * k - (2 * x.1 + 1)) by omega]
          generalize (2 * k - (2 * x.1 + 1) : Int) = u
          rw [Int.neg_mul, Int.neg_mul_neg]
          simp only [Int.mul_comm, Int.mul_left_comm, Int.mul_assoc]
        rw [e] at h3
        by_cases hq : 0 < s * (x.2 * (w * (2 * k - (2 * x.1 + 1))))
        · exact hq
        · exfalso
          have := Int.mul_nonneg (a := -(s * (x.2 * (w * (2 * k - (2 * x.1 + 1)))))) (b := y.2 * y.2) (by omega) (Int.le_of_lt h4)
          rw [Int.neg_mul] at this
          omega
      refine ⟨conv f [-(2 * x.1 + 1), 2], s, fl, fun z hz' => ?_, fun w hw k hk => ?_⟩
      · rcases List.mem_cons.mp hz' with e | hm
        · rw [e]; exact hx x.1 (Int.le_refl _)
        · rw [ev]
          have h1 := ha z hm
          have h2 : 0 < 2 * z.1 - (2 * x.1 + 1) := by
            have := hp2.1 z hm
            omega
          have h3 := pos_mul h1 h2
          have e : s * (z.2 * evalP f z.1) * (2 * z.1 - (2 * x.1 + 1)) = s * (z.2 * (evalP f z.1 * (2 * z.1 - (2 * x.1 + 1)))) := by
            rw [Int.mul_assoc, Int.mul_assoc]
          rwa [e] at h3
      · have e : x = w := by simpa using hw
        subst e
        exact hx k hk
    · have hpos : 0 < x.2 * y.2 := by
        have : x.2 * y.2 ≠ 0 := Int.mul_ne_zero hx0 hy0
        omega
      have hx : ∀ k : Int, k ≤ x.1 → 0 < s * (x.2 * evalP f k) := fun k hk => by
        have h1 := hyk k hk
        have h3 := pos_mul hpos h1
        have h4 : 0 < y.2 * y.2 := by
          by_cases h : 0 < y.2
          · exact pos_mul h h
          · have := pos_mul (a := -y.2) (b := -y.2) (by omega) (by omega)
            rwa [Int.neg_mul_neg] at this
        generalize evalP f k = w at h3 ⊢
        have e : x.2 * y.2 * (s * (y.2 * w)) = (s * (x.2 * w)) * (y.2 * y.2) := by
          simp only [Int.mul_comm, Int.mul_left_comm, Int.mul_assoc]
        rw [e] at h3
        by_cases hq : 0 < s * (x.2 * w)
        · exact hq
        · exfalso
          have := Int.mul_nonneg (a := -(s * (x.2 * w))) (b := y.2 * y.2) (by omega) (Int.le_of_lt h4)
          rw [Int.neg_mul] at this
          omega
      refine ⟨f, s, ?_, fun z hz' => ?_, fun w hw k hk => ?_⟩
      · rw [hl]
        show _ = (if x.2 * y.2 < 0 then 1 else 0) + chg (y :: r) + 1
        rw [if_neg hc]; omega
      · rcases List.mem_cons.mp hz' with e | hm
        · rw [e]; exact hx x.1 (Int.le_refl _)
        · exact ha z hm
      · have e : x = w := by simpa using hw
        subst e
        exact hx k hk
theorem wsum_pos (φ : Int → Int) (s : Int) : ∀ {l : List (Int × Int)}, (∀ z ∈ l, 0 < s * (z.2 * φ z.1)) → l ≠ [] → 0 < s * wsum φ l
  | [], _, h => absurd rfl h
  | [x], h, _ => by
    show 0 < s * (x.2 * φ x.1 + 0)
    rw [Int.add_zero]; exact h x (by simp)
  | x :: y :: r, h, _ => by
    have ih := wsum_pos φ s (l := y :: r) (fun z hz => h z (by simp [hz])) (by simp)
    show 0 < s * (x.2 * φ x.1 + wsum φ (y :: r))
    rw [Int.mul_add]
    have := h x (by simp)
    omega
/-- a ledger has a sum other than 0 not behind its changes of sign -/
theorem apart {l : List (Int × Int)} (h : Led l) (hne : l ≠ []) : ∃ j, j ≤ chg l ∧ psum l j ≠ 0 := by
  obtain ⟨f, s, hl, ha, _⟩ := chg_sign h.1 h.2 hne
  have hp := wsum_pos (evalP f) s ha hne
  refine Classical.byContradiction fun hno => ?_
  have hz : ∀ j, j < f.length → psum l j = 0 := fun j hj => Classical.byContradiction fun hj0 => hno ⟨j, by omega, hj0⟩
  rw [wsum_dot, sm_congr (G := fun _ => 0) fun j hj => by rw [hz j hj, Int.mul_zero], sm_zero, Int.mul_zero] at hp
  exact absurd hp (by decide)
def IsBl (l : List (Int × Int)) (j : Nat) : Prop := psum l j ≠ 0 ∧ ∀ i, i < j → psum l i = 0
theorem isBl_of {l : List (Int × Int)} : ∀ {n : Nat}, psum l n ≠ 0 → ∃ j, j ≤ n ∧ IsBl l j := by
  intro n
  induction n using Nat.strongRecOn with
  | ind n ih =>
    intro h
    by_cases hs : ∃ i, i < n ∧ psum l i ≠ 0
    · obtain ⟨i, hi, h0⟩ := hs
      obtain ⟨j, hj, hb⟩ := ih i hi h0
      exact ⟨j, by omega, hb⟩
    · exact ⟨n, Nat.le_refl _, h, fun i hi => Classical.byContradiction fun h0 => hs ⟨i, hi, h0⟩⟩
theorem led_bl {l : List (Int × Int)} (h : Led l) (hne : l ≠ []) : ∃ j, j ≤ chg l ∧ IsBl l j := by
  obtain ⟨n, hn, h0⟩ := apart h hne
  obtain ⟨j, hj, hb⟩ := isBl_of h0
  exact ⟨j, by omega, hb⟩
theorem IsBl.uniq {l : List (Int × Int)} {i j : Nat} (h : IsBl l i) (h2 : IsBl l j) : i = j := by
  by_cases h3 : i < j
  · exact absurd (h2.2 i h3) h.1
  · by_cases h4 : j < i
    · exact absurd (h.2 j h4) h2.1
    · omega
open Classical in
noncomputable def blD (l : List (Int × Int)) : PyData := if h : ∃ j, IsBl l j then .int ((Classical.choose h : Nat) : Int) else .none
theorem blD_is {l : List (Int × Int)} {j : Nat} (h : IsBl l j) : blD l = .int (j : Int) := by
  unfold blD
  rw [dif_pos ⟨j, h⟩, (Classical.choose_spec (⟨j, h⟩ : ∃ j, IsBl l j)).uniq h]
theorem blD_nil : blD [] = .none := by
  unfold blD
  rw [dif_neg fun ⟨j, h⟩ => h.1 (psum_nil j)]
theorem blD_congr {a b : List (Int × Int)} (h : ∀ j, psum a j = 0 ↔ psum b j = 0) : blD a = blD b := by
  have hb : ∀ j, IsBl a j ↔ IsBl b j := fun j => by
    unfold IsBl
    constructor
    · exact fun ⟨x, y⟩ => ⟨fun z => x ((h j).mpr z), fun i hi => (h i).mp (y i hi)⟩
    · exact fun ⟨x, y⟩ => ⟨fun z => x ((h j).mp z), fun i hi => (h i).mpr (y i hi)⟩
  unfold blD
  by_cases he : ∃ j, IsBl a j
  · obtain ⟨j, hj⟩ := he
    rw [dif_pos ⟨j, hj⟩, dif_pos ⟨j, (hb j).mp hj⟩]
    congr 2
    exact ((hb _).mp (Classical.choose_spec (⟨j, hj⟩ : ∃ j, IsBl a j))).uniq (Classical.choose_spec (⟨j, (hb j).mp hj⟩ : ∃ j, IsBl b j))
  · rw [dif_neg he, dif_neg fun ⟨j, hj⟩ => he ⟨j, (hb j).mpr hj⟩]
theorem psum_less (a b : List (Int × Int)) (j : Nat) : psum (gather (a ++ b.map fun x => (x.1, -x.2))) j = psum a j - psum b j := by
  rw [psum_gather, psum_append, psum_neg]; rfl
theorem blD_less (a b : List (Int × Int)) : blD (gather (b ++ a.map fun x => (x.1, -x.2))) = blD (gather (a ++ b.map fun x => (x.1, -x.2))) := blD_congr fun j => by
  rw [psum_less, psum_less]; omega
theorem okS_blD (l : List (Int × Int)) (k : Nat) : okS (k + 1) (blD l) = true := by
  unfold blD
  split <;> rfl
/-! ### changes of sign, told in two ways -/
theorem chg_snoc (x y : Int × Int) : ∀ p : List (Int × Int), chg (p ++ [x, y]) = chg (p ++ [x]) + if x.2 * y.2 < 0 then 1 else 0
  | [] => by show (if _ then 1 else 0) + 0 = 0 + _; omega
  | [z] => by
    show (if z.2 * x.2 < 0 then 1 else 0) + ((if x.2 * y.2 < 0 then 1 else 0) + 0) = (if z.2 * x.2 < 0 then 1 else 0) + 0 + _
    omega
  | z :: w :: p => by
    have ih := chg_snoc x y (w :: p)
    show (if z.2 * w.2 < 0 then 1 else 0) + chg ((w :: p) ++ [x, y]) = (if z.2 * w.2 < 0 then 1 else 0) + chg ((w :: p) ++ [x]) + _
    rw [ih]; omega
theorem chg_take {l : List (Int × Int)} {k : Nat} (h : k + 1 < l.length) : chg (l.take (k + 2)) = chg (l.take (k + 1)) + if l[k].2 * l[k + 1].2 < 0 then 1 else 0 := by
  have e1 : l.take (k + 1) = l.take k ++ [l[k]] := by rw [List.take_add_one, List.getElem?_eq_getElem (by omega)]; rfl
  have e2 : l.take (k + 2) = l.take k ++ [l[k], l[k + 1]] := by
    rw [List.take_add_one, List.getElem?_eq_getElem h, e1]
    show (l.take k ++ [l[k]]) ++ [l[k + 1]] = _
    rw [List.append_assoc]; rfl
  rw [e1, e2, chg_snoc]
theorem zipD_zip {α β : Type} (f : α → PyData) (g : β → PyData) : ∀ (a : List α) (b : List β), zipD (a.map f) (b.map g) = (a.zip b).map fun p => .tuple [f p.1, g p.2]
  | [], _ => by simp [zipD]
  | _ :: _, [] => by simp [zipD]
  | x :: a, y :: b => by
    show PyData.tuple [f x, g y] :: zipD (a.map f) (b.map g) = _
    rw [zipD_zip f g a b]; rfl
theorem sign_ne {a b : Int} (ha : a ≠ 0) (hb : b ≠ 0) : (!(decide (0 < a) == decide (0 < b))) = decide (a * b < 0) := by
  by_cases h1 : 0 < a <;> by_cases h2 : 0 < b
  · have := pos_mul h1 h2
    simp [h1, h2]; omega
  · have := pos_mul h1 (show 0 < -b by omega)
    rw [Int.mul_neg] at this
    simp [h1, h2]; omega
  · have := pos_mul (show 0 < -a by omega) h2
    rw [Int.neg_mul] at this
    simp [h1, h2]; omega
  · have := pos_mul (show 0 < -a by omega) (show 0 < -b by omega)
    rw [Int.neg_mul_neg] at this
    simp [h1, h2]; omega
theorem chg_adj : ∀ {l : List (Int × Int)}, (∀ x ∈ l, x.2 ≠ 0) → ((adj (l.map fun x => decide (0 < x.2))).filter fun p => !(p.1 == p.2)).length = chg l
  | [], _ => rfl
  | [_], _ => rfl
  | x :: y :: r, h => by
    have ih := chg_adj (l := y :: r) fun z hz => h z (by simp [hz])
    have e : adj ((x :: y :: r).map fun x => decide (0 < x.2)) = (decide (0 < x.2), decide (0 < y.2)) :: adj ((y :: r).map fun x => decide (0 < x.2)) := rfl
    rw [e, List.filter_cons]
    have ec : chg (x :: y :: r) = (if x.2 * y.2 < 0 then 1 else 0) + chg (y :: r) := rfl
    rw [ec, sign_ne (h x (by simp)) (h y (by simp))]
    by_cases hc : x.2 * y.2 < 0
    · rw [if_pos hc, if_pos (by simpa using hc), List.length_cons, ih]; omega
    · rw [if_neg hc, if_neg (by simpa using hc), ih]; omega
/-! ### the least blind ledger -/
def sgz (z : Int) : Int := 1 - 2 * z.fmod 2
theorem sgz_abs (z : Int) : (sgz z).natAbs = 1 := by
  unfold sgz
  have h1 := Int.fmod_nonneg_of_pos z (show (0 : Int) < 2 by decide)
  have h2 := Int.fmod_lt_of_pos z (show (0 : Int) < 2 by decide)
  omega
def turn (s : Nat) (f : Int) : List (Int × Int) := (List.range (s + 1)).map fun (k : Nat) => (f + (0 + (k : Int)), (chs s k : Int) * sgz ((s : Int) - (0 + (k : Int))))
theorem turn_len (s : Nat) (f : Int) : (turn s f).length = s + 1 := by simp [turn]
theorem chs_pos : ∀ {n k : Nat}, k ≤ n → 1 ≤ chs n k
  | n, 0, _ => by rw [chs_zero]; exact Nat.le_refl 1
  | n + 1, k + 1, h => by
    have := chs_pos (n := n) (k := k) (by omega)
    rw [chs_succ]; omega
theorem turn_led (s : Nat) (f : Int) : Led (turn s f) := by
  refine ⟨?_, fun x hx => ?_⟩
  · unfold turn
    rw [List.pairwise_map]
    exact List.pairwise_lt_range.imp fun {a b} h => by show f + (0 + (a : Int)) < f + (0 + (b : Int)); omega
  · unfold turn at hx
    obtain ⟨k, hk, rfl⟩ := List.mem_map.mp hx
    have hk' := List.mem_range.mp hk
    have h1 := chs_pos (n := s) (k := k) (by omega)
    have h2 := sgz_abs ((s : Int) - (0 + (k : Int)))
    exact Int.mul_ne_zero (by omega) (by omega)
theorem turn_Kb {s : Nat} {f : Int} (hf : f.natAbs < 2 ^ 58) (hs : s ≤ 100) : Kb 60 (s + 2) (turn s f) := fun x hx => by
  unfold turn at hx
  obtain ⟨k, hk, rfl⟩ := List.mem_map.mp hx
  have hk' := List.mem_range.mp hk
  refine ⟨by show (f + (0 + (k : Int))).natAbs < _; omega, ?_⟩
  show ((chs s k : Int) * sgz _).natAbs < _
  have h2 := sgz_abs ((s : Int) - (0 + (k : Int)))
  rw [Int.natAbs_mul, h2, Nat.mul_one]
  exact lt_pow (chs_bits s k) (by omega)
theorem Led.sub {a b : List (Int × Int)} (h : Led b) (hs : a.Sublist b) : Led a := ⟨h.1.sublist hs, fun x hx => h.2 x (hs.subset hx)⟩
end Cr
namespace Cr
open PySem PySem.Spec PyProof.Rows L2
section
variable {q : Option Addr} {δ : List Sl} {te : TE}
theorem e_intB {b : Bool} (h : E q δ te (.bool b)) : E q δ (tCB rIntQ (tCons te tNil)) (.int (if b then 1 else 0)) := e_cb1 h fun vs H H1 h e Q k => by
  obtain ⟨v, rfl, h1⟩ := h.one
  rw [h1.blOf]
  exact .inr ⟨b, rfl, k _ _ H H1 (Gr.refl e) rfl (.int _)⟩
end
end Cr

set_option Elab.async false
set_option linter.all false
set_option maxRecDepth 100000
set_option maxHeartbeats 1000001
/-! zip of a tuple and a list -/
namespace Zm
open PySem PySem.Spec PyProof.Rows L2 RZ
section
variable {w : World} {prog : Program}
/-- what a step of an iterator needs and leaves -/
structure Nx (prog : Program) (w : World) (it l : Addr) (x : Value) (G G' : Heap → Prop) : Prop where
  run : ∀ (A : Around) (E : Value → Shared → Prop) (t : Shared) (Q : Value → Shared → Prop), G t.heap → (∀ g, G' g → Heap.SameBut it t.heap g → Q x { t with heap := g }) → wpAny (model prog w) A (Builtin.SmallTypes.nextOf (.ref it)) Q E t
  up : ∀ g g' : Heap, G g → (∀ o, g.get? it = some o → g'.get? it = some o) → (∀ o, g.get? l = some o → g'.get? l = some o) → G g'
  up' : ∀ g g' : Heap, G' g → (∀ o, g.get? it = some o → g'.get? it = some o) → G' g'
theorem nx_tup {it l : Addr} {k : Nat} {xs : Array Value} {x : Value} (hx : xs[k]? = some x) : Nx prog w it l x (fun g => g.IsTupleIter it l k ∧ g.IsTuple l xs) (fun g => g.IsTupleIter it l (k + 1)) where
  run := fun _ _ _ _ c q => nextOf_tuple_item c.1 c.2 hx q
  up := fun _ _ c u v => ⟨c.1.at fun o e => u o e, c.2.at fun o e => v o e⟩
  up' := fun _ _ c u => c.at fun o e => u o e
theorem nx_lst {it l : Addr} {k : Nat} {xs : Array Value} {x : Value} (hx : xs[k]? = some x) : Nx prog w it l x (fun g => g.IsListIter it l k ∧ g.IsList l xs) (fun g => g.IsListIter it l (k + 1)) where
  run := fun _ _ _ _ c q => wpAny_nextOf_list_item c.1 c.2 hx q
  up := fun _ _ c u v => ⟨c.1.at fun o e => u o e, c.2.at fun o e => v o e⟩
  up' := fun _ _ c u => c.at fun o e => u o e
/-- .. and of one that is at its end -/
structure Nd (prog : Program) (w : World) (it l : Addr) (G : Heap → Prop) : Prop where
  run : ∀ (A : Around) (hh : A.handled = none) (E : Value → Shared → Prop) (t : Shared) (Q : Value → Shared → Prop), G t.heap → (∀ g e, Heap.ExtBut it t.heap g → (∃ o, g.get? e = some o ∧ o.cls = .type "StopIteration") → E (.ref e) { t with heap := g }) → wpAny (model prog w) A (Builtin.SmallTypes.nextOf (.ref it)) Q E t
  up : ∀ g g' : Heap, G g → (∀ o, g.get? it = some o → g'.get? it = some o) → (∀ o, g.get? l = some o → g'.get? l = some o) → G g'
theorem nd_tup {it l : Addr} {k : Nat} {xs : Array Value} (hx : xs[k]? = none) : Nd prog w it l (fun g => g.IsTupleIter it l k ∧ g.IsTuple l xs) where
  run := fun _ hh _ _ _ c q => nextOf_tuple_end hh c.1 c.2 hx q
  up := fun _ _ c u v => ⟨c.1.at fun o e => u o e, c.2.at fun o e => v o e⟩
theorem nd_lst {it l : Addr} {k : Nat} {xs : Array Value} (hx : xs[k]? = none) : Nd prog w it l (fun g => g.IsListIter it l k ∧ g.IsList l xs) where
  run := fun _ hh _ _ _ c q => wpAny_nextOf_list_end hh c.1 c.2 hx q
  up := fun _ _ c u v => ⟨c.1.at fun o e => u o e, c.2.at fun o e => v o e⟩
end
section
variable {prog : Program} {w : World} {A : Around} {E : Value → Shared → Prop} {s : Shared} {z TI TO i1 i2 l1 l2 : Addr} {x y a b : Value} {G1 G1' G2 G2' : Heap → Prop}
theorem zip_step {Q : Value → Shared → Prop} (D : ZipApart z TI TO i1 i2 l1 l2) (kz : IsZip s.heap z TI TO .none) (kI : IsPair s.heap TI (.ref i1) (.ref i2)) (kO : IsPair s.heap TO a b)
    (n1 : Nx prog w i1 l1 x G1 G1') (n2 : Nx prog w i2 l2 y G2 G2') (c1 : G1 s.heap) (c2 : G2 s.heap)
    (kont : ∀ g, IsZip g z TI TO (rawInt s.heap.objs.size) → IsPair g TO x y → G1' g → G2' g → IsPair g s.heap.objs.size x y → (∀ c o, c ≠ z → c ≠ TO → c ≠ i1 → c ≠ i2 → s.heap.get? c = some o → g.get? c = some o) → Q (.ref s.heap.objs.size) { s with heap := g }) : wpAny (model prog w) A (Builtin.«zip.__next__» ⟨[.ref z], []⟩) (fun fin s' => ∃ v, fin = .done (.ret v) ∧ Q v s') E s := by
  show wpAny _ _ (field (.ref z) 2 >>= _) _ _ _; refine wpAny_bind (wpAny_field kz rfl (x := .bool false) rfl ?_); show wpAny _ _ (field (.ref z) 3 >>= _) _ _ _
  refine wpAny_bind (wpAny_field kz rfl (x := .ref TI) rfl ?_); refine wpAny_bind (wpAny_seqItems kI rfl ?_)
  show wpAny _ _ (Builtin.SmallTypes.ownedTupleIsFree (.ref z) >>= _) _ _ _; refine wpAny_bind ?_; unfold Builtin.SmallTypes.ownedTupleIsFree
  refine wpAny_bind (wpAny_field kz rfl (x := .none) rfl (wpAny_pure ?_)); simp only [if_true]; refine wpAny_bind (wpAny_rule ?_)
  refine wpAny_bind (wpAny_field kz rfl (x := .ref TO) rfl ?_); refine wpAny_bind (wpAny_setField_rec kz (by simp) fun g1 z1 r1 => ?_)
  have z1' : IsZip g1 z TI TO .ellipsis := z1
  refine wpAny_bind ?_; simp only [List.zipIdx_cons, List.zipIdx_nil, List.forIn_cons, List.forIn_nil]; refine wpAny_bind (wpAny_bind (wpAny_onRaise ?_))
  show wpAny _ _ (Builtin.SmallTypes.nextOf (.ref i1) >>= _) _ _ _; refine wpAny_bind (n1.run A _ _ _ (n1.up _ _ c1 (fun o e => r1.extBut _ _ D.i1z e) fun o e => r1.extBut _ _ D.l1z e) fun g2 d1 r2 => wpAny_pure ?_)
  have O2 : IsPair g2 TO a b := r2.extBut _ _ D.TOi1 (r1.extBut _ _ D.TOz kO)
  refine wpAny_bind (wpAny_seqItems O2 rfl ?_); refine wpAny_bind (wpAny_updateSeq_pair O2 fun g3 O3 r3 => ?_)
  have O3' : IsPair g3 TO x b := O3
  refine wpAny_bind (wpAny_letGo (wpAny_pure ?_)); refine wpAny_bind (wpAny_bind (wpAny_onRaise ?_)); show wpAny _ _ (Builtin.SmallTypes.nextOf (.ref i2) >>= _) _ _ _
  refine wpAny_bind (n2.run A _ _ _ (n2.up _ _ c2 (fun o e => r3.extBut _ _ D.TOi2.symm (r2.extBut _ _ D.i12.symm (r1.extBut _ _ D.i2z e))) fun o e => r3.extBut _ _ D.l2TO (r2.extBut _ _ D.l2i1 (r1.extBut _ _ D.l2z e))) fun g4 d2 r4 => wpAny_pure ?_)
  have O4 : IsPair g4 TO x b := r4.extBut _ _ D.TOi2 O3'
  refine wpAny_bind (wpAny_seqItems O4 rfl ?_); refine wpAny_bind (wpAny_updateSeq_pair O4 fun g5 O5 r5 => ?_)
  have O5' : IsPair g5 TO x y := O5
  refine wpAny_bind (wpAny_letGo (wpAny_pure (wpAny_pure ?_))); refine wpAny_bind (wpAny_seqItems O5' rfl ?_); refine wpAny_bind (wpAny_newTuple ?_)
  have sz : g5.objs.size = s.heap.objs.size := by rw [r5.1, r4.1, r3.1, r2.1, r1.1]
  have z5 : IsZip g5 z TI TO .ellipsis := r5.extBut _ _ D.TOz.symm (r4.extBut _ _ D.i2z.symm (r3.extBut _ _ D.TOz.symm (r2.extBut _ _ D.i1z.symm z1')))
  have k5 : ∀ c o, c ≠ z → c ≠ TO → c ≠ i1 → c ≠ i2 → s.heap.get? c = some o → g5.get? c = some o := fun c o p1 p2 p3 p4 e => r5.extBut _ _ p2 (r4.extBut _ _ p4 (r3.extBut _ _ p2 (r2.extBut _ _ p3 (r1.extBut _ _ p1 e))))
  have e1 : G1' g5 := n1.up' _ _ d1 fun o e => r5.extBut _ _ D.TOi1.symm (r4.extBut _ _ D.i12 (r3.extBut _ _ D.TOi1.symm e))
  have e2 : G2' g5 := n2.up' _ _ d2 fun o e => r5.extBut _ _ D.TOi2.symm e
  have lz : z < g5.objs.size := Heap.lt_size z5
  show wpAny _ _ (Builtin.SmallTypes.ownedTupleHandOut (.ref z) (.ref g5.objs.size) >>= _) _ _ _; refine wpAny_bind ?_; unfold Builtin.SmallTypes.ownedTupleHandOut
  have z6 : IsZip (g5.push { cls := .type "tuple", data := .seq #[x, y] }) z TI TO .ellipsis := Heap.get?_push_of_some _ z5
  refine wpAny_bind (wpAny_setField_rec z6 (by simp) fun g7 z7 r7 => ?_)
  have z7' : IsZip g7 z TI TO (rawInt g5.objs.size) := z7
  refine wpAny_setField_rec z7' (by simp) fun g8 z8 r8 => ?_
  have z8' : IsZip g8 z TI TO (rawInt g5.objs.size) := z8
  have to8 : ∀ c o, c ≠ z → g5.get? c = some o → g8.get? c = some o := fun c o p e => r8.extBut _ _ p (r7.extBut _ _ p (Heap.get?_push_of_some _ e))
  have T8 : IsPair g8 g5.objs.size x y := r8.extBut _ _ (Nat.ne_of_gt lz) (r7.extBut _ _ (Nat.ne_of_gt lz) (Heap.get?_push_size _ rfl))
  rw [sz] at z8' T8
  refine wpAny_pure ⟨_, rfl, ?_⟩; show Q (.ref g5.objs.size) _
  rw [sz]
  exact kont g8 z8' (to8 _ _ D.TOz O5') (n1.up' _ _ e1 fun o e => to8 _ o D.i1z e) (n2.up' _ _ e2 fun o e => to8 _ o D.i2z e) T8 fun c o p1 p2 p3 p4 e => to8 c o p1 (k5 c o p1 p2 p3 p4 e)
theorem zip_stop1 {Q : Fin → Shared → Prop} (hh : A.handled = none) (D : ZipApart z TI TO i1 i2 l1 l2) (kz : IsZip s.heap z TI TO .none) (kI : IsPair s.heap TI (.ref i1) (.ref i2)) (kO : IsPair s.heap TO a b) (n1 : Nd prog w i1 l1 G1) (c1 : G1 s.heap)
    (kont : ∀ g e, (∀ c o, c ≠ z → c ≠ TO → c ≠ i1 → c ≠ i2 → s.heap.get? c = some o → g.get? c = some o) → (∃ o, g.get? e = some o ∧ o.cls = .type "StopIteration") → E (.ref e) { s with heap := g }) : wpAny (model prog w) A (Builtin.«zip.__next__» ⟨[.ref z], []⟩) Q E s := by
  show wpAny _ _ (field (.ref z) 2 >>= _) _ _ _; refine wpAny_bind (wpAny_field kz rfl (x := .bool false) rfl ?_); show wpAny _ _ (field (.ref z) 3 >>= _) _ _ _
  refine wpAny_bind (wpAny_field kz rfl (x := .ref TI) rfl ?_); refine wpAny_bind (wpAny_seqItems kI rfl ?_)
  show wpAny _ _ (Builtin.SmallTypes.ownedTupleIsFree (.ref z) >>= _) _ _ _; refine wpAny_bind ?_; unfold Builtin.SmallTypes.ownedTupleIsFree
  refine wpAny_bind (wpAny_field kz rfl (x := .none) rfl (wpAny_pure ?_)); simp only [if_true]; refine wpAny_bind (wpAny_rule ?_)
  refine wpAny_bind (wpAny_field kz rfl (x := .ref TO) rfl ?_); refine wpAny_bind (wpAny_setField_rec kz (by simp) fun g1 z1 r1 => ?_)
  have z1' : IsZip g1 z TI TO .ellipsis := z1
  refine wpAny_bind ?_; simp only [List.zipIdx_cons, List.zipIdx_nil, List.forIn_cons, List.forIn_nil]; refine wpAny_bind (wpAny_bind (wpAny_onRaise ?_))
  show wpAny _ _ (Builtin.SmallTypes.nextOf (.ref i1) >>= _) _ _ _; refine wpAny_bind (n1.run A hh _ _ _ (n1.up _ _ c1 (fun o e => r1.extBut _ _ D.i1z e) fun o e => r1.extBut _ _ D.l1z e) fun g2 e r2 ⟨oe, he, ce⟩ => ?_)
  have z2 : IsZip g2 z TI TO .ellipsis := r2 _ _ D.i1z.symm z1'
  have ez : e ≠ z := fun q => by rw [q, z2] at he; cases he; simp at ce
  exact wpAny_setField_rec z2 (by simp) fun g3 _ r3 => kont g3 e (fun c o p1 _ p3 _ q => r3.extBut _ _ p1 (r2 _ _ p3 (r1.extBut _ _ p1 q))) ⟨oe, r3.extBut _ _ ez he, ce⟩
theorem zip_stop2 {Q : Fin → Shared → Prop} (hh : A.handled = none) (D : ZipApart z TI TO i1 i2 l1 l2) (kz : IsZip s.heap z TI TO .none) (kI : IsPair s.heap TI (.ref i1) (.ref i2)) (kO : IsPair s.heap TO a b) (n1 : Nx prog w i1 l1 x G1 G1') (n2 : Nd prog w i2 l2 G2) (c1 : G1 s.heap) (c2 : G2 s.heap)
    (kont : ∀ g e, (∀ c o, c ≠ z → c ≠ TO → c ≠ i1 → c ≠ i2 → s.heap.get? c = some o → g.get? c = some o) → (∃ o, g.get? e = some o ∧ o.cls = .type "StopIteration") → E (.ref e) { s with heap := g }) : wpAny (model prog w) A (Builtin.«zip.__next__» ⟨[.ref z], []⟩) Q E s := by
  show wpAny _ _ (field (.ref z) 2 >>= _) _ _ _; refine wpAny_bind (wpAny_field kz rfl (x := .bool false) rfl ?_); show wpAny _ _ (field (.ref z) 3 >>= _) _ _ _
  refine wpAny_bind (wpAny_field kz rfl (x := .ref TI) rfl ?_); refine wpAny_bind (wpAny_seqItems kI rfl ?_)
  show wpAny _ _ (Builtin.SmallTypes.ownedTupleIsFree (.ref z) >>= _) _ _ _; refine wpAny_bind ?_; unfold Builtin.SmallTypes.ownedTupleIsFree
  refine wpAny_bind (wpAny_field kz rfl (x := .none) rfl (wpAny_pure ?_)); simp only [if_true]; refine wpAny_bind (wpAny_rule ?_)
  refine wpAny_bind (wpAny_field kz rfl (x := .ref TO) rfl ?_); refine wpAny_bind (wpAny_setField_rec kz (by simp) fun g1 z1 r1 => ?_)
  have z1' : IsZip g1 z TI TO .ellipsis := z1
  refine wpAny_bind ?_; simp only [List.zipIdx_cons, List.zipIdx_nil, List.forIn_cons, List.forIn_nil]; refine wpAny_bind (wpAny_bind (wpAny_onRaise ?_))
  show wpAny _ _ (Builtin.SmallTypes.nextOf (.ref i1) >>= _) _ _ _; refine wpAny_bind (n1.run A _ _ _ (n1.up _ _ c1 (fun o e => r1.extBut _ _ D.i1z e) fun o e => r1.extBut _ _ D.l1z e) fun g2 d1 r2 => wpAny_pure ?_)
  have O2 : IsPair g2 TO a b := r2.extBut _ _ D.TOi1 (r1.extBut _ _ D.TOz kO)
  refine wpAny_bind (wpAny_seqItems O2 rfl ?_); refine wpAny_bind (wpAny_updateSeq_pair O2 fun g3 O3 r3 => ?_)
  refine wpAny_bind (wpAny_letGo (wpAny_pure ?_)); refine wpAny_bind (wpAny_bind (wpAny_onRaise ?_)); show wpAny _ _ (Builtin.SmallTypes.nextOf (.ref i2) >>= _) _ _ _
  refine wpAny_bind (n2.run A hh _ _ _ (n2.up _ _ c2 (fun o e => r3.extBut _ _ D.TOi2.symm (r2.extBut _ _ D.i12.symm (r1.extBut _ _ D.i2z e))) fun o e => r3.extBut _ _ D.l2TO (r2.extBut _ _ D.l2i1 (r1.extBut _ _ D.l2z e))) fun g4 e r4 ⟨oe, he, ce⟩ => ?_)
  have z4 : IsZip g4 z TI TO .ellipsis := r4 _ _ D.i2z.symm (r3.extBut _ _ D.TOz.symm (r2.extBut _ _ D.i1z.symm z1'))
  have ez : e ≠ z := fun q => by rw [q, z4] at he; cases he; simp at ce
  exact wpAny_setField_rec z4 (by simp) fun g5 _ r5 => kont g5 e (fun c o p1 p2 p3 p4 q => r5.extBut _ _ p1 (r4 _ _ p4 (r3.extBut _ _ p2 (r2.extBut _ _ p3 (r1.extBut _ _ p1 q))))) ⟨oe, r5.extBut _ _ ez he, ce⟩
theorem next_step {Q : Option Value → Shared → Prop} (D : ZipApart z TI TO i1 i2 l1 l2) (kz : IsZip s.heap z TI TO .none) (kI : IsPair s.heap TI (.ref i1) (.ref i2)) (kO : IsPair s.heap TO a b)
    (n1 : Nx prog w i1 l1 x G1 G1') (n2 : Nx prog w i2 l2 y G2 G2') (c1 : G1 s.heap) (c2 : G2 s.heap)
    (kont : ∀ g, IsZip g z TI TO (rawInt s.heap.objs.size) → IsPair g TO x y → G1' g → G2' g → IsPair g s.heap.objs.size x y → (∀ c o, c ≠ z → c ≠ TO → c ≠ i1 → c ≠ i2 → s.heap.get? c = some o → g.get? c = some o) → Q (some (.ref s.heap.objs.size)) { s with heap := g }) : wpAny (model prog w) A (pyNext (.ref z)) Q E s := by
  have ty : s.TypeIs (.ref z) "zip" := ⟨_, kz, rfl⟩
  unfold pyNext
  exact wpAny_bind (wpAny_attempt (wpAny_callSpecial?_slot (name := Str.ofString "__next__") ty F.slot_zip_next (wpAny_call_entry F.slot_zip_next ty F.entry_zip_next (zip_step D kz kI kO n1 n2 c1 c2 fun g p1 p2 p3 p4 p5 p6 => wpAny_pure (kont g p1 p2 p3 p4 p5 p6)) (F.args_zip_next_1 _))))
theorem next_stop {Q : Option Value → Shared → Prop} (kz : IsZip s.heap z TI TO .none)
    (run : ∀ (A' : Around) (E' : Value → Shared → Prop) (R : Fin → Shared → Prop), A'.handled = A.handled → (∀ g e, (∀ c o, c ≠ z → c ≠ TO → c ≠ i1 → c ≠ i2 → s.heap.get? c = some o → g.get? c = some o) → (∃ o, g.get? e = some o ∧ o.cls = .type "StopIteration") → E' (.ref e) { s with heap := g }) → wpAny (model prog w) A' (Builtin.«zip.__next__» ⟨[.ref z], []⟩) R E' s)
    (kont : ∀ g, (∀ c o, c ≠ z → c ≠ TO → c ≠ i1 → c ≠ i2 → s.heap.get? c = some o → g.get? c = some o) → Q none { s with heap := g }) : wpAny (model prog w) A (pyNext (.ref z)) Q E s := by
  have ty : s.TypeIs (.ref z) "zip" := ⟨_, kz, rfl⟩
  unfold pyNext
  refine wpAny_bind (wpAny_attempt (wpAny_callSpecial?_slot (name := Str.ofString "__next__") ty F.slot_zip_next (wpAny_call_entry F.slot_zip_next ty F.entry_zip_next (run _ _ _ rfl fun g e hk he => ?_) (F.args_zip_next_1 _))))
  obtain ⟨o, ho, hc⟩ := he
  exact wpAny_bind (wpAny_isInstance (T := "StopIteration") (b := true) ⟨o, ho, hc⟩ isSubtype_stop (wpAny_pure (kont _ hk)))
end
/-! ### zip(tuple, list) as it is walked -/
def ItzM (K : PySem.W.Frag) (a b : Addr) : It where
  go i H := ∃ (xs ys : List V) (x y : V), SqT K H a xs ∧ SqL K H b ys ∧ xs[i]? = some x ∧ ys[i]? = some y
  yld i H v H' := ∃ T x y, v = .ref T ∧ H T = none ∧ H' = upd H T (.tup [x, y]) ∧ (∀ xs, SqT K H a xs → xs[i]? = some x) ∧ ∀ ys, SqL K H b ys → ys[i]? = some y
  stop i H := ∃ xs ys : List V, SqT K H a xs ∧ SqL K H b ys ∧ (xs.length ≤ i ∨ ys.length ≤ i)
theorem turn_zipM {P : Program} {w : World} {K : PySem.W.Frag} {elts : List Expr} {kk : Nat} {tpos : Pos} {a b z TI TO i1 i2 : Addr} (D : ZipApart z TI TO i1 i2 a b) :
    Turn P w K (.Tuple elts kk tpos) (ItzM K a b) [z, TI, TO, i1, i2] z (fun i h => IsZip h z TI TO .none ∧ IsPair h TI (.ref i1) (.ref i2) ∧ (∃ x y, IsPair h TO x y) ∧ h.IsTupleIter i1 a i ∧ h.IsListIter i2 b i) where
  mem := List.mem_cons_self ..
  obj := fun i h ⟨kz, kI, ⟨x, y, kO⟩, ⟨o1, e1, _, d1⟩, ⟨o2, e2, _, d2⟩⟩ c hc => by
    simp only [List.mem_cons, List.mem_nil_iff, or_false] at hc
    rcases hc with rfl | rfl | rfl | rfl | rfl
    · exact ⟨_, kz, fun v q => nomatch q⟩
    · exact ⟨_, kI, fun v q => nomatch q⟩
    · exact ⟨_, kO, fun v q => nomatch q⟩
    · exact ⟨o1, e1, fun v q => by rw [d1] at q; cases q⟩
    · exact ⟨o2, e2, fun v q => by rw [d2] at q; cases q⟩
  keep := fun i h h' ⟨kz, kI, ⟨x, y, kO⟩, k1, k2⟩ u => ⟨u z (by simp) _ kz, u TI (by simp) _ kI, ⟨x, y, u TO (by simp) _ kO⟩, k1.at fun o e => u i1 (by simp) o e, k2.at fun o e => u i2 (by simp) o e⟩
  item := by
    rintro X rfl rfl rfl hc i pins s σ H E I hf ⟨kz, kI, ⟨x0, y0, kO⟩, k1, k2⟩ ⟨xs, ys, x, y, qx, qy, hx, hy⟩
    obtain ⟨its, rv, p, _⟩ := I.tuple qx
    obtain ⟨its2, rv2, p2, _⟩ := I.list qy
    obtain ⟨u, hu, ru⟩ := rv.get hx; obtain ⟨u2, hu2, ru2⟩ := rv2.get hy
    have lz : z < s.heap.objs.size := Heap.lt_size kz
    refine next_step D kz kI kO (nx_tup (k := i) (xs := its.toArray) (x := u) (by simpa using hu)) (nx_lst (k := i) (xs := its2.toArray) (x := u2) (by simpa using hu2)) ⟨k1, p⟩ ⟨k2, p2.isList⟩ fun g z' TO' k1' k2' hT hk => ?_
    refine ⟨_, rfl, wpAny_letOwnedTupleGo_zip (s := { s with heap := g }) z' fun g2 z2 sb => ?_⟩
    have T2 : g2.get? s.heap.objs.size = some { cls := .type "tuple", data := .seq #[u, u2] } := (sb.2 _ (Nat.ne_of_gt lz)).trans hT
    have nw : ObjOk X.prog X.w (upd H s.heap.objs.size (.tup [x, y])) g2 s.heap.objs.size (.tup [x, y]) := ⟨by show 2 ≤ sizeLine; decide, [u, u2], .cons ru (.cons ru2 .nil), ⟨_, T2, rfl, _, rfl⟩⟩
    have I1 : Inv X pins σ (upd H s.heap.objs.size (.tup [x, y])) { s with heap := g2 } := I.turnedNew (t' := s.toks) (ch := [z, TI, TO, i1, i2]) (fun c o hb e => (sb.2 c fun e' => hb (by simp [e'])).trans (hk c o (fun e' => hb (by simp [e'])) (fun e' => hb (by simp [e'])) (fun e' => hb (by simp [e'])) (fun e' => hb (by simp [e'])) e)) hf (Nat.le_refl _) nw
    refine ⟨.ref s.heap.objs.size, _, I1, rfl, ⟨_, x, y, rfl, I.hok.fresh (Nat.le_refl _), rfl, fun l hl => by rw [I.tuple_inj hl qx]; exact hx, fun l hl => by rw [I.list_inj hl qy]; exact hy⟩, ⟨z2, (sb.2 _ D.TIz).trans (hk _ _ D.TIz D.TITO D.TIi1 D.TIi2 kI), ⟨u, u2, (sb.2 _ D.TOz).trans TO'⟩, k1'.at fun o e => (sb.2 _ D.i1z).trans e, k2'.at fun o e => (sb.2 _ D.i2z).trans e⟩, fun c hcm => ?_⟩
    have hlt : c < s.heap.objs.size := by
      have hcm' := hcm
      simp only [List.mem_cons, List.mem_nil_iff, or_false] at hcm'
      rcases hcm' with rfl | rfl | rfl | rfl | rfl
      · exact lz
      · exact Heap.lt_size kI
      · exact Heap.lt_size kO
      · exact k1.elim fun _ e => Heap.lt_size e.1
      · exact k2.elim fun _ e => Heap.lt_size e.1
    rw [upd_ne (Nat.ne_of_lt hlt)]; exact (hf c hcm).1
  done := by
    rintro X rfl rfl rfl hc i pins s σ H E I hf ⟨kz, kI, ⟨x0, y0, kO⟩, k1, k2⟩ ⟨xs, ys, qx, qy, hend⟩
    obtain ⟨its, rv, p, _⟩ := I.tuple qx
    obtain ⟨its2, rv2, p2, _⟩ := I.list qy
    have m1 := rv.length
    have m2 := rv2.length
    have hh := I.ok.hd hc
    refine next_stop kz (i1 := i1) (i2 := i2) (fun A' E' R hA' kont => ?_) fun g hk => ⟨rfl, I.turnedL (t' := s.toks) (ch := [z, TI, TO, i1, i2]) (fun c o hb e => hk c o (fun e' => hb (by simp [e'])) (fun e' => hb (by simp [e'])) (fun e' => hb (by simp [e'])) (fun e' => hb (by simp [e'])) e) hf⟩
    by_cases h1 : xs.length ≤ i
    · exact zip_stop1 (hA'.trans hh) D kz kI kO (nd_tup (k := i) (xs := its.toArray) (by simp; omega)) ⟨k1, p⟩ kont
    · have h2 : ys.length ≤ i := by rcases hend with h | h; exact absurd h h1; exact h
      exact zip_stop2 (hA'.trans hh) D kz kI kO (nx_tup (k := i) (xs := its.toArray) (x := its[i]'(by omega)) (by first | (simp; done) | (simp; omega))) (nd_lst (k := i) (xs := its2.toArray) (by simp; omega)) ⟨k1, p⟩ ⟨k2, p2.isList⟩ kont
  self := fun A i s Q E st q => wpAny_pyIter_zip st.1 q
/-! ### the call -/
abbrev hp1 (h : Heap) (l1 : Addr) : Heap := h.push { cls := .type "tuple_iterator", data := .fields #[.ref l1, .int 0 0] }
abbrev hp2 (h : Heap) (l1 l2 : Addr) : Heap := (hp1 h l1).push { cls := .type "list_iterator", data := .fields #[.ref l2, .int 0 0] }
abbrev hp3 (h : Heap) (l1 l2 : Addr) : Heap := (hp2 h l1 l2).push { cls := .type "tuple", data := .seq #[.ref h.objs.size, .ref (hp1 h l1).objs.size] }
abbrev hp4 (h : Heap) (l1 l2 : Addr) : Heap := (hp3 h l1 l2).push { cls := .type "tuple", data := .seq #[.none, .none] }
abbrev hp5 (h : Heap) (l1 l2 : Addr) : Heap := (hp4 h l1 l2).push { cls := .type "zip", data := .fields #[.none, .bool false, .bool false, .ref (hp2 h l1 l2).objs.size, .ref (hp3 h l1 l2).objs.size] }
theorem meets_new (l1 l2 : Addr) (xs ys : Array Value) : Meets (Builtin.«zip.__new__» ⟨[.type "zip", .ref l1, .ref l2], []⟩) (fun _ R s => s.heap.IsTuple l1 xs ∧ s.heap.IsList l2 ys ∧ R (.ok (.ret (.ref (hp4 s.heap l1 l2).objs.size))) { s with heap := hp5 s.heap l1 l2 }) :=
  .of_wp fun prog w A R s ⟨k1, k2, k⟩ => by
    obtain ⟨hp, g, d, tk, os⟩ := s; have hsub := sub_zip
    have a1 : Heap.IsTuple (Shared.heap ⟨hp, g, d, tk, os⟩) l1 xs := k1
    have a2 : Heap.IsList (Shared.heap ⟨hp.push { cls := .type "tuple_iterator", data := .fields #[.ref l1, .int 0 0] }, g, d, tk, os⟩) l2 ys := Heap.IsList.push k2 _
    wp_walk using wpAny_pyIter_tuple a1, wpAny_pyIter_list a2
    exact ⟨_, rfl, k⟩
theorem call_zipM {prog : Program} {w : World} {A : Around} {E : Value → Shared → Prop} {s : Shared} {l1 l2 : Addr} {xs ys : Array Value} {Q : Value → Shared → Prop} (k1 : s.heap.IsTuple l1 xs) (k2 : s.heap.IsList l2 ys)
    (kont : ∀ g n, n = s.heap.objs.size → IsZip g (n + 4) (n + 2) (n + 3) .none → IsPair g (n + 2) (.ref n) (.ref (n + 1)) → IsPair g (n + 3) .none .none → g.IsTupleIter n l1 0 → g.IsListIter (n + 1) l2 0 → (∀ c o, s.heap.get? c = some o → g.get? c = some o) → Q (.ref (n + 4)) { s with heap := g }) : wpAny (model prog w) A (call (.type "zip") [.ref l1, .ref l2]) Q E s := by
  refine callType_new F.called_zip (by decide) (F.typeCall_zip_2 _ _) (F.newCall_zip_2 _ _) (fun obj => F.args_object_init_3 obj _ _) F.entry_zip_new (meets_new l1 l2 xs ys) ⟨k1, k2, ?_⟩
  have s1 : (hp1 s.heap l1).objs.size = s.heap.objs.size + 1 := Heap.size_push ..
  have s2 : (hp2 s.heap l1 l2).objs.size = s.heap.objs.size + 2 := (Heap.size_push ..).trans (by rw [s1])
  have s3 : (hp3 s.heap l1 l2).objs.size = s.heap.objs.size + 3 := (Heap.size_push ..).trans (by rw [s2])
  have s4 : (hp4 s.heap l1 l2).objs.size = s.heap.objs.size + 4 := (Heap.size_push ..).trans (by rw [s3])
  have q4 : (hp5 s.heap l1 l2).get? (hp4 s.heap l1 l2).objs.size = some _ := Heap.get?_push_size _ rfl
  have q3 : (hp5 s.heap l1 l2).get? (hp3 s.heap l1 l2).objs.size = some _ := Heap.get?_push_of_some _ (Heap.get?_push_size _ rfl)
  have q2 : (hp5 s.heap l1 l2).get? (hp2 s.heap l1 l2).objs.size = some _ := Heap.get?_push_of_some _ (Heap.get?_push_of_some _ (Heap.get?_push_size _ rfl))
  have q1 : (hp5 s.heap l1 l2).get? (hp1 s.heap l1).objs.size = some _ := Heap.get?_push_of_some _ (Heap.get?_push_of_some _ (Heap.get?_push_of_some _ (Heap.get?_push_size _ rfl)))
  have q0 : (hp5 s.heap l1 l2).get? s.heap.objs.size = some _ := Heap.get?_push_of_some _ (Heap.get?_push_of_some _ (Heap.get?_push_of_some _ (Heap.get?_push_of_some _ (Heap.get?_push_size _ rfl))))
  show _ ∧ _
  rw [s2, s3, s4] at q4; rw [s1, s2] at q2; rw [s3] at q3; rw [s1] at q1; rw [s4]
  exact ⟨⟨_, q4, rfl⟩, kont _ _ rfl q4 q2 q3 ⟨_, q0, rfl, rfl⟩ ⟨_, q1, rfl, rfl⟩ fun c o e => Heap.get?_push_of_some _ (Heap.get?_push_of_some _ (Heap.get?_push_of_some _ (Heap.get?_push_of_some _ (Heap.get?_push_of_some _ e))))⟩
def iZipM (K : PySem.W.Frag) (ta : TA) : TI := fun σ H R => ta σ H fun vs H1 => ∃ a b xs ys, vs = [.ref a, .ref b] ∧ SqT K H1 a xs ∧ SqL K H1 b ys ∧ R (ItzM K a b) H1
theorem pi_zipM {X : Cx} {K : PySem.W.Frag} {e e2 : Expr} {ta : TA} {p pos tpos : Pos} {elts : List Expr} {kk : Nat} (hK : X.K = K) (hg : Gl X "zip") (hm : X.mg "zip" = none) (ha : PA X [e, e2] ta) (hs : starEach [e, e2] X.env = (false, eval e X.env) :: starEach [e2] X.env := by rfl) (hpl : (backTo pos (starEach [e2] X.env)).any (·.1) = false := by rfl) :
    PI X (.Tuple elts kk tpos) (.Call (.Name "zip" p) [e, e2] [] pos) (iZipM K ta) := by
  subst hK
  refine ⟨fun pins s σ H R I h => Call_ (ld_blt I hg hm PyProof.Rows.boot_zip (PyProof.Rows.callWith_type1 (thn (ha.run pos pins s σ H _ I h) fun us s1 ⟨vs, H1, I1, r1, q1⟩ => ?_) hs hpl))⟩
  obtain ⟨a, b, xs, ys, rfl, qx, qy, q⟩ := q1
  obtain ⟨u1, u2, rfl, ra, rb⟩ : ∃ u1 u2, us = [u1, u2] ∧ RelV (.ref a) u1 ∧ RelV (.ref b) u2 := by
    cases r1 with
    | cons r rr => cases rr with
      | cons r' rr => cases rr; exact ⟨_, _, rfl, r, r'⟩
  cases ra; cases rb
  obtain ⟨its, rv, p1, _⟩ := I1.tuple qx
  obtain ⟨its2, rv2, p2, _⟩ := I1.list qy
  obtain ⟨o1, ho1, _⟩ := id p1
  refine call_zipM (show s1.heap.IsTuple a its.toArray from p1) p2.isList fun g n en kz kI kO k1 k2 hk => wpAny_pyIter_zip kz ?_
  have I2 : Inv X pins σ H1 { s1 with heap := g } := I1.kept (t' := s1.toks) hk
  subst en
  refine ⟨s1.heap.objs.size + 4, [s1.heap.objs.size + 4, s1.heap.objs.size + 2, s1.heap.objs.size + 3, s1.heap.objs.size, s1.heap.objs.size + 1], _, _, H1, rfl, I2, turn_zipM (PySem.W.ktu_apart s1.heap.objs.size a b (Heap.lt_size ho1) p2.lt), ⟨kz, kI, ⟨_, _, kO⟩, k1, k2⟩, fun c hcm => ?_, q⟩
  have hd : c = s1.heap.objs.size + 4 ∨ c = s1.heap.objs.size + 2 ∨ c = s1.heap.objs.size + 3 ∨ c = s1.heap.objs.size + 0 ∨ c = s1.heap.objs.size + 1 := by simpa using hcm
  have hle : s1.heap.objs.size ≤ c := (by rcases hd with z | z | z | z | z <;> rw [z] <;> exact Nat.le_add_right _ _); exact I1.fpOk hle (I1.hok.fresh hle)
end Zm
namespace Cr
open PySem PySem.Spec PyProof.Rows L2 Zm
section
variable {K : PySem.W.Frag} {q : Option Addr} {δ : List Sl} {ta tb : TE}
theorem walk_zipM {H : Hp} {a b : Addr} {xs ys : List V} {ds es : List PyData} (np : ∀ d ∈ ds, notPair d = true) (h : Tp H a xs ds) (hd : DqAll H xs ds) (h2 : H b = some (.lst ys)) (he : DqAll H ys es) : WalkD (Zm.ItzM K a b) (zipD ds es) H := fun i Hk H' s1 s2 => by
  have e := ((h.mono s1).mono s2).rd
  have e2 := s2 _ _ (s1 _ _ h2)
  have hl1 := hd.length
  have hl2 := he.length
  rw [zipD_len]
  refine ⟨fun hi => ?_, fun hi => ⟨xs, ys, .inl e, SqL.of1 e2, by omega⟩⟩
  have g1 : xs[i]? = some (xs[i]'(by omega)) := List.getElem?_eq_getElem _
  have g2 : ys[i]? = some (ys[i]'(by omega)) := List.getElem?_eq_getElem _
  refine ⟨⟨xs, ys, _, _, .inl e, SqL.of1 e2, g1, g2⟩, fun v H2 y => ?_⟩
  obtain ⟨T, x, y, rfl, hT, rfl, f1, f2⟩ := y
  obtain ⟨d1, p1, p2⟩ := hd.get' (f1 xs (.inl e))
  obtain ⟨d2, p3, p4⟩ := he.get' (f2 ys (SqL.of1 e2))
  have g := Gr.new (q := none) (o := .tup [x, y]) s2 hT
  refine ⟨_, g, _, zipD_get ds es i d1 d2 p1 p3, .tup (.inr ⟨np d1 (List.mem_of_getElem? p1), upd_same⟩) (.cons (Dq.mono (s1.trans g.k) _ _ p2) (.cons (Dq.mono (s1.trans g.k) _ _ p4) .nil))⟩
theorem ie_zipM {ds es : List PyData} (h : E q δ ta (.tuple ds)) (h2 : E q δ tb (.list es)) (np : ∀ d ∈ ds, notPair d = true := by intro d hd; obtain ⟨x, _, rfl⟩ := List.mem_map.mp hd; rfl) : IE q δ (Zm.iZipM K (tCons ta (tCons tb tNil))) (zipD ds es) := fun σ H H1 n sg o R k =>
  h σ H H1 n sg o _ fun d v Hk H2 g o1 e dv => h2 σ Hk H2 n (sg.mono g.k) o1 _ fun d' v' Hk' H3 g' o2 e' dv' => by
    subst e; subst e'
    obtain ⟨a, xs, rfl, p1, p2⟩ := (Dq.mono g'.k _ _ dv).tupOf
    obtain ⟨b, ys, rfl, p3, p4⟩ := dv'.lstOf
    exact ⟨a, b, xs, ys, rfl, .inl (p1.mono g'.a).rd, SqL.of1 (g'.a _ _ p3), k _ _ Hk' H3 (g.trans g') o2 rfl (walk_zipM np p1 p2 p3 p4)⟩
end
end Cr

set_option Elab.async false
set_option linter.all false
set_option maxRecDepth 100000
set_option maxHeartbeats 1000001
namespace Zm
open PySem PySem.Spec PyProof.Rows L2 RZ
/-! ### zip(tuple, tuple), the items known to have no dict of their own -/
def ItzS (K : PySem.W.Frag) (a b : Addr) : It where
  go i H := ∃ (xs ys : List V) (x y : V), SqT K H a xs ∧ SqT K H b ys ∧ xs[i]? = some x ∧ ys[i]? = some y
  yld i H v H' := ∃ T x y, v = .ref T ∧ H T = none ∧ (∃ ob : Obj, ob.dict = none ∧ H' = upd H T (.frz ob (.tup [x, y]))) ∧ (∀ xs, SqT K H a xs → xs[i]? = some x) ∧ ∀ ys, SqT K H b ys → ys[i]? = some y
  stop i H := ∃ xs ys : List V, SqT K H a xs ∧ SqT K H b ys ∧ (xs.length ≤ i ∨ ys.length ≤ i)
theorem turn_zipS {P : Program} {w : World} {K : PySem.W.Frag} {elts : List Expr} {kk : Nat} {tpos : Pos} {a b z TI TO i1 i2 : Addr} (D : ZipApart z TI TO i1 i2 a b) :
    Turn P w K (.Tuple elts kk tpos) (ItzS K a b) [z, TI, TO, i1, i2] z (fun i h => IsZip h z TI TO .none ∧ IsPair h TI (.ref i1) (.ref i2) ∧ (∃ x y, IsPair h TO x y) ∧ h.IsTupleIter i1 a i ∧ h.IsTupleIter i2 b i) where
  mem := List.mem_cons_self ..
  obj := fun i h ⟨kz, kI, ⟨x, y, kO⟩, ⟨o1, e1, _, d1⟩, ⟨o2, e2, _, d2⟩⟩ c hc => by
    simp only [List.mem_cons, List.mem_nil_iff, or_false] at hc
    rcases hc with rfl | rfl | rfl | rfl | rfl
    · exact ⟨_, kz, fun v q => nomatch q⟩
    · exact ⟨_, kI, fun v q => nomatch q⟩
    · exact ⟨_, kO, fun v q => nomatch q⟩
    · exact ⟨o1, e1, fun v q => by rw [d1] at q; cases q⟩
    · exact ⟨o2, e2, fun v q => by rw [d2] at q; cases q⟩
  keep := fun i h h' ⟨kz, kI, ⟨x, y, kO⟩, k1, k2⟩ u => ⟨u z (by simp) _ kz, u TI (by simp) _ kI, ⟨x, y, u TO (by simp) _ kO⟩, k1.at fun o e => u i1 (by simp) o e, k2.at fun o e => u i2 (by simp) o e⟩
  item := by
    rintro X rfl rfl rfl hc i pins s σ H E I hf ⟨kz, kI, ⟨x0, y0, kO⟩, k1, k2⟩ ⟨xs, ys, x, y, qx, qy, hx, hy⟩
    obtain ⟨its, rv, p, _⟩ := I.tuple qx
    obtain ⟨its2, rv2, p2, _⟩ := I.tuple qy
    obtain ⟨u, hu, ru⟩ := rv.get hx; obtain ⟨u2, hu2, ru2⟩ := rv2.get hy
    have lz : z < s.heap.objs.size := Heap.lt_size kz
    refine next_step D kz kI kO (nx_tup (k := i) (xs := its.toArray) (x := u) (by simpa using hu)) (nx_tup (k := i) (xs := its2.toArray) (x := u2) (by simpa using hu2)) ⟨k1, p⟩ ⟨k2, p2⟩ fun g z' TO' k1' k2' hT hk => ?_
    refine ⟨_, rfl, wpAny_letOwnedTupleGo_zip (s := { s with heap := g }) z' fun g2 z2 sb => ?_⟩
    have T2 : g2.get? s.heap.objs.size = some { cls := .type "tuple", data := .seq #[u, u2] } := (sb.2 _ (Nat.ne_of_gt lz)).trans hT
    have nw : ObjOk X.prog X.w (upd H s.heap.objs.size (.frz { cls := .type "tuple", data := .seq #[u, u2] } (.tup [x, y]))) g2 s.heap.objs.size (.frz { cls := .type "tuple", data := .seq #[u, u2] } (.tup [x, y])) := ⟨T2, by show 2 ≤ sizeLine; decide, [u, u2], .cons ru (.cons ru2 .nil), ⟨_, T2, rfl, _, rfl⟩⟩
    have I1 : Inv X pins σ (upd H s.heap.objs.size (.frz { cls := .type "tuple", data := .seq #[u, u2] } (.tup [x, y]))) { s with heap := g2 } := I.turnedNew (t' := s.toks) (ch := [z, TI, TO, i1, i2]) (fun c o hb e => (sb.2 c fun e' => hb (by simp [e'])).trans (hk c o (fun e' => hb (by simp [e'])) (fun e' => hb (by simp [e'])) (fun e' => hb (by simp [e'])) (fun e' => hb (by simp [e'])) e)) hf (Nat.le_refl _) nw
    refine ⟨.ref s.heap.objs.size, _, I1, rfl, ⟨_, x, y, rfl, I.hok.fresh (Nat.le_refl _), ⟨_, rfl, rfl⟩, fun l hl => by rw [I.tuple_inj hl qx]; exact hx, fun l hl => by rw [I.tuple_inj hl qy]; exact hy⟩, ⟨z2, (sb.2 _ D.TIz).trans (hk _ _ D.TIz D.TITO D.TIi1 D.TIi2 kI), ⟨u, u2, (sb.2 _ D.TOz).trans TO'⟩, k1'.at fun o e => (sb.2 _ D.i1z).trans e, k2'.at fun o e => (sb.2 _ D.i2z).trans e⟩, fun c hcm => ?_⟩
    have hlt : c < s.heap.objs.size := by
      have hcm' := hcm
      simp only [List.mem_cons, List.mem_nil_iff, or_false] at hcm'
      rcases hcm' with rfl | rfl | rfl | rfl | rfl
      · exact lz
      · exact Heap.lt_size kI
      · exact Heap.lt_size kO
      · exact k1.elim fun _ e => Heap.lt_size e.1
      · exact k2.elim fun _ e => Heap.lt_size e.1
    rw [upd_ne (Nat.ne_of_lt hlt)]; exact (hf c hcm).1
  done := by
    rintro X rfl rfl rfl hc i pins s σ H E I hf ⟨kz, kI, ⟨x0, y0, kO⟩, k1, k2⟩ ⟨xs, ys, qx, qy, hend⟩
    obtain ⟨its, rv, p, _⟩ := I.tuple qx
    obtain ⟨its2, rv2, p2, _⟩ := I.tuple qy
    have m1 := rv.length
    have m2 := rv2.length
    have hh := I.ok.hd hc
    refine next_stop kz (i1 := i1) (i2 := i2) (fun A' E' R hA' kont => ?_) fun g hk => ⟨rfl, I.turnedL (t' := s.toks) (ch := [z, TI, TO, i1, i2]) (fun c o hb e => hk c o (fun e' => hb (by simp [e'])) (fun e' => hb (by simp [e'])) (fun e' => hb (by simp [e'])) (fun e' => hb (by simp [e'])) e) hf⟩
    by_cases h1 : xs.length ≤ i
    · exact zip_stop1 (hA'.trans hh) D kz kI kO (nd_tup (k := i) (xs := its.toArray) (by simp; omega)) ⟨k1, p⟩ kont
    · have h2 : ys.length ≤ i := by rcases hend with h | h; exact absurd h h1; exact h
      exact zip_stop2 (hA'.trans hh) D kz kI kO (nx_tup (k := i) (xs := its.toArray) (x := its[i]'(by omega)) (by first | (simp; done) | (simp; omega))) (nd_tup (k := i) (xs := its2.toArray) (by simp; omega)) ⟨k1, p⟩ ⟨k2, p2⟩ kont
  self := fun A i s Q E st q => wpAny_pyIter_zip st.1 q
/-! ### the call -/
abbrev hp2S (h : Heap) (l1 l2 : Addr) : Heap := (hp1 h l1).push { cls := .type "tuple_iterator", data := .fields #[.ref l2, .int 0 0] }
abbrev hp3S (h : Heap) (l1 l2 : Addr) : Heap := (hp2S h l1 l2).push { cls := .type "tuple", data := .seq #[.ref h.objs.size, .ref (hp1 h l1).objs.size] }
abbrev hp4S (h : Heap) (l1 l2 : Addr) : Heap := (hp3S h l1 l2).push { cls := .type "tuple", data := .seq #[.none, .none] }
abbrev hp5S (h : Heap) (l1 l2 : Addr) : Heap := (hp4S h l1 l2).push { cls := .type "zip", data := .fields #[.none, .bool false, .bool false, .ref (hp2S h l1 l2).objs.size, .ref (hp3S h l1 l2).objs.size] }
theorem meets_newS (l1 l2 : Addr) (xs ys : Array Value) : Meets (Builtin.«zip.__new__» ⟨[.type "zip", .ref l1, .ref l2], []⟩) (fun _ R s => s.heap.IsTuple l1 xs ∧ s.heap.IsTuple l2 ys ∧ R (.ok (.ret (.ref (hp4S s.heap l1 l2).objs.size))) { s with heap := hp5S s.heap l1 l2 }) :=
  .of_wp fun prog w A R s ⟨k1, k2, k⟩ => by
    obtain ⟨hp, g, d, tk, os⟩ := s; have hsub := sub_zip
    have a1 : Heap.IsTuple (Shared.heap ⟨hp, g, d, tk, os⟩) l1 xs := k1
    have a2 : Heap.IsTuple (Shared.heap ⟨hp.push { cls := .type "tuple_iterator", data := .fields #[.ref l1, .int 0 0] }, g, d, tk, os⟩) l2 ys := Heap.IsTuple.push k2 _
    wp_walk using wpAny_pyIter_tuple a1, wpAny_pyIter_tuple a2
    exact ⟨_, rfl, k⟩
theorem call_zipS {prog : Program} {w : World} {A : Around} {E : Value → Shared → Prop} {s : Shared} {l1 l2 : Addr} {xs ys : Array Value} {Q : Value → Shared → Prop} (k1 : s.heap.IsTuple l1 xs) (k2 : s.heap.IsTuple l2 ys)
    (kont : ∀ g n, n = s.heap.objs.size → IsZip g (n + 4) (n + 2) (n + 3) .none → IsPair g (n + 2) (.ref n) (.ref (n + 1)) → IsPair g (n + 3) .none .none → g.IsTupleIter n l1 0 → g.IsTupleIter (n + 1) l2 0 → (∀ c o, s.heap.get? c = some o → g.get? c = some o) → Q (.ref (n + 4)) { s with heap := g }) : wpAny (model prog w) A (call (.type "zip") [.ref l1, .ref l2]) Q E s := by
  refine callType_new F.called_zip (by decide) (F.typeCall_zip_2 _ _) (F.newCall_zip_2 _ _) (fun obj => F.args_object_init_3 obj _ _) F.entry_zip_new (meets_newS l1 l2 xs ys) ⟨k1, k2, ?_⟩
  have s1 : (hp1 s.heap l1).objs.size = s.heap.objs.size + 1 := Heap.size_push ..
  have s2 : (hp2S s.heap l1 l2).objs.size = s.heap.objs.size + 2 := (Heap.size_push ..).trans (by rw [s1])
  have s3 : (hp3S s.heap l1 l2).objs.size = s.heap.objs.size + 3 := (Heap.size_push ..).trans (by rw [s2])
  have s4 : (hp4S s.heap l1 l2).objs.size = s.heap.objs.size + 4 := (Heap.size_push ..).trans (by rw [s3])
  have q4 : (hp5S s.heap l1 l2).get? (hp4S s.heap l1 l2).objs.size = some _ := Heap.get?_push_size _ rfl
  have q3 : (hp5S s.heap l1 l2).get? (hp3S s.heap l1 l2).objs.size = some _ := Heap.get?_push_of_some _ (Heap.get?_push_size _ rfl)
  have q2 : (hp5S s.heap l1 l2).get? (hp2S s.heap l1 l2).objs.size = some _ := Heap.get?_push_of_some _ (Heap.get?_push_of_some _ (Heap.get?_push_size _ rfl))
  have q1 : (hp5S s.heap l1 l2).get? (hp1 s.heap l1).objs.size = some _ := Heap.get?_push_of_some _ (Heap.get?_push_of_some _ (Heap.get?_push_of_some _ (Heap.get?_push_size _ rfl)))
  have q0 : (hp5S s.heap l1 l2).get? s.heap.objs.size = some _ := Heap.get?_push_of_some _ (Heap.get?_push_of_some _ (Heap.get?_push_of_some _ (Heap.get?_push_of_some _ (Heap.get?_push_size _ rfl))))
  show _ ∧ _
  rw [s2, s3, s4] at q4; rw [s1, s2] at q2; rw [s3] at q3; rw [s1] at q1; rw [s4]
  exact ⟨⟨_, q4, rfl⟩, kont _ _ rfl q4 q2 q3 ⟨_, q0, rfl, rfl⟩ ⟨_, q1, rfl, rfl⟩ fun c o e => Heap.get?_push_of_some _ (Heap.get?_push_of_some _ (Heap.get?_push_of_some _ (Heap.get?_push_of_some _ (Heap.get?_push_of_some _ e))))⟩
def iZipS (K : PySem.W.Frag) (ta : TA) : TI := fun σ H R => ta σ H fun vs H1 => ∃ a b xs ys, vs = [.ref a, .ref b] ∧ SqT K H1 a xs ∧ SqT K H1 b ys ∧ R (ItzS K a b) H1
theorem pi_zipS {X : Cx} {K : PySem.W.Frag} {e e2 : Expr} {ta : TA} {p pos tpos : Pos} {elts : List Expr} {kk : Nat} (hK : X.K = K) (hg : Gl X "zip") (hm : X.mg "zip" = none) (ha : PA X [e, e2] ta) (hs : starEach [e, e2] X.env = (false, eval e X.env) :: starEach [e2] X.env := by rfl) (hpl : (backTo pos (starEach [e2] X.env)).any (·.1) = false := by rfl) :
    PI X (.Tuple elts kk tpos) (.Call (.Name "zip" p) [e, e2] [] pos) (iZipS K ta) := by
  subst hK
  refine ⟨fun pins s σ H R I h => Call_ (ld_blt I hg hm PyProof.Rows.boot_zip (PyProof.Rows.callWith_type1 (thn (ha.run pos pins s σ H _ I h) fun us s1 ⟨vs, H1, I1, r1, q1⟩ => ?_) hs hpl))⟩
  obtain ⟨a, b, xs, ys, rfl, qx, qy, q⟩ := q1
  obtain ⟨u1, u2, rfl, ra, rb⟩ : ∃ u1 u2, us = [u1, u2] ∧ RelV (.ref a) u1 ∧ RelV (.ref b) u2 := by
    cases r1 with
    | cons r rr => cases rr with
      | cons r' rr => cases rr; exact ⟨_, _, rfl, r, r'⟩
  cases ra; cases rb
  obtain ⟨its, rv, p1, _⟩ := I1.tuple qx
  obtain ⟨its2, rv2, p2, _⟩ := I1.tuple qy
  obtain ⟨o1, ho1, _⟩ := id p1
  refine call_zipS (show s1.heap.IsTuple a its.toArray from p1) p2 fun g n en kz kI kO k1 k2 hk => wpAny_pyIter_zip kz ?_
  have I2 : Inv X pins σ H1 { s1 with heap := g } := I1.kept (t' := s1.toks) hk
  subst en
  refine ⟨s1.heap.objs.size + 4, [s1.heap.objs.size + 4, s1.heap.objs.size + 2, s1.heap.objs.size + 3, s1.heap.objs.size, s1.heap.objs.size + 1], _, _, H1, rfl, I2, turn_zipS (PySem.W.ktu_apart s1.heap.objs.size a b (Heap.lt_size ho1) (by obtain ⟨o2, ho2, _⟩ := id p2; exact Heap.lt_size ho2)), ⟨kz, kI, ⟨_, _, kO⟩, k1, k2⟩, fun c hcm => ?_, q⟩
  have hd : c = s1.heap.objs.size + 4 ∨ c = s1.heap.objs.size + 2 ∨ c = s1.heap.objs.size + 3 ∨ c = s1.heap.objs.size + 0 ∨ c = s1.heap.objs.size + 1 := by simpa using hcm
  have hle : s1.heap.objs.size ≤ c := (by rcases hd with z | z | z | z | z <;> rw [z] <;> exact Nat.le_add_right _ _); exact I1.fpOk hle (I1.hok.fresh hle)
end Zm
namespace Cr
open PySem PySem.Spec PyProof.Rows L2 Zm
section
variable {K : PySem.W.Frag} {q : Option Addr} {δ : List Sl} {ta tb : TE}
theorem walk_zipS {H : Hp} {a b : Addr} {xs ys : List V} {ds es : List PyData} (h : Tp H a xs ds) (hd : DqAll H xs ds) (h2 : Tp H b ys es) (he : DqAll H ys es) : WalkD (Zm.ItzS K a b) (zipD ds es) H := fun i Hk H' s1 s2 => by
  have e := ((h.mono s1).mono s2).rd
  have e2 := ((h2.mono s1).mono s2).rd
  have hl1 := hd.length
  have hl2 := he.length
  rw [zipD_len]
  refine ⟨fun hi => ?_, fun hi => ⟨xs, ys, .inl e, .inl e2, by omega⟩⟩
  have g1 : xs[i]? = some (xs[i]'(by omega)) := List.getElem?_eq_getElem _
  have g2 : ys[i]? = some (ys[i]'(by omega)) := List.getElem?_eq_getElem _
  refine ⟨⟨xs, ys, _, _, .inl e, .inl e2, g1, g2⟩, fun v H2 y => ?_⟩
  obtain ⟨T, x, y, rfl, hT, ⟨ob, od, rfl⟩, f1, f2⟩ := y
  obtain ⟨d1, p1, p2⟩ := hd.get' (f1 xs (.inl e))
  obtain ⟨d2, p3, p4⟩ := he.get' (f2 ys (.inl e2))
  have g := Gr.new (q := none) (o := .frz ob (.tup [x, y])) s2 hT
  refine ⟨_, g, _, zipD_get ds es i d1 d2 p1 p3, .tup (Tp.new od) (.cons (Dq.mono (s1.trans g.k) _ _ p2) (.cons (Dq.mono (s1.trans g.k) _ _ p4) .nil))⟩
theorem ie_zipS {ds es : List PyData} (h : E q δ ta (.tuple ds)) (h2 : E q δ tb (.tuple es)) : IE q δ (Zm.iZipS K (tCons ta (tCons tb tNil))) (zipD ds es) := fun σ H H1 n sg o R k =>
  h σ H H1 n sg o _ fun d v Hk H2 g o1 e dv => h2 σ Hk H2 n (sg.mono g.k) o1 _ fun d' v' Hk' H3 g' o2 e' dv' => by
    subst e; subst e'
    obtain ⟨a, xs, rfl, p1, p2⟩ := (Dq.mono g'.k _ _ dv).tupOf
    obtain ⟨b, ys, rfl, p3, p4⟩ := dv'.tupOf
    exact ⟨a, b, xs, ys, rfl, .inl (p1.mono g'.a).rd, .inl (p3.mono g'.a).rd, k _ _ Hk' H3 (g.trans g') o2 rfl (walk_zipS p1 p2 p3 p4)⟩
end
end Cr

set_option Elab.async false
set_option linter.all false
set_option maxRecDepth 100000
set_option maxHeartbeats 800000
namespace Cr
open PySem PySem.Spec PyProof.Rows L2
/-! ### xs[-2::-1] of a list -/
theorem pickBack (items : Array Value) : slicePick items (some (-2)) none (some (-1)) = items.toList.dropLast.reverse.toArray := by
  unfold slicePick
  have b : sliceBounds (some (-2)) none (some (-1)) items.size = (((items.size - 1 : Nat) : Int) - 1, -1, -1) := by
    show (max (-1 : Int) (min (-2 + (items.size : Int)) ((items.size : Int) - 1)), (-1 : Int), (-1 : Int)) = _
    congr 1
    omega
  rw [b]
  show ((sliceRange (((items.size - 1 : Nat) : Int) - 1) (-1) (-1)).filterMap (items[·]?)).toArray = _
  rw [PySem.W.krv_sliceRange, PySem.W.krv_range, List.filterMap_reverse]
  have h := PySem.pick_run items 0 (items.size - 1)
  have e : (List.range (items.size - 1)).map (0 + ·) = List.range (items.size - 1) := by
    rw [show ((0 + ·) : Nat → Nat) = id from funext fun k => Nat.zero_add k, List.map_id]
  rw [e, List.drop_zero] at h
  rw [h, List.dropLast_eq_take, Array.length_toList]
def tBackL (K : PySem.W.Frag) (te : TE) : TE := fun σ H Q => te σ H fun x H1 => ∃ a xs, x = .ref a ∧ SqL K H1 a xs ∧ ∀ p, H1 p = none → Q (.ref p) (upd H1 p (.lst xs.dropLast.reverse))
theorem dl_vals : ∀ {xs : List V} {us : List Value}, Vals xs us → Vals xs.dropLast us.dropLast
  | _, _, .nil => .nil
  | [_], _, .cons h .nil => .nil
  | _ :: _ :: _, _, .cons h (.cons h2 t) => by
    rw [List.dropLast_cons₂, List.dropLast_cons₂]
    exact .cons h (dl_vals (.cons h2 t))
theorem pe_backL {X : Cx} {K : PySem.W.Frag} {e : Expr} {te : TE} {k k2 : Nat} {p1 p2 p3 p4 p5 pos : Pos} (hK : X.K = K) (he : PE X e te) : PE X (.Subscript e (.Slice (some (.UnaryOp .USub (.Constant (.int 2) k2 p4) p5)) none (some (.UnaryOp .USub (.Constant (.int 1) k p1) p2)) p3) pos) (tBackL K te) := by
  subst hK
  refine ⟨fun pins s σ H Q I h => ?_⟩
  refine Subscript_ (thn (he.run pins s σ H _ I h) fun v s1 ⟨x, H1, I1, r1, q1⟩ => ?_)
  obtain ⟨a, xs, ex, hx, q⟩ := q1
  subst ex
  cases r1
  have hst : PO X (some (.UnaryOp .USub (.Constant (.int 1) k p1) p2)) (tPart (tUn (rU fun i => .int (-i)) (tC (.int 1)))) := po_some (pe_un un_neg pe_int)
  have hs2 : PO X (some (.UnaryOp .USub (.Constant (.int 2) k2 p4) p5)) (tPart (tUn (rU fun i => .int (-i)) (tC (.int 2)))) := po_some (pe_un un_neg pe_int)
  refine wpAny_Slice (thn (hs2.run pins s1 σ H1 (fun o H2 => o = some (-2) ∧ H2 = H1) I1 ⟨2, rfl, -2, rfl, rfl, rfl⟩) fun vl s2 ⟨l, H2, I2, pl, el, e2⟩ => ?_)
  subst el e2
  refine thn (po_none.run pins s2 σ H2 (fun o H3 => o = none ∧ H3 = H2) I2 ⟨rfl, rfl⟩) fun vu s3 ⟨u, H3, I3, pu, eu, e3⟩ => ?_
  subst eu e3
  refine thn (hst.run pins s3 σ H3 (fun o H4 => o = some (-1) ∧ H4 = H3) I3 ⟨1, rfl, -1, rfl, rfl, rfl⟩) fun vs s4 ⟨o, H4, I4, ps, eo, e4⟩ => ?_
  subst eo e4
  have I5 : Inv X pins σ H4 { s4 with heap := s4.heap.push { cls := .type "slice", data := .fields #[vl, vu, vs] } } := I4.kept (t' := s4.toks) fun b ob q => Heap.get?_push_of_some _ q
  obtain ⟨its, r, ht, hz⟩ := I5.list hx
  have hlen := r.length
  show wpAny (model X.prog X.w) X.A (subscriptTail e (.Slice (some (.UnaryOp .USub (.Constant (.int 2) k2 p4) p5)) none (some (.UnaryOp .USub (.Constant (.int 1) k p1) p2)) p3) (.ref a) (.ref s4.heap.objs.size)) (EP X pins σ Q) X.xe { s4 with heap := s4.heap.push { cls := .type "slice", data := .fields #[vl, vu, vs] } }
  refine tail_any (ops := [.ref a, .ref s4.heap.objs.size]) ht.isList.typeIs (PySem.slot_list_getitem.lookup) ?_ (by with_unfolding_all rfl)
  refine wpAny_getItem_list_slice ht.isList (Heap.IsSliceOf.new _ vl vu vs) pl pu ps (by decide) ?_ (by rw [List.size_toArray]; omega)
  rw [pickBack]
  refine ⟨.ref _, _, I5.laid (t' := s4.toks) (o := .lst xs.dropLast.reverse) (fun b ob q => Heap.get?_push_of_some _ q) (Nat.le_refl _) ?_, rfl, q _ (I5.hok.fresh (Nat.le_refl _))⟩
  exact ⟨by rw [List.length_reverse, List.length_dropLast]; omega, _, 0, (dl_vals r).reverse, Heap.get?_push_size _ rfl⟩
section
variable {K : PySem.W.Frag} {q : Option Addr} {δ : List Sl} {te ta tb : TE}
theorem DqAll.dropLast {H : Hp} : ∀ {vs : List V} {ds : List PyData}, DqAll H vs ds → DqAll H vs.dropLast ds.dropLast
  | _, _, .nil => .nil
  | _, _, .cons h .nil => .nil
  | _, _, .cons h (.cons h2 t) => by
    rw [List.dropLast_cons₂, List.dropLast_cons₂]
    exact .cons h (DqAll.dropLast (.cons h2 t))
theorem e_backL {ds : List PyData} (h : E q δ te (.list ds)) : E q δ (tBackL K te) (.list ds.dropLast.reverse) := fun σ H H1 n sg o Q k =>
  h σ H H1 n sg o _ fun d v Hk H2 g o1 ed dv => by
    subst ed
    obtain ⟨a, xs, rfl, h1, h2⟩ := dv.lstOf
    refine ⟨a, xs, rfl, SqL.of1 (g.a _ _ h1), fun p hp => ?_⟩
    have g1 := Gr.new (q := none) (o := .lst xs.dropLast.reverse) g.a hp
    exact k _ _ _ _ (g.trans g1.none_to) (o1.go g1) rfl (.lst upd_same (DqAll.mono g1.k _ _ h2.dropLast.reverse))
/-! ### list(range(..)), tuple(range(..)) -/
def rgI (a b : Int) : List Int := (List.range (b - a).toNat).map fun i => a + (i : Nat)
theorem dq_rg {H : Hp} (a b : Int) : DqAll H (rgV a b) ((rgI a b).map .int) := by
  unfold rgV rgI
  rw [List.map_map]
  induction (List.range (b - a).toNat) with
  | nil => exact .nil
  | cons x r ih => exact .cons (.int _) ih
theorem e_tupRg {a b : Int} (h : E q δ ta (.int a)) (h2 : E q δ tb (.int b)) (ok : RgOk a b) : E q δ (tTupRg (tRg2 ta tb)) (pol (rgI a b)) := fun σ H H1 n sg o Q k =>
  h σ H H1 n sg o _ fun d v Hk H2 g o1 ed dv => h2 σ Hk H2 n (sg.mono g.k) o1 _ fun d' v' Hk' H3 g' o2 ed' dv' => by
    subst ed; subst ed'
    have e1 : v = .int a := by cases dv; rfl
    have e2 : v' = .int b := by cases dv'; rfl
    refine ⟨a, b, e1, e2, ok, fun p hp => ?_⟩
    have g1 := Gr.new (q := none) (o := .tup (rgV a b)) g'.a hp
    exact k _ _ _ _ ((g.trans g').trans g1.none_to) (o2.go g1) rfl (.tup (.inr ⟨by cases (rgI a b) <;> rfl, upd_same⟩) (dq_rg a b))
theorem e_lstRg1 {b : Int} (h2 : E q δ tb (.int b)) (ok : RgOk 0 b) : E q δ (tLstRg (tRg1 tb)) (.list ((rgI 0 b).map .int)) := fun σ H H1 n sg o Q k =>
  h2 σ H H1 n sg o _ fun d' v' Hk' H3 g' o2 ed' dv' => by
    subst ed'
    have e2 : v' = .int b := by cases dv'; rfl
    refine ⟨b, e2, ok, fun p hp => ?_⟩
    have g1 := Gr.new (q := none) (o := .lst (rgV 0 b)) g'.a hp
    exact k _ _ _ _ (g'.trans g1.none_to) (o2.go g1) rfl (.lst upd_same (dq_rg 0 b))
end
end Cr

set_option Elab.async false
set_option linter.all false
set_option maxRecDepth 100000
set_option maxHeartbeats 800000
namespace Cr
open PySem PySem.Spec PyProof.Rows L2
/-! x - r times a polynomial, and back -/
def ml (c r : Int) : List Int → List Int
  | [] => [c]
  | a :: f => (c - r * a) :: ml a r f
def mlin (f : List Int) (r : Int) : List Int := ml 0 r f
def hornL (r : Int) : List Int → List Int
  | [] => []
  | a :: f => evalP (a :: f) r :: hornL r f
theorem evalP_cons (a : Int) (f : List Int) (x : Int) : evalP (a :: f) x = evalP f x * x + a := rfl
theorem ml_len (r : Int) : ∀ (f : List Int) (c : Int), (ml c r f).length = f.length + 1
  | [], _ => rfl
  | a :: f, _ => by show (ml a r f).length + 1 = _; rw [ml_len r f a]; rfl
theorem mlin_len (f : List Int) (r : Int) : (mlin f r).length = f.length + 1 := ml_len r f 0
theorem ml_val (r x : Int) : ∀ (f : List Int) (c : Int), evalP (ml c r f) x = c + (x - r) * evalP f x
  | [], c => by show (0 : Int) * x + c = c + (x - r) * 0; grind
  | a :: f, c => by
    show evalP (ml a r f) x * x + (c - r * a) = c + (x - r) * (evalP f x * x + a)
    rw [ml_val r x f a]; grind
theorem mlin_val (f : List Int) (r x : Int) : evalP (mlin f r) x = (x - r) * evalP f x := by unfold mlin; rw [ml_val, Int.zero_add]
theorem hornL_ml (r : Int) : ∀ (f : List Int) (c : Int), hornL r (ml c r f) = c :: f
  | [], c => by show [(0 : Int) * r + c] = [c]; rw [Int.zero_mul, Int.zero_add]
  | a :: f, c => by
    show evalP (ml c r (a :: f)) r :: hornL r (ml a r f) = _
    rw [hornL_ml r f a, ml_val, Int.sub_self, Int.zero_mul, Int.add_zero]
theorem hornL_mlin (f : List Int) (r : Int) : (hornL r (mlin f r)).tail = f := by unfold mlin; rw [hornL_ml]; rfl
theorem ml_comm (a b : Int) : ∀ (f : List Int) {c d c' d' : Int}, d = d' → c - b * d = c' - a * d' → ml c b (ml d a f) = ml c' a (ml d' b f)
  | [], c, d, c', d', h, e => by
    show [c - b * d, d] = [c' - a * d', d']
    rw [e, h]
  | x :: f, c, d, c', d', h, e => by
    show (c - b * (d - a * x)) :: ml (d - a * x) b (ml x a f) = (c' - a * (d' - b * x)) :: ml (d' - b * x) a (ml x b f)
    rw [ml_comm a b f (c := d - a * x) (d := x) (c' := d' - b * x) (d' := x) rfl (by rw [h]; grind)]
    congr 1
    grind
theorem mlin_comm (f : List Int) (a b : Int) : mlin (mlin f a) b = mlin (mlin f b) a := ml_comm a b f rfl (by grind)
theorem ml_get (r : Int) : ∀ (f : List Int) (c : Int) (n : Nat), (ml c r f).getD n 0 = (c :: f).getD n 0 - r * f.getD n 0
  | [], c, 0 => by simp [ml]
  | [], c, n + 1 => by simp [ml]
  | a :: f, c, 0 => by simp [ml]
  | a :: f, c, n + 1 => by
    show (ml a r f).getD n 0 = (a :: f).getD n 0 - r * f.getD n 0
    exact ml_get r f a n
theorem getD_ext {f g : List Int} (hl : f.length = g.length) (h : ∀ n, f.getD n 0 = g.getD n 0) : f = g := List.ext_getElem? fun n => by
  by_cases hn : n < f.length
  · rw [getD_lt hn, getD_lt (by omega), h]
  · rw [List.getElem?_eq_none (by omega), List.getElem?_eq_none (by omega)]
theorem tot_mapk (a c : Int) (l : List (Int × Int)) (k : Int) : tot (l.map fun x => (a + x.1, c * x.2)) k = c * tot l (k - a) := by
  induction l with
  | nil => show (0 : Int) = c * 0; rw [Int.mul_zero]
  | cons x l ih =>
    show (if a + x.1 = k then c * x.2 else 0) + tot (l.map fun x => (a + x.1, c * x.2)) k = c * ((if x.1 = k - a then x.2 else 0) + tot l (k - a))
    rw [ih, Int.mul_add]
    by_cases h : a + x.1 = k
    · rw [if_pos h, if_pos (by omega)]
    · rw [if_neg h, if_neg (by omega), Int.mul_zero]
theorem conv_lin {f : List Int} (hf : f ≠ []) (r : Int) : conv f [-r, 1] = mlin f r := by
  have h0 : 0 < f.length := List.length_pos_iff.mpr hf
  refine getD_ext (by rw [conv_len, mlin_len]; simp) fun n => ?_
  rw [conv_comm, conv_get]
  unfold mlin
  rw [ml_get]
  have e : prodL (en [-r, 1]) (en f) = (en f).map (fun y => (0 + y.1, -r * y.2)) ++ (en f).map (fun y => (1 + y.1, 1 * y.2)) := by
    show ((en f).map (fun y => (_, _)) ++ ((en f).map (fun y => (_, _)) ++ [])) = _
    rw [List.append_nil]
    rfl
  rw [e, tot_append, tot_mapk, tot_mapk, Int.sub_zero, Int.one_mul]
  have e1 : ∀ m : Nat, tot (en f) (m : Int) = f.getD m 0 := fun m => by
    have z := tot_enF f 0 m
    rw [Nat.zero_add] at z
    exact z
  rw [e1]
  cases n with
  | zero =>
    rw [show tot (en f) (((0 : Nat) : Int) - 1) = 0 from tot_no fun z => by
      obtain ⟨y, hy, e⟩ := List.mem_map.mp z
      have := (enF_mem (k := 0) hy).1
      omega]
    show -r * f.getD 0 0 + 0 = 0 - r * f.getD 0 0
    grind
  | succ m =>
    rw [show (((m + 1 : Nat) : Int) - 1) = (m : Int) by omega, e1]
    show -r * f.getD (m + 1) 0 + f.getD m 0 = f.getD m 0 - r * f.getD (m + 1) 0
    grind
/-! products over lists of keys -/
def lagr (l : List Int) : List Int := l.foldl mlin [1]
theorem lagr_roots (l : List Int) : rootsP l = lagr l := by
  unfold rootsP lagr
  suffices h : ∀ (l z : List Int), z ≠ [] → l.foldl (fun P r => conv P [-r, 1]) z = l.foldl mlin z from h l [1] (by simp)
  intro l
  induction l with
  | nil => intro z _; rfl
  | cons a l ih =>
    intro z hz
    show l.foldl (fun P r => conv P [-r, 1]) (conv z [-a, 1]) = l.foldl mlin (mlin z a)
    rw [conv_lin hz]
    exact ih _ fun e => by have := mlin_len z a; rw [e] at this; simp at this
theorem fold_comm (k : Int) : ∀ (l z : List Int), l.foldl mlin (mlin z k) = mlin (l.foldl mlin z) k
  | [], _ => rfl
  | a :: l, z => by
    show l.foldl mlin (mlin (mlin z k) a) = mlin (l.foldl mlin (mlin z a)) k
    rw [mlin_comm, fold_comm k l]
def others (l : List Int) (k : Int) : List Int := l.filter fun x => decide (x ≠ k)
theorem others_none {l : List Int} {k : Int} (h : k ∉ l) : others l k = l := List.filter_eq_self.mpr fun x hx => decide_eq_true fun e => h (e ▸ hx)
theorem fold_out {k : Int} : ∀ {l : List Int} (z : List Int), k ∈ l → l.Nodup → l.foldl mlin z = mlin ((others l k).foldl mlin z) k
  | a :: l, z, hk, hn => by
    have hn' := List.nodup_cons.mp hn
    by_cases e : a = k
    · subst e
      have eo : others (a :: l) a = l := by
        unfold others
        rw [List.filter_cons_of_neg (by simp)]
        exact others_none hn'.1
      rw [eo]
      exact fold_comm a l z
    · have eo : others (a :: l) k = a :: others l k := List.filter_cons_of_pos (by simpa using e)
      rw [eo]
      have hk' : k ∈ l := by
        rcases List.mem_cons.mp hk with h | h
        · exact absurd h.symm e
        · exact h
      exact fold_out (mlin z a) hk' hn'.2
def lag (l : List Int) (k : Int) : List Int := lagr (others l k)
theorem lagr_out {l : List Int} {k : Int} (h : k ∈ l) (hn : l.Nodup) : lagr l = mlin (lag l k) k := fold_out [1] h hn
theorem lagr_ne (l : List Int) (k : Int) : evalP (lagr (others l k)) k ≠ 0 := by
  unfold lagr
  suffices h : ∀ (l z : List Int), k ∉ l → evalP z k ≠ 0 → evalP (l.foldl mlin z) k ≠ 0 from h _ [1] (fun z => by simpa using (List.mem_filter.mp z).2) (by show (0 : Int) * k + 1 ≠ 0; omega)
  intro l
  induction l with
  | nil => intro z _ hz; exact hz
  | cons a l ih =>
    intro z hk hz
    refine ih (mlin z a) (fun h => hk (List.mem_cons_of_mem _ h)) ?_
    rw [mlin_val]
    have : k - a ≠ 0 := fun e => hk (by rw [show k = a by omega]; simp)
    exact Int.mul_ne_zero this hz
theorem lagr_val (x : Int) : ∀ (l z : List Int), evalP (l.foldl mlin z) x = l.foldl (fun b t => b * (x - t)) (evalP z x)
  | [], _ => rfl
  | a :: l, z => by
    show evalP (l.foldl mlin (mlin z a)) x = l.foldl (fun b t => b * (x - t)) (evalP z x * (x - a))
    rw [lagr_val x l, mlin_val, Int.mul_comm]
/-! what is shared out, and the only ledger on keys -/
def dotI (f g : List Int) : Int := (zmul f g).sum
def share (keys nums : List Int) (k : Int) : Int × Int := (dotI (lag keys k) nums, evalP (lag keys k) k)
def shBad (keys nums : List Int) (k : Int) : Bool := decide ((share keys nums k).1.fmod (share keys nums k).2 ≠ 0)
def shPair (keys nums : List Int) (k : Int) : Int × Int := (k, (share keys nums k).1.fdiv (share keys nums k).2)
def onlyB (keys nums : List Int) : List (Int × Int) := (keys.map (shPair keys nums)).filter fun x => decide (x.2 ≠ 0)
def onlyL (keys nums : List Int) : Option (List (Int × Int)) := if keys.any (shBad keys nums) = true then none else if psums (onlyB keys nums) nums.length = nums then some (onlyB keys nums) else none
def oLed : Option (List (Int × Int)) → PyData
  | none => .none
  | some l => led l
theorem tot_nz (l : List (Int × Int)) (k : Int) : tot (l.filter fun x => decide (x.2 ≠ 0)) k = tot l k := by
  induction l with
  | nil => rfl
  | cons x l ih =>
    by_cases h : x.2 = 0
    · rw [List.filter_cons_of_neg (by simpa using h), ih]
      show _ = (if x.1 = k then x.2 else 0) + tot l k
      rw [h]; split <;> omega
    · rw [List.filter_cons_of_pos (by simpa using h)]
      show (if x.1 = k then x.2 else 0) + tot (l.filter fun x => decide (x.2 ≠ 0)) k = (if x.1 = k then x.2 else 0) + tot l k
      rw [ih]
theorem gather_nz {l : List (Int × Int)} (h : l.Pairwise fun a b => a.1 < b.1) : gather l = l.filter fun x => decide (x.2 ≠ 0) := by
  rw [gather_ext (ds := l.filter fun x => decide (x.2 ≠ 0)) fun k => (tot_nz l k).symm]
  exact gather_self ⟨h.filter _, fun x hx => by simpa using (List.mem_filter.mp hx).2⟩
theorem onlyB_gather {keys nums : List Int} (h : keys.Pairwise (· < ·)) : gather (keys.map (shPair keys nums)) = onlyB keys nums := gather_nz (List.pairwise_map.mpr h)
/-! bounds -/
theorem lag_len_le (l : List Int) (k : Int) : (others l k).length ≤ l.length := List.length_filter_le ..
theorem lag_CB {l : List Int} (h : CB 56 l) (hl : l.length ≤ 400) (k : Int) : CB (1 + 70 * l.length) (lag l k) := by
  have h2 : CB 56 (others l k) := fun a ha => h a (List.mem_filter.mp ha).1
  have z := rootsP_CB h2 (Nat.le_trans (lag_len_le l k) hl) _ (Nat.le_refl _)
  rw [List.take_length, lagr_roots] at z
  have := lag_len_le l k
  exact z.mono (by omega)
theorem lag_len (l : List Int) (k : Int) : (lag l k).length = (others l k).length + 1 := by
  unfold lag
  rw [← lagr_roots]
  have := rootsP_len (others l k) _ (Nat.le_refl _)
  rw [List.take_length] at this
  exact this
theorem lag_len_in {l : List Int} {k : Int} (h : k ∈ l) (hn : l.Nodup) : (lag l k).length = l.length := by
  have e := congrArg List.length (lagr_out h hn)
  rw [mlin_len, ← lagr_roots] at e
  have := rootsP_len l _ (Nat.le_refl _)
  rw [List.take_length] at this
  omega
theorem dot_bits {f g : List Int} {B C N : Nat} (hf : CB B f) (hg : CB C g) (hl : f.length ≤ 2 ^ N) : (dotI f g).natAbs < 2 ^ (B + C + N + 1) := by
  refine sum_bits (fun x hx => ?_) (by unfold zmul; rw [List.length_map, List.length_zip]; omega)
  obtain ⟨y, hy, rfl⟩ := List.mem_map.mp hx
  have hz := List.of_mem_zip (a := y.1) (b := y.2) hy
  exact mul_bits (hf _ hz.1) (hg _ hz.2)
theorem fdiv_le {a b : Int} (hb : b ≠ 0) (h : a.fmod b = 0) : (a.fdiv b).natAbs ≤ a.natAbs := by
  have e := congrArg Int.natAbs (fdiv_back h)
  rw [Int.natAbs_mul] at e
  have : 1 ≤ b.natAbs := by omega
  rw [← e]
  exact Nat.le_mul_of_pos_right _ this
theorem share_bot (keys nums : List Int) (k : Int) : (share keys nums k).2 ≠ 0 := lagr_ne keys k
theorem share_top {keys nums : List Int} {B : Nat} (h : CB 56 keys) (hl : keys.length ≤ 400) (hn : CB B nums) (k : Int) : (share keys nums k).1.natAbs < 2 ^ (28020 + B) := by
  have z : (share keys nums k).1.natAbs < 2 ^ (1 + 70 * keys.length + B + 9 + 1) := dot_bits (N := 9) (lag_CB h hl k) hn (by rw [lag_len]; have := lag_len_le keys k; omega)
  exact lt_pow z (by omega)
theorem share_low {keys nums : List Int} (h : CB 56 keys) (hl : keys.length ≤ 60) {k : Int} (hk : k.natAbs < 2 ^ 56) : (share keys nums k).2.natAbs < 2 ^ 8500 := by
  have z := evalP_bound (x := k) (lt_pow hk (by omega)) (lag_CB h (by omega) k)
  rw [lag_len] at z
  have := lag_len_le keys k
  exact lt_pow z (by omega)
theorem shBad_no {keys nums : List Int} {k : Int} (h : shBad keys nums k = false) : (share keys nums k).1.fmod (share keys nums k).2 = 0 := by
  have := of_decide_eq_false h
  omega
theorem onlyB_Kb {keys nums : List Int} {B : Nat} (h : CB 56 keys) (hl : keys.length ≤ 400) (hn : CB B nums) (hb : keys.any (shBad keys nums) = false) : Kb 56 (28020 + B) (onlyB keys nums) := fun x hx => by
  obtain ⟨k, hk, rfl⟩ := List.mem_map.mp (List.mem_filter.mp hx).1
  have z := List.any_eq_false.mp hb k hk
  exact ⟨h k hk, Nat.lt_of_le_of_lt (fdiv_le (share_bot keys nums k) (shBad_no (by simpa using z))) (share_top h hl hn k)⟩
theorem onlyB_len (keys nums : List Int) : (onlyB keys nums).length ≤ keys.length := Nat.le_trans (List.length_filter_le ..) (by rw [List.length_map]; exact Nat.le_refl _)
theorem onlyB_led {keys nums : List Int} (h : keys.Pairwise (· < ·)) : Led (onlyB keys nums) := by rw [← onlyB_gather h]; exact gather_led _
/-! the loop of divided -/
theorem hornL_len (r : Int) : ∀ f : List Int, (hornL r f).length = f.length
  | [] => rfl
  | a :: f => by show (hornL r f).length + 1 = f.length + 1; rw [hornL_len r f]
theorem hornL_CB {f : List Int} {B : Nat} {r : Int} (hr : r.natAbs < 2 ^ 60) (hf : CB B f) : CB (B + 61 * f.length) (hornL r f) := by
  induction f with
  | nil => intro a ha; cases ha
  | cons x f ih =>
    intro a ha
    rcases List.mem_cons.mp ha with e | e
    · subst e; exact evalP_bound hr hf
    · exact lt_pow (ih (fun y hy => hf y (List.mem_cons_of_mem _ hy)) a e) (by simp; omega)
theorem tail_back (l : List Int) : (l.reverse.map PyData.int).dropLast.reverse = l.tail.map .int := by
  rw [← List.map_dropLast, ← List.map_reverse, List.dropLast_reverse, List.reverse_reverse]
end Cr
namespace L2
open PySem PySem.Spec PyProof.Rows
theorem k_any {X : Cx} {K : PySem.W.Frag} (h : X.K = K) (hc : X.calm = true) : CallR X (.builtin "any") (rAny K) := h ▸ cr_any hc
end L2
namespace Cr
open PySem PySem.Spec PyProof.Rows L2
section
variable {K : PySem.W.Frag} {q : Option Addr} {n : Nat} {δ : List Sl} {te : TE} {Φ : PyData → Prop} {d1 d2 d3 : PyData}
theorem rc_any {bs : List Bool} (hp : Φ (.bool (bs.any id))) : RCJ (rAny K) [.list (bs.map .bool)] Φ := fun vs H H1 h e Q k => by
  obtain ⟨v, rfl, h1⟩ := h.one
  obtain ⟨a, xs, rfl, h2, h3⟩ := h1.lstOf
  have e2 := DqAll.bls h3
  subst e2
  exact ⟨a, bs, rfl, .inl (.inl (e _ _ h2)), k _ _ H H1 (Gr.refl e) hp (.bl _)⟩
theorem e_any {bs : List Bool} (h : E q δ te (.list (bs.map .bool))) : E q δ (tCB (rAny K) (tCons te tNil)) (.bool (bs.any id)) := e_cb1 h (rc_any rfl)
theorem any_id_map {α : Type} (l : List α) (f : α → Bool) : (l.map f).any id = l.any f := by rw [List.any_map]; rfl
/-- key, (top, bottom) -/
theorem gb_tupN {i j k : Nat} {vs : List Nat} (h : i ∈ vs) (h' : j ∈ vs) (h2 : k ∈ vs) : GB δ (gTup K 2 (gCons (gName i) (gCons (gTup K 2 (gCons (gName j) (gCons (gName k) gNil))) gNil))) (.tuple [d1, .tuple [d2, d3]]) (((δ.set i (.dat d1)).set j (.dat d2)).set k (.dat d3)) vs := fun σ H H1 v sg s dv Q kk => by
  obtain ⟨a, xs, rfl, p1, p2⟩ := dv.tupOf
  obtain ⟨x, y, rfl, dx, dy⟩ := p2.two
  obtain ⟨b, ys, rfl, p3, p4⟩ := dy.tupOf
  obtain ⟨u, w, rfl, du, dw⟩ := p4.two
  refine ⟨a, [x, _], rfl, .inl (p1.mono s).rd, rfl, x, [_], rfl, _, [], rfl, b, [u, w], rfl, .inl (p3.mono s).rd, rfl, u, [w], rfl, w, [], rfl, rfl, ?_⟩
  refine ⟨rfl, kk _ (((sg.set i (s := .dat d1) dx).set j (s := .dat d2) du).set k (s := .dat d3) dw) (by rw [List.length_set, List.length_set, List.length_set]) fun l hl => ?_⟩
  rw [List.getElem?_set_ne (fun e => hl (by rw [← e]; exact h2)), List.getElem?_set_ne (fun e => hl (by rw [← e]; exact h')), List.getElem?_set_ne (fun e => hl (by rw [← e]; exact h))]
end
end Cr
namespace Cr
open PySem PySem.Spec PyProof.Rows L2
theorem rgI_len (a b : Int) : (rgI a b).length = (b - a).toNat := by unfold rgI; rw [List.length_map, List.length_range]
theorem rgI_asc (a b : Int) : (rgI a b).Pairwise (· < ·) := by
  unfold rgI
  refine List.pairwise_map.mpr (List.Pairwise.imp (fun {x y} h => ?_) List.pairwise_lt_range)
  omega
theorem asc_nodup {l : List Int} (h : l.Pairwise (· < ·)) : l.Nodup := List.Pairwise.imp (fun {x y} z => by omega) h
theorem rgI_nodup (a b : Int) : (rgI a b).Nodup := asc_nodup (rgI_asc a b)
theorem rgI_CB {a b : Int} (ha : a.natAbs < 2 ^ 55) (h0 : 0 ≤ b) (h1 : b ≤ 60) : CB 56 (rgI a (a + b)) := fun x hx => by
  obtain ⟨i, hi, rfl⟩ := List.mem_map.mp hx
  have := List.mem_range.mp hi
  omega
theorem pol_inj {f g : List Int} : f = g ↔ f.map PyData.int = g.map PyData.int := by
  constructor
  · intro h; rw [h]
  · intro h
    exact List.map_inj_right (fun x y e => by cases e; rfl) |>.mp h
theorem eqvAll_pols : ∀ f g : List Int, PyData.eqvAll (f.map .int) (g.map .int) = decide (f = g)
  | [], [] => by simp [PyData.eqvAll]
  | [], _ :: _ => by simp [PyData.eqvAll]
  | _ :: _, [] => by simp [PyData.eqvAll]
  | a :: f, b :: g => by
    show PyData.eqvAll (.int a :: f.map .int) (.int b :: g.map .int) = _
    have e : (a == b) = decide (a = b) := by by_cases h : a = b <;> simp [h]
    simp [PyData.eqvAll, PyData.eqv, eqvAll_pols f g, e]
theorem eqv_pols (f g : List Int) : PyData.eqv (pol f) (pol g) = decide (f = g) := by
  simp [pol, PyData.eqv, eqvAll_pols]
end Cr
namespace Cr
open PySem PySem.Spec PyProof.Rows L2
theorem getD_app0 : ∀ (f : List Int) (n : Nat), (f ++ [0]).getD n 0 = f.getD n 0
  | [], 0 => rfl
  | [], n + 1 => by simp
  | a :: f, 0 => rfl
  | a :: f, n + 1 => by
    show (f ++ [0]).getD n 0 = f.getD n 0
    exact getD_app0 f n
theorem mlin_range (f : List Int) (r : Int) : (List.range (0 :: f).length).map (fun k => (0 :: f).getD k 0 - r * (f ++ [0]).getD k 0) = mlin f r := by
  refine List.ext_getElem? fun n => ?_
  rw [List.getElem?_map]
  by_cases hn : n < f.length + 1
  · rw [List.getElem?_range (by simpa using hn), getD_lt (by rw [mlin_len]; exact hn)]
    unfold mlin
    show some ((0 :: f).getD n 0 - r * (f ++ [0]).getD n 0) = some _
    rw [ml_get, getD_app0]
  · rw [List.getElem?_eq_none (by simpa using hn), List.getElem?_eq_none (by rw [mlin_len]; omega)]; rfl
theorem zmul_range : ∀ {f g : List Int}, f.length ≤ g.length → (List.range f.length).map (fun k => f.getD k 0 * g.getD k 0) = zmul f g
  | [], _, _ => by simp [zmul]
  | a :: f, [], h => by simp at h
  | a :: f, b :: g, h => by
    rw [List.length_cons, List.range_succ_eq_map, List.map_cons, List.map_map]
    show a * b :: (List.range f.length).map (fun k => f.getD k 0 * g.getD k 0) = a * b :: zmul f g
    rw [zmul_range (by simpa using h)]
theorem lagr_CB {l : List Int} (h : CB 56 l) (hl : l.length ≤ 400) : CB (1 + 70 * l.length) (lagr l) := by
  have z := rootsP_CB h hl _ (Nat.le_refl _)
  rw [List.take_length, lagr_roots] at z
  exact z
theorem lagr_len (l : List Int) : (lagr l).length = l.length + 1 := by
  have z := rootsP_len l _ (Nat.le_refl _)
  rw [List.take_length, lagr_roots] at z
  exact z
theorem lagr_snoc (l : List Int) (t : Int) : lagr (l ++ [t]) = mlin (lagr l) t := by unfold lagr; rw [List.foldl_append]; rfl
theorem others_snoc (l : List Int) (k t : Int) : others (l ++ [t]) k = if t = k then others l k else others l k ++ [t] := by
  unfold others
  rw [List.filter_append]
  by_cases h : t = k
  · rw [if_pos h, List.filter_cons_of_neg (by simpa using h)]; simp
  · rw [if_neg h, List.filter_cons_of_pos (by simpa using h)]; simp
theorem others_CB {l : List Int} {B : Nat} (h : CB B l) (k : Int) : CB B (others l k) := fun a ha => h a (List.mem_filter.mp ha).1
theorem CB.app0 {f : List Int} {B : Nat} (h : CB B f) : CB B (f ++ [0]) := fun a ha => by
  rcases List.mem_append.mp ha with e | e
  · exact h a e
  · rw [List.mem_singleton.mp e]; exact Nat.pow_pos (by decide)
theorem CB.take {l : List Int} {B : Nat} (h : CB B l) (n : Nat) : CB B (l.take n) := fun a ha => h a (List.mem_of_mem_take ha)
theorem CB.drop {l : List Int} {B : Nat} (h : CB B l) (n : Nat) : CB B (l.drop n) := fun a ha => h a (List.mem_of_mem_drop ha)
theorem sub_bits {a b : Int} {B : Nat} (ha : a.natAbs < 2 ^ B) (hb : b.natAbs < 2 ^ B) : (a - b).natAbs < 2 ^ (B + 1) := by
  rw [Nat.pow_succ]
  omega
section
variable {K : PySem.W.Frag} {q : Option Addr} {n : Nat} {δ : List Sl} {te : TE} {A0 B0 Hk H1 : Hp} {σ : L2.St} {D : Ends} {tz t : TS}
theorem e_toInt {a : Int} (h : E q δ te (.int a)) : E q δ (tCB rIntQ (tCons te tNil)) (.int a) := (j_int (P := fun x => x = a) h.intP).imp fun d ⟨x, hx, e⟩ => by rw [e, hx]
/-- what follows is shown once, from what a statement leaves -/
theorem q_cut {I : L2.St → Hp → Prop} (h1 : ∀ D' : Ends, (∀ σ' H', I σ' H' → D'.nx σ' H') → t D' σ H1) (h2 : ∀ σ' H', I σ' H' → tz D σ' H') : tSeq t tz D σ H1 := h1 _ h2
end
theorem okS_oLed {o : Option (List (Int × Int))} (h : ∀ l, o = some l → l.length ≤ 100000) : okS 5 (oLed o) = true := by
  cases o with
  | none => rfl
  | some l => exact okS_led 2 (h l rfl)
theorem onlyL_len {keys nums : List Int} {l : List (Int × Int)} (h : onlyL keys nums = some l) : l.length ≤ keys.length := by
  unfold onlyL at h
  split at h
  · cases h
  · split at h
    · cases h; exact onlyB_len keys nums
    · cases h
end Cr

set_option Elab.async false
set_option linter.all false
set_option maxRecDepth 100000
set_option maxHeartbeats 3200000
/-! sorted(set(list of integers)) -/
namespace Cr
open PySem PySem.Spec PyProof.Rows L2
abbrev emptySet (w : World) : Obj := { cls := .type "set", dict := none, data := .set #[] 0 (.fresh 0 0 (!w.params.followText "set-order")) }
section
variable {P : Program} {w : World} {A : Around} {E : Value → Shared → Prop} {s : Shared}
/-- the body of set.__init__ with a list of integers: the set stands at S -/
theorem fill_set {S l : Addr} {items : Array Value} (ns : List Int) {R : Value → Shared → Prop} (hh : A.handled = none) (hS : s.heap.get? S = some (emptySet w))
    (hl : s.heap.IsList l items) (ne : l ≠ S) (hit : PyProof.Rows.IntsAre items.toList ns) (hb : ns.length + 1 < scanBound)
    (hR : ∀ (h' : Heap) (tk c : Nat), SetR w h' S (fun j => decide (j ∈ ns)) c → c ≤ ns.length → (∀ b o, b ≠ S → s.heap.get? b = some o → h'.get? b = some o) → R .none { s with heap := h', toks := tk }) :
    wpAny (model P w) A (Builtin.«set.__init__» ⟨[.ref S, .ref l], []⟩) (fun fin s' => ∃ v, fin = .done (.ret v) ∧ R v s') E s := by
  have ln : items.size = ns.length := by rw [← Array.length_toList]; exact PyProof.Rows.IntsAre.length hit
  have hlS : l < s.heap.objs.size := by obtain ⟨_, e, _⟩ := hl; exact Heap.lt_size e
  have hSS : S < s.heap.objs.size := Heap.lt_size hS
  have walk : WalksS P w A.in1 _ _ _ _ _ _ _ := (Walks.list (A := A.in1) (w := w) (prog := P) (by simp [hh]) s.heap.objs.size l (Nat.ne_of_lt hlS) items).toS
  obtain ⟨ol, hol, hcl, nl, hdl⟩ := id hl
  obtain ⟨ocls, odict, odata, oslots⟩ := ol
  simp only at hcl hdl
  subst hcl; subst hdl
  have c1 := F.sub_list_set
  have c2 := F.sub_list_frozenset
  have c3 : (Value.type "list" == Value.type "dict") = false := by decide
  unfold Builtin.«set.__init__» noKeywords Builtin.Frozenset.updateFrom
  generalize hPI : pyIter = PI
  wp_walk
  subst hPI
  have val : ∀ (i : Nat) (v : Value), items[i]? = some v → ∃ k t, ns[i]? = some k ∧ v = .int k t := fun i v hv => by
    obtain ⟨hi, _⟩ := Array.getElem?_eq_some_iff.mp hv
    rw [ln] at hi
    obtain ⟨t, e⟩ := PyProof.Rows.IntsAre.int_at hit i v (by rw [Array.getElem?_toList]; exact hv)
    exact ⟨ns[i], t, List.getElem?_eq_getElem hi, by rw [e, List.getD_eq_getElem?_getD, List.getElem?_eq_getElem hi]; rfl⟩
  have away : S ∉ [s.heap.objs.size, l] := by
    rw [List.mem_cons, List.mem_singleton]
    rintro (z | z)
    · exact absurd z (Nat.ne_of_lt hSS)
    · exact ne z.symm
  refine wpAny_pyIter_list hl (wpAny_bind (wpAny_runValue (set_update_ints walk S away ns ln hb val _ 0 _ rfl (Nat.zero_le _) ⟨⟨_, Heap.get?_push_size _ rfl, rfl, rfl⟩, hl.push _⟩ ⟨0, Nat.le_refl 0, setR_new_at (Heap.get?_push_of_some _ hS)⟩ fun s' c hm hc hS' => ?_)))
  obtain ⟨h', g', d', tk', o'⟩ := s'
  obtain rfl : g' = s.gens := hm.gens
  obtain rfl : d' = s.drawn := hm.drawn
  obtain rfl : o' = s.os := hm.os
  refine wpAny_pure (wpAny_pure ⟨_, rfl, hR h' tk' c hS' (by rw [← ln]; exact hc) fun b o hb' e => hm.heap b o (fun z => ?_) (Heap.get?_push_of_some _ e)⟩)
  rcases List.mem_cons.mp z with z | z
  · exact hb' z
  · exact absurd (List.mem_singleton.mp z) (Nat.ne_of_lt (Heap.lt_size e))
/-- set(xs) of a list of integers -/
theorem call_setL {l : Addr} {items : Array Value} (ns : List Int) {Q : Value → Shared → Prop} (hh : A.handled = none) (hl : s.heap.IsList l items) (hit : PyProof.Rows.IntsAre items.toList ns) (hb : ns.length + 1 < scanBound)
    (h : ∀ (h' : Heap) (tk c : Nat), SetR w h' s.heap.objs.size (fun j => decide (j ∈ ns)) c → c ≤ ns.length → (∀ b o, s.heap.get? b = some o → h'.get? b = some o) → Q (.ref s.heap.objs.size) { s with heap := h', toks := tk }) :
    wpAny (model P w) A (call (.type "set") [.ref l]) Q E s := by
  have top : (s.heap.push (emptySet w)).get? s.heap.objs.size = some (emptySet w) := Heap.get?_push_size _ rfl
  have ty : Shared.TypeIs { s with heap := s.heap.push (emptySet w) } (.ref s.heap.objs.size) "set" := ⟨_, top, rfl⟩
  have far : l < s.heap.objs.size := by obtain ⟨_, e, _⟩ := hl; exact Heap.lt_size e
  obtain ⟨m1, m2, m3⟩ := F.called_set.mro
  have m4 := F.called_set.made
  have m5 := F.called_set.sub
  have m6 := F.called_set.notType
  have m7 := F.called_set.canCreate
  have m8 := F.typeCall_set_1 (.ref l)
  have m9 := F.called_set.init.lookup
  have mA := F.called_set.init.bind (.ref s.heap.objs.size)
  refine wpAny_call (codeAny_of_tree ?_)
  show wpAny _ _ (callAny (.type "set") _) _ _ _
  refine wpAny_pure ⟨Code.quiet_builtin _ (by decide +kernel), codeAny_builtin F.entry_type_call ?_⟩
  rw [Around.under_plain (weight_type_call_type "set" [.ref l] []) rfl]
  repeat (any_goals (first | assumption | wp_step))
  refine codeAny_mono (code_set_led1 (.ref l) (E := E) (Q₁ := fun o t => o = .ref s.heap.objs.size ∧ t = { s with heap := s.heap.push (emptySet w) }) ⟨rfl, rfl⟩) fun r t hr => ?_
  rcases r with e | fl
  · exact hr
  cases fl with
  | ret o =>
    obtain ⟨rfl, rfl⟩ := hr
    repeat (any_goals (first | assumption | wp_step))
    refine codeAny_mono (codeAny_call_builtin (R := wants (fun r t => r = .none ∧ ∃ h' tk c, t = { s with heap := h', toks := tk } ∧ SetR w h' s.heap.objs.size (fun j => decide (j ∈ ns)) c ∧ c ≤ ns.length ∧ ∀ b o, s.heap.get? b = some o → h'.get? b = some o) E) F.called_set.init.plain F.entry_set_init (check_set_init_1 ty ?_)) fun r t hr => ?_
    · refine thn (fill_set (R := fun r t => r = .none ∧ ∃ h' tk c, t = { s with heap := h', toks := tk } ∧ SetR w h' s.heap.objs.size (fun j => decide (j ∈ ns)) c ∧ c ≤ ns.length ∧ ∀ b o, s.heap.get? b = some o → h'.get? b = some o) ns (by simp [hh]) top (hl.push _) (Nat.ne_of_lt far) hit hb fun h' tk c p1 p2 p3 => ⟨rfl, h', tk, c, rfl, p1, p2, fun b o e => p3 b o (Nat.ne_of_lt (Heap.lt_size e)) (Heap.get?_push_of_some _ e)⟩) fun fin t z => ?_
      obtain ⟨v, rfl, q⟩ := z
      exact q
    · rcases r with e | fl
      · exact hr
      cases fl with
      | ret r =>
        obtain ⟨rfl, h', tk, c, rfl, p1, p2, p3⟩ := hr
        repeat (any_goals (first | assumption | wp_step))
        exact h _ _ _ p1 p2 p3
      | _ => exact hr.elim
  | _ => exact hr.elim
end
def tSrtSet (K : PySem.W.Frag) (te : TE) : TE := fun σ H Q => te σ H fun x H1 => ∃ (l : Addr) (ns : List Int), x = .ref l ∧ SqL K H1 l (ns.map V.int) ∧ ns.length < 63 ∧
  ∀ (ks : List Int) (p : Addr), ks.Pairwise (· < ·) → (∀ k, k ∈ ks ↔ k ∈ ns) → H1 p = none → Q (.ref p) (upd H1 p (.lst (ks.map V.int)))
theorem pe_srtSet {X : Cx} {K : PySem.W.Frag} {e : Expr} {te : TE} {p p2 q pos : Pos} (hK : X.K = K) (hc : X.calm = true) (hg : Gl X "sorted") (hm : X.mg "sorted" = none) (hg2 : Gl X "set") (hm2 : X.mg "set" = none) (he : PE X e te)
    (na : starEach [e] X.env = (false, eval e X.env) :: starEach [] X.env := by rfl) : PE X (.Call (.Name "sorted" p) [.Call (.Name "set" p2) [e] [] q] [] pos) (tSrtSet K te) := by
  subst hK
  refine ⟨fun pins s σ H Q I h => Call_ (ld_blt I hg hm (show bootBuiltins "sorted" = some (.builtin "sorted") from by decide +kernel) (PyProof.Rows.callWith_builtin1 (PyProof.Rows.args_cons (Call_ (ld_blt I hg2 hm2 PyProof.Rows.boot_set (PyProof.Rows.callWith_type1 (PyProof.Rows.args_cons (thn (he.run pins s σ H _ I h) fun v s1 ⟨x, H1, I1, r1, q1⟩ => PyProof.Rows.args_nil ?_) na) na rfl))) rfl) rfl rfl))⟩
  obtain ⟨l, ns, rfl, hl, hlen, kont⟩ := q1
  cases r1
  obtain ⟨its, rv, pl, hz⟩ := I1.list hl
  refine call_setL ns (I1.ok.hd hc) pl.isList (by simpa using RZ.intsAre_vals rv) (by unfold scanBound; omega) fun h' tk c R hcl hk => PyProof.Rows.args_nil ?_
  have I2 : Inv X pins σ H1 { s1 with heap := h', toks := tk } := I1.kept hk
  have R2 : SetR X.w ({ s1 with heap := h', toks := tk } : Shared).heap s1.heap.objs.size (fun j => decide (j ∈ ns)) c := R
  generalize ({ s1 with heap := h', toks := tk } : Shared) = s2 at I2 R2
  refine sorted_set R2 (I2.ok.hd hc) (by omega) fun s' p out c2 ks kk g o hp hg hi hs hmem hl2 => ?_
  have hn : H1 p = none := I2.hok.fresh hp
  have J : Inv X pins σ (upd H1 p (.lst (ks.map V.int))) { s2 with heap := s'.heap, gens := s'.gens, drawn := s'.drawn, toks := s'.toks } :=
    I2.call (ch := []) (Un.laid kk hp hn) (I2.hok.laid kk hp ⟨by rw [List.length_map, hl2, sizeLine_eq]; omega, out.toList, c2, vals_of_ints hi, hg⟩) (by rw [g]; exact I2.bare) (fun _ z => nomatch z)
  obtain ⟨h2, g2, d2, t2, o2⟩ := s'
  obtain rfl : o2 = s2.os := o
  exact ⟨.ref p, _, J, rfl, kont ks p hs (fun k => by rw [hmem k]; simp) hn⟩
section
variable {K : PySem.W.Frag} {q : Option Addr} {δ : List Sl} {te : TE} {c : Nat} {P : List Int → Prop}
theorem dq_ints {H : Hp} : ∀ ks : List Int, DqAll H (ks.map V.int) (ks.map .int)
  | [] => .nil
  | k :: ks => .cons (.int k) (dq_ints ks)
/-- sorted(set(e)), e a list of fewer than 63 drawn integers -/
theorem j_srtSet (h : J q δ te c (fun d => ∃ ns : List Int, (ns.length < 63 ∧ ∀ ks : List Int, ks.Pairwise (· < ·) → (∀ k, k ∈ ks ↔ k ∈ ns) → P ks) ∧ d = .list (ns.map .int))) : J q δ (tSrtSet K te) c (fun d => ∃ ks, P ks ∧ d = .list (ks.map .int)) := fun σ H H1 n sg o Q k =>
  h σ H H1 n sg o _ fun d v Hk H2 g o1 ⟨ns, ⟨hl, hp⟩, ed⟩ dv => by
    subst ed
    obtain ⟨a, xs, rfl, e1, e2⟩ := dv.lstOf
    have ex := DqAll.ints e2
    subst ex
    refine ⟨a, ns, rfl, SqL.of1 (g.a _ _ e1), hl, fun ks p hs hm hn => ?_⟩
    have g1 := Gr.new (q := none) (o := .lst (ks.map V.int)) g.a hn
    exact k _ _ _ _ (g.trans g1.none_to) (o1.go g1) ⟨ks, hp ks hs hm, rfl⟩ (.lst upd_same (dq_ints ks))
end
end Cr

set_option Elab.async false
set_option linter.all false
set_option maxRecDepth 100000
set_option maxHeartbeats 800000
namespace Cr
open PySem PySem.Spec PyProof.Rows L2
section
variable {K : PySem.W.Frag} {q : Option Addr} {n : Nat} {δ δ' : List Sl} {te ta tb tn ti : TE} {tt : TT} {c c1 c2 : Nat} {g : TG} {P : Bool → Prop}
/-- [f(x) for x in xs if drawn] -/
theorem j_lcT {α : Type} {emb : α → PyData} {wi : TI} {vs : List Nat} {Ψ : List α → Prop} {N : Nat} (hw : IJ q δ wi c (fun items => ∃ xs, Ψ xs ∧ items = xs.map emb)) (f : α → PyData) (hz : ∀ xs, Ψ xs → xs.length ≤ N) (hN : N ≤ 1000000)
    (he : ∀ xs, Ψ xs → ∀ x ∈ xs, ∃ δ', GB (wipeD δ vs) g (emb x) δ' vs ∧ TJ q δ' tt c1 (fun _ => True) ∧ E q δ' te (f x)) :
    J q δ (tLc wi g tt te vs) (c1 * N + c) (fun r => ∃ xs ys : List α, Ψ xs ∧ ys.Sublist xs ∧ r = .list (ys.map f)) := fun σ H H1 n sg o Q k =>
  hw σ H H1 (n + c1 * N) sg (by rw [Nat.add_assoc]; exact o) _ fun items Jt HkW H2 g0 o0 pi wk D hD => by
    obtain ⟨xs, pi, ei⟩ := pi
    have hlen : items.length = xs.length := by rw [ei, List.length_map]
    have hxN := hz xs pi
    have hDk : HkW D = none := g0.a.free hD
    have hDq : q ≠ some D := fun e => (o0.j D e).ne hD
    have g1 : Gr q HkW H2 HkW (upd H2 D (.lst [])) := Gr.cell g0.a hD
    refine ⟨fun i m H' => m = items.length - i ∧ i ≤ items.length ∧ ∃ (Hk' : Hp) (vs : List V) (ys : List α), Gr q HkW H2 Hk' H' ∧ Ok q (n + c1 * (N - i)) Hk' H' ∧ Hk' D = none ∧ H' D = some (.lst vs) ∧ DqAll Hk' vs (ys.map f) ∧ ys.Sublist (xs.take i),
      ⟨items.length, by simp, Nat.zero_le _, HkW, [], [], g1, o0.cell hDk hDq, hDk, upd_same, .nil, by simp⟩, ?_⟩
    rintro i m H' ⟨rfl, hi, Hk', us, ys, gr, ok, hDn, hl, hd, hsub⟩
    have hyl : ys.length ≤ i := Nat.le_trans hsub.length_le (by rw [List.length_take]; exact Nat.min_le_left _ _)
    by_cases hlt : i < items.length
    · obtain ⟨go, yl⟩ := (wk i Hk' H' gr.k ok.a).1 hlt
      refine .inr ⟨go, fun H'' => ∃ (Hk3 : Hp) (us' : List V) (ys' : List α), Gr q HkW H2 Hk3 H'' ∧ Ok q (n + c1 * (N - (i + 1))) Hk3 H'' ∧ Hk3 D = none ∧ H'' D = some (.lst us') ∧ DqAll Hk3 us' (ys'.map f) ∧ ys'.Sublist (xs.take (i + 1)), fun H'' p => ⟨items.length - (i + 1), by omega, rfl, hlt, p⟩, fun v H'' y => ?_⟩
      obtain ⟨Hk2, g2, d, ed, dx⟩ := yl v H'' y
      obtain ⟨x, ex, rfl⟩ : ∃ x, xs[i]? = some x ∧ emb x = d := by
        rw [ei, List.getElem?_map] at ed
        exact Option.map_eq_some_iff.mp ed
      obtain ⟨δ', hgb, htb, hte⟩ := he xs pi x (List.mem_of_getElem? ex)
      have hf : n + c1 * (N - i) = (n + c1 * (N - (i + 1))) + c1 := by
        rw [show N - i = (N - (i + 1)) + 1 by omega, Nat.mul_add, Nat.mul_one, Nat.add_assoc]
      rw [hf] at ok
      have ok2 := ok.go g2
      have sgw : Sg Hk2 (wipe σ vs) (wipeD δ vs) := ((sg.mono g0.k).mono (gr.k.trans g2.k)).wipe vs
      have hD2 : Hk2 D = none := g2.f D hDn (by rw [hl]; exact fun z => by cases z)
      have hl2 : H'' D = some (.lst us) := g2.s D _ (fun z => by cases z) hl
      have hd2 := DqAll.mono g2.k _ _ hd
      have gr2 := gr.trans g2.none_to
      have hx : xs.take (i + 1) = xs.take i ++ [x] := by
        rw [List.take_add_one, ex]; rfl
      refine hgb (wipe σ vs) Hk2 H'' v sgw g2.a dx _ fun σ' sg' hl' hk' => ⟨wipe_eq (by rw [hl', wipe_length]) hk', ?_⟩
      refine htb σ' Hk2 H'' _ sg' ok2 _ fun b' Hk3 H3 g3 o3 _ => ?_
      have hD3 : Hk3 D = none := g3.f D hD2 (by rw [hl2]; exact fun z => by cases z)
      have hl3 : H3 D = some (.lst us) := g3.s D _ hDq hl2
      have hd3 := DqAll.mono g3.k _ _ hd2
      have gr3 := gr2.trans g3
      cases b' with
      | true =>
        refine iteT (hte σ' Hk3 H3 _ (sg'.mono g3.k) o3 _ fun y w Hk4 H4 g4 o4 ey dw => ?_)
        subst ey
        have hD4 : Hk4 D = none := g4.f D hD3 (by rw [hl3]; exact fun z => by cases z)
        have hl4 : H4 D = some (.lst us) := g4.s D _ hDq hl3
        have hd4 := DqAll.mono g4.k _ _ hd3
        refine ⟨us, hl4, ?_, Hk4, us ++ [w], ys ++ [x], (gr3.trans g4).put hD hD4, o4.cell hD4 hDq, hD4, upd_same, ?_, ?_⟩
        · rw [hd4.length, List.length_map, sizeLine_eq]; omega
        · rw [List.map_append]; exact hd4.append (.cons dw .nil)
        · rw [hx]; exact hsub.append (List.Sublist.refl _)
      | false =>
        refine iteF ?_
        exact ⟨Hk3, us, ys, gr3, o3, hD3, hl3, hd3, by rw [hx]; exact hsub.trans (List.sublist_append_left _ _)⟩
    · have e : i = items.length := by omega
      subst e
      refine .inl ⟨(wk _ Hk' H' gr.k ok.a).2 (Nat.le_refl _), ?_⟩
      have gf := gr.freeze hD hDn hl
      refine k _ _ _ _ (g0.trans gf) ⟨gf.a, fun p e => ?_, fun p e => (ok.j p e).mono (Nat.le_add_right _ _)⟩ ⟨xs, ys, pi, by rw [hlen, List.take_length] at hsub; exact hsub, rfl⟩ (.lst upd_same (DqAll.mono (same_upd hDn) _ _ hd))
      rw [upd_ne (fun z => hDq (by rw [← z]; exact e))]
      exact ok.kf p e
theorem e_lstRg2 {a b : Int} (h : E q δ ta (.int a)) (h2 : E q δ tb (.int b)) (ok : RgOk a b) : E q δ (tLstRg (tRg2 ta tb)) (.list ((rgI a b).map .int)) := fun σ H H1 n sg o Q k =>
  h σ H H1 n sg o _ fun d v Hk H2 g o1 ed dv => h2 σ Hk H2 n (sg.mono g.k) o1 _ fun d' v' Hk' H3 g' o2 ed' dv' => by
    subst ed; subst ed'
    have e1 : v = .int a := by cases dv; rfl
    have e2 : v' = .int b := by cases dv'; rfl
    refine ⟨a, b, e1, e2, ok, fun p hp => ?_⟩
    have g1 := Gr.new (q := none) (o := .lst (rgV a b)) g'.a hp
    exact k _ _ _ _ ((g.trans g').trans g1.none_to) (o2.go g1) rfl (.lst upd_same (dq_rg a b))
theorem prs_of {P : Int × Int → Prop} : ∀ {ds : List PyData}, (∀ d ∈ ds, ∃ y, P y ∧ d = pr y) → ∃ l, ds = pd l ∧ ∀ y ∈ l, P y
  | [], _ => ⟨[], rfl, by simp⟩
  | d :: ds, h => by
    obtain ⟨y, hy, rfl⟩ := h d (by simp)
    obtain ⟨l, rfl, hl⟩ := prs_of (P := P) (ds := ds) fun x hx => h x (List.mem_cons_of_mem _ hx)
    exact ⟨y :: l, rfl, fun z hz => by
      rcases List.mem_cons.mp hz with e | e
      · rw [e]; exact hy
      · exact hl z e⟩
theorem add_bits {a b : Int} {B : Nat} (ha : a.natAbs < 2 ^ B) (hb : b.natAbs < 2 ^ B) : (a + b).natAbs < 2 ^ (B + 1) := by
  rw [Nat.pow_succ]
  omega
/-- f[:m] + (f[m] + e,) + f[m + 1:] -/
theorem j_chgP {f : List Int} {m B : Nat} (hm : m < f.length) (hl : f.length ≤ 1000) (hf : CB B f) (ha : E q δ ta (pol f)) (hi : E q δ ti (.int (m : Int))) (hb : J q δ tb c (IntP fun x => x.natAbs < 2 ^ B)) :
    J q δ (tOp (rAddU K) (tOp (rAddU K) (tSl (rSlU K) ta tNoPart (tPart ti)) (tTup (tCons (tOp (rAddU K) (tOp (rIx K) ta ti) tb) tNil))) (tSl (rSlU K) ta (tPart (tOp (rAddU K) ti (tC (.int 1)))) tNoPart)) c (fun d => ∃ g : List Int, (g.length = f.length ∧ CB (B + 1) g) ∧ d = pol g) :=
  (j_catP (c1 := c) (c2 := 0) (P1 := fun g => g.length = m + 1 ∧ CB (B + 1) g) (P2 := fun g => g = f.drop (m + 1)) ((j_catP (c1 := 0) (c2 := c) (P1 := fun g => g = f.take m) (P2 := fun g => g.length = 1 ∧ CB (B + 1) g) ((e_takeI (n := m) ha hi rfl).polP rfl) (j_oneP (R := fun x => x.natAbs < 2 ^ (B + 1)) ((j_addI (P1 := fun x => x = f.getD m 0) (P2 := fun x => x.natAbs < 2 ^ B) (e_iT (ds := f.map .int) ha hi (at_ints0 hm)).intP hb fun i j hi hj => ⟨i + j, add_bits (by rw [hi]; exact hf.getD m) hj, rfl⟩).cost (by omega)) fun x hx => ⟨rfl, fun a ha => by rw [List.mem_singleton.mp ha]; exact hx⟩) fun g h e ⟨h1, h2⟩ => by
    subst e
    refine ⟨by rw [List.length_take]; omega, by rw [List.length_append, List.length_take, h1]; omega, fun a ha => ?_⟩
    rcases List.mem_append.mp ha with z | z
    · exact lt_pow (hf a (List.mem_of_mem_take z)) (by omega)
    · exact h2 a z).cost (by omega)) ((e_dropI (n := m + 1) ha (e_addI hi e_int) (by omega)).polP rfl) fun g h ⟨h1, h2⟩ e => by
    subst e
    refine ⟨by rw [List.length_drop]; omega, by rw [List.length_append, List.length_drop, h1]; omega, fun a ha => ?_⟩
    rcases List.mem_append.mp ha with z | z
    · exact h2 a z
    · exact lt_pow (hf a (List.mem_of_mem_drop z)) (by omega)).cost (by omega)
theorem nodup_len : ∀ {ks ns : List Int}, ks.Nodup → (∀ k ∈ ks, k ∈ ns) → ks.length ≤ ns.length
  | [], _, _, _ => Nat.zero_le _
  | k :: ks, ns, h, hs => by
    have h' := List.nodup_cons.mp h
    have hk := hs k (by simp)
    have e := List.length_erase_of_mem hk
    have p := List.length_pos_of_mem hk
    have z := nodup_len (ns := ns.erase k) h'.2 fun x hx => (List.mem_erase_of_ne (a := x) (b := k) (fun e : x = k => h'.1 (e ▸ hx))).mpr (hs x (List.mem_cons_of_mem _ hx))
    show ks.length + 1 ≤ ns.length
    omega
end
end Cr

set_option Elab.async false
set_option linter.all false
set_option maxRecDepth 100000
set_option maxHeartbeats 800000
namespace Cr
open PySem PySem.Spec PyProof.Rows L2
/-! a ledger is found back on keys that hold its own -/
theorem lagr_zero {l : List Int} {x : Int} (h : x ∈ l) : evalP (lagr l) x = 0 := by rw [← lagr_roots]; exact rootsP_zero l h
theorem dot_psums {f : List Int} {l : List (Int × Int)} {n : Nat} (h : f.length ≤ n) : dotI f (psums l n) = wsum (evalP f) l := by
  rw [wsum_dot]
  unfold dotI
  rw [← zmul_range (by rw [psums_len]; exact h), ← sm_range]
  congr 1
  refine List.map_congr_left fun j hj => ?_
  have hj2 := List.mem_range.mp hj
  have e : (psums l n).getD j 0 = psum l j := by rw [List.getD_eq_getElem?_getD, psums_get (by omega)]; rfl
  rw [e]
theorem lag_at {keys : List Int} {k x : Int} (h : x ∈ keys) (hx : x ≠ k) : evalP (lag keys k) x = 0 := lagr_zero (List.mem_filter.mpr ⟨h, by simpa using hx⟩)
theorem wsum_lag {keys : List Int} (k : Int) : ∀ {b : List (Int × Int)}, (∀ x ∈ b, x.1 ∈ keys) → wsum (evalP (lag keys k)) b = tot b k * evalP (lag keys k) k
  | [], _ => by
    show (0 : Int) = 0 * _
    rw [Int.zero_mul]
  | x :: b, h => by
    have ih := wsum_lag k (b := b) fun y hy => h y (List.mem_cons_of_mem _ hy)
    show x.2 * evalP (lag keys k) x.1 + wsum (evalP (lag keys k)) b = ((if x.1 = k then x.2 else 0) + tot b k) * evalP (lag keys k) k
    rw [ih, Int.add_mul]
    by_cases e : x.1 = k
    · rw [if_pos e, e]
    · rw [if_neg e, lag_at (h x (by simp)) e, Int.mul_zero, Int.zero_mul]
theorem share_back {keys : List Int} {b : List (Int × Int)} {n : Nat} (hs : keys.Nodup) (hb : ∀ x ∈ b, x.1 ∈ keys) (hn : keys.length ≤ n) {k : Int} (hk : k ∈ keys) : share keys (psums b n) k = (tot b k * evalP (lag keys k) k, evalP (lag keys k) k) := by
  unfold share
  rw [dot_psums (by rw [lag_len_in hk hs]; exact hn), wsum_lag k hb]
theorem tot_keys (φ : Int → Int) (j : Int) : ∀ {keys : List Int}, keys.Nodup → tot (keys.map fun k => (k, φ k)) j = if j ∈ keys then φ j else 0
  | [], _ => by simp [tot]
  | k :: keys, h => by
    have h' := List.nodup_cons.mp h
    show (if k = j then φ k else 0) + tot (keys.map fun k => (k, φ k)) j = _
    rw [tot_keys φ j h'.2]
    by_cases e : k = j
    · subst e
      rw [if_pos rfl, if_neg h'.1, if_pos (by simp), Int.add_zero]
    · rw [if_neg e, Int.zero_add]
      by_cases z : j ∈ keys
      · rw [if_pos z, if_pos (by simp [z])]
      · rw [if_neg z, if_neg (by simp [z]; exact fun q => e q.symm)]
theorem onlyL_back {keys : List Int} {b : List (Int × Int)} {n : Nat} (hs : keys.Pairwise (· < ·)) (hL : Led b) (hb : ∀ x ∈ b, x.1 ∈ keys) (hn : keys.length ≤ n) : onlyL keys (psums b n) = some b := by
  have hnd := asc_nodup hs
  have bot : ∀ k, evalP (lag keys k) k ≠ 0 := fun k => lagr_ne keys k
  have e1 : keys.any (shBad keys (psums b n)) = false := List.any_eq_false.mpr fun k hk => by
    unfold shBad
    rw [share_back hnd hb hn hk]
    simp [Int.mul_fmod_left]
  have e2 : keys.map (shPair keys (psums b n)) = keys.map fun k => (k, tot b k) := List.map_congr_left fun k hk => by
    unfold shPair
    rw [share_back hnd hb hn hk]
    show (k, (tot b k * evalP (lag keys k) k).fdiv (evalP (lag keys k) k)) = _
    rw [Int.mul_fdiv_cancel _ (bot k)]
  have e3 : onlyB keys (psums b n) = b := by
    rw [← onlyB_gather hs, e2]
    rw [gather_ext (ds := b) fun j => ?_, gather_self hL]
    rw [tot_keys (tot b) j hnd]
    by_cases z : j ∈ keys
    · rw [if_pos z]
    · rw [if_neg z, tot_no]
      intro q
      obtain ⟨x, hx, e⟩ := List.mem_map.mp q
      exact z (e ▸ hb x hx)
  unfold onlyL
  rw [if_neg (by rw [e1]; simp), e3, psums_len, if_pos rfl]
/-- what is found has the sums, and its keys are among the given ones -/
theorem onlyL_sums {keys nums : List Int} {l : List (Int × Int)} (h : onlyL keys nums = some l) : psums l nums.length = nums ∧ (∀ x ∈ l, x.1 ∈ keys) ∧ l = onlyB keys nums := by
  unfold onlyL at h
  split at h
  · cases h
  · split at h
    · rename_i h2
      cases h
      exact ⟨h2, fun x hx => by
        obtain ⟨k, hk, rfl⟩ := List.mem_map.mp (List.mem_filter.mp hx).1
        exact hk, rfl⟩
    · cases h
theorem psums_inj {keys : List Int} {a b : List (Int × Int)} {n : Nat} (hs : keys.Pairwise (· < ·)) (hA : Led a) (hB : Led b) (ha : ∀ x ∈ a, x.1 ∈ keys) (hb : ∀ x ∈ b, x.1 ∈ keys) (hn : keys.length ≤ n) (h : psums a n = psums b n) : a = b := by
  have e1 := onlyL_back hs hA ha hn
  rw [h, onlyL_back hs hB hb hn] at e1
  exact (Option.some.inj e1).symm
theorem psums_take (l : List (Int × Int)) {m n : Nat} (h : m ≤ n) : (psums l n).take m = psums l m := by
  unfold psums
  rw [← List.map_take, List.take_range, Nat.min_eq_left h]
theorem onlyL_led {keys nums : List Int} {l : List (Int × Int)} (hs : keys.Pairwise (· < ·)) (h : onlyL keys nums = some l) : Led l := by rw [(onlyL_sums h).2.2]; exact onlyB_led hs
/-- another last sum: none -/
theorem onlyL_last {keys g : List Int} {b : List (Int × Int)} {m : Nat} (hs : keys.Pairwise (· < ·)) (hL : Led b) (hb : ∀ x ∈ b, x.1 ∈ keys) (hn : keys.length ≤ m) (hg : g.length = m + 1) (ht : g.take m = psums b m) (hne : g ≠ psums b (m + 1)) : onlyL keys g = none := by
  cases h : onlyL keys g with
  | none => rfl
  | some l =>
    have z := onlyL_sums h
    rw [hg] at z
    have e : psums l m = psums b m := by rw [← ht, ← z.1, psums_take l (by omega)]
    have q := psums_inj hs (onlyL_led hs h) hL z.2.1 hb hn e
    rw [q] at z
    exact absurd z.1.symm hne
/-- a key of the ledger is left out: none -/
theorem onlyL_without {keys few : List Int} {b : List (Int × Int)} {n : Nat} {k v : Int} (hs : keys.Pairwise (· < ·)) (hf : few.Pairwise (· < ·)) (hsub : ∀ x ∈ few, x ∈ keys) (hL : Led b) (hb : ∀ x ∈ b, x.1 ∈ keys) (hn : keys.length ≤ n) (hk : (k, v) ∈ b) (hno : k ∉ few) : onlyL few (psums b n) = none := by
  cases h : onlyL few (psums b n) with
  | none => rfl
  | some l =>
    have z := onlyL_sums h
    rw [psums_len] at z
    have q := psums_inj hs (onlyL_led hf h) hL (fun x hx => hsub _ (z.2.1 x hx)) hb hn z.1
    rw [q] at z
    exact absurd (z.2.1 _ hk) hno
end Cr

set_option Elab.async false
set_option linter.all false
set_option maxRecDepth 100000
set_option maxHeartbeats 800000
namespace Cr
open PySem PySem.Spec PyProof.Rows L2
/-! enumerate over a list -/
theorem k_enumL {X : Cx} {K : PySem.W.Frag} {e : Expr} {ta : TA} {p pos tpos : Pos} {elts : List Expr} {kk : Nat} (hK : X.K = K) (hg : Gl X "enumerate") (hm : X.mg "enumerate" = none) (ha : PA X [e] ta) (hs : starEach [e] X.env = [(false, eval e X.env)] := by rfl) :
    PI X (.Tuple elts kk tpos) (.Call (.Name "enumerate" p) [e] [] pos) (iEnum K ta) := hK ▸ pi_enum hg hm ha hs
section
variable {K : PySem.W.Frag} {q : Option Addr} {δ : List Sl} {te : TE}
theorem walk_enumL {H : Hp} {a : Addr} {xs : List V} {ds : List PyData} (h : H a = some (.lst xs)) (hd : DqAll H xs ds) : WalkD (Ite K a) (enumD ds) H := fun i Hk H' s1 s2 => by
  have e := SqL.of1 (K := K) (s2 _ _ (s1 _ _ h))
  rw [enumD_len]
  refine ⟨fun hi => ⟨⟨xs, xs[i]'(by rw [hd.length]; exact hi), e, List.getElem?_eq_getElem _⟩, fun v H2 y => ?_⟩, fun hi => ⟨xs, e, by rw [hd.length]; exact hi⟩⟩
  obtain ⟨T, x, rfl, hT, rfl, y2⟩ := y
  obtain ⟨d, g1, g2⟩ := hd.get' (y2 xs e)
  have g := Gr.new (q := none) (o := .tup [.int (i : Nat), x]) s2 hT
  exact ⟨_, g, _, enumD_get g1, .tup (.inr ⟨rfl, upd_same⟩) (.cons (.int _) (.cons (Dq.mono (s1.trans g.k) _ _ g2) .nil))⟩
theorem ie_enumL {ds : List PyData} (h : E q δ te (.list ds)) : IE q δ (iEnum K (tCons te tNil)) (enumD ds) := fun σ H H1 n sg o R k =>
  h σ H H1 n sg o _ fun d v Hk H2 g o1 ed dv => by
    subst ed
    obtain ⟨a, xs, rfl, h1, h2⟩ := dv.lstOf
    exact ⟨a, xs, rfl, SqL.of1 (g.a _ _ h1), k _ _ Hk H2 g o1 rfl (walk_enumL h1 h2)⟩
end
end Cr
namespace Cr
open PySem PySem.Spec PyProof.Rows L2
theorem enumD_range (f : Nat → PyData) (m : Nat) : enumD ((List.range m).map f) = (List.range m).map fun k => .tuple [.int (k : Nat), f k] := by
  refine List.ext_getElem? fun i => ?_
  by_cases hi : i < m
  · rw [enumD_get (d := f i) (by rw [List.getElem?_map, List.getElem?_range hi]; rfl), List.getElem?_map, List.getElem?_range hi]; rfl
  · rw [List.getElem?_eq_none (by rw [enumD_len, List.length_map, List.length_range]; omega), List.getElem?_eq_none (by rw [List.length_map, List.length_range]; omega)]
theorem sgz_if (z : Int) : sgz z = if (z.fmod 2 == 0) = true then 1 else -1 := by
  unfold sgz
  have h1 := Int.fmod_nonneg_of_pos z (show (0 : Int) < 2 by decide)
  have h2 := Int.fmod_lt_of_pos z (show (0 : Int) < 2 by decide)
  by_cases h : z.fmod 2 = 0
  · rw [h]; rfl
  · have e : z.fmod 2 = 1 := by omega
    rw [e]; rfl
end Cr

set_option Elab.async false
set_option linter.all false
set_option maxRecDepth 100000
set_option maxHeartbeats 800000
namespace Cr
open PySem PySem.Spec PyProof.Rows L2
section
variable {K : PySem.W.Frag} {q : Option Addr} {n : Nat} {δ δ' : List Sl} {te ta tb tn ti : TE} {tt : TT} {c c1 c2 : Nat} {g : TG} {P : Bool → Prop} {Φ : PyData → Prop}
/-- test and element drawn -/
theorem j_lcTD {α : Type} {emb : α → PyData} {wi : TI} {vs : List Nat} {Ψ : List α → Prop} {N : Nat} (hw : IJ q δ wi c (fun items => ∃ xs, Ψ xs ∧ items = xs.map emb)) (hz : ∀ xs, Ψ xs → xs.length ≤ N) (hN : N ≤ 1000000)
    (he : ∀ xs, Ψ xs → ∀ x ∈ xs, ∃ δ', GB (wipeD δ vs) g (emb x) δ' vs ∧ TJ q δ' tt c1 (fun _ => True) ∧ J q δ' te c2 Φ) :
    J q δ (tLc wi g tt te vs) ((c2 + c1) * N + c) (fun r => ∃ (xs : List α) (ds : List PyData), Ψ xs ∧ ds.length ≤ xs.length ∧ (∀ d ∈ ds, Φ d) ∧ r = .list ds) := fun σ H H1 n sg o Q k =>
  hw σ H H1 (n + (c2 + c1) * N) sg (by rw [Nat.add_assoc]; exact o) _ fun items Jt HkW H2 g0 o0 pi wk D hD => by
    obtain ⟨xs, pi, ei⟩ := pi
    have hlen : items.length = xs.length := by rw [ei, List.length_map]
    have hxN := hz xs pi
    have hDk : HkW D = none := g0.a.free hD
    have hDq : q ≠ some D := fun e => (o0.j D e).ne hD
    have g1 : Gr q HkW H2 HkW (upd H2 D (.lst [])) := Gr.cell g0.a hD
    refine ⟨fun i m H' => m = items.length - i ∧ i ≤ items.length ∧ ∃ (Hk' : Hp) (vs : List V) (ys : List PyData), Gr q HkW H2 Hk' H' ∧ Ok q (n + (c2 + c1) * (N - i)) Hk' H' ∧ Hk' D = none ∧ H' D = some (.lst vs) ∧ DqAll Hk' vs ys ∧ ys.length ≤ i ∧ ∀ d ∈ ys, Φ d,
      ⟨items.length, by simp, Nat.zero_le _, HkW, [], [], g1, o0.cell hDk hDq, hDk, upd_same, .nil, by simp, by simp⟩, ?_⟩
    rintro i m H' ⟨rfl, hi, Hk', us, ys, gr, ok, hDn, hl, hd, hyl, hsub⟩
    by_cases hlt : i < items.length
    · obtain ⟨go, yl⟩ := (wk i Hk' H' gr.k ok.a).1 hlt
      refine .inr ⟨go, fun H'' => ∃ (Hk3 : Hp) (us' : List V) (ys' : List PyData), Gr q HkW H2 Hk3 H'' ∧ Ok q (n + (c2 + c1) * (N - (i + 1))) Hk3 H'' ∧ Hk3 D = none ∧ H'' D = some (.lst us') ∧ DqAll Hk3 us' ys' ∧ ys'.length ≤ i + 1 ∧ ∀ d ∈ ys', Φ d, fun H'' p => ⟨items.length - (i + 1), by omega, rfl, hlt, p⟩, fun v H'' y => ?_⟩
      obtain ⟨Hk2, g2, d, ed, dx⟩ := yl v H'' y
      obtain ⟨x, ex, rfl⟩ : ∃ x, xs[i]? = some x ∧ emb x = d := by
        rw [ei, List.getElem?_map] at ed
        exact Option.map_eq_some_iff.mp ed
      obtain ⟨δ', hgb, htb, hte⟩ := he xs pi x (List.mem_of_getElem? ex)
      have hf : n + (c2 + c1) * (N - i) = ((n + (c2 + c1) * (N - (i + 1))) + c2) + c1 := by
        rw [show N - i = (N - (i + 1)) + 1 by omega, Nat.mul_add, Nat.mul_one]; omega
      rw [hf] at ok
      have ok2 := ok.go g2
      have sgw : Sg Hk2 (wipe σ vs) (wipeD δ vs) := ((sg.mono g0.k).mono (gr.k.trans g2.k)).wipe vs
      have hD2 : Hk2 D = none := g2.f D hDn (by rw [hl]; exact fun z => by cases z)
      have hl2 : H'' D = some (.lst us) := g2.s D _ (fun z => by cases z) hl
      have hd2 := DqAll.mono g2.k _ _ hd
      have gr2 := gr.trans g2.none_to
      have hx : xs.take (i + 1) = xs.take i ++ [x] := by
        rw [List.take_add_one, ex]; rfl
      refine hgb (wipe σ vs) Hk2 H'' v sgw g2.a dx _ fun σ' sg' hl' hk' => ⟨wipe_eq (by rw [hl', wipe_length]) hk', ?_⟩
      refine htb σ' Hk2 H'' _ sg' ok2 _ fun b' Hk3 H3 g3 o3 _ => ?_
      have hD3 : Hk3 D = none := g3.f D hD2 (by rw [hl2]; exact fun z => by cases z)
      have hl3 : H3 D = some (.lst us) := g3.s D _ hDq hl2
      have hd3 := DqAll.mono g3.k _ _ hd2
      have gr3 := gr2.trans g3
      cases b' with
      | true =>
        refine iteT (hte σ' Hk3 H3 _ (sg'.mono g3.k) o3 _ fun y w Hk4 H4 g4 o4 ey dw => ?_)
        have hD4 : Hk4 D = none := g4.f D hD3 (by rw [hl3]; exact fun z => by cases z)
        have hl4 : H4 D = some (.lst us) := g4.s D _ hDq hl3
        have hd4 := DqAll.mono g4.k _ _ hd3
        refine ⟨us, hl4, ?_, Hk4, us ++ [w], ys ++ [y], (gr3.trans g4).put hD hD4, o4.cell hD4 hDq, hD4, upd_same, hd4.append (.cons dw .nil), by rw [List.length_append]; simp; omega, fun z hz => ?_⟩
        · rw [hd4.length, sizeLine_eq]; omega
        · rcases List.mem_append.mp hz with h | h
          · exact hsub z h
          · rw [List.mem_singleton.mp h]; exact ey
      | false =>
        refine iteF ?_
        exact ⟨Hk3, us, ys, gr3, o3.mono (by omega), hD3, hl3, hd3, by omega, hsub⟩
    · have e : i = items.length := by omega
      subst e
      refine .inl ⟨(wk _ Hk' H' gr.k ok.a).2 (Nat.le_refl _), ?_⟩
      have gf := gr.freeze hD hDn hl
      refine k _ _ _ _ (g0.trans gf) ⟨gf.a, fun p e => ?_, fun p e => (ok.j p e).mono (Nat.le_add_right _ _)⟩ ⟨xs, ys, pi, by omega, hsub, rfl⟩ (.lst upd_same (DqAll.mono (same_upd hDn) _ _ hd))
      rw [upd_ne (fun z => hDq (by rw [← z]; exact e))]
      exact ok.kf p e
end
end Cr

set_option Elab.async false
set_option linter.all false
set_option maxRecDepth 100000
set_option maxHeartbeats 800000
namespace Cr
open PySem PySem.Spec PyProof.Rows L2
section
variable {K : PySem.W.Frag} {q : Option Addr} {n : Nat} {δ δ' : List Sl} {te te2 ta tb tn ti : TE} {tt tu : TT} {c c1 c2 : Nat} {g : TG} {P : Bool → Prop} {Φ : PyData → Prop}
theorem eqvAll_prs : ∀ b : List (Int × Int), PyData.eqvAll (pd b) (pd b) = true
  | [] => rfl
  | x :: b => by
    show PyData.eqvAll (pr x :: pd b) (pr x :: pd b) = true
    simp [PyData.eqvAll, PyData.eqv, pr, eqvAll_prs b]
theorem eqv_led_self (b : List (Int × Int)) : PyData.eqv (led b) (led b) = true := by
  simp [led, PyData.eqv, eqvAll_prs]
theorem eqv_lst_nil (f : List PyData) : PyData.eqv (.list f) (.list []) = f.isEmpty := by
  cases f <;> simp [PyData.eqv, PyData.eqvAll]
theorem e_neLed {b : List (Int × Int)} (ha : E q δ ta (led b)) (hb : E q δ tb (led b)) : E q δ (tOp (rNeD K) ta tb) (.bool false) :=
  e_is (e_neD ha hb (shaped_led b) (shaped_led b)) (by rw [eqv_led_self]; rfl)
theorem e_eqLed {b : List (Int × Int)} (ha : E q δ ta (led b)) (hb : E q δ tb (led b)) : E q δ (tOp (rEqD K) ta tb) (.bool true) :=
  e_is (e_eqD ha hb (shaped_led b) (shaped_led b)) (by rw [eqv_led_self])
theorem e_eqNilL {f : List Int} (ha : E q δ ta (.list (f.map .int))) : E q δ (tOp (rEqD K) ta (tLst tNil)) (.bool (f.map PyData.int).isEmpty) :=
  e_is (e_eqD ha (e_lst (ds := []) ae_nil) (lst_shape f) (lst_shape [])) (by rw [eqv_lst_nil])
theorem e_neNilL {f : List Int} (ha : E q δ ta (.list (f.map .int))) : E q δ (tOp (rNeD K) ta (tLst tNil)) (.bool (!(f.map PyData.int).isEmpty)) :=
  e_is (e_neD ha (e_lst (ds := []) ae_nil) (lst_shape f) (lst_shape [])) (by rw [eqv_lst_nil])
theorem j_notN (h : J q δ ta c Φ) : J q δ (tOp rNotNQ ta (tC .non)) c (fun r => ∃ d, Φ d ∧ r = .bool (!isNonD d)) :=
  (j_op (c1 := c) (c2 := 0) (Φ2 := fun d => d = .none) h (fun σ H H1 n sg o Q k => k .none .non H H1 (Gr.refl o.a) o rfl .non) fun a b pa pb x y H H1 hx hy e Q k => by
    subst pb
    exact Or.inl ⟨hy.nonOf, by rw [dq_non hx]; exact k (.bool (!isNonD a)) _ H H1 (Gr.refl e) ⟨a, pa, rfl⟩ (.bl _)⟩).cost (by omega)
theorem j_isN (h : J q δ ta c Φ) : J q δ (tOp rIsNQ ta (tC .non)) c (fun r => ∃ d, Φ d ∧ r = .bool (isNonD d)) :=
  (j_op (c1 := c) (c2 := 0) (Φ2 := fun d => d = .none) h (fun σ H H1 n sg o Q k => k .none .non H H1 (Gr.refl o.a) o rfl .non) fun a b pa pb x y H H1 hx hy e Q k => by
    subst pb
    exact Or.inl ⟨hy.nonOf, by rw [dq_non hx]; exact k (.bool (isNonD a)) _ H H1 (Gr.refl e) ⟨a, pa, rfl⟩ (.bl _)⟩).cost (by omega)
theorem cutD_m1 (xs : List PyData) : cutD xs none (some (-1)) = xs.dropLast := by
  unfold cutD
  have h0 : HT.sIx xs.length 0 none = 0 := rfl
  have h1 : HT.sIx xs.length xs.length (some (-1)) = xs.length - 1 := by
    unfold HT.sIx
    simp
    omega
  rw [h0, h1, List.drop_zero, Nat.sub_zero, List.dropLast_eq_take]
/-- f[:-1] -/
theorem e_initI {f : List Int} (h : E q δ te (pol f)) (hn : E q δ te2 (.int (-1))) : E q δ (tSl (rSlU K) te tNoPart (tPart te2)) (pol f.dropLast) :=
  e_is (e_slT (ds := f.map .int) h to_none (to_some hn)) (by rw [cutD_m1, ← List.map_dropLast]; rfl)
theorem at_last {f : List Int} (h : 0 < f.length) : atI (f.map PyData.int) (-1) = some (.int (f.getD (f.length - 1) 0)) := by
  have e : ixN (f.map PyData.int).length (-1) = some (f.length - 1) := by
    rw [List.length_map]
    unfold ixN
    rw [show f.length = (f.length - 1) + 1 by omega]
    simp
    try omega
  unfold atI
  rw [e]
  show (f.map PyData.int)[f.length - 1]? = _
  rw [List.getElem?_map, List.getElem?_eq_getElem (by omega), List.getD_eq_getElem?_getD, List.getElem?_eq_getElem (by omega)]
  rfl
/-- f[:-1] + (f[-1] + e,) -/
theorem j_chgLast {f : List Int} {B : Nat} (hm : 0 < f.length) (hl : f.length ≤ 1000) (hf : CB B f) (ha : E q δ ta (pol f)) (hi : E q δ ti (.int (-1))) (hb : J q δ tb c (IntP fun x => x ≠ 0 ∧ x.natAbs < 2 ^ B)) :
    J q δ (tOp (rAddU K) (tSl (rSlU K) ta tNoPart (tPart ti)) (tTup (tCons (tOp (rAddU K) (tOp (rIx K) ta ti) tb) tNil))) c (fun d => ∃ g : List Int, (g.length = f.length ∧ CB (B + 1) g ∧ g.take (f.length - 1) = f.take (f.length - 1) ∧ g ≠ f) ∧ d = pol g) :=
  (j_catP (c1 := 0) (c2 := c) (P1 := fun g => g = f.dropLast) (P2 := fun g => ∃ x : Int, (x ≠ 0 ∧ x.natAbs < 2 ^ B) ∧ g = [f.getD (f.length - 1) 0 + x]) ((e_initI ha hi).polP rfl) (j_oneP (R := fun y => ∃ x : Int, (x ≠ 0 ∧ x.natAbs < 2 ^ B) ∧ y = f.getD (f.length - 1) 0 + x) ((j_addI (P1 := fun x => x = f.getD (f.length - 1) 0) (P2 := fun x => x ≠ 0 ∧ x.natAbs < 2 ^ B) (e_iT (ds := f.map .int) ha hi (at_last hm)).intP hb fun i j hi hj => ⟨i + j, ⟨j, hj, by rw [hi]⟩, rfl⟩).cost (by omega)) fun y ⟨x, hx, e⟩ => ⟨x, hx, by rw [e]⟩) fun g h e ⟨x, hx, e2⟩ => by
    subst e; subst e2
    have hlen : (f.dropLast ++ [f.getD (f.length - 1) 0 + x]).length = f.length := by rw [List.length_append, List.length_dropLast]; simp; omega
    have ht : (f.dropLast ++ [f.getD (f.length - 1) 0 + x]).take (f.length - 1) = f.take (f.length - 1) := by
      rw [List.take_left' (by rw [List.length_dropLast]), List.dropLast_eq_take]
    refine ⟨by rw [List.length_dropLast]; simp; omega, hlen, fun a ha => ?_, ht, fun e => ?_⟩
    · rcases List.mem_append.mp ha with z | z
      · exact lt_pow (hf a ((List.dropLast_subset _) z)) (by omega)
      · rw [List.mem_singleton.mp z]
        exact add_bits (hf.getD _) hx.2
    · have z := congrArg (fun l => l.getD (f.length - 1) 0) e
      have z2 : (f.dropLast ++ [f.getD (f.length - 1) 0 + x]).getD (f.length - 1) 0 = f.getD (f.length - 1) 0 + x := by
        rw [List.getD_eq_getElem?_getD, List.getElem?_append_right (by rw [List.length_dropLast]; omega), List.length_dropLast, Nat.sub_self]
        rfl
      have z3 : (f.dropLast ++ [f.getD (f.length - 1) 0 + x]).getD (f.length - 1) 0 = f.getD (f.length - 1) 0 := z
      omega).cost (by omega)
theorem scale_led {l : List (Int × Int)} {b : Int} (h : Led l) (hb : b ≠ 0) : Led (l.map fun x => (x.1, x.2 * b)) := ⟨List.pairwise_map.mpr h.1, fun x hx => by
  obtain ⟨y, hy, rfl⟩ := List.mem_map.mp hx
  exact Int.mul_ne_zero (h.2 y hy) hb⟩
theorem scale_gather {l : List (Int × Int)} {b : Int} (h : Led l) (hb : b ≠ 0) : gather (l.map fun x => (x.1, x.2 * b)) = l.map fun x => (x.1, x.2 * b) := gather_self (scale_led h hb)
theorem Led.tail {x : Int × Int} {l : List (Int × Int)} (h : Led (x :: l)) : Led l := ⟨(List.pairwise_cons.mp h.1).2, fun y hy => h.2 y (List.mem_cons_of_mem _ hy)⟩
theorem Led.asc {l : List (Int × Int)} (h : Led l) : (l.map (·.1)).Pairwise (· < ·) := List.pairwise_map.mpr h.1
theorem pow_ne_zero10 (k : Nat) : (10 : Int) ^ k ≠ 0 := Int.pow_ne_zero (by decide)
theorem mem_rgI {a b x : Int} : x ∈ rgI a b ↔ a ≤ x ∧ x < b := by
  unfold rgI
  rw [List.mem_map]
  constructor
  · rintro ⟨i, hi, rfl⟩
    have := List.mem_range.mp hi
    omega
  · intro h
    exact ⟨(x - a).toNat, List.mem_range.mpr (by omega), by omega⟩
theorem gather_key {cs : List (Int × Int)} {x : Int × Int} (h : x ∈ gather cs) : ∃ y ∈ cs, y.1 = x.1 := by
  have z := (gather_mem cs x).mp h
  have q := tot_mem (l := cs) (k := x.1) (by rw [← z.1]; exact z.2)
  exact List.mem_map.mp q
theorem turn_zero : ∀ s < 11, ∀ f < (9 : Nat), psums (turn s ((f : Nat) : Int)) s = List.replicate s 0 := by decide +kernel
theorem turn_cut {s f : Nat} (hs : s ≤ 10) (hf : f < 9) {b : Int} {h : Int × Int} {t : List (Int × Int)} (e : ((turn s (f : Int)).map fun x => (x.1, x.2 * b)) = h :: t) : psums [h] s = psums (t.map fun x => (x.1, x.2 * -1)) s := by
  have z := turn_zero s (by omega) f hf
  unfold psums
  refine List.map_congr_left fun j hj => ?_
  have hj2 := List.mem_range.mp hj
  have e1 : psum (turn s (f : Int)) j = 0 := by
    have q := psums_getD (l := turn s (f : Int)) hj2
    rw [z, List.getD_eq_getElem?_getD, List.getElem?_replicate, if_pos hj2] at q
    exact q.symm
  have e2 : psum (h :: t) j = 0 := by rw [← e, psum_scale, e1, Int.zero_mul]
  rw [psum_cons] at e2
  rw [psum_scale, psum_cons, psum_nil]
  omega
theorem gather_two (t : List (Int × Int)) : gather ([t, t.map fun x => (x.1, x.2 * -1)].flatten) = [] := by
  rw [gather_ext (ds := []) fun k => ?_]
  · rfl
  · show tot (t ++ (t.map (fun x => (x.1, x.2 * -1)) ++ [])) k = 0
    rw [List.append_nil, tot_append, tot_map_mul]
    omega
end
end Cr

set_option Elab.async false
set_option linter.all false
set_option maxRecDepth 100000
set_option maxHeartbeats 800000
namespace Cr
open PySem PySem.Spec PyProof.Rows L2
/-! ledgers whose first sums are 0; each ledger has a brief -/
theorem sgz_zero : sgz 0 = 1 := by decide
theorem sgz_succ (b : Nat) : sgz ((b + 1 : Nat) : Int) = -sgz (b : Int) := by
  unfold sgz
  have h1 := Int.emod_two_eq (b : Int)
  rw [Int.fmod_eq_emod_of_nonneg _ (by decide), Int.fmod_eq_emod_of_nonneg _ (by decide)]
  omega
theorem sgz_sq (z : Int) : sgz z * sgz z = 1 := by
  have h := sgz_abs z
  rcases (by omega : sgz z = 1 ∨ sgz z = -1) with e | e <;> rw [e] <;> rfl
/-- the sum over a turning ledger of any function -/
def trn (s : Nat) (f : Int) (φ : Int → Int) : Int := bt s fun a b => sgz (b : Int) * φ (f + (a : Int))
theorem trn_succ (s : Nat) (f : Int) (φ : Int → Int) : trn (s + 1) f φ = trn s (f + 1) φ - trn s f φ := by
  unfold trn
  rw [bt_succ]
  have e1 : bt s (fun a b => sgz (b : Int) * φ (f + ((a + 1 : Nat) : Int))) = bt s (fun a b => sgz (b : Int) * φ (f + 1 + (a : Int))) := bt_congr fun a b => by
    rw [show f + ((a + 1 : Nat) : Int) = f + 1 + (a : Int) by omega]
  have e2 : bt s (fun a b => sgz ((b + 1 : Nat) : Int) * φ (f + (a : Int))) = -1 * bt s (fun a b => sgz (b : Int) * φ (f + (a : Int))) := by
    rw [← bt_mul]
    exact bt_congr fun a b => by rw [sgz_succ]; grind
  rw [e1, e2]
  omega
theorem psum_turn (s : Nat) (f : Int) (j : Nat) : psum (turn s f) j = trn s f fun x => x ^ j := by
  unfold turn trn bt
  unfold psum tms
  rw [List.map_map, ← sm_range]
  congr 1
  refine List.map_congr_left fun k hk => ?_
  have := List.mem_range.mp hk
  show (chs s k : Int) * sgz ((s : Int) - (0 + (k : Int))) * (f + (0 + (k : Int))) ^ j = (chs s k : Int) * (sgz ((s - k : Nat) : Int) * (f + (k : Int)) ^ j)
  rw [show (s : Int) - (0 + (k : Int)) = ((s - k : Nat) : Int) by omega, Int.zero_add]
  grind
theorem prodL_one (k a : Int) : ∀ l : List (Int × Int), prodL l [(k, a)] = l.map fun x => (x.1 + k, x.2 * a)
  | [] => rfl
  | x :: l => by
    show (x.1 + k, x.2 * a) :: prodL l [(k, a)] = _
    rw [prodL_one k a l]
    rfl
/-- moved by one, the first sum that is not 0 stays -/
theorem psum_move1 (l : List (Int × Int)) (k : Int) (j : Nat) (h : ∀ i < j, psum l i = 0) : psum (l.map fun x => (x.1 + k, x.2)) j = psum l j := by
  have e : (l.map fun x => (x.1 + k, x.2)) = prodL l [(k, 1)] := by
    rw [prodL_one]
    exact List.map_congr_left fun x _ => by rw [Int.mul_one]
  rw [e, psum_prod]
  show sm j (fun i => (chs j i : Int) * (psum l i * psum [(k, 1)] (j - i))) + (chs j j : Int) * (psum l j * psum [(k, 1)] (j - j)) = _
  rw [sm_congr (G := fun _ => 0) fun i hi => by rw [h i hi]; simp, sm_zero, chs_self, psum_one, Nat.sub_self]
  simp
theorem turn_move (s : Nat) (f : Int) : turn s (f + 1) = (turn s f).map fun x => (x.1 + 1, x.2) := by
  unfold turn
  rw [List.map_map]
  refine List.map_congr_left fun k _ => ?_
  show (f + 1 + (0 + (k : Int)), _) = (f + (0 + (k : Int)) + 1, _)
  rw [show f + 1 + (0 + (k : Int)) = f + (0 + (k : Int)) + 1 by omega]
theorem turn_van : ∀ (s : Nat) (f : Int) (j : Nat), j < s → psum (turn s f) j = 0
  | 0, _, j, h => by omega
  | s + 1, f, j, h => by
    rw [psum_turn, trn_succ, ← psum_turn, ← psum_turn, turn_move, psum_move1 _ _ _ fun i hi => turn_van s f i (by omega)]
    omega
theorem turn_vans {s n : Nat} (f : Int) (h : n ≤ s) : psums (turn s f) n = List.replicate n 0 := by
  refine List.ext_getElem (by rw [psums_len, List.length_replicate]) fun i h1 h2 => ?_
  have hi : i < n := by rw [psums_len] at h1; exact h1
  have e := psums_get (l := turn s f) hi
  rw [List.getElem?_eq_getElem h1] at e
  rw [List.getElem_replicate, Option.some.inj e]
  exact turn_van s f i (by omega)
/-! ### a window of keys is moved -/
def InW (f : Int) (n : Nat) (l : List (Int × Int)) : Prop := ∀ x ∈ l, f ≤ x.1 ∧ x.1 < f + n
theorem turn_in {s : Nat} {f : Int} {x : Int × Int} (h : x ∈ turn s f) : f ≤ x.1 ∧ x.1 ≤ f + s := by
  obtain ⟨k, hk, rfl⟩ := List.mem_map.mp h
  have := List.mem_range.mp hk
  show f ≤ f + (0 + (k : Int)) ∧ f + (0 + (k : Int)) ≤ f + s
  omega
theorem turn_tot {s : Nat} {f : Int} {k : Nat} (h : k ≤ s) : tot (turn s f) (f + k) = (chs s k : Int) * sgz ((s - k : Nat) : Int) := by
  have hm : (f + (0 + (k : Int)), (chs s k : Int) * sgz ((s : Int) - (0 + (k : Int)))) ∈ turn s f := List.mem_map.mpr ⟨k, List.mem_range.mpr (by omega), rfl⟩
  have z := tot_led (turn_led s f).1 _ hm
  rw [show (s : Int) - (0 + (k : Int)) = ((s - k : Nat) : Int) by omega, Int.zero_add] at z
  exact z
theorem psums_add_turn (b : List (Int × Int)) (n : Nat) (f c : Int) : psums (gather (b ++ (turn n f).map fun x => (x.1, x.2 * c))) n = psums b n := by
  rw [psums_gather]
  unfold psums
  refine List.map_congr_left fun j hj => ?_
  rw [psum_append, psum_scale, turn_van n f j (List.mem_range.mp hj)]
  omega
theorem win_up {n : Nat} {f : Int} {b : List (Int × Int)} (h : InW f n b) : ∃ l, InW (f + 1) n l ∧ psums l n = psums b n := by
  refine ⟨gather (b ++ (turn n f).map fun x => (x.1, x.2 * (-(tot b f) * sgz (n : Int)))), fun x hx => ?_, psums_add_turn ..⟩
  obtain ⟨y, hy, e⟩ := gather_key hx
  have h1 : f ≤ x.1 ∧ x.1 ≤ f + n := by
    rcases List.mem_append.mp hy with z | z
    · have := h y z
      omega
    · obtain ⟨u, hu, rfl⟩ := List.mem_map.mp z
      have := turn_in hu
      have e' : u.1 = x.1 := e
      omega
  have h2 : x.1 ≠ f := fun e2 => by
    have z := (gather_mem _ x).mp hx
    rw [e2, tot_append, tot_map_mul] at z
    have q := turn_tot (s := n) (f := f) (k := 0) (by omega)
    rw [chs_zero, Nat.sub_zero, show f + ((0 : Nat) : Int) = f by omega] at q
    rw [q] at z
    have r := sgz_sq (n : Int)
    have t : tot b f + ((1 : Nat) : Int) * sgz (n : Int) * (-(tot b f) * sgz (n : Int)) = 0 := by
      have : ((1 : Nat) : Int) * sgz (n : Int) * (-(tot b f) * sgz (n : Int)) = -(tot b f) * (sgz (n : Int) * sgz (n : Int)) := by grind
      rw [this, r]
      omega
    rw [t] at z
    exact z.2 z.1
  omega
theorem win_down {n : Nat} {f : Int} {b : List (Int × Int)} (h : InW (f + 1) n b) : ∃ l, InW f n l ∧ psums l n = psums b n := by
  refine ⟨gather (b ++ (turn n f).map fun x => (x.1, x.2 * -(tot b (f + n)))), fun x hx => ?_, psums_add_turn ..⟩
  obtain ⟨y, hy, e⟩ := gather_key hx
  have h1 : f ≤ x.1 ∧ x.1 ≤ f + n := by
    rcases List.mem_append.mp hy with z | z
    · have := h y z
      omega
    · obtain ⟨u, hu, rfl⟩ := List.mem_map.mp z
      have := turn_in hu
      have e' : u.1 = x.1 := e
      omega
  have h2 : x.1 ≠ f + n := fun e2 => by
    have z := (gather_mem _ x).mp hx
    rw [e2, tot_append, tot_map_mul] at z
    have q := turn_tot (s := n) (f := f) (k := n) (by omega)
    rw [chs_self, Nat.sub_self] at q
    rw [q] at z
    have t : tot b (f + n) + ((1 : Nat) : Int) * sgz ((0 : Nat) : Int) * -(tot b (f + n)) = 0 := by
      rw [show sgz ((0 : Nat) : Int) = 1 from sgz_zero]
      omega
    rw [t] at z
    exact z.2 z.1
  omega
theorem win_to0 (n : Nat) : ∀ (d : Nat) (f : Int) (b : List (Int × Int)), f.natAbs = d → InW f n b → ∃ l, InW 0 n l ∧ psums l n = psums b n
  | 0, f, b, e, h => by
    have : f = 0 := by omega
    subst this
    exact ⟨b, h, rfl⟩
  | d + 1, f, b, e, h => by
    by_cases hf : 0 ≤ f
    · obtain ⟨l, h1, h2⟩ := win_down (f := f - 1) (b := b) (n := n) (by rw [show f - 1 + 1 = f by omega]; exact h)
      obtain ⟨l', h3, h4⟩ := win_to0 n d (f - 1) l (by omega) h1
      exact ⟨l', h3, by rw [h4, h2]⟩
    · obtain ⟨l, h1, h2⟩ := win_up h
      obtain ⟨l', h3, h4⟩ := win_to0 n d (f + 1) l (by omega) h1
      exact ⟨l', h3, by rw [h4, h2]⟩
theorem brief_any {n : Nat} (hn : 1 ≤ n) : ∀ b : List (Int × Int), ∃ l, InW 0 n l ∧ psums l n = psums b n
  | [] => ⟨[], (fun x hx => by cases hx), rfl⟩
  | x :: b => by
    obtain ⟨l1, h1, h2⟩ := win_to0 n x.1.natAbs x.1 [x] rfl fun y hy => by
      rw [List.mem_singleton.mp hy]
      omega
    obtain ⟨l2, h3, h4⟩ := brief_any hn b
    refine ⟨l1 ++ l2, fun y hy => ?_, ?_⟩
    · rcases List.mem_append.mp hy with z | z
      · exact h1 y z
      · exact h3 y z
    · unfold psums at *
      refine List.map_congr_left fun j hj => ?_
      have e1 := List.map_inj_left.mp h2 j hj
      have e2 := List.map_inj_left.mp h4 j hj
      rw [psum_append, e1, e2, psum_cons, psum_cons, psum_nil]
      omega
/-- each ledger has a brief -/
theorem brief_ex {n : Nat} (hn : 1 ≤ n) (b : List (Int × Int)) : ∃ l, onlyL (rgI 0 n) (psums b n) = some l ∧ Led l ∧ (∀ x ∈ l, x.1 ∈ rgI 0 n) ∧ psums l n = psums b n := by
  obtain ⟨l, h1, h2⟩ := brief_any hn b
  have hk : ∀ x ∈ gather l, x.1 ∈ rgI 0 n := fun x hx => by
    obtain ⟨y, hy, e⟩ := gather_key hx
    have := h1 y hy
    exact mem_rgI.mpr (by omega)
  refine ⟨gather l, ?_, gather_led l, hk, by rw [psums_gather, h2]⟩
  rw [← h2, ← psums_gather]
  exact onlyL_back (rgI_asc _ _) (gather_led l) hk (by rw [rgI_len]; omega)
end Cr

set_option Elab.async false
set_option linter.all false
set_option maxRecDepth 100000
set_option maxHeartbeats 800000
namespace Cr
open PySem PySem.Spec PyProof.Rows L2
section
variable {K : PySem.W.Frag} {q : Option Addr} {n : Nat} {δ δ' : List Sl} {te te2 ta tb tn ti : TE} {tt tu : TT} {c c1 c2 : Nat} {g : TG} {P : Bool → Prop} {Φ : PyData → Prop}
theorem e_nePol {f : List Int} (ha : E q δ ta (pol f)) (hb : E q δ tb (pol f)) : E q δ (tOp (rNeD K) ta tb) (.bool false) :=
  e_is (e_neD ha hb (pol_shape f) (pol_shape f)) (by rw [eqv_pol_self]; rfl)
theorem e_eqPol {f : List Int} (ha : E q δ ta (pol f)) (hb : E q δ tb (pol f)) : E q δ (tOp (rEqD K) ta tb) (.bool true) :=
  e_is (e_eqD ha hb (pol_shape f) (pol_shape f)) (by rw [eqv_pol_self])
theorem e_neOPol {o : Option (List Int)} (ha : E q δ ta (oPol o)) (hb : E q δ tb (oPol o)) : E q δ (tOp (rNeD K) ta tb) (.bool false) := by
  cases o with
  | none => exact e_is (e_neD ha hb rfl rfl) rfl
  | some f => exact e_nePol ha hb
theorem onlyL_Kb {keys nums : List Int} {B : Nat} {l : List (Int × Int)} (h : CB 56 keys) (hl : keys.length ≤ 400) (hn : CB B nums) (e : onlyL keys nums = some l) : Kb 56 (28020 + B) l := by
  rw [(onlyL_sums e).2.2]
  refine onlyB_Kb h hl hn ?_
  unfold onlyL at e
  split at e
  · cases e
  · rename_i z
    exact Bool.eq_false_iff.mpr z
theorem pow_keys {l : List (Int × Int)} {M : Nat} (h : ∀ x ∈ l, x.1.natAbs ≤ M) : ∀ (i : Nat), ∀ x ∈ powL l i, x.1.natAbs ≤ i * M
  | 0, x, hx => by
    have e : x = (0, 1) := by simpa [powL] using hx
    rw [e]
    show (0 : Int).natAbs ≤ 0 * M
    rw [Nat.zero_mul]
    decide
  | i + 1, x, hx => by
    obtain ⟨y, hy, e⟩ := gather_key (cs := prodL (powL l i) l) hx
    obtain ⟨u, hu, hu2⟩ := List.mem_flatMap.mp hy
    obtain ⟨v, hv, rfl⟩ := List.mem_map.mp hu2
    have h1 := pow_keys h i u hu
    have h2 := h v hv
    have e' : u.1 + v.1 = x.1 := e
    rw [Nat.add_mul]
    omega
theorem pow_Kb {l : List (Int × Int)} (hK : Kb 50 60 l) (hl : l.length ≤ 6) {i : Nat} (hi : i ≤ 4) : Kb 60 400 (powL l i) := fun x hx => by
  have h1 := pow_keys (M := 2 ^ 50) (fun y hy => by have := (hK y hy).1; omega) i x hx
  have h2 := (pow_facts (fun y hy => (hK y hy).2) hl i hi).2.2 x hx
  exact ⟨by have := Nat.mul_le_mul_right (2 ^ 50) hi; omega, lt_pow h2 (by omega)⟩
theorem psums_pow (l : List (Int × Int)) (i n : Nat) : cprod (psums (powL l i) n) (psums l n) = psums (powL l (i + 1)) n := by
  rw [cprod_psums]
  show _ = psums (gather (prodL (powL l i) l)) n
  rw [psums_gather]
theorem psums_prod_comm (a b : List (Int × Int)) (n : Nat) : psums (prodL b a) n = psums (prodL a b) n := by
  rw [← psums_gather, gather_ext fun k => tot_prod_comm b a k, psums_gather]
theorem psums_scale (l : List (Int × Int)) (b : Int) (n : Nat) : (psums l n).map (· * b) = psums (l.map fun x => (x.1, x.2 * b)) n := by
  unfold psums
  rw [List.map_map]
  exact List.map_congr_left fun j _ => (psum_scale l b j).symm
theorem psums_less_back (a b : List (Int × Int)) (n : Nat) : psums ((a ++ b) ++ b.map fun x => (x.1, -x.2)) n = psums a n := by
  unfold psums
  refine List.map_congr_left fun j _ => ?_
  rw [psum_append, psum_append, psum_neg]
  omega
theorem move_back (l : List (Int × Int)) (b : Int) : prodL (prodL l [(b, 1)]) [(0 - b, 1)] = l := by
  rw [prodL_one, prodL_one, List.map_map]
  conv => rhs; rw [← List.map_id l]
  refine List.map_congr_left fun x _ => ?_
  show (x.1 + b + (0 - b), x.2 * 1 * 1) = x
  rw [Int.mul_one, Int.mul_one, show x.1 + b + (0 - b) = x.1 by omega]
theorem prod_one_move (l : List (Int × Int)) (b : Int) : prodL l [(b, 1)] = l.map fun x => (x.1 + b, x.2) := by
  rw [prodL_one]
  exact List.map_congr_left fun x _ => by rw [Int.mul_one]
theorem Kb.map1 {A B A' : Nat} {l : List (Int × Int)} (h : Kb A B l) {φ : Int → Int} (hφ : ∀ x : Int, x.natAbs < 2 ^ A → (φ x).natAbs < 2 ^ A') : Kb A' B (l.map fun x => (φ x.1, x.2)) := fun x hx => by
  obtain ⟨y, hy, rfl⟩ := List.mem_map.mp hx
  exact ⟨hφ _ (h y hy).1, (h y hy).2⟩
theorem Kb.app2 {A B : Nat} {a b : List (Int × Int)} (h1 : Kb A B a) (h2 : Kb A B b) : Kb A B (a ++ b) := fun x hx => by
  rcases List.mem_append.mp hx with z | z
  · exact h1 x z
  · exact h2 x z
end
end Cr

set_option Elab.async false
set_option linter.all false
set_option maxRecDepth 100000
set_option maxHeartbeats 800000
namespace Cr
open PySem PySem.Spec PyProof.Rows L2
/-! residues -/
def Cg (p a b : Int) : Prop := p ∣ a - b
theorem Cg.refl (p a : Int) : Cg p a a := by unfold Cg; rw [Int.sub_self]; exact Int.dvd_zero p
theorem Cg.symm {p a b : Int} (h : Cg p a b) : Cg p b a := by
  obtain ⟨c, e⟩ := h
  exact ⟨-c, by rw [Int.mul_neg, ← e]; omega⟩
theorem Cg.trans {p a b c : Int} (h : Cg p a b) (h2 : Cg p b c) : Cg p a c := by
  obtain ⟨x, e⟩ := h
  obtain ⟨y, e2⟩ := h2
  exact ⟨x + y, by rw [Int.mul_add, ← e, ← e2]; omega⟩
theorem Cg.add {p a b c d : Int} (h : Cg p a b) (h2 : Cg p c d) : Cg p (a + c) (b + d) := by
  obtain ⟨x, e⟩ := h
  obtain ⟨y, e2⟩ := h2
  exact ⟨x + y, by rw [Int.mul_add, ← e, ← e2]; omega⟩
theorem Cg.mul {p a b c d : Int} (h : Cg p a b) (h2 : Cg p c d) : Cg p (a * c) (b * d) := by
  obtain ⟨x, e⟩ := h
  obtain ⟨y, e2⟩ := h2
  exact ⟨x * c + b * y, by
    have e3 : a = p * x + b := by omega
    have e4 : c = p * y + d := by omega
    subst e3; subst e4
    grind⟩
theorem Cg.pow {p a b : Int} (h : Cg p a b) : ∀ j : Nat, Cg p (a ^ j) (b ^ j)
  | 0 => by
    rw [Int.pow_zero, Int.pow_zero]
    exact Cg.refl _ _
  | j + 1 => by
    rw [Int.pow_succ, Int.pow_succ]
    exact (Cg.pow h j).mul h
theorem cg_mod {p : Int} (hp : 0 < p) (a : Int) : Cg p (a.fmod p) a := by
  rw [Int.fmod_eq_emod_of_nonneg _ (by omega)]
  have e := Int.mul_ediv_add_emod a p
  exact ⟨-(a / p), by rw [Int.mul_neg]; omega⟩
theorem Cg.mod {p a b : Int} (hp : 0 < p) (h : Cg p a b) : a.fmod p = b.fmod p := by
  rw [Int.fmod_eq_emod_of_nonneg _ (by omega), Int.fmod_eq_emod_of_nonneg _ (by omega)]
  exact Int.emod_eq_emod_iff_emod_sub_eq_zero.mpr (Int.emod_eq_zero_of_dvd h)
theorem mod_range {p : Int} (hp : 0 < p) (a : Int) : 0 ≤ a.fmod p ∧ a.fmod p < p := ⟨Int.fmod_nonneg_of_pos a hp, Int.fmod_lt_of_pos a hp⟩
theorem mod_same {p a : Int} (hp : 0 < p) (h0 : 0 ≤ a) (h1 : a < p) : a.fmod p = a := by
  rw [Int.fmod_eq_emod_of_nonneg _ (by omega), Int.emod_eq_of_lt h0 h1]
/-- what is left of a row of changes -/
def remL (p : Int) (g : List (Int × Int)) : List (Int × Int) := (g.filter fun x => !(x.2.fmod p == 0)).map fun x => (x.1, x.2.fmod p)
def rem (p : Int) (l : List (Int × Int)) : List (Int × Int) := remL p (gather (l.map fun x => (x.1.fmod p, x.2)))
theorem remL_mem {p : Int} {g : List (Int × Int)} {x : Int × Int} : x ∈ remL p g ↔ ∃ y ∈ g, y.1 = x.1 ∧ x.2 = y.2.fmod p ∧ x.2 ≠ 0 := by
  unfold remL
  rw [List.mem_map]
  constructor
  · rintro ⟨y, hy, rfl⟩
    have z := List.mem_filter.mp hy
    exact ⟨y, z.1, rfl, rfl, by simpa using z.2⟩
  · rintro ⟨y, hy, h1, h2, h3⟩
    refine ⟨y, List.mem_filter.mpr ⟨hy, by rw [← h2]; simpa using h3⟩, ?_⟩
    rw [h1, ← h2]
theorem remL_rising {p : Int} {g : List (Int × Int)} (h : g.Pairwise fun a b => a.1 < b.1) : (remL p g).Pairwise fun a b => a.1 < b.1 := List.pairwise_map.mpr (h.filter _)
theorem rem_led (p : Int) (l : List (Int × Int)) : Led (rem p l) := ⟨remL_rising (gather_led _).1, fun x hx => by
  obtain ⟨y, _, _, _, h⟩ := remL_mem.mp hx
  exact h⟩
theorem remL_len (p : Int) (g : List (Int × Int)) : (remL p g).length ≤ g.length := by
  unfold remL
  rw [List.length_map]
  exact List.length_filter_le ..
theorem rem_len (p : Int) (l : List (Int × Int)) : (rem p l).length ≤ l.length := by
  refine Nat.le_trans (remL_len ..) (Nat.le_trans (gather_len _) ?_)
  rw [List.length_map]
  exact Nat.le_refl _
theorem rem_range {p : Int} (hp : 0 < p) {l : List (Int × Int)} {x : Int × Int} (h : x ∈ rem p l) : (0 ≤ x.1 ∧ x.1 < p) ∧ 0 < x.2 ∧ x.2 < p := by
  obtain ⟨y, hy, h1, h2, h3⟩ := remL_mem.mp h
  obtain ⟨z, hz, e⟩ := gather_key hy
  obtain ⟨u, hu, rfl⟩ := List.mem_map.mp hz
  have e' : u.1.fmod p = y.1 := e
  have a := mod_range hp u.1
  have b := mod_range hp y.2
  omega
theorem tot_cg {p : Int} (hp : 0 < p) (k : Int) : ∀ l : List (Int × Int), Cg p (tot (l.map fun x => (x.1.fmod p, x.2.fmod p)) k) (tot (l.map fun x => (x.1.fmod p, x.2)) k)
  | [] => Cg.refl _ _
  | x :: l => by
    show Cg p ((if x.1.fmod p = k then x.2.fmod p else 0) + _) ((if x.1.fmod p = k then x.2 else 0) + _)
    refine Cg.add ?_ (tot_cg hp k l)
    split
    · exact cg_mod hp _
    · exact Cg.refl _ _
theorem gather_mem' {cs : List (Int × Int)} {k : Int} (h : tot cs k ≠ 0) : (k, tot cs k) ∈ gather cs := (gather_mem cs _).mpr ⟨rfl, h⟩
theorem remL_gather_mem {p : Int} {cs : List (Int × Int)} {x : Int × Int} : x ∈ remL p (gather cs) ↔ x.2 = (tot cs x.1).fmod p ∧ x.2 ≠ 0 := by
  rw [remL_mem]
  constructor
  · rintro ⟨y, hy, h1, h2, h3⟩
    have z := ((gather_mem cs y).mp hy).1
    exact ⟨by rw [h2, z, h1], h3⟩
  · rintro ⟨h1, h2⟩
    have h3 : tot cs x.1 ≠ 0 := fun e => h2 (by rw [h1, e]; simp)
    exact ⟨_, gather_mem' h3, rfl, h1, h2⟩
/-- the law's own way -/
def lrem (p : Int) (l : List (Int × Int)) : List (Int × Int) := ((gather (l.map fun x => (x.1.fmod p, x.2.fmod p))).map fun x => (x.1, x.2.fmod p)).filter fun x => !(x.2 == 0)
theorem lrem_eq {p : Int} (hp : 0 < p) (l : List (Int × Int)) : lrem p l = rem p l := by
  have e : lrem p l = remL p (gather (l.map fun x => (x.1.fmod p, x.2.fmod p))) := by
    unfold lrem remL
    rw [List.filter_map]
    rfl
  rw [e]
  refine rising_eq (f := (·.1)) (remL_rising (gather_led _).1) (remL_rising (gather_led _).1) fun x => ?_
  show _ ↔ x ∈ remL p (gather _)
  rw [remL_gather_mem, remL_gather_mem, (tot_cg hp x.1 l).mod hp]
theorem psum_remL {p : Int} (hp : 0 < p) (j : Nat) : ∀ g : List (Int × Int), Cg p (psum (remL p g) j) (psum g j)
  | [] => Cg.refl _ _
  | x :: g => by
    have ih := psum_remL hp j g
    unfold remL at ih ⊢
    rw [psum_cons]
    by_cases h : (!(x.2.fmod p == 0)) = true
    · rw [List.filter_cons, if_pos h, List.map_cons, psum_cons]
      exact ((cg_mod hp x.2).mul (Cg.refl _ _)).add ih
    · rw [List.filter_cons, if_neg h]
      have e : x.2.fmod p = 0 := by simpa using h
      have c := (cg_mod hp x.2).mul (Cg.refl p (x.1 ^ j))
      rw [e, Int.zero_mul] at c
      have d := c.add ih
      rwa [Int.zero_add] at d
theorem psum_modk {p : Int} (hp : 0 < p) (j : Nat) : ∀ l : List (Int × Int), Cg p (psum (l.map fun x => (x.1.fmod p, x.2)) j) (psum l j)
  | [] => Cg.refl _ _
  | x :: l => by
    rw [List.map_cons, psum_cons, psum_cons]
    exact ((Cg.refl p x.2).mul ((cg_mod hp x.1).pow j)).add (psum_modk hp j l)
theorem psum_rem {p : Int} (hp : 0 < p) (l : List (Int × Int)) (j : Nat) : Cg p (psum (rem p l) j) (psum l j) := by
  refine (psum_remL hp j _).trans ?_
  rw [psum_gather]
  exact psum_modk hp j l
/-- the rests of the sums -/
def psm (p : Int) (l : List (Int × Int)) (n : Nat) : List Int := (List.range n).map fun j => (psum l j).fmod p
theorem psm_len (p : Int) (l : List (Int × Int)) (n : Nat) : (psm p l n).length = n := by simp [psm]
theorem psm_succ (p : Int) (l : List (Int × Int)) (n : Nat) : psm p l (n + 1) = psm p l n ++ [(psum l n).fmod p] := by
  unfold psm
  rw [List.range_succ, List.map_append]
  rfl
theorem psm_rem {p : Int} (hp : 0 < p) (l : List (Int × Int)) (n : Nat) : psm p (rem p l) n = psm p l n := List.map_congr_left fun j _ => (psum_rem hp l j).mod hp
/-- amounts times powers, remainder by remainder, from any first one on -/
def tmr (p : Int) (f : Int × Int → Int) (x : Int × Int) : Nat → Int
  | 0 => f x
  | j + 1 => (tmr p f x j * x.1).fmod p
theorem tmr_cg {p : Int} (hp : 0 < p) {f : Int × Int → Int} {x : Int × Int} (hf : Cg p (f x) x.2) : ∀ j : Nat, Cg p (tmr p f x j) (x.2 * x.1 ^ j)
  | 0 => by
    show Cg p (f x) (x.2 * x.1 ^ 0)
    rw [Int.pow_zero, Int.mul_one]
    exact hf
  | j + 1 => by
    refine (cg_mod hp _).trans ?_
    rw [Int.pow_succ, ← Int.mul_assoc]
    exact (tmr_cg hp hf j).mul (Cg.refl _ _)
theorem tmr_range {p : Int} (hp : 0 < p) {f : Int × Int → Int} {x : Int × Int} (hf : 0 ≤ f x ∧ f x < p) : ∀ j : Nat, 0 ≤ tmr p f x j ∧ tmr p f x j < p
  | 0 => hf
  | j + 1 => mod_range hp _
theorem tmr_sum {p : Int} (hp : 0 < p) {f : Int × Int → Int} (j : Nat) : ∀ {l : List (Int × Int)}, (∀ x ∈ l, Cg p (f x) x.2) → (l.map fun x => tmr p f x j).sum.fmod p = (psum l j).fmod p := by
  intro l h
  refine Cg.mod hp ?_
  induction l with
  | nil => exact Cg.refl _ _
  | cons x l ih =>
    rw [List.map_cons, List.sum_cons, psum_cons]
    exact (tmr_cg hp (h x (by simp)) j).add (ih fun y hy => h y (List.mem_cons_of_mem _ hy))
/-! primes -/
def primed (p : Nat) : Prop := 2 ≤ p ∧ p < 1000 ∧ ∀ d, 2 ≤ d → d * d ≤ p → p % d ≠ 0
def primedB (p : Nat) : Bool := decide (2 ≤ p) && decide (p < 529) && (List.range 23).all fun d => decide (d < 2) || decide (p < d * d) || decide (p % d ≠ 0)
theorem primed_of {p : Nat} (h : primedB p = true) : primed p := by
  unfold primedB at h
  rw [Bool.and_eq_true, Bool.and_eq_true] at h
  obtain ⟨⟨h1, h2⟩, h3⟩ := h
  have h1 := of_decide_eq_true h1
  have h2 := of_decide_eq_true h2
  refine ⟨h1, by omega, fun d hd hdd => ?_⟩
  have hlt : d < 23 := by
    by_cases z : d < 23
    · exact z
    · have := Nat.mul_le_mul (show 23 ≤ d by omega) (show 23 ≤ d by omega)
      omega
  have z := List.all_eq_true.mp h3 d (List.mem_range.mpr hlt)
  rw [Bool.or_eq_true, Bool.or_eq_true] at z
  rcases z with (z | z) | z
  · have := of_decide_eq_true z
    omega
  · have := of_decide_eq_true z
    omega
  · exact of_decide_eq_true z
/-- found, number by number from 2 on -/
def prL : Nat → List Nat
  | 0 => []
  | i + 1 => if (prL i).all (fun q => !(decide (q * q ≤ i + 2) && (i + 2) % q == 0)) then prL i ++ [i + 2] else prL i
theorem filter_none {α β : Type} (f : α → Bool) (g : α → β) (h : β → PyData) : ∀ l : List α, (((l.filter f).map g).map h).isEmpty = l.all fun q => !(f q)
  | [] => rfl
  | x :: l => by
    have ih := filter_none f g h l
    rw [List.filter_cons, List.all_cons]
    cases e : f x with
    | true => simp
    | false =>
      rw [if_neg (by simp), ih]
      rfl
theorem prL_lt : ∀ (i : Nat), ∀ q ∈ prL i, 2 ≤ q ∧ q < i + 2
  | 0, q, h => by cases h
  | i + 1, q, h => by
    unfold prL at h
    split at h
    · rcases List.mem_append.mp h with z | z
      · have := prL_lt i q z
        omega
      · rw [List.mem_singleton.mp z]
        omega
    · have := prL_lt i q h
      omega
theorem range_getD {β : Type} (l : List (Int × Int)) (f : Int × Int → β) : (List.range l.length).map (fun k => f (l.getD k (0, 0))) = l.map f := by
  refine List.ext_getElem? fun i => ?_
  rw [List.getElem?_map, List.getElem?_map]
  by_cases h : i < l.length
  · rw [List.getElem?_range h]
    simp [List.getD_eq_getElem?_getD, h]
  · rw [List.getElem?_eq_none (by rw [List.length_range]; omega), List.getElem?_eq_none (by omega)]
    rfl
theorem zip_two (l : List (Int × Int)) (f g : Int × Int → Int) : zipD ((l.map f).map .int) ((l.map g).map .int) = l.map fun x => pr (f x, g x) := by
  induction l with
  | nil => rfl
  | cons x l ih => exact congrArg (pr (f x, g x) :: ·) ih
theorem prL_len : ∀ i : Nat, (prL i).length ≤ i
  | 0 => Nat.le_refl _
  | i + 1 => by
    have := prL_len i
    unfold prL
    split
    · rw [List.length_append]
      simp
      omega
    · omega
theorem prL_500 : (prL 498).length = 95 ∧ ∀ q ∈ prL 498, primedB q = true ∧ q < 500 := by decide +kernel
/-! rules -/
section
variable {K : PySem.W.Frag} {q : Option Addr} {n : Nat} {δ δ' : List Sl} {te te2 ta tb : TE} {tt : TT} {c c1 c2 : Nat} {Φ : PyData → Prop} {d d2 : PyData} {A0 B0 Hk H1 : Hp} {σ : L2.St} {D : Ends} {tz t1 : TS} {p : Addr} {ds es : List PyData}
/-- if, the test reads a list that still changes -/
theorem s_ifC {i : Nat} {b : Bool} (h : TB q (δ.set i (.dat (.list ds))) tt b) (s : At q n δ A0 B0 σ Hk H1) (cl : Cell q B0 Hk H1 p ds) (hi : δ[i]? = some (.adr p))
    (k1 : b = true → ∀ Hk' H2, Gr q Hk H1 Hk' H2 → At q n δ A0 B0 σ Hk' H2 → Cell q B0 Hk' H2 p ds → t1 D σ H2)
    (k2 : b = false → ∀ Hk' H2, Gr q Hk H1 Hk' H2 → At q n δ A0 B0 σ Hk' H2 → Cell q B0 Hk' H2 p ds → D.nx σ H2) : tIfS tt t1 tNext D σ H1 :=
  testC (c := 0) h s cl hi fun b' Hk' H2 e g a cl2 => by
    subst e
    cases b' with
    | true => exact iteT (k1 rfl Hk' H2 g a cl2)
    | false => exact iteF (k2 rfl Hk' H2 g a cl2)
theorem e_reprT {ds : List PyData} (h : E q δ te (.tuple ds)) (hs : (PyData.tuple ds).showable = true) (hn : (PyData.tuple ds).hasDict = false) (hk : (PyData.tuple ds).depth ≤ 40) (hz : (PyData.tuple ds).shown.length ≤ sizeLine) : E q δ (tCB (rReprD K) (tCons te tNil)) (.str (PyData.tuple ds).shown) :=
  e_cb1 h fun vs H H1 hv e Q k => by
    obtain ⟨v, rfl, dv⟩ := hv.one
    obtain ⟨a, xs, rfl, h1, h2⟩ := dv.tupOf
    exact ⟨a, _, rfl, Dq.dp K _ _ (Dq.mono e _ _ dv), hs, hn, hk, hz, k _ _ H H1 (Gr.refl e) rfl (.str _)⟩
end
theorem shows_pdB : ∀ {cs : List (Int × Int)}, Bd 70 cs → PyData.showableAll (pd cs) = true ∧ PyData.hasDictAll (pd cs) = false ∧ PyData.leavesShortAll 100 (pd cs) = true
  | [], _ => ⟨rfl, rfl, rfl⟩
  | x :: cs, h => by
    obtain ⟨i1, i2, i3⟩ := shows_pdB (cs := cs) fun y hy => h y (by simp [hy])
    have hx := h x (by simp)
    have lg : ∀ i : Int, i.natAbs < 2 ^ 70 → i.natAbs.log2 < 71 := fun i hi => PySem.Flt.log2_lt_of (by omega) (Nat.lt_of_lt_of_le hi (by omega))
    have ln : ∀ i : Int, i.natAbs < 2 ^ 70 → (PyData.shown (.int i)).length ≤ 100 := fun i hi => by
      have z := int_text_length_le (a := i) (k := 71) (by omega) (lg i hi)
      have e : (PyData.shown (.int i)).length = (toString i).length := by
        show (Str.ofString (toString i)).length = _
        rw [Str.ofString_eq_toList]
        show (((toString i).toList.map Char.toNat).toArray).size = _
        rw [List.size_toArray, List.length_map]
        first | rfl | exact String.length_toList | exact String.length_toList.symm
      omega
    refine ⟨?_, ?_, ?_⟩
    · show (PyData.showable (pr x) && PyData.showableAll (pd cs)) = true
      rw [i1, Bool.and_true]
      show (decide (x.1.natAbs.log2 < 1920) && (decide (x.2.natAbs.log2 < 1920) && true)) = true
      rw [decide_eq_true (by have := lg x.1 hx.1; omega), decide_eq_true (by have := lg x.2 hx.2; omega)]; rfl
    · show (PyData.hasDict (pr x) || PyData.hasDictAll (pd cs)) = false
      rw [i2]; rfl
    · show (PyData.leavesShort 100 (pr x) && PyData.leavesShortAll 100 (pd cs)) = true
      rw [i3, Bool.and_true]
      show (decide ((PyData.shown (.int x.1)).length ≤ 100) && (decide ((PyData.shown (.int x.2)).length ≤ 100) && true)) = true
      rw [decide_eq_true (ln x.1 hx.1), decide_eq_true (ln x.2 hx.2)]; rfl
theorem weight_pdB : ∀ {cs : List (Int × Int)}, Bd 70 cs → PyData.weightAll (pd cs) ≤ 160 * cs.length
  | [], _ => Nat.le_refl _
  | x :: cs, h => by
    have ih := weight_pdB (cs := cs) fun y hy => h y (by simp [hy])
    have hx := h x (by simp)
    have lg : ∀ i : Int, i.natAbs < 2 ^ 70 → PyData.weight (.int i) ≤ 72 := fun i hi => by
      have z : i.natAbs.log2 < 71 := PySem.Flt.log2_lt_of (by omega) (Nat.lt_of_lt_of_le hi (by omega))
      show (if i == 0 then 0 else i.natAbs.log2 + 1) ≤ 72
      split <;> omega
    have h1 := lg x.1 hx.1
    have h2 := lg x.2 hx.2
    show PyData.weight (pr x) + 1 + PyData.weightAll (pd cs) ≤ 160 * (cs.length + 1)
    have e : PyData.weight (pr x) = PyData.weight (.int x.1) + 1 + (PyData.weight (.int x.2) + 1 + 0) := rfl
    omega
theorem led_shown {cs : List (Int × Int)} (h : Bd 70 cs) (hl : cs.length ≤ 400) : (led cs).showable = true ∧ (led cs).hasDict = false ∧ (led cs).depth ≤ 40 ∧ (led cs).shown.length ≤ sizeLine := by
  have s := shows_pdB h
  refine ⟨s.1, s.2.1, ?_, ?_⟩
  · have h : PyData.depthAll (pd cs) ≤ 2 := depthAll_le fun d hd => by
      obtain ⟨x, _, rfl⟩ := List.mem_map.mp hd
      exact (pr_shape x).2
    show (PyData.tuple (pd cs)).depth ≤ 40
    simp only [PyData.depth]
    omega
  · have z := PyData.shown_le 100 (by omega) (led cs) s.2.2
    have w : PyData.weight (led cs) ≤ 64000 := by
      have y := weight_pdB h
      show PyData.weightAll (pd cs) ≤ 64000
      omega
    have e : sizeLine = 16777216 := by decide
    rw [e]
    have m := Nat.mul_le_mul_left (100 + 2) w
    omega
end Cr
namespace Cr
open PySem PySem.Spec PyProof.Rows L2
section
variable {K : PySem.W.Frag} {q : Option Addr} {n : Nat} {δ δ' : List Sl} {te te2 ta tb : TE} {ds es : List PyData}
/-- list(t), a new list -/
theorem lstTN (h : E q δ te (.tuple ds)) : JN q δ (tCB (rLstQ K) (tCons te tNil)) ds := fun σ H H1 n sg o Q k =>
  h σ H H1 n sg o _ fun d v Hk H2 g o1 e dv => by
    subst e
    obtain ⟨p, xs, rfl, h1, h2⟩ := dv.tupOf
    refine ⟨p, xs, rfl, .inr (.inl (h1.mono o1.a).rd), fun l hl => ?_⟩
    have hlk : Hk l = none := o1.a.free hl
    have hlq : q ≠ some l := fun e => (o1.j l e).ne hl
    have hl1 : H1 l = none := by
      cases e : H1 l with
      | none => rfl
      | some u => exact absurd hl (g.t l (by rw [e]; exact fun z => by cases z))
    exact k l xs Hk (upd H2 l (.lst xs)) (g.trans (Gr.cell g.a hl)) (o1.cell hlk hlq) hl1 hlk upd_same h2
end
end Cr

set_option Elab.async false
set_option linter.all false
set_option maxRecDepth 100000
set_option maxHeartbeats 4000000
namespace L2
open PySem PySem.Spec PyProof.Rows
/-! tuple * int, for 0 and 1, too -/
theorem tuple_mul0 (l : Addr) (items : Array Value) (n : Nat) (dd : Option Addr) (sl : Array (Option Value)) (u : Tok) (hne : items.isEmpty = false) :
    Meets (Builtin.«tuple.__mul__» ⟨[.ref l, .int 0 u], []⟩) (fun _ R s => s.heap.get? l = some { cls := .type "tuple", dict := dd, data := .seq items n, slots := sl } ∧
      R (.ok (.ret (Value.ref s.heap.objs.size))) { s with heap := s.heap.push { cls := Value.type "tuple", data := Data.seq #[] }, toks := s.toks }) :=
  .of_wp fun prog w A R s h => by
    obtain ⟨hp, g, d, tk, os⟩ := s
    obtain ⟨hl, h⟩ := h
    have f1 := AutoSeq1.idx_int
    have c0 : (decide ((0 : Int) < -(2 ^ 63)) || decide ((0 : Int) ≥ 2 ^ 63)) = false := by decide
    have c1 : (items.isEmpty || (0 : Int) == 1) = false := by rw [hne]; rfl
    have c2 : (decide ((0 : Int) ≤ 0) || items.isEmpty) = true := by rw [hne]; rfl
    wp_walk using wpAny_loadPart' hl
    repeat (first
      | (refine wpAny_ite_false (decide_eq_false (by rw [c0]; exact Bool.false_ne_true)) ?_; wp_walk using wpAny_loadPart' hl)
      | (refine wpAny_ite_false (decide_eq_false (by rw [c1]; exact Bool.false_ne_true)) ?_; wp_walk using wpAny_loadPart' hl)
      | (refine wpAny_ite_true (decide_eq_true c2) ?_; wp_walk using wpAny_loadPart' hl))
    exact ⟨_, rfl, h⟩
theorem tuple_mul1 (l : Addr) (items : Array Value) (n : Nat) (dd : Option Addr) (sl : Array (Option Value)) (u : Tok) :
    Meets (Builtin.«tuple.__mul__» ⟨[.ref l, .int 1 u], []⟩) (fun _ R s => s.heap.get? l = some { cls := .type "tuple", dict := dd, data := .seq items n, slots := sl } ∧
      R (.ok (.ret (Value.ref l))) s) :=
  .of_wp fun prog w A R s h => by
    obtain ⟨hp, g, d, tk, os⟩ := s
    obtain ⟨hl, h⟩ := h
    have f1 := AutoSeq1.idx_int
    have c0 : (decide ((1 : Int) < -(2 ^ 63)) || decide ((1 : Int) ≥ 2 ^ 63)) = false := by decide
    have c1 : (items.isEmpty || (1 : Int) == 1) = true := by rw [Bool.or_eq_true]; exact .inr rfl
    wp_walk using wpAny_loadPart' hl
    repeat (first
      | (refine wpAny_ite_false (decide_eq_false (by rw [c0]; exact Bool.false_ne_true)) ?_; wp_walk using wpAny_loadPart' hl)
      | (refine wpAny_ite_true (decide_eq_true c1) ?_; wp_walk using wpAny_loadPart' hl))
    exact ⟨_, rfl, h⟩
end L2
namespace L2
open PySem PySem.Spec PyProof.Rows
def rRepTA (K : PySem.W.Frag) : R2 := fun x y H Q => ∃ l k xs, x = .ref l ∧ y = .int k ∧ SqT K H l xs ∧ xs ≠ [] ∧ 0 ≤ k ∧ k ≤ 1000 ∧ xs.length ≤ 1000 ∧ (k = 1 → Q (.ref l) H) ∧ (k ≠ 1 → ∀ p, H p = none → Q (.ref p) (upd H p (.tup (List.replicate k.toNat xs).flatten)))
section
variable {X : Cx}
theorem op_repTA : OpR X (binaryOp .Mult) (rRepTA X.K) := by
  intro pins s σ H x y v u Q I rx ry h
  obtain ⟨l, k, xs, rfl, rfl, hT, hne, h1, h2, hz, q1, q⟩ := h
  by_cases hk2 : 2 ≤ k
  · exact op_repT pins s σ H _ _ v u Q I rx ry ⟨l, k, xs, rfl, rfl, hT, hne, hk2, h2, hz, q (by omega)⟩
  cases rx
  obtain ⟨t, rfl⟩ := ry
  obtain ⟨its, r, ⟨⟨cls, dd, data, sl⟩, ho, hc, n, hd⟩, hs⟩ := I.tuple hT
  simp only at hc hd
  subst hc hd
  have hn : its ≠ [] := fun e => hne (by
    have := r.length
    rw [e] at this
    exact List.eq_nil_of_length_eq_zero this)
  have hi : its.toArray.isEmpty = false := by
    cases its with
    | nil => exact absurd rfl hn
    | cons a b => rfl
  by_cases hk1 : k = 1
  · subst hk1
    exact wpAny_binaryOp_repeat_ref (T := "tuple") (U := "int") (by decide) ⟨_, ho, rfl⟩ (fun s' => typeIs_int s' 1 t) noFill_tuple_mul F.fills_int_mul F.slot_int_rmul repeat_tuple F.slot_int_index.lookup
      (call_meets F.slot_int_rmul (typeIs_int s 1 t) F.entry_int_rmul (F.args_int_rmul_2 _ _) (int_rmul_tuple 1 t l its.toArray n dd sl)
        ⟨ho, rfl, ⟨_, ho, rfl⟩, call_meets F.slot_tuple_mul ⟨_, ho, rfl⟩ F.entry_tuple_mul (F.args_tuple_mul_2 _ _) (tuple_mul1 l its.toArray n dd sl t) ⟨ho, ⟨.ref l, H, I, rfl, q1 rfl⟩⟩⟩)
  · have hk0 : k = 0 := by omega
    subst hk0
    refine wpAny_binaryOp_repeat_ref (T := "tuple") (U := "int") (by decide) ⟨_, ho, rfl⟩ (fun s' => typeIs_int s' 0 t) noFill_tuple_mul F.fills_int_mul F.slot_int_rmul repeat_tuple F.slot_int_index.lookup
      (call_meets F.slot_int_rmul (typeIs_int s 0 t) F.entry_int_rmul (F.args_int_rmul_2 _ _) (int_rmul_tuple 0 t l its.toArray n dd sl)
        ⟨ho, rfl, ⟨_, ho, rfl⟩, call_meets F.slot_tuple_mul ⟨_, ho, rfl⟩ F.entry_tuple_mul (F.args_tuple_mul_2 _ _) (tuple_mul0 l its.toArray n dd sl t hi) ⟨ho, ?_⟩⟩)
    refine ⟨.ref s.heap.objs.size, _, I.laid (t' := s.toks) (o := .tup (List.replicate (0 : Int).toNat xs).flatten) (fun b ob q => Heap.get?_push_of_some _ q) (Nat.le_refl _) ?_, rfl, q (by decide) _ (I.hok.fresh (Nat.le_refl _))⟩
    exact ⟨by simp, [], .nil, IsTup.new _ _⟩
theorem k_repTA {K : PySem.W.Frag} (h : X.K = K) : OpR X (binaryOp .Mult) (rRepTA K) := h ▸ op_repTA
end
end L2

set_option Elab.async false
set_option linter.all false
set_option maxRecDepth 100000
set_option maxHeartbeats 800000
namespace Cr
open PySem PySem.Spec PyProof.Rows L2
section
variable {K : PySem.W.Frag} {q : Option Addr} {n : Nat} {δ δ' : List Sl} {te te2 ta tb tk tv : TE} {tt : TT} {c c1 c2 : Nat} {P1 P2 : Int → Prop} {d d2 : PyData} {A0 B0 Hk H1 : Hp} {σ : L2.St} {D : Ends} {r : Addr} {ds es : List PyData}
theorem e_repTA {k : Int} (ha : E q δ ta (.tuple ds)) (hb : E q δ tb (.int k)) (hne : ds ≠ []) (h0 : 0 ≤ k) (h1 : k ≤ 1000) (hl : ds.length ≤ 1000) (np : lax ds = true ∨ k ≤ 1 := by first | exact .inl rfl | exact .inr (by omega)) : E q δ (tOp (rRepTA K) ta tb) (.tuple (List.replicate k.toNat ds).flatten) := e_op ha hb fun x y H H1 hx hy e1 Q kk => by
  obtain ⟨a, xs, rfl, h2, h3⟩ := hx.tupOf
  rw [hy.intOf]
  have hn : xs ≠ [] := fun e => hne (by
    have := h3.length
    rw [e] at this
    exact List.eq_nil_of_length_eq_zero this.symm)
  refine ⟨a, k, xs, rfl, rfl, .inl (h2.mono e1).rd, hn, h0, h1, by rw [h3.length]; exact hl, fun e => ?_, fun ne1 p hp => ?_⟩
  · subst e
    have e2 : (List.replicate (1 : Int).toNat ds).flatten = ds := by simp
    exact kk (.tuple ds) _ H H1 (Gr.refl e1) (by rw [e2]) hx
  · have hall : ∀ m : Nat, DqAll H (List.replicate m xs).flatten (List.replicate m ds).flatten := fun m => by
      induction m with
      | zero => exact .nil
      | succ m ih => rw [List.replicate_succ, List.replicate_succ, List.flatten_cons, List.flatten_cons]; exact h3.append ih
    have g := Gr.new (q := none) (o := .tup (List.replicate k.toNat xs).flatten) e1 hp
    refine kk _ _ _ _ g rfl (.tup (.inr ⟨?_, upd_same⟩) (DqAll.mono g.k _ _ (hall _)))
    rcases np with np | np
    · cases ds with
      | nil => exact absurd rfl hne
      | cons d ds => cases k.toNat with
        | zero => rfl
        | succ m => rw [List.replicate_succ, List.flatten_cons]; exact np
    · have : k = 0 := by omega
      subst this; rfl
/-- d[key] = value, both drawn -/
theorem s_dput {i : Nat} {m : List (Int × Int)} (hv : J q δ tv c1 (IntP P1)) (hk : J q δ tk c2 (IntP P2)) (s : At q (n + c2 + c1) δ A0 B0 σ Hk H1) (hi : δ[i]? = some (.adr r))
    (hm : H1 r = some (.dK (mdict m))) (nk : Hk r = none) (nq : q ≠ some r) (nb : B0 r = none) (hl : m.length < 1000000)
    (kont : ∀ v k Hk' H2, P1 v → P2 k → Same Hk Hk' → At q n δ A0 B0 σ Hk' H2 → H2 r = some (.dK (mdict (putI m k v))) → Hk' r = none → D.nx σ H2) : sDPut (tVar i) tk tv D σ H1 := by
  refine hv σ Hk H1 (n + c2) s.sg s.ok _ fun d1 v1 Hk2 H2 g2 o2 ⟨v, pv, e1⟩ dv1 => ?_
  subst e1
  rw [dv1.intOf]
  refine ⟨.ref r, s.sg.getA hi, ?_⟩
  refine hk σ Hk2 H2 n (s.sg.mono g2.k) o2 _ fun d3 v3 Hk3 H3 g3 o3 ⟨k, pk, e3⟩ dv3 => ?_
  subst e3
  rw [dv3.intOf]
  have hm2 : H2 r = some (.dK (mdict m)) := g2.s r _ nq hm
  have hm3 : H3 r = some (.dK (mdict m)) := g3.s r _ nq hm2
  have nk2 : Hk2 r = none := g2.f r nk (by rw [hm]; exact fun z => by cases z)
  have nk3 : Hk3 r = none := g3.f r nk2 (by rw [hm2]; exact fun z => by cases z)
  refine ⟨r, _, rfl, DPut.k (k := (Sum.inl k : Key)) hm3 (by unfold mdict; rw [List.length_map, sizeLine_eq]; omega), ?_⟩
  rw [mdict_put]
  exact kont v k Hk3 _ pv pk (g2.k.trans g3.k) ⟨o3.cell nk3 nq, (s.sg.mono g2.k).mono g3.k, ((s.gr.trans g2).trans g3).put nb nk3⟩ upd_same nk3
end
/-- a dict that is set at a key -/
theorem DictOf.put {p m : List (Int × Int)} (h : DictOf p m) (k v : Int) : DictOf (p ++ [(k, v - tot p k)]) (putI m k v) := by
  have z := h.add (k, v - tot p k)
  have gv : (getI m k).getD 0 = tot p k := by
    by_cases hx : k ∈ p.map (·.1)
    · rw [h.get _ hx]; rfl
    · rw [getI_none.mpr (fun z => hx ((h.mem _).mp z)), tot_no hx]; rfl
  unfold addI at z
  rw [show (getI m (k, v - tot p k).1).getD 0 + (k, v - tot p k).2 = v by show (getI m k).getD 0 + (v - tot p k) = v; rw [gv]; omega] at z
  exact z
/-! ### all sums modulo a prime -/
theorem sm_cg {p : Int} {F G : Nat → Int} : ∀ {n : Nat}, (∀ i < n, Cg p (F i) (G i)) → Cg p (sm n F) (sm n G)
  | 0, _ => Cg.refl _ _
  | n + 1, h => (sm_cg fun i hi => h i (by omega)).add (h n (by omega))
theorem evalP_rev (x : Int) : ∀ (n : Nat) (f : List Int), f.length = n → evalP f.reverse x = sm n fun t => f.getD t 0 * x ^ (n - 1 - t)
  | 0, f, h => by
    rw [List.length_eq_zero_iff.mp h]
    rfl
  | n + 1, f, h => by
    have hne : f ≠ [] := List.length_pos_iff.mp (by omega)
    obtain ⟨g, a, rfl⟩ : ∃ g a, f = g ++ [a] := ⟨f.dropLast, f.getLast hne, (List.dropLast_concat_getLast hne).symm⟩
    have hg : g.length = n := by
      rw [List.length_append] at h
      simpa using h
    rw [List.reverse_append]
    show evalP g.reverse x * x + a = sm n _ + _
    rw [evalP_rev x n g hg, Int.mul_comm, ← sm_mul]
    have e1 : sm n (fun i => x * (g.getD i 0 * x ^ (n - 1 - i))) = sm n fun t => (g ++ [a]).getD t 0 * x ^ (n + 1 - 1 - t) := sm_congr fun i hi => by
      have e2 : (g ++ [a]).getD i 0 = g.getD i 0 := by
        rw [List.getD_eq_getElem?_getD, List.getD_eq_getElem?_getD, List.getElem?_append_left (by omega)]
      rw [e2, show n + 1 - 1 - i = (n - 1 - i) + 1 by omega, Int.pow_succ]
      grind
    have e3 : (g ++ [a]).getD n 0 * x ^ (n + 1 - 1 - n) = a := by
      rw [show n + 1 - 1 - n = 0 by omega, Int.pow_zero, Int.mul_one, List.getD_eq_getElem?_getD, List.getElem?_append_right (by omega), hg, Nat.sub_self]
      rfl
    rw [e1]
    exact congrArg _ e3.symm
/-- what stands at the keys 0 .. P - 1 -/
def allV (P : Nat) (f : List Int) (k : Int) : Int := f.getD 0 0 - evalP f.reverse k
def allT (P : Nat) (f : List Int) : List (Int × Int) := (List.range P).map fun k : Nat => ((k : Int), allV P f (k : Int))
def gapB (P : Nat) : Bool := (List.range P).all fun k => (List.range P).all fun b => ((List.range P).map fun t => b ^ t * k ^ (P - 1 - t)).sum % P == if b = k then 0 else 1
def powB (P : Nat) : Bool := (List.range (2 * P - 1)).all fun m => ((List.range P).map fun k => k ^ m).sum % P == if m = P - 1 ∨ m = 2 * (P - 1) then P - 1 else 0
theorem primes40 : (prL 38).length = 12 ∧ ∀ q ∈ prL 38, (primedB q = true ∧ q < 40) ∧ gapB q = true ∧ powB q = true := by decide +kernel
theorem smN (F : Nat → Nat) : ∀ n : Nat, ((((List.range n).map F).sum : Nat) : Int) = sm n fun i => (F i : Int)
  | 0 => rfl
  | n + 1 => by
    rw [List.range_succ, List.map_append, List.sum_append]
    show ((((List.range n).map F).sum + (F n + 0) : Nat) : Int) = sm n _ + (F n : Int)
    rw [← smN F n]
    omega
theorem cg_nat {p a b : Nat} (h : a % p = b % p) : Cg (p : Int) (a : Int) (b : Int) := by
  have e1 := Int.mul_ediv_add_emod (a : Int) (p : Int)
  have e2 := Int.mul_ediv_add_emod (b : Int) (p : Int)
  have e3 : (a : Int) % (p : Int) = (b : Int) % (p : Int) := by
    rw [← Int.natCast_emod, ← Int.natCast_emod, h]
  exact ⟨(a : Int) / p - (b : Int) / p, by rw [Int.mul_sub]; omega⟩
theorem gap_cg {P : Nat} (h : gapB P = true) (hP : 2 ≤ P) {k b : Nat} (hk : k < P) (hb : b < P) : Cg (P : Int) (sm P fun t => (b : Int) ^ t * (k : Int) ^ (P - 1 - t)) (if b = k then 0 else 1) := by
  have z := List.all_eq_true.mp (List.all_eq_true.mp h k (List.mem_range.mpr hk)) b (List.mem_range.mpr hb)
  have z2 := eq_of_beq z
  have e : (sm P fun t => (b : Int) ^ t * (k : Int) ^ (P - 1 - t)) = ((((List.range P).map fun t => b ^ t * k ^ (P - 1 - t)).sum : Nat) : Int) := by
    rw [smN]
    exact sm_congr fun i _ => by
      rw [Int.natCast_mul, Int.natCast_pow, Int.natCast_pow]
  rw [e]
  by_cases hbk : b = k
  · rw [if_pos hbk] at z2 ⊢
    exact cg_nat (b := 0) (by rw [z2]; simp)
  · rw [if_neg hbk] at z2 ⊢
    exact cg_nat (b := 1) (by rw [z2, Nat.mod_eq_of_lt (by omega)])
theorem pow_cg {P : Nat} (h : powB P = true) (hP : 2 ≤ P) {m : Nat} (hm : m ≤ 2 * (P - 1)) : Cg (P : Int) (sm P fun k => (k : Int) ^ m) (if m = P - 1 ∨ m = 2 * (P - 1) then -1 else 0) := by
  have z := List.all_eq_true.mp h m (List.mem_range.mpr (by omega))
  have z2 := eq_of_beq z
  have e : (sm P fun k => (k : Int) ^ m) = ((((List.range P).map fun k => k ^ m).sum : Nat) : Int) := by
    rw [smN]
    exact sm_congr fun i _ => by rw [Int.natCast_pow]
  rw [e]
  by_cases hbk : m = P - 1 ∨ m = 2 * (P - 1)
  · rw [if_pos hbk] at z2 ⊢
    refine (cg_nat (b := P - 1) (by rw [z2, Nat.mod_eq_of_lt (by omega)])).trans ⟨1, ?_⟩
    omega
  · rw [if_neg hbk] at z2 ⊢
    exact cg_nat (b := 0) (by rw [z2]; simp)
theorem wsum_sm (F : Int → Nat → Int) (n : Nat) : ∀ l : List (Int × Int), wsum (fun b => sm n (F b)) l = sm n fun t => wsum (fun b => F b t) l
  | [] => by
    show (0 : Int) = sm n fun _ => 0
    rw [sm_zero]
  | x :: l => by
    show x.2 * sm n (F x.1) + wsum (fun b => sm n (F b)) l = sm n fun t => x.2 * F x.1 t + wsum (fun b => F b t) l
    rw [sm_add, sm_mul, wsum_sm F n l]
theorem psm_getD {p : Int} {l : List (Int × Int)} {n i : Nat} (h : i < n) : (psm p l n).getD i 0 = (psum l i).fmod p := by
  unfold psm
  rw [List.getD_eq_getElem?_getD, List.getElem?_map, List.getElem?_range h]
  rfl
theorem wsum_gap {P : Nat} (h : gapB P = true) (hP : 2 ≤ P) {k : Nat} (hk : k < P) : ∀ {l : List (Int × Int)}, (∀ x ∈ l, 0 ≤ x.1 ∧ x.1 < (P : Int)) → Cg (P : Int) (wsum (fun b => sm P fun t => b ^ t * (k : Int) ^ (P - 1 - t)) l) (psum l 0 - tot l (k : Int))
  | [], _ => Cg.refl _ _
  | x :: l, hl => by
    have ih := wsum_gap h hP hk (l := l) fun y hy => hl y (List.mem_cons_of_mem _ hy)
    have hx := hl x (by simp)
    obtain ⟨b, eb⟩ : ∃ b : Nat, x.1 = (b : Int) := ⟨x.1.toNat, by omega⟩
    have g := gap_cg h hP hk (b := b) (by omega)
    have g2 := ((Cg.refl (P : Int) x.2).mul g).add ih
    rw [psum_cons]
    show Cg (P : Int) (x.2 * (sm P fun t => x.1 ^ t * (k : Int) ^ (P - 1 - t)) + _) (x.2 * x.1 ^ 0 + psum l 0 - ((if x.1 = (k : Int) then x.2 else 0) + tot l (k : Int)))
    rw [eb, Int.pow_zero, Int.mul_one]
    by_cases e : b = k
    · rw [if_pos e] at g2
      rw [if_pos (by omega)]
      rw [show x.2 + psum l 0 - (x.2 + tot l (k : Int)) = x.2 * 0 + (psum l 0 - tot l (k : Int)) by rw [Int.mul_zero]; omega]
      exact g2
    · rw [if_neg e] at g2
      rw [if_neg (by omega)]
      rw [show x.2 + psum l 0 - (0 + tot l (k : Int)) = x.2 * 1 + (psum l 0 - tot l (k : Int)) by rw [Int.mul_one]; omega]
      exact g2
theorem allV_back {P : Nat} (h : gapB P = true) (hP : 2 ≤ P) {k : Nat} (hk : k < P) {l : List (Int × Int)} (hl : ∀ x ∈ l, 0 ≤ x.1 ∧ x.1 < (P : Int)) : Cg (P : Int) (allV P (psm (P : Int) l P) (k : Int)) (tot l (k : Int)) := by
  have hp0 : (0 : Int) < (P : Int) := by omega
  unfold allV
  rw [evalP_rev _ P _ (psm_len _ _ _), psm_getD (by omega)]
  have e1 : Cg (P : Int) (sm P fun t => (psm (P : Int) l P).getD t 0 * (k : Int) ^ (P - 1 - t)) (sm P fun t => wsum (fun b => b ^ t * (k : Int) ^ (P - 1 - t)) l) := sm_cg fun t ht => by
    rw [psm_getD ht]
    have e : wsum (fun b => b ^ t * (k : Int) ^ (P - 1 - t)) l = psum l t * (k : Int) ^ (P - 1 - t) := by
      rw [psum_wsum]
      clear h hl
      induction l with
      | nil => exact (Int.zero_mul _).symm
      | cons x l ih =>
        show x.2 * (x.1 ^ t * _) + wsum _ l = (x.2 * x.1 ^ t + wsum _ l) * _
        rw [ih, Int.add_mul, Int.mul_assoc]
    rw [e]
    exact (cg_mod hp0 _).mul (Cg.refl _ _)
  have e2 := wsum_gap h hP hk hl
  rw [wsum_sm] at e2
  have e3 := e1.trans e2
  have e4 : Cg (P : Int) (-(sm P fun t => (psm (P : Int) l P).getD t 0 * (k : Int) ^ (P - 1 - t))) (-(psum l 0 - tot l (k : Int))) := by
    obtain ⟨c, e⟩ := e3
    exact ⟨-c, by rw [Int.mul_neg, ← e]; omega⟩
  have e5 := (cg_mod hp0 (psum l 0)).add e4
  rw [show psum l 0 + -(psum l 0 - tot l (k : Int)) = tot l (k : Int) by omega] at e5
  rw [show (psum l 0).fmod (P : Int) - _ = (psum l 0).fmod (P : Int) + -_ from Int.sub_eq_add_neg]
  exact e5
theorem tot_allT (P : Nat) (φ : Int → Int) (j : Int) : tot ((List.range P).map fun k : Nat => ((k : Int), φ (k : Int))) j = if 0 ≤ j ∧ j < (P : Int) then φ j else 0 := by
  have hn : ((List.range P).map fun k : Nat => (k : Int)).Nodup := List.Pairwise.map _ (fun a b (h : a ≠ b) => by omega) (List.nodup_range)
  have z := tot_keys φ j hn
  rw [List.map_map] at z
  have e : ((List.range P).map ((fun k : Int => (k, φ k)) ∘ fun k : Nat => (k : Int))) = (List.range P).map fun k : Nat => ((k : Int), φ (k : Int)) := rfl
  rw [e] at z
  rw [z]
  congr 1
  rw [eq_iff_iff, List.mem_map]
  constructor
  · rintro ⟨k, hk, rfl⟩
    have := List.mem_range.mp hk
    omega
  · intro h
    exact ⟨j.toNat, List.mem_range.mpr (by omega), by omega⟩
theorem allT_mod {P : Nat} (f : List Int) : (allT P f).map (fun x => (x.1.fmod (P : Int), x.2)) = allT P f := by
  unfold allT
  rw [List.map_map]
  refine List.map_congr_left fun k hk => ?_
  have := List.mem_range.mp hk
  show (((k : Int)).fmod (P : Int), _) = _
  rw [mod_same (by omega) (by omega) (by omega)]
/-- the ledger modulo P is told back -/
theorem all_back {P : Nat} (h : gapB P = true) (hP : 2 ≤ P) {l : List (Int × Int)} (hL : Led l) (hl : ∀ x ∈ l, (0 ≤ x.1 ∧ x.1 < (P : Int)) ∧ 0 < x.2 ∧ x.2 < (P : Int)) : rem (P : Int) (allT P (psm (P : Int) l P)) = l := by
  have hp0 : (0 : Int) < (P : Int) := by omega
  refine rising_eq (f := (·.1)) (rem_led _ _).1 hL.1 fun x => ?_
  unfold rem
  rw [remL_gather_mem, allT_mod]
  have et : tot (allT P (psm (P : Int) l P)) x.1 = if 0 ≤ x.1 ∧ x.1 < (P : Int) then allV P (psm (P : Int) l P) x.1 else 0 := tot_allT P _ x.1
  rw [et]
  have hmem : x ∈ l ↔ x.2 = tot l x.1 ∧ x.2 ≠ 0 := by
    have z := gather_mem l x
    rw [gather_self hL] at z
    exact z
  rw [hmem]
  have hrange : 0 ≤ tot l x.1 ∧ tot l x.1 < (P : Int) := by
    by_cases hx : x.1 ∈ l.map (·.1)
    · obtain ⟨y, hy, ey⟩ := List.mem_map.mp hx
      have := tot_led hL.1 y hy
      rw [show x.1 = y.1 from ey.symm, this]
      have := hl y hy
      omega
    · rw [tot_no hx]
      omega
  by_cases hx : 0 ≤ x.1 ∧ x.1 < (P : Int)
  · rw [if_pos hx]
    obtain ⟨k, ek⟩ : ∃ k : Nat, x.1 = (k : Int) := ⟨x.1.toNat, by omega⟩
    have z := (allV_back h hP (k := k) (by omega) fun y hy => (hl y hy).1).mod hp0
    rw [← ek] at z
    rw [z, mod_same hp0 hrange.1 hrange.2]
  · rw [if_neg hx]
    have hx2 : tot l x.1 = 0 := tot_no fun q => by
      obtain ⟨y, hy, ey⟩ := List.mem_map.mp q
      have := (hl y hy).1
      have ey' : y.1 = x.1 := ey
      omega
    rw [hx2]
    simp
theorem psum_rangeP (P : Nat) (φ : Int → Int) (j : Nat) : psum ((List.range P).map fun k : Nat => ((k : Int), φ (k : Int))) j = sm P fun k => φ (k : Int) * (k : Int) ^ j := by
  unfold psum tms
  rw [List.map_map, ← sm_range]
  rfl
theorem sm_sub (F G : Nat → Int) (n : Nat) : sm n (fun i => F i - G i) = sm n F - sm n G := by
  have e : (fun i => F i - G i) = fun i => F i + -1 * G i := funext fun i => by omega
  rw [e, sm_add, sm_mul]
  omega
theorem sm_swap (F : Nat → Nat → Int) (m : Nat) : ∀ n : Nat, sm n (fun k => sm m fun t => F k t) = sm m fun t => sm n fun k => F k t
  | 0 => by
    show (0 : Int) = sm m fun _ => 0
    rw [sm_zero]
  | n + 1 => by
    show sm n _ + sm m _ = sm m fun t => sm n _ + F n t
    rw [sm_swap F m n, ← sm_add]
theorem sm_pick (F : Nat → Int) (j : Nat) : ∀ n : Nat, sm n (fun t => F t * if t = j then 1 else 0) = if j < n then F j else 0
  | 0 => rfl
  | n + 1 => by
    show sm n _ + F n * (if n = j then 1 else 0) = _
    rw [sm_pick F j n]
    by_cases h : n = j
    · subst h
      rw [if_neg (by omega), if_pos rfl, if_pos (by omega)]
      omega
    · rw [if_neg h]
      by_cases h2 : j < n
      · rw [if_pos h2, if_pos (by omega)]
        omega
      · rw [if_neg h2, if_neg (by omega)]
        omega
/-- the sums are told back -/
theorem sums_back {P : Nat} (h : powB P = true) (hP : 2 ≤ P) {f : List Int} (hf : f.length = P) (hr : ∀ x ∈ f, 0 ≤ x ∧ x < (P : Int)) : psm (P : Int) (rem (P : Int) (allT P f)) P = f := by
  have hp0 : (0 : Int) < (P : Int) := by omega
  rw [psm_rem hp0]
  refine List.ext_getElem (by rw [psm_len, hf]) fun j h1 h2 => ?_
  have hj : j < P := by omega
  have ej : (psm (P : Int) (allT P f) P)[j] = (psum (allT P f) j).fmod (P : Int) := by
    have z := psm_getD (p := (P : Int)) (l := allT P f) hj
    rw [List.getD_eq_getElem?_getD, List.getElem?_eq_getElem h1] at z
    exact z
  rw [ej]
  have hfj := hr f[j] (List.getElem_mem h2)
  rw [← mod_same hp0 hfj.1 hfj.2]
  refine Cg.mod hp0 ?_
  have e1 : psum (allT P f) j = sm P fun t => f.getD t 0 * ((if t = 0 then sm P fun k => (k : Int) ^ j else 0) - sm P fun k => (k : Int) ^ (P - 1 - t + j)) := by
    unfold allT
    rw [psum_rangeP]
    have a1 : (fun k : Nat => allV P f (k : Int) * (k : Int) ^ j) = fun k : Nat => (sm P fun t => f.getD t 0 * ((if t = 0 then (k : Int) ^ j else 0) - (k : Int) ^ (P - 1 - t + j))) := funext fun k => by
      unfold allV
      rw [evalP_rev _ P f hf, Int.sub_mul]
      have b1 : f.getD 0 0 * (k : Int) ^ j = sm P fun t => f.getD t 0 * (if t = 0 then (k : Int) ^ j else 0) := by
        have c1 : (fun t => f.getD t 0 * (if t = 0 then (k : Int) ^ j else 0)) = fun t => (f.getD t 0 * (k : Int) ^ j) * if t = 0 then 1 else 0 := funext fun t => by
          by_cases z : t = 0
          · rw [if_pos z, if_pos z, Int.mul_one]
          · rw [if_neg z, if_neg z, Int.mul_zero, Int.mul_zero]
        rw [c1, sm_pick, if_pos (by omega)]
      have b2 : (sm P fun t => f.getD t 0 * (k : Int) ^ (P - 1 - t)) * (k : Int) ^ j = sm P fun t => f.getD t 0 * (k : Int) ^ (P - 1 - t + j) := by
        rw [Int.mul_comm, ← sm_mul]
        exact sm_congr fun t _ => by rw [Int.pow_add]; grind
      rw [b1, b2, ← sm_sub]
      exact sm_congr fun t _ => by rw [Int.mul_sub]
    rw [a1, sm_swap]
    refine sm_congr fun t _ => ?_
    rw [sm_mul, sm_sub]
    congr 2
    by_cases z : t = 0
    · simp only [if_pos z]
    · simp only [if_neg z]
      rw [sm_zero]
  rw [e1]
  have e2 : f[j] = sm P fun t => f.getD t 0 * if t = j then 1 else 0 := by
    rw [sm_pick, if_pos hj, List.getD_eq_getElem?_getD, List.getElem?_eq_getElem h2]
    rfl
  rw [e2]
  refine sm_cg fun t ht => (Cg.refl _ _).mul ?_
  have s2 := pow_cg h hP (m := P - 1 - t + j) (by omega)
  have neg : ∀ {a b : Int}, Cg (P : Int) a b → Cg (P : Int) (-a) (-b) := fun ⟨c, e⟩ => ⟨-c, by rw [Int.mul_neg, ← e]; omega⟩
  by_cases t0 : t = 0
  · rw [if_pos t0]
    have s1 := pow_cg h hP (m := j) (by omega)
    have s3 := s1.add (neg s2)
    rw [← Int.sub_eq_add_neg] at s3
    refine s3.trans ?_
    have e : ((if j = P - 1 ∨ j = 2 * (P - 1) then (-1 : Int) else 0) + -(if P - 1 - t + j = P - 1 ∨ P - 1 - t + j = 2 * (P - 1) then -1 else 0)) = if t = j then 1 else 0 := by
      split <;> split <;> split <;> omega
    rw [e]
    exact Cg.refl _ _
  · rw [if_neg t0]
    have s3 := (Cg.refl (P : Int) 0).add (neg s2)
    rw [← Int.sub_eq_add_neg] at s3
    refine s3.trans ?_
    have e : ((0 : Int) + -(if P - 1 - t + j = P - 1 ∨ P - 1 - t + j = 2 * (P - 1) then -1 else 0)) = if t = j then 1 else 0 := by
      split <;> split <;> omega
    rw [e]
    exact Cg.refl _ _
end Cr
namespace Cr
open PySem PySem.Spec PyProof.Rows L2
section
variable {q : Option Addr} {n : Nat} {δ : List Sl} {A0 B0 Hk H : Hp} {σ : L2.St} {r : Addr}
/-- the dict stands still from here -/
theorem At.freezeD {i : Nat} {m : List (Int × Int)} (st : At q n δ A0 B0 σ Hk H) (hi : δ[i]? = some (.adr r)) (hm : H r = some (.dK (mdict m))) (hn : Hk r = none) (nq : q ≠ some r) (nb : B0 r = none) :
    At q n (δ.set i (.dic m)) A0 B0 σ (upd Hk r (.dK (mdict m))) H := by
  have gf := st.gr.freeze nb hn hm
  refine ⟨⟨gf.a, fun x e => ?_, st.ok.j⟩, ?_, gf⟩
  · rw [upd_ne (fun z => nq (by rw [← z]; exact e))]; exact st.ok.kf x e
  · have g1 := st.sg.mono (same_upd (o := .dK (mdict m)) hn)
    refine ⟨by rw [List.length_set]; exact g1.1, fun j s e ne => ?_⟩
    by_cases hj : i = j
    · subst hj
      have hl : i < δ.length := (List.getElem?_eq_some_iff.mp hi).1
      rw [List.getElem?_set_self hl] at e
      cases e
      exact ⟨.ref r, st.sg.getA hi, r, rfl, upd_same⟩
    · rw [List.getElem?_set_ne hj] at e
      exact g1.2 j s e ne
end
end Cr

set_option Elab.async false
set_option linter.all false
set_option maxRecDepth 100000
set_option maxHeartbeats 800000
namespace Cr
open PySem PySem.Spec PyProof.Rows L2
/-! ### defs that tell a new list -/
abbrev RelN := List Sl → List PyData → Prop
def spN (R : RelN) : Sp := fun vs H Q _ => ∃ (q : Option Addr) (Hk : Hp) (sls : List Sl) (n : Nat) (es : List PyData), Ok q n Hk H ∧ VS Hk vs sls ∧ R sls es ∧
  ∀ D xs Hk' H2, Gr q Hk H Hk' H2 → Ok q n Hk' H2 → H D = none → Hk' D = none → H2 D = some (.lst xs) → DqAll Hk' xs es → Q (.ref D) H2
def FinN (q : Option Addr) (n : Nat) (A0 B0 : Hp) (es : List PyData) (Q : VK) : Prop := ∀ D xs Hk' H2, Gr q A0 B0 Hk' H2 → Ok q n Hk' H2 → B0 D = none → Hk' D = none → H2 D = some (.lst xs) → DqAll Hk' xs es → Q (.ref D) H2
section
variable {P : Program} {w : World} {K : PySem.W.Frag} {mg : Str → Option Value} {base : Heap}
theorem fn_okN {x qual : Str} {st : Stmt} {f : Addr} {fd : FuncData} {N ps : List Str} {k : Nat} {R : RelN} (F : Fun K x qual st f fd) (S : FnScope N ps (defScope st)) (hN : ps.length ≤ N.length) (len : ∀ sls es, R sls es → sls.length = ps.length)
    (body : ∀ (cdv : Value) (A : Around) (outer : List Env) (s : Shared) (B0 : Hp) (E : XK), Room k (A.deeper (envOfC qual (defScope st) s.heap.objs.size f cdv)) →
      ∃ t, PSs (cxOf CX0 P w K mg base N qual (defScope st) f cdv A outer s B0 E).nox (defBody st) t ∧
        ∀ (q : Option Addr) (sls : List Sl) (n : Nat) (es : List PyData) (A0 : Hp) (σ : L2.St) (Q : VK), R sls es → At q n (sls ++ List.replicate (N.length - sls.length) .any) A0 B0 σ A0 B0 → FinN q n A0 B0 es Q → t { nx := fun _ H' => Q .non H', rt := Q } σ B0) :
    FnOk P w K mg base CX0 (k + 1) f fd ps (spN R) := by
  refine F.ok S (fun vs H Q E h => ?_) (fun cdv A outer s H vs Q E hr h => ?_)
  · obtain ⟨q, Hk, sls, n, es, o, hv, r, _⟩ := h
    rw [hv.1]; exact len sls es r
  · obtain ⟨q, Hk, sls, n, es, o, hv, r, fin⟩ := h
    obtain ⟨t, ht, hq⟩ := body cdv A outer s H E hr
    refine ⟨t, ht, hq q sls n es Hk (L2.start N vs) Q r ⟨o, start_sg hv (by rw [hv.1, len sls es r]; exact hN), Gr.refl o.a⟩ fin⟩
end
section
variable {K : PySem.W.Frag} {q : Option Addr} {n : Nat} {δ δ' : List Sl} {te te2 ta tb : TE} {tt : TT} {c c1 c2 : Nat} {Φ : PyData → Prop} {d d2 : PyData} {A0 B0 Hk H1 : Hp} {σ : L2.St} {D : Ends} {tz : TS} {p : Addr} {ds es : List PyData} {g : TG} {wi : TI}
theorem jn_call {R : RelN} {E0 : XK} {ta : TA} {sls : List Sl} (ha : AE q δ ta sls) (hr : R sls es) : JN q δ (tCall (spN R) [] E0 ta) es := fun σ H H1 n sg o Q k =>
  ha σ H H1 n sg o _ fun sls' vs Hk H2 g o1 p hv => by
    subst p
    show spN R (vs ++ []) H2 Q E0
    rw [List.append_nil]
    refine ⟨q, Hk, sls', n, es, o1, hv, hr, fun D xs Hk' H3 g' o2 h1 h2 h3 hd => k D xs Hk' H3 (g.trans g') o2 ?_ h2 h3 hd⟩
    cases e : H1 D with
    | none => rfl
    | some u => exact absurd h1 (g.t D (by rw [e]; exact fun z => by cases z))
theorem JN.e (h : JN q δ te es) : E q δ te (.list es) := fun σ H H1 n sg o Q k =>
  h σ H H1 n sg o _ fun D xs Hk H2 g o1 h1 h2 h3 hd => by
    have nq : q ≠ some D := fun e => by
      have z := o.j D e
      exact z.ne h1
    have gf := g.freeze h1 h2 h3
    refine k _ _ _ _ gf ⟨gf.a, fun p e => ?_, fun p e => o1.j p e⟩ rfl (.lst upd_same (DqAll.mono (same_upd h2) _ _ hd))
    rw [upd_ne (fun z => nq (by rw [← z]; exact e))]
    exact o1.kf p e
theorem JN.is {es2 : List PyData} (h : JN q δ te es) (e : es = es2) : JN q δ te es2 := by rw [← e]; exact h
theorem s_retN {m : Nat} (h : JN q δ te es) (s : At q m δ A0 B0 σ Hk H1) (hm : n ≤ m) (f : FinN q n A0 B0 es D.rt) : tRet te D σ H1 :=
  h σ Hk H1 n s.sg (s.ok.mono hm) _ fun D xs Hk2 H2 g o h1 h2 h3 hd => f D xs Hk2 H2 (s.gr.trans g) o (by
    cases e : B0 D with
    | none => rfl
    | some u => exact absurd h1 (s.gr.t D (by rw [e]; exact fun z => by cases z))) h2 h3 hd
theorem s_retC {m i : Nat} (s : At q m δ A0 B0 σ Hk H1) (cl : Cell q B0 Hk H1 p es) (hi : δ[i]? = some (.adr p)) (hm : n ≤ m) (f : FinN q n A0 B0 es D.rt) : tRet (tVar i) D σ H1 := by
  obtain ⟨xs, e, hd⟩ := cl.ex
  exact ⟨.ref p, s.sg.getA hi, f p xs Hk H1 s.gr (s.ok.mono hm) cl.nb cl.nk e hd⟩
/-- xs.append(e), e reads xs -/
theorem s_appendP {i : Nat} (h : J q (δ.set i (.dat (.list ds))) te c Φ) (s : At q (n + c) δ A0 B0 σ Hk H1) (cl : Cell q B0 Hk H1 p ds) (hi : δ[i]? = some (.adr p)) (hl : ds.length < 1000000) (pl : ∀ d, Φ d → plain d = true)
    (k : ∀ d Hk' H2, Φ d → Same Hk Hk' → At q n δ A0 B0 σ Hk' H2 → Cell q B0 Hk' H2 p (ds ++ [d]) → D.nx σ H2) : tDrop (tBM K "list" rAppend (tVar i) (tCons te tNil)) D σ H1 := by
  obtain ⟨xs, e, hd⟩ := cl.ex
  refine ⟨.ref p, s.sg.getA hi, .inl ⟨rfl, xs, .inl (.inl e)⟩, evalC h s cl hi pl fun d v Hk' H2 pn dv g a cl2 => ?_⟩
  obtain ⟨ys, e2, hd2⟩ := cl2.ex
  refine ⟨p, ys, v, rfl, rfl, e2, by rw [hd2.length, sizeLine_eq]; omega, k d Hk' _ pn g.k ⟨a.ok.cell cl2.nk cl2.nq, a.sg, a.gr.put cl2.nb cl2.nk⟩ ⟨cl2.nk, cl2.nq, cl2.nb, ys ++ [v], upd_same, hd2.append (.cons dv .nil)⟩⟩
/-- for x in t, t read from a list that still changes -/
theorem s_forC {i : Nat} {tb : TS} (h : E q (δ.set i (.dat (.list ds))) te (.tuple es)) (pl : plain (.tuple es) = true) (s : At q n δ A0 B0 σ Hk H1) (cl : Cell q B0 Hk H1 p ds) (hi : δ[i]? = some (.adr p))
    (k : ∀ HkW H2, Gr q Hk H1 HkW H2 → At q n δ A0 B0 σ HkW H2 → Cell q B0 HkW H2 p ds → ∃ P : Nat → L2.St → Hp → Hp → Prop, P 0 σ HkW H2 ∧ (∀ i σ' Hk' H', P i σ' Hk' H' → Same HkW Hk' ∧ Same Hk' H') ∧
      (∀ i d σ' Hk' H', es[i]? = some d → P i σ' Hk' H' → ∀ v Hk2 H2', Gr none Hk' H' Hk2 H2' → Dq Hk2 v d → g v σ' H2' fun σ2 H3 => tb { D with nx := fun σ3 H4 => ∃ Hk3, P (i + 1) σ3 Hk3 H4, ct := fun σ3 H4 => ∃ Hk3, P (i + 1) σ3 Hk3 H4, bk := D.nx } σ2 H3) ∧
      (∀ σ' Hk' H', P es.length σ' Hk' H' → D.nx σ' H')) : tFor (iTup K te) g tb D σ H1 := by
  refine evalC (c := 0) h s cl hi (fun d e => by rw [e]; exact pl) fun d v HkW H2 e dv g0 a0 cl0 => ?_
  subst e
  obtain ⟨t, xs, rfl, h1, h2⟩ := dv.tupOf
  refine ⟨t, rfl, ⟨xs, .inl (h1.mono a0.ok.a).rd⟩, ?_⟩
  have wk := walk_tup (K := K) h1 h2
  obtain ⟨P, p0, ps, pt, pe⟩ := k HkW H2 g0 a0 cl0
  refine ⟨fun i m σ' H' => m = es.length - i ∧ i ≤ es.length ∧ ∃ Hk', P i σ' Hk' H', ⟨es.length, by simp, Nat.zero_le _, HkW, p0⟩, ?_⟩
  rintro i m σ' H' ⟨rfl, hi, Hk', p⟩
  obtain ⟨s1, s2⟩ := ps i σ' Hk' H' p
  by_cases hlt : i < es.length
  · obtain ⟨go, yl⟩ := (wk i Hk' H' s1 s2).1 hlt
    refine .inr ⟨go, fun σ3 H4 => ∃ Hk3, P (i + 1) σ3 Hk3 H4, fun σ3 H4 p => ⟨es.length - (i + 1), by omega, rfl, hlt, p⟩, fun v H'' y => ?_⟩
    obtain ⟨Hk2, g2, d, ed, dv⟩ := yl v H'' y
    exact pt i d σ' Hk' H' ed p v Hk2 H'' g2 dv
  · have e : i = es.length := by omega
    subst e
    exact .inl ⟨(wk _ Hk' H' s1 s2).2 (Nat.le_refl _), pe σ' Hk' H' p⟩
theorem plain_pol (f : List Int) : plain (pol f) = true := by
  show plainAll (f.map .int) = true
  refine plainAll_of fun d hd => ?_
  obtain ⟨x, _, rfl⟩ := List.mem_map.mp hd
  rfl
end
end Cr
namespace Cr
open PySem PySem.Spec PyProof.Rows L2
section
variable {q : Option Addr} {δ : List Sl} {es : List PyData}
theorem jn_callK {R : RelN} {E0 : XK} {ta tk : TA} {gV : List V → List V → List V} {ss us rs : List Sl} (ha : AE q δ ta ss) (hk : AE q δ tk us) (hg : ∀ (H : Hp) (vs zs : List V), VS H vs ss → VS H zs us → VS H (gV vs zs) rs) (hr : R rs es) : JN q δ (tCallK (spN R) gV E0 ta tk) es := fun σ H H1 n sg o Q k =>
  ha σ H H1 n sg o _ fun sls' vs Hk H2 g o1 p hv => by
    subst p
    refine hk σ Hk H2 n (sg.mono g.k) o1 _ fun sls2 zs Hk3 H3 g3 o3 p2 hz => ?_
    subst p2
    refine ⟨q, Hk3, rs, n, es, o3, hg Hk3 vs zs (hv.mono g3.k) hz, hr, fun D xs Hk' H4 g' o2 h1 h2 h3 hd => k D xs Hk' H4 ((g.trans g3).trans g') o2 ?_ h2 h3 hd⟩
    cases e : H1 D with
    | none => rfl
    | some u => exact absurd h1 ((g.trans g3).t D (by rw [e]; exact fun z => by cases z))
end
end Cr
namespace Cr
open PySem PySem.Spec PyProof.Rows L2
section
variable {K : PySem.W.Frag} {q : Option Addr} {n : Nat} {δ δ' : List Sl} {te te2 te3 ta tb : TE} {tt : TT} {t1 : TS} {c c1 c2 : Nat} {Φ Φ1 Φ2 : PyData → Prop} {d d2 d3 : PyData} {A0 B0 Hk H1 : Hp} {σ : L2.St} {D : Ends} {tz : TS} {p : Addr} {ds es es2 : List PyData}
/-- x, y = e, f, which read a list that still changes -/
theorem q_parC {i j ic : Nat} (h1 : J q (δ.set ic (.dat (.list ds))) te c1 Φ1) (h2 : J q (δ.set ic (.dat (.list ds))) te2 c2 Φ2) (s : At q (n + c2 + c1) δ A0 B0 σ Hk H1) (cl : Cell q B0 Hk H1 p ds) (hi : δ[ic]? = some (.adr p))
    (pl1 : ∀ d, Φ1 d → plain d = true) (pl2 : ∀ d, Φ2 d → plain d = true)
    (k : ∀ a b σ' Hk' H2, Φ1 a → Φ2 b → Same Hk Hk' → At q n ((δ.set i (.dat a)).set j (.dat b)) A0 B0 σ' Hk' H2 → Cell q B0 Hk' H2 p ds → tz D σ' H2) : tSeq (tPar i j (tCons te (tCons te2 tNil))) tz D σ H1 :=
  evalC h1 s cl hi pl1 fun a v Hk2 H2 pa dv g2 a2 cl2 => evalC h2 a2 cl2 hi pl2 fun b w Hk3 H3 pb dw g3 a3 cl3 =>
    ⟨v, w, rfl, k a b _ Hk3 H3 pa pb (g2.k.trans g3.k) ⟨a3.ok, (a3.sg.set i (s := .dat a) (Dq.mono g3.k _ _ dv)).set j (s := .dat b) dw, a3.gr⟩ cl3⟩
/-- x = [a, b]; a test; x[0].append(e): a is a new list, and x is not looked at any more -/
theorem q_lostL {i : Nat} (h1 : JN q δ te es) (h2 : E q δ te2 (.list es2)) (ht : TB q (δ.set i (.dat (.list [.list es, .list es2]))) tt false) (h3 : E q (δ.set i (.dat (.list [.list es, .list es2]))) te3 d3) (hi : i < δ.length) (hl : es.length < 1000000)
    (s : At q n δ A0 B0 σ Hk H1) (k : ∀ σ' H2, At q n (δ.set i .any) A0 B0 σ' Hk H2 → tz D σ' H2) :
    tSeq (tAsg (tLst (tCons te (tCons te2 tNil))) (gName i)) (tSeq (tIfS tt t1 tNext) (tSeq (tDrop (tBM K "list" rAppend (tOp (rIx K) (tVar i) (tC (.int 0))) (tCons te3 tNil))) tz)) D σ H1 := by
  refine h1 σ Hk H1 n s.sg s.ok _ fun D1 xs Hk2 H2 g2 o2 n1 k1 e1 hd1 => ?_
  refine h2 σ Hk2 H2 n (s.sg.mono g2.k) o2 _ fun d v2 Hk3 H3 g3 o3 ed dv2 => ?_
  subst ed
  refine ⟨by show 2 ≤ sizeLine; rw [sizeLine_eq]; decide, fun O hO => ?_⟩
  have nq1 : q ≠ some D1 := fun e => (s.ok.j D1 e).ne n1
  have e13 : H3 D1 = some (.lst xs) := g3.s D1 _ nq1 e1
  have k13 : Hk3 D1 = none := g3.f D1 k1 (by rw [e1]; exact fun z => by cases z)
  have gA : Gr q Hk H1 Hk3 H3 := g2.trans g3
  have gB := gA.freeze n1 k13 e13
  have o4 : Ok q n (upd Hk3 D1 (.lst xs)) H3 := ⟨gB.a, fun r er => by rw [upd_ne (fun z => nq1 (by rw [← z]; exact er))]; exact o3.kf r er, o3.j⟩
  have gO := Gr.new (q := q) (o := .lst [.ref D1, v2]) o4.a hO
  have gC := gB.trans gO
  have nqO : q ≠ some O := fun e => (o3.j O e).ne hO
  have o5 : Ok q n (upd (upd Hk3 D1 (.lst xs)) O (.lst [.ref D1, v2])) (upd H3 O (.lst [.ref D1, v2])) := o4.go ⟨gO.k, gO.a, fun b' o' _ h => by rw [upd_ne (ne_of_none h hO)]; exact h, gO.f, gO.t⟩
  have sm3 : Same Hk3 (upd (upd Hk3 D1 (.lst xs)) O (.lst [.ref D1, v2])) := (same_upd k13).trans gO.k
  have sg5 : Sg (upd (upd Hk3 D1 (.lst xs)) O (.lst [.ref D1, v2])) (σ.set i (some (.ref O))) (δ.set i (.dat (.list [.list es, .list es2]))) := by
    refine (s.sg.mono gC.k).set i (s := .dat (.list [.list es, .list es2])) ?_
    refine Dq.lst upd_same (.cons ?_ (.cons (Dq.mono sm3 _ _ dv2) .nil))
    exact Dq.lst (gO.k _ _ upd_same) (DqAll.mono (g3.k.trans sm3) _ _ hd1)
  have a5 : At q n (δ.set i (.dat (.list [.list es, .list es2]))) A0 B0 (σ.set i (some (.ref O))) (upd (upd Hk3 D1 (.lst xs)) O (.lst [.ref D1, v2])) (upd H3 O (.lst [.ref D1, v2])) := ⟨o5, sg5, s.gr.trans gC⟩
  refine q_ifNo ht a5 fun Hk6 H6 g6 a6 => ?_
  have hO6 : H6 O = some (.lst [.ref D1, v2]) := a6.ok.a _ _ (g6.k _ _ upd_same)
  have hsO : (σ.set i (some (.ref O)))[i]? = some (some (.ref O)) := by
    rw [List.getElem?_set_self (by rw [s.sg.1]; exact hi)]
  have h16 : Hk6 D1 = some (.lst xs) := g6.k _ _ (gO.k _ _ upd_same)
  refine ⟨.ref O, hsO, .inl ⟨O, [.ref D1, v2], 0, .ref D1, rfl, rfl, .inl (.inl hO6), rfl, .inl ⟨rfl, xs, .inl (.inl (a6.ok.a _ _ h16))⟩, ?_⟩⟩
  refine h3 _ Hk6 H6 n a6.sg a6.ok _ fun d v Hk7 H7 g7 o7 ed dv => ?_
  have h17 : H7 D1 = some (.lst xs) := o7.a _ _ (g7.k _ _ h16)
  refine ⟨D1, xs, v, rfl, rfl, h17, by rw [hd1.length, sizeLine_eq]; omega, ?_⟩
  have gT : Gr q Hk H1 Hk7 H7 := (gC.trans g6).trans g7
  have hk1 : Hk D1 = none := s.ok.a.free n1
  refine k _ _ ⟨⟨fun b u z => ?_, s.ok.kf, fun r er => ?_⟩, s.sg.set i (s := .any) trivial, s.gr.trans ⟨Same.refl _, fun b u z => ?_, fun b u hb z => ?_, fun b z _ => z, fun b z => ?_⟩⟩
  · rw [upd_ne (ne_of_none z hk1)]
    exact gT.a _ _ (gT.k _ _ z)
  · exact (o7.j r er).same fun u z => by rw [upd_ne (fun w => nq1 (by rw [← w]; exact er))]; exact z
  · rw [upd_ne (ne_of_none z hk1)]
    exact gT.a _ _ (gT.k _ _ z)
  · rw [upd_ne (ne_of_none z n1)]
    exact gT.s b u hb z
  · rw [upd_ne (fun w => z (by rw [w]; exact n1))]
    exact gT.t b z
end
end Cr

set_option Elab.async false
set_option linter.all false
set_option maxRecDepth 100000
set_option maxHeartbeats 800000
namespace Cr
open PySem PySem.Spec PyProof.Rows L2
/-! ### sums along a log -/
def rowA (f : List Int) (cs : List (Int × Int)) (j : Nat) : List Int := (cs.take j).foldl (fun g x => wch g x.1 x.2) f
theorem wfold_len : ∀ (cs : List (Int × Int)) (f : List Int), (cs.foldl (fun g x => wch g x.1 x.2) f).length = f.length
  | [], _ => rfl
  | x :: cs, f => by rw [List.foldl_cons, wfold_len cs, wch_len]
theorem rowA_len (f : List Int) (cs : List (Int × Int)) (j : Nat) : (rowA f cs j).length = f.length := wfold_len _ _
theorem rowA_zero (f : List Int) (cs : List (Int × Int)) : rowA f cs 0 = f := rfl
theorem rowA_succ {f : List Int} {cs : List (Int × Int)} {j : Nat} {x : Int × Int} (h : cs[j]? = some x) : rowA f cs (j + 1) = wch (rowA f cs j) x.1 x.2 := by
  unfold rowA
  rw [List.take_add_one, h, List.foldl_append]
  rfl
def rowsA (f : List Int) (cs : List (Int × Int)) (j : Nat) : List PyData := (List.range (j + 1)).map fun i => pol (rowA f cs i)
theorem rowsA_len (f : List Int) (cs : List (Int × Int)) (j : Nat) : (rowsA f cs j).length = j + 1 := by unfold rowsA; rw [List.length_map, List.length_range]
theorem rowsA_zero (f : List Int) (cs : List (Int × Int)) : rowsA f cs 0 = [pol f] := rfl
theorem rowsA_succ (f : List Int) (cs : List (Int × Int)) (j : Nat) : rowsA f cs (j + 1) = rowsA f cs j ++ [pol (rowA f cs (j + 1))] := by
  unfold rowsA
  rw [List.range_succ, List.map_append]
  rfl
theorem rowsA_last (f : List Int) (cs : List (Int × Int)) (j : Nat) : atI (rowsA f cs j) (-1) = some (pol (rowA f cs j)) := by
  cases j with
  | zero => rfl
  | succ j => rw [rowsA_succ]; exact atI_last _ _
theorem rowsA_ok (k : Nat) {f : List Int} {cs : List (Int × Int)} {j : Nat} (hf : f.length ≤ 100000) (hj : j < 100000) : okS (k + 3) (.list (rowsA f cs j)) = true := okS_list (by rw [rowsA_len]; omega) fun d hd => by
  obtain ⟨i, _, rfl⟩ := List.mem_map.mp hd
  exact okS_pol k (by rw [rowA_len]; exact hf)
theorem undo_led {l : List (Int × Int)} (h : Led l) : Led (l.map fun x => (x.1, -x.2)) := ⟨List.pairwise_map.mpr h.1, fun x hx => by
  obtain ⟨y, hy, rfl⟩ := List.mem_map.mp hx
  have := h.2 y hy
  show -y.2 ≠ 0
  omega⟩
theorem undo_due {l : List (Int × Int)} (h : Led l) : gather ([] ++ l.map fun x => (x.1, -x.2)) = l.map fun x => (x.1, -x.2) := by rw [List.nil_append]; exact gather_self (undo_led h)
theorem short_back {a b : List (Int × Int)} (h : Led b) : gather (a ++ gather (b ++ a.map fun x => (x.1, -x.2))) = b := by
  rw [← gather_self h]
  refine gather_ext fun k => ?_
  rw [tot_append, tot_gather, tot_append, tot_map_neg, gather_self h]
  omega
theorem undo_back {b cs : List (Int × Int)} (h : Led b) : gather (gather (b ++ cs) ++ (gather cs).map fun x => (x.1, -x.2)) = b := by
  refine Eq.trans (gather_ext (ds := b) fun k => ?_) (gather_self h)
  rw [tot_append, tot_gather, tot_append, tot_map_neg, tot_gather]
  omega
theorem eqv_pdL (cs : List (Int × Int)) : PyData.eqv (.list (pd cs)) (.list (pd cs)) = true := by
  simp [PyData.eqv, eqvAll_prs]
theorem shaped_pdL (cs : List (Int × Int)) : SeqAt.shaped (.list (pd cs)) = true := by
  unfold SeqAt.shaped
  rw [Bool.and_eq_true]
  refine ⟨?_, decide_eq_true ?_⟩
  · show PyData.canLayAll0 (pd cs) = true
    exact canAll_of fun d hd => by obtain ⟨x, _, rfl⟩ := List.mem_map.mp hd; exact (pr_shape x).1
  · rw [PyData.depth]
    have : PyData.depthAll (pd cs) ≤ 2 := depthAll_le fun d hd => by obtain ⟨x, _, rfl⟩ := List.mem_map.mp hd; exact (pr_shape x).2
    omega
theorem isEmpty_pd (cs : List (Int × Int)) : (pd cs).isEmpty = cs.isEmpty := by cases cs <;> rfl
section
variable {K : PySem.W.Frag} {q : Option Addr} {n : Nat} {δ δ' : List Sl} {te te2 te3 ta tb : TE} {tt : TT} {t1 : TS} {c c1 c2 : Nat} {Φ Φ1 Φ2 : PyData → Prop} {d d2 d3 : PyData} {A0 B0 Hk H1 : Hp} {σ : L2.St} {D : Ends} {tz : TS} {p : Addr} {ds es es2 : List PyData}
theorem e_nePd {cs : List (Int × Int)} (ha : E q δ ta (.list (pd cs))) (hb : E q δ tb (.list (pd cs))) : E q δ (tOp (rNeD K) ta tb) (.bool false) :=
  e_is (e_neD ha hb (shaped_pdL cs) (shaped_pdL cs)) (by rw [eqv_pdL]; rfl)
theorem e_nePdNil {cs : List (Int × Int)} (ha : E q δ ta (.list (pd cs))) : E q δ (tOp (rNeD K) ta (tLst tNil)) (.bool (!cs.isEmpty)) :=
  e_is (e_neD ha (e_lst (ds := []) ae_nil) (shaped_pdL cs) (lst_shape [])) (by rw [eqv_lst_nil, isEmpty_pd])
/-- t[:n], n drawn -/
theorem j_slLJ {P : Int → Prop} (h : E q δ te (.list ds)) (h2 : J q δ te2 c (IntP P)) : J q δ (tSl (rSlU K) te tNoPart (tPart te2)) c (fun d => ∃ es : List PyData, (∃ k, es = ds.take k) ∧ d = .list es) := fun σ H H1 n sg o Q k =>
  h σ H H1 (n + c) sg o _ fun d v Hk H2 g o1 e dv => h2 σ Hk H2 n (sg.mono g.k) o1 _ fun d2 v2 Hk3 H4 g3 o3 ⟨i, _, e2⟩ dv2 => by
    subst e; subst e2
    refine ⟨i, dv2.intOf, ?_⟩
    obtain ⟨a, xs, rfl, e1, e2⟩ := (Dq.mono g3.k _ _ dv).lstOf
    refine .inl ⟨a, xs, rfl, .inl (.inl (g3.a _ _ e1)), fun p hn => ?_⟩
    have g4 := Gr.new (q := none) (o := .lst (cutV xs none (some i))) g3.a hn
    refine k (.list (cutD ds none (some i))) _ _ _ ((g.trans g3).trans g4.none_to) (o3.go g4) ⟨_, ⟨HT.sIx ds.length ds.length (some i), ?_⟩, rfl⟩ (.lst upd_same (DqAll.mono g4.k _ _ ?_))
    · unfold cutD
      have h0 : HT.sIx ds.length 0 none = 0 := rfl
      rw [h0, List.drop_zero, Nat.sub_zero]
    · unfold cutV
      rw [e2.length]
      exact (e2.drop _).take _
/-- a + b of lists -/
theorem j_catLL {P1 P2 P : List PyData → Prop} (ha : J q δ ta c1 (fun d => ∃ ds, P1 ds ∧ d = .list ds)) (hb : J q δ tb c2 (fun d => ∃ ds, P2 ds ∧ d = .list ds)) (hp : ∀ f g, P1 f → P2 g → f.length + g.length ≤ 1000000 ∧ P (f ++ g)) : J q δ (tOp (rAddU K) ta tb) (c2 + c1) (fun d => ∃ ds, P ds ∧ d = .list ds) :=
  j_op ha hb fun a b ⟨f, p1, ea⟩ ⟨g, p2, eb⟩ => by
    subst ea; subst eb
    have z := hp f g p1 p2
    exact (rj_cat (ds := f) (es := g) (Φ := fun d => ∃ ds, P ds ∧ d = .list ds) z.1 ⟨f ++ g, z.2, rfl⟩).to fun _ _ _ _ h => .inr (.inl h)
theorem okS_pds {k : Nat} {l : List (Int × Int)} (hl : l.length ≤ 100000) : okS (k + 3) (.list (pd l)) = true := okS_list (by rw [pd_len]; exact hl) fun d hd => by
  obtain ⟨x, _, rfl⟩ := List.mem_map.mp hd
  rfl
/-- x, y = e -/
theorem q_asgU {i j : Nat} {Pp : Int × Int → Prop} (h : J q δ te c (fun d => ∃ x : Int × Int, Pp x ∧ d = pr x)) (s : At q (n + c) δ A0 B0 σ Hk H1)
    (k : ∀ x σ' Hk' H2, Pp x → Gr q Hk H1 Hk' H2 → At q n ((δ.set i (.dat (.int x.1))).set j (.dat (.int x.2))) A0 B0 σ' Hk' H2 → tz D σ' H2) : tSeq (tAsg te (gTup K 2 (gCons (gName i) (gCons (gName j) gNil)))) tz D σ H1 :=
  h σ Hk H1 n s.sg s.ok _ fun d v Hk2 H2 g o ⟨x, px, e⟩ dv => by
    subst e
    exact gb_tup2 (d1 := .int x.1) (d2 := .int x.2) (vs := [i, j]) (by simp) (by simp) σ Hk2 H2 v (s.sg.mono g.k) g.a dv _ fun σ2 sg2 _ _ => k x σ2 Hk2 H2 px g ⟨o, sg2, s.gr.trans g⟩
/-- x, y = e, f, which read a list that still changes; the last of a block -/
theorem s_parC {i j ic : Nat} (h1 : J q (δ.set ic (.dat (.list ds))) te c1 Φ1) (h2 : J q (δ.set ic (.dat (.list ds))) te2 c2 Φ2) (s : At q (n + c2 + c1) δ A0 B0 σ Hk H1) (cl : Cell q B0 Hk H1 p ds) (hi : δ[ic]? = some (.adr p))
    (pl1 : ∀ d, Φ1 d → plain d = true) (pl2 : ∀ d, Φ2 d → plain d = true)
    (k : ∀ a b σ' Hk' H2, Φ1 a → Φ2 b → Same Hk Hk' → At q n ((δ.set i (.dat a)).set j (.dat b)) A0 B0 σ' Hk' H2 → Cell q B0 Hk' H2 p ds → D.nx σ' H2) : tPar i j (tCons te (tCons te2 tNil)) D σ H1 :=
  evalC h1 s cl hi pl1 fun a v Hk2 H2 pa dv g2 a2 cl2 => evalC h2 a2 cl2 hi pl2 fun b w Hk3 H3 pb dw g3 a3 cl3 =>
    ⟨v, w, rfl, k a b _ Hk3 H3 pa pb (g2.k.trans g3.k) ⟨a3.ok, (a3.sg.set i (s := .dat a) (Dq.mono g3.k _ _ dv)).set j (s := .dat b) dw, a3.gr⟩ cl3⟩
/-- x, y = e, [] -/
theorem q_par2New {i j : Nat} (h : E q δ te d) (s : At q n δ A0 B0 σ Hk H1)
    (k : ∀ p σ' Hk' H2, Same Hk Hk' → At q n ((δ.set i (.dat d)).set j (.adr p)) A0 B0 σ' Hk' H2 → Cell q B0 Hk' H2 p [] → (∀ r es, Cell q B0 Hk H1 r es → Cell q B0 Hk' H2 r es ∧ p ≠ r) → tz D σ' H2) : tSeq (tPar i j (tCons te (tCons (tLst tNil) tNil))) tz D σ H1 :=
  h σ Hk H1 n s.sg s.ok _ fun d' v Hk' H2 g o ed dv => by
    subst ed
    refine ⟨Nat.zero_le _, fun p hp => ?_⟩
    have hk : Hk' p = none := o.a.free hp
    have gr := s.gr.trans g
    have hb : B0 p = none := by
      cases e : B0 p with
      | none => rfl
      | some u => exact absurd hp (gr.t p (by rw [e]; exact fun z => by cases z))
    have nq : q ≠ some p := fun e => (o.j p e).ne hp
    refine ⟨v, .ref p, rfl, k p _ Hk' _ g.k ⟨o.cell hk nq, ((s.sg.mono g.k).set i (s := .dat d') dv).set j (s := .adr p) rfl, gr.put hb hk⟩ ⟨hk, nq, hb, [], upd_same, .nil⟩ fun r es cl => ?_⟩
    have c2 := cl.go g
    obtain ⟨xs, e, hd⟩ := c2.ex
    have hr : r ≠ p := ne_of_none e hp
    exact ⟨⟨c2.nk, c2.nq, c2.nb, xs, by rw [upd_ne hr]; exact e, hd⟩, Ne.symm hr⟩
/-- xs.append(e), and another list stays -/
theorem s_append2 {i : Nat} {r : Addr} (h : J q δ te c Φ) (s : At q (n + c) δ A0 B0 σ Hk H1) (cl : Cell q B0 Hk H1 p ds) (cr : Cell q B0 Hk H1 r es) (nr : p ≠ r) (hi : δ[i]? = some (.adr p)) (hl : ds.length < 1000000)
    (k : ∀ d Hk' H2, Φ d → Same Hk Hk' → At q n δ A0 B0 σ Hk' H2 → Cell q B0 Hk' H2 p (ds ++ [d]) → Cell q B0 Hk' H2 r es → tz D σ H2) : tSeq (tDrop (tBM K "list" rAppend (tVar i) (tCons te tNil))) tz D σ H1 := by
  obtain ⟨xs, e, hd⟩ := cl.ex
  refine ⟨.ref p, s.sg.getA hi, .inl ⟨rfl, xs, .inl (.inl e)⟩, h σ Hk H1 n s.sg s.ok _ fun d v Hk' H2 g o pd dv => ?_⟩
  have cl2 := cl.go g
  have e2 := g.s p _ cl.nq e
  have cr2 := cr.go g
  obtain ⟨ys, ey, hy⟩ := cr2.ex
  refine ⟨p, xs, v, rfl, rfl, e2, by rw [hd.length, sizeLine_eq]; omega, k d Hk' _ pd g.k ⟨o.cell cl2.nk cl.nq, s.sg.mono g.k, (s.gr.trans g).put cl.nb cl2.nk⟩ ⟨cl2.nk, cl.nq, cl.nb, xs ++ [v], upd_same, (DqAll.mono g.k _ _ hd).append (.cons dv .nil)⟩ ⟨cr2.nk, cr2.nq, cr2.nb, ys, by rw [upd_ne (Ne.symm nr)]; exact ey, hy⟩⟩
/-- it stands still from here, and another list still changes -/
theorem At.freeze2 {i : Nat} {r : Addr} (s : At q n δ A0 B0 σ Hk H1) (cl : Cell q B0 Hk H1 p ds) (cr : Cell q B0 Hk H1 r es) (nr : p ≠ r) (hi : δ[i]? = some (.adr p)) : ∃ Hk', Same Hk Hk' ∧ At q n (δ.set i (.dat (.list ds))) A0 B0 σ Hk' H1 ∧ Cell q B0 Hk' H1 r es := by
  obtain ⟨xs, e, hd⟩ := cl.ex
  obtain ⟨ys, ey, hy⟩ := cr.ex
  have gf := s.gr.freeze cl.nb cl.nk e
  refine ⟨upd Hk p (.lst xs), same_upd cl.nk, ⟨⟨gf.a, fun r er => ?_, s.ok.j⟩, ?_, gf⟩, ⟨by rw [upd_ne (Ne.symm nr)]; exact cr.nk, cr.nq, cr.nb, ys, ey, DqAll.mono (same_upd cl.nk) _ _ hy⟩⟩
  · rw [upd_ne (fun z => cl.nq (by rw [← z]; exact er))]; exact s.ok.kf r er
  · have sg := s.sg.mono (same_upd (o := .lst xs) cl.nk)
    refine ⟨by rw [List.length_set]; exact sg.1, fun j t ej ne => ?_⟩
    by_cases hj : i = j
    · subst hj
      have hl : i < δ.length := (List.getElem?_eq_some_iff.mp hi).1
      rw [List.getElem?_set_self hl] at ej
      cases ej
      exact ⟨.ref p, sg.getA hi, .lst upd_same (DqAll.mono (same_upd cl.nk) _ _ hd)⟩
    · rw [List.getElem?_set_ne hj] at ej
      exact sg.2 j t ej ne
end
end Cr

set_option Elab.async false
set_option linter.all false
set_option maxRecDepth 100000
set_option maxHeartbeats 800000
namespace Cr
open PySem PySem.Spec PyProof.Rows L2
/-! ### pairs of unlike ledgers with the same first sums -/
theorem wsum_sum (φ : Int → Int) : ∀ l : List (Int × Int), wsum φ l = (l.map fun x => x.2 * φ x.1).sum
  | [] => rfl
  | x :: l => by
    show x.2 * φ x.1 + wsum φ l = x.2 * φ x.1 + (l.map fun x => x.2 * φ x.1).sum
    rw [wsum_sum φ l]
theorem wsum_turn (s : Nat) (f : Int) (φ : Int → Int) : wsum φ (turn s f) = trn s f φ := by
  rw [wsum_sum]
  unfold turn trn bt
  rw [← sm_range, List.map_map]
  congr 1
  refine List.map_congr_left fun k hk => ?_
  have := List.mem_range.mp hk
  show (chs s k : Int) * sgz ((s : Int) - (0 + (k : Int))) * φ (f + (0 + (k : Int))) = (chs s k : Int) * (sgz ((s - k : Nat) : Int) * φ (f + (k : Int)))
  rw [show (s : Int) - (0 + (k : Int)) = ((s - k : Nat) : Int) by omega, Int.zero_add]
  grind
theorem tot_wsum (k : Int) : ∀ l : List (Int × Int), tot l k = wsum (fun i => if i = k then 1 else 0) l
  | [] => rfl
  | x :: l => by
    show (if x.1 = k then x.2 else 0) + tot l k = x.2 * (if x.1 = k then 1 else 0) + wsum (fun i => if i = k then 1 else 0) l
    rw [tot_wsum k l]
    split <;> simp
theorem wsum_step (φ : Int → Int) : ∀ a : List (Int × Int), wsum φ (prodL a [(0, -1), (1, 1)]) = wsum (fun k => φ (k + 1)) a - wsum φ a
  | [] => rfl
  | x :: a => by
    show x.2 * -1 * φ (x.1 + 0) + (x.2 * 1 * φ (x.1 + 1) + wsum φ (prodL a [(0, -1), (1, 1)])) = (x.2 * φ (x.1 + 1) + wsum (fun k => φ (k + 1)) a) - (x.2 * φ x.1 + wsum φ a)
    rw [wsum_step φ a, Int.add_zero]
    grind
theorem turn_step (n : Nat) : gather (prodL (turn n 0) [(0, -1), (1, 1)]) = turn (n + 1) 0 := by
  refine Eq.trans (gather_ext (ds := turn (n + 1) 0) fun k => ?_) (gather_self (turn_led (n + 1) 0))
  rw [tot_wsum, tot_wsum, wsum_step, wsum_turn, wsum_turn, wsum_turn, trn_succ]
  congr 1
  unfold trn
  refine bt_congr fun a b => ?_
  show sgz (b : Int) * (if (0 : Int) + (a : Int) + 1 = k then 1 else 0) = sgz (b : Int) * (if (0 : Int) + 1 + (a : Int) = k then 1 else 0)
  rw [show (0 : Int) + (a : Int) + 1 = 0 + 1 + (a : Int) by omega]
theorem turn0 : turn 0 0 = [(0, 1)] := by decide
def gapL (n : Nat) (s a : Int) : List (Int × Int) := (turn n s).map fun x => (x.1, x.2 * a)
theorem gap_led (n : Nat) (s : Int) {a : Int} (ha : a ≠ 0) : Led (gapL n s a) := scale_led (turn_led n s) ha
theorem gap_len (n : Nat) (s a : Int) : (gapL n s a).length = n + 1 := by unfold gapL; rw [List.length_map, turn_len]
theorem gap_eq (n : Nat) (s : Int) {a : Int} (ha : a ≠ 0) : gather (prodL (turn n 0) [(s, a)]) = gapL n s a := by
  rw [← gather_self (gap_led n s ha), prodL_one]
  congr 1
  unfold gapL turn
  rw [List.map_map, List.map_map]
  refine List.map_congr_left fun k _ => ?_
  show ((0 : Int) + (0 + (k : Int)) + s, _) = (s + (0 + (k : Int)), _)
  rw [show (0 : Int) + (0 + (k : Int)) + s = s + (0 + (k : Int)) by omega]
theorem gap_many {b : List (Int × Int)} (n : Nat) (s : Int) {a : Int} (ha : a ≠ 0) : n + 1 ≤ b.length + (gather (b ++ (gapL n s a).map fun x => (x.1, -x.2))).length := by
  have hg := gap_led n s ha
  have nd : ((gapL n s a).map (·.1)).Nodup := (List.pairwise_map.mpr hg.1).imp fun {x y} (h : x < y) => by omega
  have h2 : ((gapL n s a).map (·.1)).length ≤ (b.map (·.1) ++ (gather (b ++ (gapL n s a).map fun x => (x.1, -x.2))).map (·.1)).length := nd.length_le_of_subset fun k hk => by
    obtain ⟨x, hx, rfl⟩ := List.mem_map.mp hk
    rw [List.mem_append]
    have t1 := tot_led hg.1 x hx
    have t2 := hg.2 x hx
    by_cases hz : tot b x.1 = 0
    · refine Or.inr (tot_mem ?_)
      rw [tot_gather, tot_append, tot_map_neg, t1, hz]
      omega
    · exact Or.inl (tot_mem hz)
  rw [List.length_append, List.length_map, List.length_map, List.length_map, gap_len] at h2
  exact h2
theorem gap_sums (b : List (Int × Int)) (n : Nat) (s a : Int) : psums (gather (b ++ (gapL n s a).map fun x => (x.1, -x.2))) n = psums b n := by
  have e : ((gapL n s a).map fun x => (x.1, -x.2)) = (turn n s).map fun x => (x.1, x.2 * -a) := by
    unfold gapL
    rw [List.map_map]
    exact List.map_congr_left fun x _ => by
      show (x.1, -(x.2 * a)) = _
      rw [Int.mul_neg]
  rw [e]
  exact psums_add_turn b n s (-a)
theorem par_count {r : Nat} (hr : r < 2) : ∀ m : Nat, ((List.range m).filter fun k => k % 2 == r).length = (m + 1 - r) / 2
  | 0 => by
    show 0 = _
    omega
  | m + 1 => by
    rw [List.range_succ, List.filter_append, List.length_append, par_count hr m]
    by_cases h : m % 2 = r
    · rw [List.filter_cons_of_pos (by simpa using h)]
      show _ + 1 = _
      omega
    · rw [List.filter_cons_of_neg (by simpa using h)]
      show _ + 0 = _
      omega
theorem sgz_par (z : Int) : sgz z = if z % 2 = 0 then 1 else -1 := by
  rw [sgz_if, Int.fmod_eq_emod_of_nonneg _ (by decide)]
  by_cases h : z % 2 = 0
  · rw [if_pos h, if_pos (by simpa using h)]
  · rw [if_neg h, if_neg (by simpa using h)]
theorem gap_up (n : Nat) (s : Int) {a : Int} (ha : a ≠ 0) : ((gapL n s a).filter fun x => decide (0 < x.2)).length = (n + 2 - (if 0 < a then n % 2 else (n + 1) % 2)) / 2 := by
  unfold gapL turn
  rw [List.map_map, List.filter_map, List.length_map]
  rw [List.filter_congr (q := fun k : Nat => k % 2 == (if 0 < a then n % 2 else (n + 1) % 2)) fun k hk => ?_]
  · rw [par_count (by split <;> omega)]
  · have hk2 := List.mem_range.mp hk
    have hc := chs_pos (n := n) (k := k) (by omega)
    have hp : (0 : Int) < (chs n k : Int) := by omega
    show decide (0 < (chs n k : Int) * sgz ((n : Int) - (0 + (k : Int))) * a) = _
    rw [sgz_par]
    by_cases h0 : 0 < a
    · rw [if_pos h0]
      by_cases h1 : ((n : Int) - (0 + (k : Int))) % 2 = 0
      · rw [if_pos h1, Int.mul_one, decide_eq_true (Int.mul_pos hp h0)]
        symm
        rw [beq_iff_eq]
        omega
      · rw [if_neg h1, decide_eq_false (by
          have z := Int.mul_pos hp h0
          rw [Int.mul_neg, Int.mul_one, Int.neg_mul]
          omega)]
        symm
        rw [beq_eq_false_iff_ne]
        omega
    · have h0' : 0 < -a := by omega
      have z := Int.mul_pos hp h0'
      rw [Int.mul_neg] at z
      rw [if_neg h0]
      by_cases h1 : ((n : Int) - (0 + (k : Int))) % 2 = 0
      · rw [if_pos h1, Int.mul_one, decide_eq_false (by omega)]
        symm
        rw [beq_eq_false_iff_ne]
        omega
      · rw [if_neg h1, decide_eq_true (by
          rw [Int.mul_neg, Int.mul_one, Int.neg_mul]
          omega)]
        symm
        rw [beq_iff_eq]
        omega
theorem filter_two : ∀ {l : List (Int × Int)}, (∀ x ∈ l, x.2 ≠ 0) → (l.filter fun x => decide (0 < x.2)).length + (l.filter fun x => decide (x.2 < 0)).length = l.length
  | [], _ => rfl
  | x :: l, h => by
    have ih := filter_two (l := l) fun y hy => h y (List.mem_cons_of_mem _ hy)
    have hx := h x List.mem_cons_self
    by_cases h0 : 0 < x.2
    · rw [List.filter_cons_of_pos (by simpa using h0), List.filter_cons_of_neg (by simp; omega), List.length_cons, List.length_cons]
      omega
    · rw [List.filter_cons_of_neg (by simpa using h0), List.filter_cons_of_pos (by simp; omega), List.length_cons, List.length_cons]
      omega
/-- what surely_same tells -/
def sureD (f : List Int) (m : Int) (g : List Int) (k : Int) (firm : Bool) : PyData :=
  if f ≠ g then .bool false else if m + k ≤ (f.length : Int) then .bool true else if firm = true ∧ 2 * (if k < m then k else m) < (f.length : Int) then .bool true else .none
theorem sure_okS (i : Nat) (f : List Int) (m : Int) (g : List Int) (k : Int) (firm : Bool) : okS (i + 1) (sureD f m g k firm) = true := by
  unfold sureD
  by_cases h1 : f ≠ g
  · rw [if_pos h1]; rfl
  · rw [if_neg h1]
    by_cases h2 : m + k ≤ (f.length : Int)
    · rw [if_pos h2]; rfl
    · rw [if_neg h2]
      by_cases h3 : firm = true ∧ 2 * (if k < m then k else m) < (f.length : Int)
      · rw [if_pos h3]; rfl
      · rw [if_neg h3]; rfl
theorem VS.append {H : Hp} : ∀ {ss : List Sl} {vs ws : List V} {es : List Sl}, VS H vs ss → VS H ws es → VS H (vs ++ ws) (ss ++ es)
  | [], vs, ws, es, h1, h2 => by rw [VS.inv0 h1]; exact h2
  | s :: r, vs, ws, es, h1, h2 => by
    obtain ⟨v, t, rfl, q, hr⟩ := VS.inv1 h1
    exact VS.cons q (VS.append hr h2)
section
variable {K : PySem.W.Frag} {q : Option Addr} {δ δ' : List Sl} {te te2 ta tb : TE} {c c1 c2 N : Nat} {Φ : PyData → Prop} {d : PyData} {P : Int → Prop}
/-- f(e, ..), what lacks has its defaults -/
theorem e_callF {R : RelX} {E0 : XK} {ta : TA} {dv : List V} {ss es : List Sl} (ha : AE q δ ta ss) (hd : ∀ H, VS H dv es) (hr : R q (ss ++ es) 0 (fun x => x = d)) : E q δ (tCall (spX R) dv E0 ta) d := fun σ H H1 n sg o Q k =>
  ha σ H H1 n sg o _ fun sls vs Hk H2 g o1 p hv => by
    subst p
    exact ⟨q, Hk, sls ++ es, n, 0, _, o1, VS.append hv (hd Hk), hr, fun d v Hk' H3 g' o2 pd dv => k d v Hk' H3 (g.trans g') o2 pd dv⟩
theorem vs_firm (H : Hp) : VS H [V.bl false] [.dat (.bool false)] := VS.cons (s := .dat (.bool false)) (.bl _) VS.nil
/-- (e, f), both drawn -/
theorem j_prJ {Pa Pb : Int → Prop} (h1 : J q δ te c1 (IntP Pa)) (h2 : J q δ te2 c2 (IntP Pb)) : J q δ (tTup (tCons te (tCons te2 tNil))) (c2 + c1) (fun d => ∃ x : Int × Int, (Pa x.1 ∧ Pb x.2) ∧ d = pr x) :=
  (j_tup (Ψ := fun ds => ∃ x : Int × Int, (Pa x.1 ∧ Pb x.2) ∧ ds = [.int x.1, .int x.2]) ((aj_int (c1 := c1) (c2 := c2) (Φr := fun sls => ∃ y, Pb y ∧ sls = [.dat (.int y)]) h1 ((aj_int (c1 := c2) (c2 := 0) (Φr := fun sls => sls = []) (Φ' := fun sls => ∃ y, Pb y ∧ sls = [.dat (.int y)]) h2 ae_nil fun i sls hi e => ⟨i, hi, by rw [e]⟩).cost (by omega)) fun i sls hi ⟨y, hy, e⟩ => ⟨[.int i, .int y], by rw [e]; rfl, by simp, (i, y), ⟨hi, hy⟩, rfl⟩))).imp fun d ⟨ds, ⟨x, hx, e⟩, e2⟩ => ⟨x, hx, by rw [e2, e]; rfl⟩
/-- [e], drawn -/
theorem j_lst1 (h : J q δ te c Φ) : J q δ (tLst (tCons te tNil)) c (fun d => ∃ d0, Φ d0 ∧ d = .list [d0]) :=
  (j_lst (Ψ := fun ds => ∃ d0, Φ d0 ∧ ds = [d0]) ((aj_cons (c1 := c) (c2 := 0) (Φr := fun sls => sls = []) h ae_nil fun d sls hd e => ⟨[d], by rw [e]; rfl, by simp, d, hd, rfl⟩).cost (by omega))).imp fun d ⟨ds, ⟨d0, h0, e⟩, e2⟩ => ⟨d0, h0, by rw [e2, e]⟩
/-- [e, ..], integers drawn -/
theorem j_lstI {ta : TA} (h : AJI q δ ta c N P) (hN : N ≤ 1000000) : J q δ (tLst ta) c (fun d => ∃ ns : List Int, (ns.length = N ∧ ∀ x ∈ ns, P x) ∧ d = .list (ns.map .int)) :=
  (j_lst (Ψ := fun ds => ∃ ns : List Int, (ns.length = N ∧ ∀ x ∈ ns, P x) ∧ ds = ns.map .int) (AJ.imp h fun sls ⟨ns, e, hl, hp⟩ => ⟨ns.map .int, e, by rw [List.length_map]; omega, ns, ⟨hl, hp⟩, rfl⟩)).imp fun d ⟨ds, ⟨ns, h0, e⟩, e2⟩ => ⟨ns, h0, by rw [e2, e]⟩
theorem rc_intB {b : Bool} {Φ : PyData → Prop} (hp : Φ (.int (if b then 1 else 0))) : RCJ rIntQ [.bool b] Φ := fun vs H H1 h e Q k => by
  obtain ⟨v, rfl, dv⟩ := h.one
  have ev := dv.blOf
  subst ev
  exact .inr ⟨b, rfl, k _ _ H H1 (Gr.refl e) hp (.int _)⟩
end
theorem gap_min (n : Nat) (s : Int) {a : Int} (ha : a ≠ 0) {u d : Nat} (hu : u = ((gapL n s a).filter fun x => decide (0 < x.2)).length) (hd : d = ((gapL n s a).filter fun x => decide (x.2 < 0)).length) : u + d = n + 1 ∧ ¬ 2 * (if (d : Int) < (u : Int) then (d : Int) else (u : Int)) < (n : Int) := by
  have h1 := gap_up n s ha
  have h2 := filter_two (l := gapL n s a) (gap_led n s ha).2
  rw [gap_len, ← hu, ← hd] at h2
  rw [← hu] at h1
  refine ⟨h2, ?_⟩
  split at h1 <;> split <;> omega
end Cr

set_option Elab.async false
set_option linter.all false
set_option maxRecDepth 100000
set_option maxHeartbeats 800000
namespace Cr
open PySem PySem.Spec PyProof.Rows L2
/-! ### a dict of the amounts that are not 0 -/
def dropI (m : List (Int × Int)) (k : Int) : List (Int × Int) := m.filter fun x => decide (x.1 ≠ k)
theorem mdict_drop (m : List (Int × Int)) (k : Int) : dropK (mdict m) (Sum.inl k) = mdict (dropI m k) := by
  unfold dropK dropI mdict
  rw [List.filter_map]
  congr 1
  refine List.filter_congr fun x _ => ?_
  show decide ((Sum.inl x.1 : Key) ≠ Sum.inl k) = decide (x.1 ≠ k)
  have z := inl_dec x.1 k
  rw [decide_not, decide_not, z]
theorem dropI_get (m : List (Int × Int)) (k j : Int) : getI (dropI m k) j = if j = k then none else getI m j := by
  by_cases e : j = k
  · rw [if_pos e, getI_none]
    intro z
    obtain ⟨x, hx, ex⟩ := List.mem_map.mp z
    have := of_decide_eq_true (List.mem_filter.mp hx).2
    exact this (by rw [← e]; exact ex)
  · rw [if_neg e]
    unfold getI dropI
    rw [List.find?_filter]
    congr 1
    congr 1
    funext x
    by_cases h : x.1 = j
    · rw [decide_eq_true h]
      have h2 : x.1 ≠ k := by rw [h]; exact e
      simp [h2]
    · rw [decide_eq_false h]
      simp
theorem dropI_none {m : List (Int × Int)} {k : Int} (h : getI m k = none) : dropI m k = m := by
  unfold dropI
  rw [List.filter_eq_self]
  intro x hx
  refine decide_eq_true fun e => getI_none.mp h ?_
  exact List.mem_map.mpr ⟨x, hx, e⟩
structure NzOf (p m : List (Int × Int)) : Prop where
  nd : (m.map (·.1)).Nodup
  get : ∀ k, getI m k = if tot p k = 0 then none else some (tot p k)
  len : m.length ≤ p.length
theorem NzOf.nil : NzOf [] [] := ⟨by simp, fun k => rfl, by simp⟩
theorem NzOf.getD {p m : List (Int × Int)} (h : NzOf p m) (k : Int) : (getI m k).getD 0 = tot p k := by
  rw [h.get]
  split
  · rename_i e; rw [e]; rfl
  · rfl
theorem tot_snoc (p : List (Int × Int)) (k v j : Int) : tot (p ++ [(k, v)]) j = tot p j + if k = j then v else 0 := by
  rw [tot_append]
  show tot p j + ((if k = j then v else 0) + 0) = _
  rw [Int.add_zero]
theorem NzOf.drop {p m : List (Int × Int)} (h : NzOf p m) {k v : Int} (e : tot p k + v = 0) : NzOf (p ++ [(k, v)]) (dropI m k) := by
  refine ⟨?_, fun j => ?_, ?_⟩
  · unfold dropI
    exact h.nd.sublist (List.Sublist.map _ List.filter_sublist)
  · rw [dropI_get, tot_snoc, h.get]
    by_cases hj : j = k
    · subst hj
      rw [if_pos rfl, if_pos rfl, if_pos e]
    · have e0 : (if k = j then v else 0) = 0 := if_neg fun z => hj z.symm
      rw [if_neg hj, e0, Int.add_zero]
  · unfold dropI
    have := List.length_filter_le (fun x : Int × Int => decide (x.1 ≠ k)) m
    have := h.len
    rw [List.length_append]
    omega
theorem NzOf.set {p m : List (Int × Int)} (h : NzOf p m) {k v : Int} (e : tot p k + v ≠ 0) : NzOf (p ++ [(k, v)]) (putI m k (tot p k + v)) := by
  refine ⟨?_, fun j => ?_, ?_⟩
  · rw [putI_keys]
    by_cases hk : k ∈ m.map (·.1)
    · rw [if_pos hk]; exact h.nd
    · rw [if_neg hk]
      refine List.nodup_append.mpr ⟨h.nd, by simp, fun a ha b hb e2 => ?_⟩
      rw [List.mem_singleton.mp hb] at e2
      exact hk (by rw [← e2]; exact ha)
  · rw [putI_get, tot_snoc, h.get]
    by_cases hj : j = k
    · subst hj
      rw [if_pos rfl, if_pos rfl, if_neg e]
    · have e0 : (if k = j then v else 0) = 0 := if_neg fun z => hj z.symm
      rw [if_neg hj, e0, Int.add_zero]
  · have z := congrArg List.length (putI_keys m k (tot p k + v))
    rw [List.length_map] at z
    have := h.len
    rw [z, List.length_append]
    split <;> simp <;> omega
theorem NzOf.empty {p m : List (Int × Int)} (h : NzOf p m) : m = [] ↔ gather p = [] := by
  constructor
  · intro e
    subst e
    rw [gather_ext (ds := []) fun k => ?_]
    · rfl
    · have z := h.get k
      by_cases hk : tot p k = 0
      · exact hk
      · rw [if_neg hk] at z; cases z
  · intro e
    have hz : ∀ k, tot p k = 0 := fun k => by rw [← tot_gather, e]; rfl
    cases m with
    | nil => rfl
    | cons x m =>
      have z := h.get x.1
      rw [if_pos (hz _)] at z
      exact absurd (List.mem_map.mpr ⟨x, List.mem_cons_self, rfl⟩) (getI_none.mp z)
/-- the heap without what stands at r -/
def hole (r : Addr) (H : Hp) : Hp := fun b => if b = r then none else H b
theorem hole_at {r : Addr} {H : Hp} : hole r H r = none := if_pos rfl
theorem hole_ne {r b : Addr} {H : Hp} (h : b ≠ r) : hole r H b = H b := if_neg h
theorem Gr.hole {q : Option Addr} {Hk H1 : Hp} {r : Addr} (a : Same Hk H1) : Gr q Hk (hole r H1) Hk H1 := ⟨Same.refl _, a, fun b o _ e => by
  by_cases h : b = r
  · rw [h, hole_at] at e; cases e
  · rw [hole_ne h] at e; exact e, fun b h _ => h, fun b e => by
  by_cases h : b = r
  · rw [h, hole_at] at e; exact absurd rfl e
  · rw [hole_ne h] at e; exact e⟩
theorem Gr.fill {q : Option Addr} {A0 B0 Hk H1 Hk' H2 : Hp} {r : Addr} (g : Gr q A0 B0 Hk H1) (g2 : Gr q Hk (Cr.hole r H1) Hk' H2) (nb : B0 r = none) : Gr q A0 B0 Hk' H2 := by
  have ne : ∀ {b : Addr}, B0 b ≠ none → b ≠ r := fun {b} h e => h (by rw [e]; exact nb)
  refine ⟨g.k.trans g2.k, g2.a, fun b o hq e => ?_, fun b ha e => ?_, fun b e => ?_⟩
  · have hb : b ≠ r := ne (by rw [e]; exact fun z => by cases z)
    exact g2.s b o hq (by rw [hole_ne hb]; exact g.s b o hq e)
  · exact g2.f b (g.f b ha e) (by rw [hole_ne (ne e)]; exact g.t b e)
  · exact g2.t b (by rw [hole_ne (ne e)]; exact g.t b e)
/-- a def that adds a change to such a dict -/
def spChg : Sp := fun vs H Q _ => ∃ (q : Option Addr) (Hk : Hp) (r : Addr) (mm p : List (Int × Int)) (i j : Int) (n : Nat), Ok q n Hk H ∧ vs = [.ref r, .int i, .int j] ∧ Hk r = none ∧ q ≠ some r ∧ H r = some (.dK (mdict mm)) ∧ NzOf p mm ∧ p.length ≤ 100000 ∧
  ∀ mm' Hk' H2, Gr q Hk (hole r H) Hk' H2 → Ok q n Hk' H2 → H2 r = some (.dK (mdict mm')) → Hk' r = none → NzOf (p ++ [(i, j)]) mm' → Q (.int (tot p i + j)) H2
section
variable {K : PySem.W.Frag} {q : Option Addr} {n : Nat} {δ δ' : List Sl} {te te2 ta tb : TE} {c c1 c2 : Nat} {d : PyData} {A0 B0 Hk H1 : Hp} {σ : L2.St} {D : Ends} {tz : TS} {r : Addr}
/-- x = d.get(k, 0) + v -/
theorem q_dgetA {i ik ib l : Nat} {m : List (Int × Int)} {k v : Int} (s : At q n δ A0 B0 σ Hk H1) (hi : δ[i]? = some (.adr r)) (hk : δ[ik]? = some (.dat (.int k))) (hb : δ[ib]? = some (.dat (.int v))) (hm : H1 r = some (.dK (mdict m)))
    (kont : ∀ σ', At q n (δ.set l (.dat (.int ((getI m k).getD 0 + v)))) A0 B0 σ' Hk H1 → tz D σ' H1) : tSeq (tAsg (tOp (rAddU K) (tDGet2 (tVar i) (tVar ik) (tC (.int 0))) (tVar ib)) (gName l)) tz D σ H1 := by
  have a1 := s.sg.getA hi
  obtain ⟨w, a2, d2⟩ := s.sg.get hk
  obtain ⟨x, a3, d3⟩ := s.sg.get hb
  have e2 := d2.intOf
  have e3 := d3.intOf
  subst e2; subst e3
  have hg := DGet.k (H := H1) (a := r) (k := (Sum.inl k : Key)) hm
  rw [mdict_val] at hg
  have hv : ((getI m k).map V.int).getD (.int 0) = .int ((getI m k).getD 0) := by cases getI m k <;> rfl
  refine ⟨.ref r, a1, r, rfl, .inl ⟨_, .inl hm⟩, .int k, a2, _, hg, ?_⟩
  exact ⟨.int v, a3, .inl ⟨(getI m k).getD 0, v, hv, rfl, kont _ ⟨s.ok, s.sg.set l (s := .dat (.int ((getI m k).getD 0 + v))) (.int _), s.gr⟩⟩⟩
/-- d.pop(k, None) -/
theorem s_dpop {i ik : Nat} {m : List (Int × Int)} {k : Int} (s : At q n δ A0 B0 σ Hk H1) (hi : δ[i]? = some (.adr r)) (hk : δ[ik]? = some (.dat (.int k))) (hm : H1 r = some (.dK (mdict m))) (nk : Hk r = none) (nq : q ≠ some r) (nb : B0 r = none)
    (kont : ∀ H2, At q n δ A0 B0 σ Hk H2 → H2 r = some (.dK (mdict (dropI m k))) → D.nx σ H2) : tDrop (tDPop2 (tVar i) (tVar ik) (tC .non)) D σ H1 := by
  have a1 := s.sg.getA hi
  obtain ⟨w, a2, d2⟩ := s.sg.get hk
  have e2 := d2.intOf
  subst e2
  refine ⟨.ref r, a1, r, rfl, .inl ⟨_, .inl hm⟩, .int k, a2, mdict m, Sum.inl k, hm, rfl, fun v hv => ?_, fun hv => ?_⟩
  · rw [mdict_drop]
    exact kont _ ⟨s.ok.cell nk nq, s.sg, s.gr.put nb nk⟩ upd_same
  · rw [mdict_val] at hv
    have h0 : getI m k = none := by
      cases e : getI m k with
      | none => rfl
      | some u => rw [e] at hv; cases hv
    exact kont _ s (by rw [dropI_none h0]; exact hm)
def rLenDk : List V → Hp → VK → Prop := fun xs H Q => ∃ a kvs, xs = [V.ref a] ∧ H a = some (.dK kvs) ∧ Q (.int kvs.length) H
theorem call_lenDk {X : Cx} : CallR X (.builtin "len") rLenDk := call_lenD
/-- if len(d) == 0 -/
theorem s_ifLenD {i : Nat} {t1 : TS} {m : List (Int × Int)} (s : At q n δ A0 B0 σ Hk H1) (hi : δ[i]? = some (.adr r)) (hm : H1 r = some (.dK (mdict m))) (k1 : m = [] → t1 D σ H1) (k2 : m ≠ [] → D.nx σ H1) :
    tIfS (tTest (tOp (rEqD K) (tCB rLenDk (tCons (tVar i) tNil)) (tC (.int 0)))) t1 tNext D σ H1 := by
  have e : PyData.eqv (.int ((mdict m).length : Nat)) (.int 0) = decide (m = []) := by
    have z : (mdict m).length = m.length := by unfold mdict; rw [List.length_map]
    rw [z]
    cases m with
    | nil => simp [PyData.eqv]
    | cons x m => simp [PyData.eqv]; omega
  refine ⟨.ref r, s.sg.getA hi, r, mdict m, rfl, hm, .int ((mdict m).length : Nat), .int 0, Dq.dp K _ _ (.int _), Dq.dp K _ _ (.int _), rfl, rfl, PyData.eqv (.int ((mdict m).length : Nat)) (.int 0), rfl, ?_⟩
  rw [e]
  by_cases h : m = []
  · rw [decide_eq_true h]; exact iteT (k1 h)
  · rw [decide_eq_false h]; exact iteF (k2 h)
/-- the call of such a def -/
theorem q_chg {i : Nat} {E0 : XK} {m p : List (Int × Int)} {k v : Int} (s : At q n δ A0 B0 σ Hk H1) (hi : δ[i]? = some (.adr r)) (hk : E q δ te (.int k)) (hv : E q δ te2 (.int v)) (hm : H1 r = some (.dK (mdict m))) (nk : Hk r = none) (nq : q ≠ some r) (nb : B0 r = none) (hz : NzOf p m) (hl : p.length ≤ 100000)
    (kont : ∀ m' Hk' H2, Same Hk Hk' → At q n δ A0 B0 σ Hk' H2 → H2 r = some (.dK (mdict m')) → Hk' r = none → NzOf (p ++ [(k, v)]) m' → tz D σ H2) : tSeq (tDrop (tCall spChg [] E0 (tCons (tVar i) (tCons te (tCons te2 tNil))))) tz D σ H1 := by
  refine ⟨.ref r, s.sg.getA hi, ?_⟩
  refine hk σ Hk H1 n s.sg s.ok _ fun d1 v1 Hk2 H2 g2 o2 e1 dv1 => ?_
  subst e1
  have f1 := dv1.intOf
  subst f1
  refine hv σ Hk2 H2 n (s.sg.mono g2.k) o2 _ fun d3 v3 Hk3 H3 g3 o3 e3 dv3 => ?_
  subst e3
  have f3 := dv3.intOf
  subst f3
  have hm2 : H2 r = some (.dK (mdict m)) := g2.s r _ nq hm
  have hm3 : H3 r = some (.dK (mdict m)) := g3.s r _ nq hm2
  have nk2 : Hk2 r = none := g2.f r nk (by rw [hm]; exact fun z => by cases z)
  have nk3 : Hk3 r = none := g3.f r nk2 (by rw [hm2]; exact fun z => by cases z)
  refine ⟨q, Hk3, r, m, p, k, v, n, o3, rfl, nk3, nq, hm3, hz, hl, fun m' Hk' H4 g4 o4 h4 n4 z4 => ?_⟩
  exact kont m' Hk' H4 ((g2.k.trans g3.k).trans g4.k) ⟨o4, ((s.sg.mono g2.k).mono g3.k).mono g4.k, Gr.fill ((s.gr.trans g2).trans g3) g4 nb⟩ h4 n4 z4
end
/-! ### the first place of all -/
def fstD (n : Nat) (p : Nat → Bool) (g : Nat → Int) : PyData := match (List.range n).find? p with
  | some k => .int (g k)
  | none => .none
theorem find_range {p : Nat → Bool} : ∀ {n i : Nat}, i < n → (∀ k < i, p k = false) → p i = true → (List.range n).find? p = some i
  | 0, i, h, _, _ => absurd h (Nat.not_lt_zero _)
  | n + 1, i, h, h1, h2 => by
    rw [List.range_succ, List.find?_append]
    by_cases hi : i < n
    · rw [find_range hi h1 h2]; rfl
    · have e : i = n := by omega
      subst e
      have z : (List.range i).find? p = none := List.find?_eq_none.mpr fun k hk => by rw [h1 k (List.mem_range.mp hk)]; decide
      rw [z, List.find?_cons_of_pos h2]
      rfl
theorem fst_hit {n i : Nat} {p : Nat → Bool} {g : Nat → Int} (h : i < n) (h1 : ∀ k < i, p k = false) (h2 : p i = true) : fstD n p g = .int (g i) := by
  unfold fstD
  rw [find_range h h1 h2]
theorem fst_none {n : Nat} {p : Nat → Bool} {g : Nat → Int} (h1 : ∀ k < n, p k = false) : fstD n p g = .none := by
  unfold fstD
  rw [List.find?_eq_none.mpr fun k hk => by rw [h1 k (List.mem_range.mp hk)]; decide]
/-- what first_return tells -/
def retD (cs : List (Int × Int)) : PyData := fstD cs.length (fun k => (gather (cs.take (k + 1))).isEmpty) fun k => (k : Int) + 1
/-- what log_fault tells -/
def faultD (f : List Int) (cs : List (Int × Int)) (rows : List (List Int)) : PyData := fstD (cs.length + 1) (fun k => !decide (rows.getD k [] = rowA f cs k)) fun k => (k : Int)
/-! ### what two logs begin with -/
def comN : List (Int × Int) → List (Int × Int) → Nat
  | x :: a, y :: b => if x = y then comN a b + 1 else 0
  | _, _ => 0
theorem comN_le : ∀ a b : List (Int × Int), comN a b ≤ a.length ∧ comN a b ≤ b.length
  | [], _ => ⟨Nat.le_refl _, Nat.zero_le _⟩
  | _ :: _, [] => ⟨Nat.zero_le _, Nat.le_refl _⟩
  | x :: a, y :: b => by
    have ih := comN_le a b
    unfold comN
    split
    · exact ⟨Nat.succ_le_succ ih.1, Nat.succ_le_succ ih.2⟩
    · exact ⟨Nat.zero_le _, Nat.zero_le _⟩
theorem comN_on : ∀ (a b : List (Int × Int)) (k : Nat), k < comN a b → a[k]? = b[k]?
  | [], _, k, h => absurd h (Nat.not_lt_zero _)
  | _ :: _, [], k, h => absurd h (Nat.not_lt_zero _)
  | x :: a, y :: b, k, h => by
    unfold comN at h
    split at h
    · rename_i e
      cases k with
      | zero => rw [e]; rfl
      | succ k => exact comN_on a b k (by omega)
    · exact absurd h (Nat.not_lt_zero _)
theorem comN_end : ∀ (a b : List (Int × Int)) (k : Nat), k ≤ comN a b → k < a.length → k < b.length → (a[k]? = b[k]? ↔ k < comN a b)
  | [], _, k, _, h, _ => absurd h (Nat.not_lt_zero _)
  | _ :: _, [], k, _, _, h => absurd h (Nat.not_lt_zero _)
  | x :: a, y :: b, k, h0, h1, h2 => by
    unfold comN at h0 ⊢
    by_cases e : x = y
    · rw [if_pos e] at h0 ⊢
      cases k with
      | zero => exact ⟨fun _ => Nat.succ_pos _, fun _ => by rw [e]; rfl⟩
      | succ k =>
        have z := comN_end a b k (by omega) (by simpa using h1) (by simpa using h2)
        exact ⟨fun h => Nat.succ_lt_succ (z.mp h), fun h => z.mpr (by omega)⟩
    · rw [if_neg e] at h0 ⊢
      have hk : k = 0 := by omega
      subst hk
      exact ⟨fun h => absurd (Option.some.inj h) e, fun h => absurd h (Nat.not_lt_zero _)⟩
theorem comN_self : ∀ a : List (Int × Int), comN a a = a.length
  | [] => rfl
  | x :: a => by
    unfold comN
    rw [if_pos rfl, comN_self a]
    rfl
theorem comN_comm : ∀ a b : List (Int × Int), comN a b = comN b a
  | [], [] => rfl
  | [], _ :: _ => rfl
  | _ :: _, [] => rfl
  | x :: a, y :: b => by
    unfold comN
    by_cases e : x = y
    · rw [if_pos e, if_pos e.symm, comN_comm a b]
    · rw [if_neg e, if_neg (fun z => e z.symm)]
theorem eqv_pr (x y : Int × Int) : PyData.eqv (pr x) (pr y) = decide (x = y) := by
  obtain ⟨a, b⟩ := x
  obtain ⟨c, d⟩ := y
  simp [pr, PyData.eqv, PyData.eqvAll]
  rw [Bool.eq_iff_iff]
  simp
theorem shaped_pr (x : Int × Int) : SeqAt.shaped (pr x) = true := by
  unfold SeqAt.shaped
  rw [Bool.and_eq_true]
  exact ⟨(pr_shape x).1, decide_eq_true (by have := (pr_shape x).2; omega)⟩
theorem at_pdK {cs : List (Int × Int)} {k : Nat} {x : Int × Int} (h : cs[k]? = some x) : atI (pd cs) ((k : Nat) : Int) = some (pr x) := by
  refine atI_nat ?_
  unfold pd
  rw [List.getElem?_map, h]
  rfl
section
variable {K : PySem.W.Frag} {q : Option Addr} {δ : List Sl} {te : TE} {ds : List PyData}
/-- xs[i:j], a new list -/
theorem slLN {tl th : TO} {lo hi : Option Int} (h : E q δ te (.list ds)) (h1 : TOj δ q tl lo) (h2 : TOj δ q th hi) : JN q δ (tSl (rSlU K) te tl th) (cutD ds lo hi) := fun σ H H1 n sg o Q k =>
  h σ H H1 n sg o _ fun d v Hk H2 g o1 e dv => h1 σ Hk H2 n (sg.mono g.k) o1 _ fun Hk2 H3 g2 o2 => h2 σ Hk2 H3 n (sg.mono (g.k.trans g2.k)) o2 _ fun Hk3 H4 g3 o3 => by
    subst e
    obtain ⟨a, xs, rfl, e1, e2⟩ := (Dq.mono (g2.k.trans g3.k) _ _ dv).lstOf
    refine .inl ⟨a, xs, rfl, .inl (.inl (g3.a _ _ e1)), fun p hn => ?_⟩
    have gA := (g.trans g2).trans g3
    have hpk : Hk3 p = none := o3.a.free hn
    have hpq : q ≠ some p := fun e => (o3.j p e).ne hn
    have hp1 : H1 p = none := by
      cases e : H1 p with
      | none => rfl
      | some u => exact absurd hn (gA.t p (by rw [e]; exact fun z => by cases z))
    refine k p (cutV xs lo hi) Hk3 _ (gA.trans (Gr.cell o3.a hn)) (o3.cell hpk hpq) hp1 hpk upd_same ?_
    unfold cutV cutD
    rw [e2.length]
    exact (e2.drop _).take _
end
end Cr

set_option Elab.async false
set_option linter.all false
set_option maxRecDepth 100000
set_option maxHeartbeats 800000
namespace Cr
open PySem PySem.Spec PyProof.Rows L2
theorem upd_over {H : Hp} {a : Addr} {x y : HO} : upd (upd H a x) a y = upd H a y := funext fun b => by
  by_cases h : b = a
  · subst h; rw [upd_same, upd_same]
  · rw [upd_ne h, upd_ne h, upd_ne h]
theorem upd_swap {H : Hp} {a b : Addr} {x y : HO} (hab : a ≠ b) : upd (upd H a x) b y = upd (upd H b y) a x := funext fun c => by
  by_cases h : c = a
  · subst h; rw [upd_ne hab, upd_same, upd_same]
  · by_cases h2 : c = b
    · subst h2; rw [upd_same, upd_ne h, upd_same]
    · rw [upd_ne h2, upd_ne h, upd_ne h, upd_ne h2]
theorem upd_id {H : Hp} {a : Addr} {x : HO} (h : H a = some x) : upd H a x = H := funext fun b => by
  by_cases e : b = a
  · subst e; rw [upd_same, h]
  · rw [upd_ne e]
def cntI (p m : List (Int × Int)) (j : Nat) : Nat := ((m.take j).filter fun x => decide (tot p x.1 ≠ 0)).length
theorem cntI_zero {p m : List (Int × Int)} (h : DictOf p m) : cntI p m m.length = 0 ↔ gather p = [] := by
  unfold cntI
  rw [List.take_length, List.length_eq_zero_iff, List.filter_eq_nil_iff]
  constructor
  · intro z
    rw [gather_ext (ds := []) fun k => ?_]
    · rfl
    · show tot p k = 0
      by_cases hk : k ∈ p.map (·.1)
      · obtain ⟨x, hx, e⟩ := List.mem_map.mp ((h.mem k).mpr hk)
        have := z x hx
        rw [← e]
        simpa using this
      · exact tot_no hk
  · intro e x hx
    have : tot p x.1 = 0 := by rw [← tot_gather, e]; rfl
    simpa using this
section
variable {K : PySem.W.Frag} {q : Option Addr} {n : Nat} {δ : List Sl} {A0 B0 Hk H1 : Hp} {σ : L2.St} {D : Ends} {tz t1 : TS} {r : Addr}
/-- if [1 for k in d if d[k] != 0] == [] -/
theorem s_ifZeros {i ip : Nat} {m p : List (Int × Int)} (s : At q n δ A0 B0 σ Hk H1) (hi : δ[i]? = some (.adr r)) (hp : ip < δ.length) (hip : i ≠ ip) (hm : H1 r = some (.dK (mdict m))) (hd : DictOf p m) (hl : m.length < 1000000)
    (k1 : gather p = [] → ∀ H2, At q n δ A0 B0 σ Hk H2 → H2 r = some (.dK (mdict m)) → t1 D σ H2) (k2 : gather p ≠ [] → ∀ H2, At q n δ A0 B0 σ Hk H2 → H2 r = some (.dK (mdict m)) → D.nx σ H2) :
    tIfS (tTest (tOp (rEqD K) (tLockE (tLc (iKeys (tVar i)) (gName ip) (tTest (tOp (rNeD K) (tDGet (tVar i) (tVar ip)) (tC (.int 0)))) (tC (.int 1)) [ip])) (tLst tNil))) t1 tNext D σ H1 := by
  refine ⟨r, .dK (mdict m), hm, trivial, fun od => ?_⟩
  refine ⟨.ref r, s.sg.getA hi, r, od, rfl, .inl ⟨mdict m, upd_same, fun L hL => ?_⟩⟩
  obtain ⟨HL, eHL⟩ : ∃ HL, HL = upd H1 r (.frz od (.dK (mdict m))) := ⟨_, rfl⟩
  rw [← eHL] at hL ⊢
  have hLr : HL r = some (.frz od (.dK (mdict m))) := by rw [eHL, upd_same]
  have hrL : r ≠ L := fun e => by rw [← e, hLr] at hL; cases hL
  have hL1 : H1 L = none := by rw [eHL, upd_ne (Ne.symm hrL)] at hL; exact hL
  have hml : (mdict m).length = m.length := by unfold mdict; rw [List.length_map]
  refine ⟨fun j mm H => mm = m.length - j ∧ j ≤ m.length ∧ H = upd HL L (.lst (List.replicate (cntI p m j) (.int 1))), ⟨m.length, by simp, Nat.zero_le _, by unfold cntI; simp⟩, ?_⟩
  rintro j mm H ⟨rfl, hj, rfl⟩
  have hr2 : (upd HL L (.lst (List.replicate (cntI p m j) (V.int 1)))) r = some (.frz od (.dK (mdict m))) := by rw [upd_ne hrL]; exact hLr
  by_cases hlt : j < m.length
  · refine .inr ⟨⟨hr2, by rw [hml]; exact hlt⟩, fun H' => H' = upd HL L (.lst (List.replicate (cntI p m (j + 1)) (.int 1))), fun H' e => ⟨m.length - (j + 1), by omega, rfl, hlt, e⟩, fun x H' y => ?_⟩
    obtain ⟨rfl, k, v, ek, rfl⟩ := y
    have ex : m[j]? = some (m[j]'hlt) := List.getElem?_eq_getElem hlt
    obtain ⟨x, exx⟩ : ∃ x, x = m[j]'hlt := ⟨_, rfl⟩
    rw [← exx] at ex
    have ek2 : (Sum.inl x.1, V.int x.2) = (k, v) := by
      unfold mdict at ek
      rw [List.getElem?_map, ex] at ek
      exact Option.some.inj ek
    obtain ⟨rfl, rfl⟩ := Prod.mk.inj ek2
    have hmem : x.1 ∈ p.map (·.1) := (hd.mem x.1).mp (List.mem_map.mpr ⟨x, List.mem_of_getElem? ex, rfl⟩)
    have hget := hd.get x.1 hmem
    have hlσ : (wipe σ [ip]).length = δ.length := by rw [wipe_length]; exact s.sg.1
    refine ⟨wipe_eq (by rw [List.length_set, wipe_length]) fun l hl => List.getElem?_set_ne (fun e => hl (by rw [← e]; simp)), ?_⟩
    refine ⟨.ref r, ?_, .int x.1, ?_, r, .int (tot p x.1), rfl, .inl ⟨mdict m, Sum.inl x.1, .inr ⟨od, hr2⟩, rfl, by rw [mdict_val, hget]; rfl⟩, .int (tot p x.1), .int 0, Dq.dp K _ _ (.int _), Dq.dp K _ _ (.int _), rfl, rfl, _, rfl, ?_⟩
    · rw [List.getElem?_set_ne (Ne.symm hip)]
      have := s.sg.getA hi
      show (σ.set ip none)[i]? = _
      rw [List.getElem?_set_ne (Ne.symm hip)]
      exact this
    · rw [List.getElem?_set_self (by rw [hlσ]; exact hp)]
      rfl
    · have ee : (!PyData.eqv (.int (tot p x.1)) (.int 0)) = decide (tot p x.1 ≠ 0) := by
        simp [PyData.eqv]
        rw [Bool.eq_iff_iff]
        simp
      rw [ee]
      have hc : cntI p m (j + 1) = cntI p m j + (if tot p x.1 ≠ 0 then 1 else 0) := by
        unfold cntI
        rw [List.take_add_one, ex, List.filter_append, List.length_append]
        congr 1
        by_cases h : tot p x.1 ≠ 0
        · rw [if_pos h]; simp [h]
        · rw [if_neg h]; simp at h; simp [h]
      by_cases h : tot p x.1 ≠ 0
      · rw [decide_eq_true h]
        refine iteT ⟨_, upd_same, ?_, ?_⟩
        · rw [List.length_replicate, sizeLine_eq]
          have : cntI p m j ≤ m.length := by
            unfold cntI
            exact Nat.le_trans (List.length_filter_le _ _) (by rw [List.length_take]; omega)
          omega
        · show _ = _
          rw [upd_over, hc, if_pos h, List.replicate_succ']
      · rw [decide_eq_false h]
        refine iteF ?_
        show _ = _
        rw [hc, if_neg h, Nat.add_zero]
  · have e : j = m.length := by omega
    subst e
    refine .inl ⟨⟨hr2, by rw [hml]; exact Nat.le_refl _⟩, hr2, ?_⟩
    have eH : upd (upd HL L (.lst (List.replicate (cntI p m m.length) (V.int 1)))) r (.dK (mdict m)) = upd H1 L (.lst (List.replicate (cntI p m m.length) (.int 1))) := by
      rw [upd_swap (Ne.symm hrL), eHL, upd_over, upd_id hm]
    rw [eH]
    have hk1 : Hk L = none := s.ok.a.free hL1
    have nq1 : q ≠ some L := fun e => (s.ok.j L e).ne hL1
    have nb1 : B0 L = none := by
      cases e : B0 L with
      | none => rfl
      | some u => exact absurd hL1 (s.gr.t L (by rw [e]; exact fun z => by cases z))
    have sA : At q n δ A0 B0 σ Hk (upd H1 L (.lst (List.replicate (cntI p m m.length) (.int 1)))) := ⟨s.ok.cell hk1 nq1, s.sg, s.gr.put nb1 hk1⟩
    refine ⟨Nat.zero_le _, fun E hE => ?_⟩
    have hk2 : Hk E = none := sA.ok.a.free hE
    have nq2 : q ≠ some E := fun e => (sA.ok.j E e).ne hE
    have nb2 : B0 E = none := by
      cases e : B0 E with
      | none => rfl
      | some u => exact absurd hE (sA.gr.t E (by rw [e]; exact fun z => by cases z))
    have hLE : L ≠ E := fun e => by rw [← e, upd_same] at hE; cases hE
    have sB : At q n δ A0 B0 σ Hk (upd (upd H1 L (.lst (List.replicate (cntI p m m.length) (.int 1)))) E (.lst [])) := ⟨sA.ok.cell hk2 nq2, sA.sg, sA.gr.put nb2 hk2⟩
    have hrE : r ≠ E := fun e => by rw [← e, upd_ne hrL, hm] at hE; cases hE
    have hmr : (upd (upd H1 L (.lst (List.replicate (cntI p m m.length) (V.int 1)))) E (.lst [])) r = some (.dK (mdict m)) := by rw [upd_ne hrE, upd_ne hrL]; exact hm
    have dL : Dq (upd (upd H1 L (.lst (List.replicate (cntI p m m.length) (V.int 1)))) E (.lst [])) (.ref L) (.list ((List.replicate (cntI p m m.length) (1 : Int)).map .int)) := .lst (by rw [upd_ne hLE, upd_same]) (by
      have z := DqAll.ofInts (H := upd (upd H1 L (.lst (List.replicate (cntI p m m.length) (V.int 1)))) E (.lst [])) (List.replicate (cntI p m m.length) (1 : Int))
      rw [List.map_replicate] at z
      exact z)
    have dE : Dq (upd (upd H1 L (.lst (List.replicate (cntI p m m.length) (V.int 1)))) E (.lst [])) (.ref E) (.list []) := .lst upd_same .nil
    refine ⟨_, _, Dq.dp K _ _ dL, Dq.dp K _ _ dE, lst_shape _, lst_shape [], _, rfl, ?_⟩
    rw [eqv_lst_nil]
    by_cases h : gather p = []
    · have hz := (cntI_zero hd).mpr h
      rw [hz]
      rw [hz] at sB hmr
      exact iteT (k1 h _ sB hmr)
    · have hz : cntI p m m.length ≠ 0 := fun z => h ((cntI_zero hd).mp z)
      obtain ⟨c, ec⟩ : ∃ c, cntI p m m.length = c + 1 := ⟨_, (Nat.succ_pred_eq_of_ne_zero hz).symm⟩
      rw [ec]
      rw [ec] at sB hmr
      exact iteF (k2 h _ sB hmr)
theorem q_addI {i ik ib : Nat} {p : Addr} {m : List (Int × Int)} {k v : Int} (s : At q n δ A0 B0 σ Hk H1) (hi : δ[i]? = some (.adr p)) (hk : δ[ik]? = some (.dat (.int k))) (hb : δ[ib]? = some (.dat (.int v)))
    (hm : H1 p = some (.dK (mdict m))) (nk : Hk p = none) (nq : q ≠ some p) (nb : B0 p = none) (hl : m.length < 1000000)
    (kont : At q n δ A0 B0 σ Hk (upd H1 p (.dK (mdict (addI m (k, v))))) → tz D σ (upd H1 p (.dK (mdict (addI m (k, v)))))) :
    tSeq (sDPut (tVar i) (tVar ik) (tOp (rAddU K) (tDGet2 (tVar i) (tVar ik) (tC (.int 0))) (tVar ib))) tz D σ H1 := s_addI (D := { D with nx := tz D }) s hi hk hb hm nk nq nb hl kont
end
theorem comN_take : ∀ a b : List (Int × Int), a.take (comN a b) = b.take (comN a b)
  | [], [] => rfl
  | [], _ :: _ => rfl
  | _ :: _, [] => rfl
  | x :: a, y :: b => by
    unfold comN
    by_cases e : x = y
    · rw [if_pos e, List.take_succ_cons, List.take_succ_cons, comN_take a b, e]
    · rw [if_neg e]; rfl
theorem eqvAll_pdp : ∀ a b : List (Int × Int), PyData.eqvAll (pd a) (pd b) = decide (a = b)
  | [], [] => rfl
  | [], _ :: _ => rfl
  | _ :: _, [] => rfl
  | x :: a, y :: b => by
    have z := eqvAll_pdp a b
    have z2 := eqv_pr x y
    show PyData.eqvAll (pr x :: pd a) (pr y :: pd b) = _
    simp only [PyData.eqvAll]
    rw [z, z2, Bool.eq_iff_iff]
    simp
theorem eqv_pds (a b : List (Int × Int)) : PyData.eqv (.list (pd a)) (.list (pd b)) = decide (a = b) := by
  simp only [PyData.eqv]
  exact eqvAll_pdp a b
section
variable {K : PySem.W.Frag} {q : Option Addr} {δ : List Sl} {te : TE} {c : Nat} {tt tu : TT}
theorem j_slLL {tl th : TO} {lo hi : Option Int} {Ψ : List PyData → Prop} (h : J q δ te c (fun d => ∃ ds, Ψ ds ∧ d = .list ds)) (h1 : TOj δ q tl lo) (h2 : TOj δ q th hi) : J q δ (tSl (rSlU K) te tl th) c (fun d => ∃ ds, Ψ ds ∧ d = .list (cutD ds lo hi)) := fun σ H H1 n sg o Q k =>
  h σ H H1 n sg o _ fun d v Hk H2 g o1 ⟨ds, pd, e⟩ dv => h1 σ Hk H2 n (sg.mono g.k) o1 _ fun Hk2 H3 g2 o2 => h2 σ Hk2 H3 n (sg.mono (g.k.trans g2.k)) o2 _ fun Hk3 H4 g3 o3 => by
    subst e
    obtain ⟨a, xs, rfl, e1, e2⟩ := (Dq.mono (g2.k.trans g3.k) _ _ dv).lstOf
    refine .inl ⟨a, xs, rfl, .inl (.inl (g3.a _ _ e1)), fun p hn => ?_⟩
    have g4 := Gr.new (q := none) (o := .lst (cutV xs lo hi)) g3.a hn
    refine k _ _ _ _ (((g.trans g2).trans g3).trans g4.none_to) (o3.go g4) ⟨ds, pd, rfl⟩ (.lst upd_same (DqAll.mono g4.k _ _ ?_))
    unfold cutV
    rw [e2.length]
    exact (e2.drop _).take _
theorem tj_and2 {b : Bool} (h1 : TJ q δ tt c (fun _ => True)) (h2 : TB q δ tu b) : TJ q δ (tAnd tt tu) c (fun x => x = true → b = true) := fun σ H H1 n sg o Q k => h1 σ H H1 n sg o _ fun x Hk H2 g o1 _ => by
  cases x with
  | true => exact iteT (h2 σ Hk H2 n (sg.mono g.k) o1 _ fun b' Hk' H3 g' o2 e => k _ Hk' H3 (g.trans g') o2 fun z => by rw [← e]; exact z)
  | false => exact iteF (k _ Hk H2 g o1 fun z => by cases z)
end
theorem k_revL {X : Cx} {K : PySem.W.Frag} {e : Expr} {te : TE} {k : Nat} {p1 p2 p3 pos : Pos} (hK : X.K = K) (he : PE X e te) : PE X (.Subscript e (.Slice none none (some (.UnaryOp .USub (.Constant (.int 1) k p1) p2)) p3) pos) (tRevL K te) := hK ▸ pe_revL he
section
variable {K : PySem.W.Frag} {q : Option Addr} {δ : List Sl} {te : TE} {c c1 c2 : Nat} {tt tu : TT}
theorem e_revL {ds : List PyData} (h : E q δ te (.list ds)) : E q δ (tRevL K te) (.list ds.reverse) := fun σ H H1 n sg o Q k =>
  h σ H H1 n sg o _ fun d v Hk H2 g o1 ed dv => by
    subst ed
    obtain ⟨a, xs, rfl, h1, h2⟩ := dv.lstOf
    refine ⟨a, xs, rfl, SqL.of1 (g.a _ _ h1), fun p hp => ?_⟩
    have g2 := Gr.new (q := none) (o := .lst xs.reverse) g.a hp
    exact k _ _ _ _ (g.trans g2.none_to) (o1.go g2) rfl (.lst upd_same (DqAll.mono g2.k _ _ h2.reverse))
theorem tj_or2 (h1 : TJ q δ tt c1 (fun b => b = false)) (h2 : TJ q δ tu c2 (fun b => b = false)) : TJ q δ (tOr tt tu) (c2 + c1) (fun b => b = false) := fun σ H H1 n sg o Q k => h1 σ H H1 (n + c2) sg (by rw [Nat.add_assoc]; exact o) _ fun x Hk H2 g o1 e => by
  subst e
  exact iteF (h2 σ Hk H2 n (sg.mono g.k) o1 _ fun b' Hk' H3 g' o2 e => k _ Hk' H3 (g.trans g') o2 e)
end
theorem fst_okS (i n : Nat) (p : Nat → Bool) (g : Nat → Int) : okS (i + 1) (fstD n p g) = true := by
  unfold fstD
  cases (List.range n).find? p <;> rfl
theorem cutD_mid (xs : List PyData) {k e : Nat} (hk : k ≤ xs.length) (he : e ≤ xs.length) : cutD xs (some (k : Int)) (some (e : Int)) = (xs.drop k).take (e - k) := by
  unfold cutD
  rw [sIx_nat, sIx_nat, Nat.min_eq_left hk, Nat.min_eq_left he]
def chgR (j : Nat) (b : Int) (r : List Int) : List Int := r.take j ++ [r.getD j 0 + b] ++ r.drop (j + 1)
theorem chgR_len {j : Nat} {b : Int} {r : List Int} (h : j < r.length) : (chgR j b r).length = r.length := by
  unfold chgR
  rw [List.length_append, List.length_append, List.length_take, List.length_drop]
  simp
  omega
def midR (k e j : Nat) (b : Int) (rows : List (List Int)) : List (List Int) := rows.take k ++ ((rows.drop k).take (e - k)).map (chgR j b) ++ rows.drop e
theorem midR_len {k e j : Nat} {b : Int} {rows : List (List Int)} (h1 : k ≤ e) (h2 : e ≤ rows.length) : (midR k e j b rows).length = rows.length := by
  unfold midR
  rw [List.length_append, List.length_append, List.length_map, List.length_take, List.length_take, List.length_drop, List.length_drop]
  omega
theorem midR_all {k e j m : Nat} {b : Int} {rows : List (List Int)} (hj : j < m) (h : ∀ r ∈ rows, r.length = m) : ∀ r ∈ midR k e j b rows, r.length = m := fun r hr => by
  unfold midR at hr
  rcases List.mem_append.mp hr with z | z
  · rcases List.mem_append.mp z with z | z
    · exact h r (List.mem_of_mem_take z)
    · obtain ⟨x, hx, rfl⟩ := List.mem_map.mp z
      have e := h x (List.mem_of_mem_drop (List.mem_of_mem_take hx))
      rw [chgR_len (by omega), e]
  · exact h r (List.mem_of_mem_drop z)
theorem fst_list (n : Nat) (p : Nat → Bool) : atI ((((List.range n).filter p).map fun k : Nat => PyData.int (k : Int)) ++ [.none]) 0 = some (fstD n p fun k => (k : Int)) := by
  have z : ((List.range n).filter p).head? = (List.range n).find? p := List.head?_filter
  refine atI_nat (j := 0) ?_
  unfold fstD
  rw [← z]
  cases (List.range n).filter p with
  | nil => rfl
  | cons x l => rfl
theorem eqvAll_polL : ∀ rows : List (List Int), PyData.eqvAll (rows.map pol) (rows.map pol) = true
  | [] => rfl
  | r :: rows => by
    show PyData.eqvAll (pol r :: rows.map pol) (pol r :: rows.map pol) = true
    simp only [PyData.eqvAll]
    rw [eqvAll_polL rows, eqv_pols]
    simp
theorem eqv_polL (rows : List (List Int)) : PyData.eqv (.list (rows.map pol)) (.list (rows.map pol)) = true := by
  simp only [PyData.eqv]
  exact eqvAll_polL rows
theorem shaped_polL (rows : List (List Int)) : SeqAt.shaped (.list (rows.map pol)) = true := by
  have hp : ∀ f : List Int, (pol f).canLay0 = true ∧ (pol f).depth ≤ 2 := fun f => by
    constructor
    · show PyData.canLayAll0 (f.map .int) = true
      exact canAll_of fun d hd => by obtain ⟨x, _, rfl⟩ := List.mem_map.mp hd; rfl
    · have : PyData.depthAll (f.map .int) ≤ 1 := depthAll_le fun d hd => by
        obtain ⟨x, _, rfl⟩ := List.mem_map.mp hd
        simp [PyData.depth]
      show (PyData.tuple (f.map .int)).depth ≤ 2
      simp only [PyData.depth]
      omega
  unfold SeqAt.shaped
  rw [Bool.and_eq_true]
  refine ⟨?_, decide_eq_true ?_⟩
  · show PyData.canLayAll0 (rows.map pol) = true
    exact canAll_of fun d hd => by obtain ⟨x, _, rfl⟩ := List.mem_map.mp hd; exact (hp x).1
  · rw [PyData.depth]
    have : PyData.depthAll (rows.map pol) ≤ 2 := depthAll_le fun d hd => by obtain ⟨x, _, rfl⟩ := List.mem_map.mp hd; exact (hp x).2
    omega
end Cr

set_option Elab.async false
set_option linter.all false
set_option maxRecDepth 100000
set_option maxHeartbeats 800000
/-! dict(t) of a tuple of pairs -/
namespace L2
open PySem PySem.Spec PyProof.Rows
section
variable {X : Cx}
theorem prs_of {pins : List (Addr × Obj)} {σ : St} {H : Hp} {s : Shared} (I : Inv X pins σ H s) : ∀ {ps : List Addr} {kvs : List (Key × V)}, Paired (fun p kv => SqT X.K H p [kV kv.1, kv.2]) ps kvs →
    ∃ (prs : List (Key × Value)) (us : List (Value × Value)), KV kvs prs ∧ prs.length = ps.length ∧ us.length = ps.length ∧ ∀ (j : Nat) (k v : Value), us[j]? = some (k, v) → ∃ (b : Addr) (y : Key), ps[j]? = some b ∧ Heap.IsTuple s.heap b #[k, v] ∧ prs[j]? = some (y, v) ∧ keyIs y k = true
  | _, _, .nil => ⟨[], [], .nil, rfl, rfl, fun j k v e => by simp at e⟩
  | _, _, .cons (a := p) (b := kv) h t => by
    obtain ⟨prs, us, r, hl, hl2, hp⟩ := prs_of I t
    obtain ⟨its, rv, ht, _⟩ := I.tuple h
    obtain ⟨u, y, ei, ru, ry⟩ := vals2 rv
    subst ei
    refine ⟨(kv.1, y) :: prs, (u, y) :: us, .cons ⟨rfl, ry⟩ r, by rw [List.length_cons, List.length_cons, hl], by rw [List.length_cons, List.length_cons, hl2], fun j k v e => ?_⟩
    cases j with
    | zero =>
      have e' : (u, y) = (k, v) := Option.some.inj e
      cases e'
      exact ⟨p, kv.1, rfl, ht, rfl, kV_is (P := X.prog) (w := X.w) ru⟩
    | succ j =>
      obtain ⟨b, z, e1, e2, e3, e4⟩ := hp j k v (by simpa using e)
      exact ⟨b, z, by simpa using e1, e2, by simpa using e3, e4⟩
/-- dict(t), t a tuple of pairs that is known to have no dict of its own -/
def rDictT (K : PySem.W.Frag) : List V → Hp → VK → Prop := fun xs H Q => ∃ (a : Addr) (ps : List Addr) (kvs : List (Key × V)), xs = [.ref a] ∧ (∃ o : Obj, o.dict = none ∧ H a = some (.frz o (.tup (ps.map V.ref)))) ∧ Paired (fun p kv => SqT K H p [kV kv.1, kv.2]) ps kvs ∧
  ∀ p, H p = none → Q (.ref p) (upd H p (.dK (mergeK [] kvs)))
theorem call_dictT (hcalm : X.calm = true) : CallR X (.type "dict") (rDictT X.K) := by
  intro pins s σ H xs us Q I r q
  obtain ⟨a, ps, kvs, ex, ⟨ob, od, hq⟩, hp, q⟩ := q
  subst ex
  obtain ⟨u, eu, rx⟩ := vals1 r
  subst eu
  cases rx
  obtain ⟨eo, hz, its, rv, ht⟩ : s.heap.get? a = some ob ∧ (ps.map V.ref).length ≤ sizeLine ∧ ∃ us, Vals (ps.map V.ref) us ∧ Heap.IsTuple s.heap a us.toArray := I.hok a _ hq
  have ei := refs_at rv
  subst ei
  rw [List.length_map] at hz
  obtain ⟨prs, us2, rel, hl, hl2, hpr⟩ := prs_of I hp
  obtain ⟨o, ho, hc, n, hdat⟩ := ht
  have eoo : o = ob := Option.some.inj (ho.symm.trans eo)
  subst eoo
  have ok : PlainSeq "tuple" s.heap a (ps.map Value.ref).toArray ∧ PairItems s.heap (ps.map Value.ref).toArray (fun j => ps.getD j 0) us2 := by
    refine ⟨⟨o, n, ho, hc, od, hdat⟩, by simp [hl2], fun j k v e => ?_⟩
    obtain ⟨b, y, e1, e2, _⟩ := hpr j k v e
    have eb : ps.getD j 0 = b := by rw [List.getD_eq_getElem?_getD, e1]; rfl
    exact ⟨by simp [e1], .inl (by show Heap.IsTuple s.heap (ps.getD j 0) _; rw [eb]; exact e2)⟩
  refine PySem.call_dict_pairs (knd := mixKind X.prog X.w) (kvs := prs) (PairArg.tuple a (ps.map Value.ref).toArray (fun j => ps.getD j 0) us2) (I.ok.hd hcalm) ok ⟨by rw [hl, hl2], fun i k v e => ?_⟩ (by rw [hl2]; exact hz) fun h' tk hd' hk => ?_
  · obtain ⟨b, y, _, _, e3, e4⟩ := hpr i k v e
    exact ⟨y, e3, e4⟩
  · have hm : (s.heap.objs.size == sysModules) = false := beq_eq_false_iff_ne.mpr (Nat.ne_of_gt I.big)
    have hlen : (mergeK [] kvs).length ≤ sizeLine := by
      refine Nat.le_trans (length_mergeK kvs []) ?_
      rw [List.length_nil, Nat.zero_add, rel.length, hl]
      exact hz
    exact ⟨.ref s.heap.objs.size, upd H s.heap.objs.size (.dK (mergeK [] kvs)), I.laid (t' := tk) (fun b o e => hk b o (fun z => by cases z) e) (Nat.le_refl _) (show ObjOk X.prog X.w _ _ _ (.dK (mergeK [] kvs)) from ⟨hlen, hm, merged [] prs, KV.merge rel .nil, hd'⟩), rfl, q _ (I.hok.fresh (Nat.le_refl _))⟩
theorem k_dictT {K : PySem.W.Frag} (h : X.K = K) (hc : X.calm = true) : CallR X (.type "dict") (rDictT K) := h ▸ call_dictT hc
end
end L2
namespace Cr
open PySem PySem.Spec PyProof.Rows L2
section
variable {K : PySem.W.Frag} {q : Option Addr} {n : Nat} {δ δ' : List Sl} {te te2 ta tb tk tv : TE} {D : Ends} {A0 B0 Hk H1 : Hp} {σ : L2.St}
theorem putI_new {m : List (Int × Int)} {k v : Int} (h : k ∉ m.map (·.1)) : putI m k v = m ++ [(k, v)] := by
  unfold putI
  rw [if_neg]
  intro e
  obtain ⟨x, hx, z⟩ := List.any_eq_true.mp e
  exact h (by rw [← of_decide_eq_true z]; exact List.mem_map_of_mem hx)
theorem merge_mdict : ∀ (l m : List (Int × Int)), ((m ++ l).map (·.1)).Nodup → mergeK (mdict m) (mdict l) = mdict (m ++ l)
  | [], m, _ => by rw [List.append_nil]; rfl
  | (k, v) :: l, m, h => by
    show mergeK (putK (mdict m) (Sum.inl k) (.int v)) (mdict l) = _
    have hk : k ∉ m.map (·.1) := fun z => by
      rw [List.map_append, List.nodup_append] at h
      exact h.2.2 k z k (by simp) rfl
    rw [mdict_put, putI_new hk, merge_mdict l (m ++ [(k, v)]) (by simpa using h), List.append_assoc]
    rfl
theorem paired_pd {H : Hp} : ∀ {xs : List V} {l : List (Int × Int)}, DqAll H xs (pd l) → ∃ ps : List Addr, xs = ps.map V.ref ∧ Paired (fun p kv => SqT K H p [kV kv.1, kv.2]) ps (mdict l)
  | xs, [], h => by
    cases h
    exact ⟨[], rfl, .nil⟩
  | xs, (k, v) :: l, h => by
    cases h with
    | cons a b =>
      obtain ⟨ps, e, hp⟩ := paired_pd b
      obtain ⟨p, ys, e2, e3, e4⟩ := Dq.tupOf a
      obtain ⟨x, y, e5, dx, dy⟩ := e4.two
      subst e e2 e5
      rw [dx.intOf, dy.intOf] at e3
      exact ⟨p :: ps, rfl, .cons (.inl e3.rd) hp⟩
/-- table = dict(ledger) -/
theorem q_dictT {i : Nat} {l : List (Int × Int)} (h : E q δ te (led l)) (hne : l ≠ []) (hn : (l.map (·.1)).Nodup) (s : At q n δ A0 B0 σ Hk H1)
    (k : ∀ σ' Hk' H2, Gr q Hk H1 Hk' H2 → At q n (δ.set i (.dic l)) A0 B0 σ' Hk' H2 → tz D σ' H2) : tSeq (tAsg (tCB (rDictT K) (tCons te tNil)) (gName i)) tz D σ H1 :=
  h σ Hk H1 n s.sg s.ok _ fun d v Hk2 H2 g o1 e dv => by
    subst e
    obtain ⟨a, xs, rfl, h1, h2⟩ := Dq.tupOf dv
    obtain ⟨ps, rfl, hp⟩ := paired_pd (K := K) (DqAll.mono o1.a _ _ h2)
    rcases h1.mono o1.a with ⟨ob, od, e⟩ | ⟨z, _⟩
    · refine ⟨a, ps, mdict l, rfl, ⟨ob, od, e⟩, hp, fun p hp => ?_⟩
      rw [show (mergeK [] (mdict l)) = mdict l from merge_mdict l [] hn]
      have g1 := Gr.new (q := q) (o := .dK (mdict l)) o1.a hp
      have gg := g.trans g1
      exact k _ _ _ gg ⟨o1.go ⟨g1.k, g1.a, fun b' o' _ h => by rw [upd_ne (ne_of_none h hp)]; exact h, g1.f, g1.t⟩, (s.sg.mono gg.k).set i (s := .dic l) ⟨p, rfl, upd_same⟩, s.gr.trans gg⟩
    · cases l with
      | nil => exact absurd rfl hne
      | cons x l => cases z
/-- table.get(key, j) of a known dict -/
theorem e_dget2 {i : Nat} {m : List (Int × Int)} {k j : Int} (hi : δ[i]? = some (.dic m)) (hk : E q δ tk (.int k)) : E q δ (tDGet2 (tVar i) tk (tC (.int j))) (.int ((getI m k).getD j)) := fun σ H H1 n sg o Q kk => by
  obtain ⟨x, a, p, rfl, hp⟩ := sg.2 i _ hi (fun z => by cases z)
  refine ⟨.ref p, a, p, rfl, .inl ⟨_, .inl (o.a _ _ hp)⟩, hk σ H H1 n sg o _ fun d w Hk H2 g o e dv => ?_⟩
  subst e
  rw [dv.intOf]
  have h := DGet.k (H := H2) (a := p) (k := (Sum.inl k : Key)) (g.a _ _ (g.k _ _ hp))
  rw [mdict_val] at h
  refine ⟨_, h, ?_⟩
  rw [show ((getI m k).map V.int).getD (.int j) = .int ((getI m k).getD j) by cases getI m k <;> rfl]
  exact kk _ _ Hk H2 g o rfl (.int _)
end
end Cr

set_option Elab.async false
set_option linter.all false
set_option maxRecDepth 100000
set_option maxHeartbeats 800000
namespace Cr
open PySem PySem.Spec PyProof.Rows L2
/-! ledgers cleared: the quotient by ((0, -1), (1, 1)), over and over -/
/-- amounts at neighbouring keys from f on -/
def dl : List Int → Int → List (Int × Int)
  | [], _ => []
  | a :: A, f => (f, a) :: dl A (f + 1)
theorem dl_range : ∀ (A : List Int) (f : Int), dl A f = (List.range A.length).map fun k : Nat => (f + (k : Int), A.getD k 0)
  | [], _ => rfl
  | a :: A, f => by
    rw [List.length_cons, List.range_succ_eq_map, List.map_cons, List.map_map]
    show (f, a) :: dl A (f + 1) = _
    rw [dl_range A (f + 1)]
    congr 1
    · simp
    · refine List.map_congr_left fun k _ => ?_
      show (f + 1 + (k : Int), _) = (f + ((k + 1 : Nat) : Int), _)
      rw [show f + 1 + (k : Int) = f + ((k + 1 : Nat) : Int) by omega]
      rfl
theorem dl_len (A : List Int) (f : Int) : (dl A f).length = A.length := by rw [dl_range]; simp
theorem dl_asc (A : List Int) (f : Int) : (dl A f).Pairwise fun a b => a.1 < b.1 := by
  rw [dl_range, List.pairwise_map]
  exact List.Pairwise.imp (fun h => by show _ + _ < _ + _; omega) List.pairwise_lt_range
/-- what is left after each amount is taken away -/
def pre : Int → List Int → List Int
  | _, [] => []
  | t, a :: A => (t - a) :: pre (t - a) A
theorem pre_len : ∀ (A : List Int) (t : Int), (pre t A).length = A.length
  | [], _ => rfl
  | a :: A, t => by show (pre (t - a) A).length + 1 = A.length + 1; rw [pre_len A]
theorem pre_snoc : ∀ (A : List Int) (t a : Int), pre t (A ++ [a]) = pre t A ++ [t - A.sum - a]
  | [], t, a => by show [t - a] = [t - 0 - a]; rw [Int.sub_zero]
  | b :: A, t, a => by
    show (t - b) :: pre (t - b) (A ++ [a]) = (t - b) :: (pre (t - b) A ++ [t - (b + A.sum) - a])
    rw [pre_snoc A, show t - b - A.sum - a = t - (b + A.sum) - a by omega]
def wst (A : List Int) : List Int := pre 0 A.dropLast
theorem wst_len (A : List Int) : (wst A).length = A.length - 1 := by rw [wst, pre_len, List.length_dropLast]
theorem dl_pre (φ : Int → Int) (z : Int) : ∀ (B : List Int) (t f : Int), wsum φ (dl (B ++ [z]) f) = t * φ f - (t - B.sum - z) * φ (f + (B.length : Int)) + wsum (fun x => φ (x + 1) - φ x) (dl (pre t B) f)
  | [], t, f => by
    show z * φ f + 0 = t * φ f - (t - 0 - z) * φ (f + ((0 : Nat) : Int)) + 0
    rw [show f + ((0 : Nat) : Int) = f by omega]
    grind
  | a :: B, t, f => by
    show a * φ f + wsum φ (dl (B ++ [z]) (f + 1)) = t * φ f - (t - (a + B.sum) - z) * φ (f + ((B.length + 1 : Nat) : Int)) + ((t - a) * (φ (f + 1) - φ f) + wsum _ (dl (pre (t - a) B) (f + 1)))
    rw [dl_pre φ z B (t - a) (f + 1), show f + 1 + (B.length : Int) = f + ((B.length + 1 : Nat) : Int) by omega]
    grind
theorem dl_wst (φ : Int → Int) {A : List Int} (f : Int) (h : A.sum = 0) : wsum φ (dl A f) = wsum (fun x => φ (x + 1) - φ x) (dl (wst A) f) := by
  by_cases hA : A = []
  · subst hA; rfl
  · have e := List.dropLast_concat_getLast hA
    have s : A.sum = A.dropLast.sum + A.getLast hA := by
      conv => lhs; rw [← e]
      rw [List.sum_append]; simp
    conv => lhs; rw [← e]
    rw [dl_pre φ _ A.dropLast 0 f, show (0 : Int) - A.dropLast.sum - A.getLast hA = 0 by omega]
    unfold wst
    omega
theorem dl_sum : ∀ (A : List Int) (f : Int), psum (dl A f) 0 = A.sum
  | [], _ => rfl
  | a :: A, f => by
    show psum ((f, a) :: dl A (f + 1)) 0 = a + A.sum
    rw [psum_cons, dl_sum A]; simp
/-- one step of the quotient: one sum less is 0 -/
theorem bl_step {a b : List (Int × Int)} {j : Nat} (h : ∀ φ : Int → Int, wsum φ a = wsum (fun x => φ (x + 1) - φ x) b) (hb : IsBl a (j + 1)) : IsBl b j := by
  have mv : ∀ (φ : Int → Int) (l : List (Int × Int)), wsum φ (l.map fun x => (x.1 + 1, x.2)) = wsum (fun x => φ (x + 1)) l := fun φ l => by
    induction l with
    | nil => rfl
    | cons x l ih => show x.2 * φ (x.1 + 1) + wsum φ (l.map _) = x.2 * φ (x.1 + 1) + wsum _ l; rw [ih]
  have sub : ∀ (φ ψ : Int → Int) (l : List (Int × Int)), wsum (fun x => φ x - ψ x) l = wsum φ l - wsum ψ l := fun φ ψ l => by
    induction l with
    | nil => rfl
    | cons x l ih => show x.2 * (φ x.1 - ψ x.1) + wsum _ l = (x.2 * φ x.1 + wsum φ l) - (x.2 * ψ x.1 + wsum ψ l); rw [ih]; grind
  have key : ∀ m : Nat, (∀ i < m, psum b i = 0) → psum a (m + 1) = (chs (m + 1) m : Int) * psum b m := fun m hm => by
    have e : (b.map fun x => (x.1 + 1, x.2)) = prodL b [(1, 1)] := by
      rw [prodL_one]
      exact List.map_congr_left fun x _ => by rw [Int.mul_one]
    rw [psum_wsum a, h, sub, ← mv (fun x => x ^ (m + 1)), ← psum_wsum, ← psum_wsum, e, psum_prod]
    show (sm m (fun i => (chs (m + 1) i : Int) * (psum b i * psum [(1, 1)] (m + 1 - i))) + (chs (m + 1) m : Int) * (psum b m * psum [(1, 1)] (m + 1 - m))) + (chs (m + 1) (m + 1) : Int) * (psum b (m + 1) * psum [(1, 1)] (m + 1 - (m + 1))) - psum b (m + 1) = _
    rw [sm_congr (G := fun _ => 0) fun i hi => by rw [hm i hi]; simp, sm_zero, chs_self, psum_one, psum_one]
    simp [Int.one_pow]
  have van : ∀ m, m ≤ j → ∀ i < m, psum b i = 0 := fun m => by
    induction m with
    | zero => exact fun _ i hi => by omega
    | succ m ih =>
      intro hm i hi
      by_cases e : i < m
      · exact ih (by omega) i e
      · have e2 : i = m := by omega
        subst e2
        have z := key i (ih (by omega))
        rw [hb.2 (i + 1) (by omega)] at z
        rcases Int.mul_eq_zero.mp z.symm with c | c
        · have := chs_pos (n := i + 1) (k := i) (by omega)
          omega
        · exact c
  refine ⟨fun z => hb.1 ?_, van j (Nat.le_refl _)⟩
  rw [key j (van j (Nat.le_refl _)), z, Int.mul_zero]
def wsn : Nat → List Int → List Int
  | 0, A => A
  | n + 1, A => wst (wsn n A)
theorem wsn_len (A : List Int) : ∀ n, (wsn n A).length = A.length - n
  | 0 => rfl
  | n + 1 => by show (wst _).length = _; rw [wst_len, wsn_len A n]; omega
theorem bl_wsn {A : List Int} {f : Int} {j : Nat} (h : IsBl (dl A f) j) : ∀ i, i ≤ j → IsBl (dl (wsn i A) f) (j - i)
  | 0, _ => h
  | i + 1, hi => by
    have h1 := bl_wsn h i (by omega)
    rw [show j - i = (j - (i + 1)) + 1 by omega] at h1
    have z : (wsn i A).sum = 0 := by rw [← dl_sum _ f]; exact h1.2 0 (by omega)
    exact bl_step (fun φ => dl_wst φ f z) h1
theorem sum_wsn {A : List Int} {f : Int} {j i : Nat} (h : IsBl (dl A f) j) (hi : i < j) : (wsn i A).sum = 0 := by
  rw [← dl_sum _ f]
  exact (bl_wsn h i (by omega)).2 0 (by omega)
theorem trn_zero (f : Int) (φ : Int → Int) : trn 0 f φ = φ f := by
  unfold trn bt
  show 0 + ((chs 0 0 : Nat) : Int) * (sgz ((0 : Nat) : Int) * φ (f + ((0 : Nat) : Int))) = φ f
  rw [show sgz ((0 : Nat) : Int) = 1 from sgz_zero, chs_self]
  simp
theorem wsum_congr {φ ψ : Int → Int} {l : List (Int × Int)} (h : ∀ x, φ x = ψ x) : wsum φ l = wsum ψ l := by rw [show φ = ψ from funext h]
theorem wsum_wsn {A : List Int} {f : Int} {j : Nat} (φ : Int → Int) (h : IsBl (dl A f) j) : ∀ i, i ≤ j → wsum φ (dl A f) = wsum (fun x => trn i x φ) (dl (wsn i A) f)
  | 0, _ => wsum_congr fun x => (trn_zero x φ).symm
  | i + 1, hi => by
    rw [wsum_wsn φ h i (by omega), dl_wst _ f (sum_wsn h (by omega))]
    exact wsum_congr fun x => by rw [trn_succ]
theorem wsum_nz (φ : Int → Int) : ∀ l : List (Int × Int), wsum φ (l.filter fun x => decide (x.2 ≠ 0)) = wsum φ l
  | [] => rfl
  | x :: l => by
    by_cases h : x.2 = 0
    · rw [List.filter_cons_of_neg (by simpa using h), wsum_nz φ l]
      show _ = x.2 * _ + wsum φ l
      rw [h, Int.zero_mul, Int.zero_add]
    · rw [List.filter_cons_of_pos (by simpa using h)]
      show x.2 * _ + wsum φ (l.filter _) = x.2 * _ + wsum φ l
      rw [wsum_nz φ l]
def dlt (k : Int) : Int → Int := fun x => if x = k then 1 else 0
theorem tot_dlt (k : Int) (l : List (Int × Int)) : tot l k = wsum (dlt k) l := tot_wsum _ _
theorem tot_turn_at (s : Nat) (x k : Int) : tot (turn s 0) (k - x) = trn s x (dlt k) := by
  rw [tot_dlt, wsum_turn]
  unfold trn
  refine bt_congr fun a b => ?_
  have e : dlt (k - x) (0 + (a : Int)) = dlt k (x + (a : Int)) := by
    unfold dlt
    by_cases h : 0 + (a : Int) = k - x
    · rw [if_pos h, if_pos (by omega)]
    · rw [if_neg h, if_neg (by omega)]
  rw [e]
theorem tot_prod_turn (s : Nat) (k : Int) : ∀ l : List (Int × Int), tot (prodL l (turn s 0)) k = wsum (fun x => trn s x (dlt k)) l
  | [] => rfl
  | x :: l => by
    show tot ((turn s 0).map (fun y => (x.1 + y.1, x.2 * y.2)) ++ prodL l (turn s 0)) k = x.2 * trn s x.1 (dlt k) + wsum _ l
    rw [tot_append, tot_prod_turn s k l, tot_mapk, tot_turn_at]
/-- the amounts, 0 too, from the first key to the last one -/
def lowL (l : List (Int × Int)) : Int := (l.map (·.1)).headD 0
def hiL (l : List (Int × Int)) : Int := (l.map (·.1)).getLastD 0
def dense (l : List (Int × Int)) : List Int := (rgI (lowL l) (hiL l + 1)).map (tot l)
def fz (A : List Int) (f : Int) : List (Int × Int) := (dl A f).filter fun x => decide (x.2 ≠ 0)
theorem fz_led (A : List Int) (f : Int) : Led (fz A f) := ⟨(dl_asc A f).sublist List.filter_sublist, fun x hx => by simpa using (List.mem_filter.mp hx).2⟩
theorem dl_map (g : Int → Int) : ∀ (n : Nat) (f : Int), dl ((List.range n).map fun i : Nat => g (f + (i : Int))) f = (List.range n).map fun i : Nat => (f + (i : Int), g (f + (i : Int))) := fun n f => by
  rw [dl_range, List.length_map, List.length_range]
  refine List.map_congr_left fun k hk => ?_
  rw [List.getD_eq_getElem?_getD, List.getElem?_map, List.getElem?_range (List.mem_range.mp hk)]
  rfl
theorem dl_dense (l : List (Int × Int)) : dl (dense l) (lowL l) = (rgI (lowL l) (hiL l + 1)).map fun k => (k, tot l k) := by
  unfold dense rgI
  rw [List.map_map, List.map_map]
  exact dl_map (tot l) _ _
theorem asc_last : ∀ (S : List Int), S.Pairwise (· < ·) → ∀ x ∈ S, x ≤ S.getLastD 0
  | [], _, x, h => by cases h
  | [a], _, x, h => by
    rcases List.mem_cons.mp h with e | e
    · exact Int.le_of_eq e
    · cases e
  | a :: b :: S, hp, x, h => by
    have hp' := List.pairwise_cons.mp hp
    have ih := asc_last (b :: S) hp'.2
    show x ≤ (b :: S).getLastD 0
    rcases List.mem_cons.mp h with e | e
    · have h1 := hp'.1 b (by simp)
      have h2 := ih b (by simp)
      omega
    · exact ih x e
theorem led_span {l : List (Int × Int)} (h : Led l) : ∀ x ∈ l, lowL l ≤ x.1 ∧ x.1 ≤ hiL l := fun x hx => by
  have hp : (l.map (·.1)).Pairwise (· < ·) := by rw [List.pairwise_map]; exact h.1
  have hm : x.1 ∈ l.map (·.1) := List.mem_map_of_mem hx
  unfold lowL hiL
  generalize l.map (·.1) = S at hp hm
  refine ⟨?_, ?_⟩
  · cases S with
    | nil => cases hm
    | cons a S =>
      rcases List.mem_cons.mp hm with e | e
      · exact Int.le_of_eq e.symm
      · exact Int.le_of_lt ((List.pairwise_cons.mp hp).1 _ e)
  · exact asc_last S hp _ hm
theorem wsum_dense (φ : Int → Int) {l : List (Int × Int)} (h : Led l) : wsum φ (dl (dense l) (lowL l)) = wsum φ l := by
  have hm : ∀ S : List Int, wsum φ (S.map fun k => (k, tot l k)) = ksum φ (tot l) S := fun S => by
    induction S with
    | nil => rfl
    | cons k S ih => show tot l k * φ k + wsum φ (S.map _) = tot l k * φ k + ksum φ (tot l) S; rw [ih]
  rw [dl_dense, hm, ← wsum_keys φ (rgI_asc _ _) l fun x hx => ?_]
  have := led_span h x hx
  unfold rgI
  exact List.mem_map.mpr ⟨(x.1 - lowL l).toNat, List.mem_range.mpr (by omega), by omega⟩
theorem bl_dense {l : List (Int × Int)} {j : Nat} (h : Led l) (hb : IsBl l j) : IsBl (dl (dense l) (lowL l)) j := by
  have e : ∀ i, psum (dl (dense l) (lowL l)) i = psum l i := fun i => by rw [psum_wsum, wsum_dense _ h, ← psum_wsum]
  exact ⟨by rw [e]; exact hb.1, fun i hi => by rw [e]; exact hb.2 i hi⟩
theorem fz_dense {l : List (Int × Int)} (h : Led l) : fz (dense l) (lowL l) = l := by
  have e : gather (dl (dense l) (lowL l)) = gather l := gather_ext fun k => by rw [tot_dlt, wsum_dense _ h, ← tot_dlt]
  rw [gather_self h, gather_nz (dl_asc _ _)] at e
  exact e
theorem clear_prod {l : List (Int × Int)} {j : Nat} (h : Led l) (hb : IsBl l j) : gather (prodL (fz (wsn j (dense l)) (lowL l)) (turn j 0)) = l := by
  have e : gather (prodL (fz (wsn j (dense l)) (lowL l)) (turn j 0)) = gather l := gather_ext fun k => by
    rw [tot_prod_turn, fz, wsum_nz, ← wsum_wsn (dlt k) (bl_dense h hb) j (Nat.le_refl _), wsum_dense _ h, ← tot_dlt]
  rw [e, gather_self h]
theorem clear_sum {l : List (Int × Int)} {j : Nat} (h : Led l) (hb : IsBl l j) : psum (fz (wsn j (dense l)) (lowL l)) 0 ≠ 0 := by
  have z := (bl_wsn (bl_dense h hb) j (Nat.le_refl _)).1
  rw [Nat.sub_self] at z
  rw [psum_wsum, fz, wsum_nz, ← psum_wsum]
  exact z
/-! bounds -/
theorem pre_abs {M : Nat} : ∀ (A : List Int) (t : Int), (∀ a ∈ A, a.natAbs ≤ M) → ∀ x ∈ pre t A, x.natAbs ≤ t.natAbs + A.length * M
  | [], t, _, x, h => by cases h
  | a :: A, t, hA, x, h => by
    have ha := hA a (by simp)
    have e : (A.length + 1) * M = A.length * M + M := by rw [Nat.add_mul, Nat.one_mul]
    show x.natAbs ≤ t.natAbs + (A.length + 1) * M
    rcases List.mem_cons.mp h with z | z
    · rw [z, e]; omega
    · have := pre_abs A (t - a) (fun b hb => hA b (by simp [hb])) x z
      rw [e]; omega
theorem wst_abs {M N : Nat} {A : List Int} (h : ∀ a ∈ A, a.natAbs ≤ M) (hl : A.length ≤ N) : ∀ x ∈ wst A, x.natAbs ≤ N * M := fun x hx => by
  have z := pre_abs (M := M) A.dropLast 0 (fun a ha => h a (List.dropLast_subset _ ha)) x hx
  rw [List.length_dropLast] at z
  have : (A.length - 1) * M ≤ N * M := Nat.mul_le_mul_right _ (by omega)
  simp at z
  omega
theorem wsn_abs {M N : Nat} {A : List Int} (h : ∀ a ∈ A, a.natAbs ≤ M) (hl : A.length ≤ N) : ∀ i, ∀ x ∈ wsn i A, x.natAbs ≤ N ^ i * M
  | 0 => fun x hx => by have := h x hx; rw [Nat.pow_zero, Nat.one_mul]; exact this
  | i + 1 => fun x hx => by
    have := wst_abs (N := N) (wsn_abs h hl i) (by rw [wsn_len]; omega) x hx
    rw [Nat.pow_succ, Nat.mul_comm (N ^ i), Nat.mul_assoc]
    exact this
theorem wsn_bits {B : Nat} {A : List Int} (h : ∀ a ∈ A, a.natAbs < 2 ^ B) (hl : A.length ≤ 1024) (i : Nat) : ∀ x ∈ wsn i A, x.natAbs < 2 ^ (B + 10 * i) := fun x hx => by
  have h1 := wsn_abs (M := 2 ^ B - 1) (N := 1024) (fun a ha => by have := h a ha; omega) hl i x hx
  have e : (1024 : Nat) ^ i = 2 ^ (10 * i) := by rw [Nat.pow_mul]
  have p : 0 < 2 ^ (10 * i) := Nat.pow_pos (by decide)
  have q : 2 ^ (10 * i) * (2 ^ B - 1) < 2 ^ (10 * i) * 2 ^ B := Nat.mul_lt_mul_of_pos_left (by have : 0 < 2 ^ B := Nat.pow_pos (by decide); omega) p
  rw [e] at h1
  rw [Nat.pow_add, Nat.mul_comm]
  omega
theorem getI_tot {l : List (Int × Int)} (h : Led l) (k : Int) : (getI l k).getD 0 = tot l k := by
  by_cases hk : k ∈ l.map (·.1)
  · obtain ⟨x, hx, rfl⟩ := List.mem_map.mp hk
    have e : getI l x.1 = some x.2 := by
      unfold getI
      have nd : l.Pairwise fun a b => a.1 < b.1 := h.1
      clear h hk
      induction l with
      | nil => cases hx
      | cons y l ih =>
        have hp := List.pairwise_cons.mp nd
        rcases List.mem_cons.mp hx with z | z
        · subst z; simp
        · have := hp.1 x z
          rw [List.find?_cons_of_neg (by simp; omega)]
          exact ih z hp.2
    rw [e, tot_led h.1 x hx]; rfl
  · rw [getI_none.mpr hk, tot_no hk]; rfl

open Classical in
noncomputable def clr (l : List (Int × Int)) : List (Int × Int) := if h : ∃ j, IsBl l j then fz (wsn (Classical.choose h) (dense l)) (lowL l) else []
theorem clr_is {l : List (Int × Int)} {j : Nat} (h : IsBl l j) : clr l = fz (wsn j (dense l)) (lowL l) := by
  have e : ∃ j, IsBl l j := ⟨j, h⟩
  unfold clr
  rw [dif_pos e, (Classical.choose_spec e).uniq h]
theorem clr_nil : clr [] = [] := by
  unfold clr
  rw [dif_neg]
  rintro ⟨j, h⟩
  exact h.1 rfl
theorem clr_led (l : List (Int × Int)) : Led (clr l) := by
  unfold clr
  split
  · exact fz_led _ _
  · exact ⟨.nil, fun x hx => by cases hx⟩
theorem dense_len (l : List (Int × Int)) : (dense l).length = (hiL l + 1 - lowL l).toNat := by unfold dense; rw [List.length_map, rgI_len]
theorem clr_len (l : List (Int × Int)) : (clr l).length ≤ (dense l).length := by
  unfold clr
  split
  · refine Nat.le_trans (List.length_filter_le _ _) ?_
    rw [dl_len, wsn_len]; omega
  · exact Nat.zero_le _
theorem dl_mem {A : List Int} {f : Int} {x : Int × Int} (h : x ∈ dl A f) : f ≤ x.1 ∧ x.1 < f + A.length ∧ x.2 ∈ A := by
  rw [dl_range] at h
  obtain ⟨k, hk, rfl⟩ := List.mem_map.mp h
  have hk' := List.mem_range.mp hk
  refine ⟨by show f ≤ f + (k : Int); omega, by show f + (k : Int) < _; omega, ?_⟩
  show A.getD k 0 ∈ A
  rw [List.getD_eq_getElem?_getD, List.getElem?_eq_getElem hk']
  exact List.getElem_mem hk'
theorem led_ends {l : List (Int × Int)} (hne : l ≠ []) : (∃ x ∈ l, x.1 = lowL l) ∧ ∃ x ∈ l, x.1 = hiL l := by
  unfold lowL hiL
  refine ⟨?_, ?_⟩
  · cases l with
    | nil => exact absurd rfl hne
    | cons x l => exact ⟨x, by simp, rfl⟩
  · have e : (l.map (·.1)).getLastD 0 ∈ l.map (·.1) := by
      rw [List.getLastD_eq_getLast?, List.getLast?_eq_some_getLast (by simpa using hne)]
      exact List.getLast_mem _
    obtain ⟨x, hx, e⟩ := List.mem_map.mp e
    exact ⟨x, hx, e⟩
theorem dense_bits {l : List (Int × Int)} {A B : Nat} (h : Led l) (hK : Kb A B l) : ∀ a ∈ dense l, a.natAbs < 2 ^ B := fun a ha => by
  obtain ⟨k, _, rfl⟩ := List.mem_map.mp ha
  exact tot_is h (fun x hx => (hK x hx).2) k
theorem clr_Kb {l : List (Int × Int)} {A B j : Nat} (h : Led l) (hne : l ≠ []) (hK : Kb A B l) (hl : (dense l).length ≤ 1024) (hb : IsBl l j) : Kb A (B + 10 * j) (clr l) := fun x hx => by
  rw [clr_is hb] at hx
  have hx1 := (List.mem_filter.mp hx).1
  have m := dl_mem hx1
  obtain ⟨⟨y, hy, e1⟩, z, hz, e2⟩ := led_ends hne
  have ky := (hK y hy).1
  have kz := (hK z hz).1
  have n := dense_len l
  rw [wsn_len] at m
  have p : 0 < 2 ^ A := Nat.pow_pos (by decide)
  refine ⟨?_, wsn_bits (dense_bits h hK) hl j x.2 m.2.2⟩
  rw [e1] at ky
  rw [e2] at kz
  have le := (led_span h y hy)
  omega
theorem ints_range (A : List Int) : A.map PyData.int = (List.range A.length).map fun k => PyData.int (A.getD k 0) := by
  refine List.ext_getElem (by simp) fun i h1 h2 => ?_
  have h3 : i < A.length := by simpa using h1
  simp [List.getD_eq_getElem?_getD, h3]
theorem at_hi {l : List (Int × Int)} (hne : l ≠ []) : atI (pd l) (-1) = some (.tuple [.int (hiL l), .int (l.getLast hne).2]) := by
  have e := List.dropLast_concat_getLast hne
  have hh : hiL l = (l.getLast hne).1 := by
    unfold hiL
    rw [List.getLastD_eq_getLast?, List.getLast?_map, List.getLast?_eq_some_getLast hne]; rfl
  have hp : 0 < l.length := List.length_pos_iff.mpr hne
  rw [hh]
  have e1 : ixN (pd l).length (-1) = some (l.length - 1) := by
    rw [pd_len]
    unfold ixN
    rw [show l.length = (l.length - 1) + 1 by omega]
    simp
    try omega
  unfold atI
  rw [e1]
  show (pd l)[l.length - 1]? = _
  unfold pd
  rw [List.getElem?_map, List.getElem?_eq_getElem (by omega), List.getLast_eq_getElem]
  rfl
theorem filter_no {α : Type} (l : List α) : l.filter (fun _ => false) = [] := List.filter_eq_nil_iff.mpr fun _ _ => by simp
/-- what the law asks about -/
def Mt (l : List (Int × Int)) : Prop := Led l ∧ Kb 60 200 l ∧ l.length ≤ 64 ∧ (dense l).length ≤ 512
theorem win_len {l : List (Int × Int)} {f : Int} {n : Nat} (h : Led l) (w : InW f n l) : l.length ≤ n := by
  have z := nodup_len (ks := l.map (·.1)) (ns := rgI f (f + n)) (asc_nodup (List.pairwise_map.mpr h.1)) fun k hk => by
    obtain ⟨x, hx, rfl⟩ := List.mem_map.mp hk
    have := w x hx
    unfold rgI
    exact List.mem_map.mpr ⟨(x.1 - f).toNat, List.mem_range.mpr (by omega), by omega⟩
  rw [List.length_map, rgI_len] at z
  omega
theorem win_dense {l : List (Int × Int)} {f : Int} {n : Nat} (hn : 1 ≤ n) (w : InW f n l) : (dense l).length ≤ n := by
  rw [dense_len]
  by_cases hne : l = []
  · subst hne
    show ((0 : Int) + 1 - 0).toNat ≤ n
    omega
  · obtain ⟨⟨y, hy, ey⟩, z, hz, ez⟩ := led_ends hne
    have := w y hy
    have := w z hz
    omega
theorem mt_of {l : List (Int × Int)} {f : Int} {n : Nat} (h : Led l) (ha : Amb 200 l) (hf : f.natAbs < 2 ^ 58) (hn : 1 ≤ n) (hn2 : n ≤ 512) (hl : l.length ≤ 64) (w : InW f n l) : Mt l := by
  refine ⟨h, fun x hx => ⟨?_, ha x hx⟩, hl, Nat.le_trans (win_dense hn w) hn2⟩
  have := w x hx
  have e58 : (2 : Nat) ^ 58 = 288230376151711744 := by decide
  have e60 : (2 : Nat) ^ 60 = 1152921504606846976 := by decide
  omega
theorem win_prod {a b : List (Int × Int)} {f g : Int} {n m : Nat} (ha : InW f n a) (hb : InW g m b) : InW (f + g) (n + m) (prodL a b) := fun x hx => by
  obtain ⟨y, hy, hx⟩ := List.mem_flatMap.mp hx
  obtain ⟨z, hz, rfl⟩ := List.mem_map.mp hx
  have h1 := ha y hy
  have h2 := hb z hz
  show f + g ≤ y.1 + z.1 ∧ y.1 + z.1 < f + g + ((n + m : Nat) : Int)
  omega
theorem win_gather {a : List (Int × Int)} {f : Int} {n : Nat} (h : InW f n a) : InW f n (gather a) := fun x hx => by
  obtain ⟨y, hy, e⟩ := gather_key hx
  rw [← e]
  exact h y hy
theorem win_turn (s : Nat) (f : Int) : InW f (s + 1) (turn s f) := fun x hx => by
  have := turn_in hx
  omega
theorem win_wide {a : List (Int × Int)} {f g : Int} {n m : Nat} (h : InW f n a) (h1 : g ≤ f) (h2 : f + n ≤ g + m) : InW g m a := fun x hx => by
  have := h x hx
  omega
theorem win_shift {a : List (Int × Int)} {f s : Int} {n : Nat} (h : InW f n a) : InW (f + s) n (a.map fun x => (x.1 + s, x.2)) := fun x hx => by
  obtain ⟨y, hy, rfl⟩ := List.mem_map.mp hx
  have := h y hy
  show f + s ≤ y.1 + s ∧ y.1 + s < f + s + n
  omega
theorem shift_led {a : List (Int × Int)} {s : Int} (h : Led a) : Led (a.map fun x => (x.1 + s, x.2)) :=
  ⟨List.pairwise_map.mpr (h.1.imp fun {a b} h => by show a.1 + s < b.1 + s; omega), fun x hx => by
    obtain ⟨y, hy, rfl⟩ := List.mem_map.mp hx
    exact h.2 y hy⟩
theorem amb_prod {a b : List (Int × Int)} {p r : Nat} (ha : Amb p a) (hb : Amb r b) : ∀ x ∈ prodL a b, x.2.natAbs ≤ 2 ^ (p + r) := fun x hx => by
  obtain ⟨y, hy, hx⟩ := List.mem_flatMap.mp hx
  obtain ⟨z, hz, rfl⟩ := List.mem_map.mp hx
  show (y.2 * z.2).natAbs ≤ _
  rw [Int.natAbs_mul, Nat.pow_add]
  exact Nat.mul_le_mul (Nat.le_of_lt (ha y hy)) (Nat.le_of_lt (hb z hz))
theorem amb_turn {s : Nat} (f : Int) (hs : s ≤ 40) : Amb 42 (turn s f) := fun x hx => by
  obtain ⟨k, hk, rfl⟩ := List.mem_map.mp hx
  show ((chs s k : Int) * sgz _).natAbs < 2 ^ 42
  rw [Int.natAbs_mul, sgz_abs, Nat.mul_one]
  exact lt_pow (chs_bits s k) (by omega)
end Cr

set_option Elab.async false
set_option linter.all false
set_option maxRecDepth 100000
set_option maxHeartbeats 800000
namespace Cr
open PySem PySem.Spec PyProof.Rows L2
/-! products of blind ledgers; what is cleared of a product -/
theorem sm_single {F : Nat → Int} {i : Nat} : ∀ {n : Nat}, i < n → (∀ s < n, s ≠ i → F s = 0) → sm n F = F i
  | 0, h, _ => by omega
  | n + 1, h, z => by
    show sm n F + F n = F i
    by_cases e : i = n
    · subst e
      rw [sm_congr (G := fun _ => 0) fun s hs => z s (by omega) (by omega), sm_zero, Int.zero_add]
    · rw [sm_single (by omega) fun s hs => z s (by omega), z n (by omega) (by omega), Int.add_zero]
theorem bl_prod {a b : List (Int × Int)} {i j : Nat} (ha : IsBl a i) (hb : IsBl b j) : IsBl (prodL a b) (i + j) := by
  refine ⟨?_, fun m hm => ?_⟩
  · rw [psum_prod]
    unfold bt
    rw [sm_single (i := i) (by omega) fun s hs hne => ?_]
    · rw [show i + j - i = j by omega]
      have c := chs_pos (n := i + j) (k := i) (by omega)
      exact Int.mul_ne_zero (by omega) (Int.mul_ne_zero ha.1 hb.1)
    · show ((chs (i + j) s : Nat) : Int) * (psum a s * psum b (i + j - s)) = 0
      by_cases h : s < i
      · rw [ha.2 s h]; simp
      · rw [hb.2 (i + j - s) (by omega)]; simp
  · rw [psum_prod]
    unfold bt
    rw [sm_congr (G := fun _ => 0) fun s hs => ?_, sm_zero]
    show ((chs m s : Nat) : Int) * (psum a s * psum b (m - s)) = 0
    by_cases h : s < i
    · rw [ha.2 s h]; simp
    · rw [hb.2 (m - s) (by omega)]; simp
theorem bl_gather {a : List (Int × Int)} {i : Nat} (h : IsBl a i) : IsBl (gather a) i := ⟨by rw [psum_gather]; exact h.1, fun j hj => by rw [psum_gather]; exact h.2 j hj⟩
theorem wsum_sub (φ ψ : Int → Int) : ∀ l : List (Int × Int), wsum (fun x => φ x - ψ x) l = wsum φ l - wsum ψ l
  | [] => rfl
  | x :: l => by
    show x.2 * (φ x.1 - ψ x.1) + wsum _ l = (x.2 * φ x.1 + wsum φ l) - (x.2 * ψ x.1 + wsum ψ l)
    rw [wsum_sub φ ψ l]; grind
theorem trn_move (t : Nat) (x k : Int) : trn t (x + 1) (dlt k) = trn t x (dlt (k - 1)) := by
  unfold trn
  refine bt_congr fun a b => ?_
  have e : dlt k (x + 1 + (a : Int)) = dlt (k - 1) (x + (a : Int)) := by
    unfold dlt
    by_cases h : x + 1 + (a : Int) = k
    · rw [if_pos h, if_pos (by omega)]
    · rw [if_neg h, if_neg (by omega)]
  rw [e]
/-- one turn more -/
theorem tot_turn_succ (l : List (Int × Int)) (t : Nat) (k : Int) : tot (prodL l (turn (t + 1) 0)) k = tot (prodL l (turn t 0)) (k - 1) - tot (prodL l (turn t 0)) k := by
  rw [tot_prod_turn, tot_prod_turn, tot_prod_turn, ← wsum_sub]
  exact wsum_congr fun x => by rw [trn_succ, trn_move]
theorem tot_turn_zero (l : List (Int × Int)) (k : Int) : tot (prodL l (turn 0 0)) k = tot l k := by
  rw [tot_prod_turn, tot_dlt]
  exact wsum_congr fun x => trn_zero x _
theorem key_bound : ∀ l : List (Int × Int), ∃ N : Int, ∀ y ∈ l, y.1 < N
  | [] => ⟨0, fun y h => by cases h⟩
  | x :: l => by
    obtain ⟨N, h⟩ := key_bound l
    refine ⟨max N (x.1 + 1), fun y hy => ?_⟩
    rcases List.mem_cons.mp hy with e | e
    · rw [e]; omega
    · have := h y e; omega
theorem tot_far (l : List (Int × Int)) : ∃ N : Int, ∀ k, N ≤ k → tot l k = 0 := by
  obtain ⟨N, h⟩ := key_bound l
  exact ⟨N, fun k hk => tot_above fun y hy => by have := h y hy; omega⟩
theorem turn_inj {x y : List (Int × Int)} : ∀ t, (∀ k, tot (prodL x (turn t 0)) k = tot (prodL y (turn t 0)) k) → ∀ k, tot x k = tot y k
  | 0, h => fun k => by have := h k; rwa [tot_turn_zero, tot_turn_zero] at this
  | t + 1, h => by
    refine turn_inj t ?_
    have step : ∀ (n : Nat) (k : Int), tot (prodL x (turn t 0)) k - tot (prodL y (turn t 0)) k = tot (prodL x (turn t 0)) (k + n) - tot (prodL y (turn t 0)) (k + n) := fun n => by
      induction n with
      | zero => intro k; simp
      | succ n ih =>
        intro k
        rw [ih k]
        have := h (k + ((n + 1 : Nat) : Int))
        rw [tot_turn_succ, tot_turn_succ, show k + ((n + 1 : Nat) : Int) - 1 = k + (n : Int) by omega] at this
        omega
    obtain ⟨N, hN⟩ := tot_far (prodL x (turn t 0))
    obtain ⟨M, hM⟩ := tot_far (prodL y (turn t 0))
    intro k
    have := step ((N - k).toNat + (M - k).toNat) k
    rw [hN (k + (((N - k).toNat + (M - k).toNat : Nat) : Int)) (by omega), hM (k + (((N - k).toNat + (M - k).toNat : Nat) : Int)) (by omega)] at this
    omega
theorem tot_prod (v : List (Int × Int)) (k : Int) : ∀ u : List (Int × Int), tot (prodL u v) k = wsum (fun x => tot v (k - x)) u
  | [] => rfl
  | x :: u => by
    show tot (v.map (fun y => (x.1 + y.1, x.2 * y.2)) ++ prodL u v) k = x.2 * tot v (k - x.1) + wsum _ u
    rw [tot_append, tot_prod v k u, tot_mapk]
theorem tot_prod_congr {u u' v v' : List (Int × Int)} (hu : ∀ k, tot u k = tot u' k) (hv : ∀ k, tot v k = tot v' k) (k : Int) : tot (prodL u v) k = tot (prodL u' v') k := by
  rw [tot_prod, wsum_congr (ψ := fun x => tot v' (k - x)) fun x => hv _, ← tot_prod, tot_prod_comm, tot_prod, wsum_congr (ψ := fun x => tot u' (k - x)) fun x => hu _, ← tot_prod, tot_prod_comm]
/-- u (w (x - 1)^i) is (u w) (x - 1)^i -/
theorem tot_turn_assoc (u w : List (Int × Int)) : ∀ (i : Nat) (k : Int), tot (prodL u (prodL w (turn i 0))) k = tot (prodL (prodL u w) (turn i 0)) k
  | 0, k => by rw [tot_turn_zero]; exact tot_prod_congr (fun _ => rfl) (fun k => tot_turn_zero w k) k
  | i + 1, k => by
    rw [tot_turn_succ, ← tot_turn_assoc u w i, ← tot_turn_assoc u w i, tot_prod, tot_prod, tot_prod, ← wsum_sub]
    exact wsum_congr fun x => by rw [tot_turn_succ, show k - x - 1 = k - 1 - x by omega]
theorem tot_turn_add (u : List (Int × Int)) (i : Nat) : ∀ (j : Nat) (k : Int), tot (prodL (prodL u (turn i 0)) (turn j 0)) k = tot (prodL u (turn (i + j) 0)) k
  | 0, k => by rw [tot_turn_zero]; rfl
  | j + 1, k => by
    rw [tot_turn_succ, tot_turn_add u i j, tot_turn_add u i j, ← tot_turn_succ]
    rfl
theorem clr_prod {a b : List (Int × Int)} {i j : Nat} (hA : Led a) (hB : Led b) (ha : IsBl a i) (hb : IsBl b j) : clr (gather (prodL a b)) = gather (prodL (clr a) (clr b)) := by
  have hL := gather_led (prodL a b)
  have hbl := bl_gather (bl_prod ha hb)
  have e1 : ∀ k, tot (prodL (clr (gather (prodL a b))) (turn (i + j) 0)) k = tot (prodL a b) k := fun k => by
    have z := clear_prod hL hbl
    rw [← clr_is hbl] at z
    have z2 := tot_gather (prodL (clr (gather (prodL a b))) (turn (i + j) 0)) k
    rw [z, tot_gather] at z2
    exact z2.symm
  have e2 : ∀ {c : List (Int × Int)} {t : Nat}, Led c → IsBl c t → ∀ k, tot (prodL (clr c) (turn t 0)) k = tot c k := fun {c t} hc ht k => by
    have z := clear_prod hc ht
    rw [← clr_is ht] at z
    have z2 := tot_gather (prodL (clr c) (turn t 0)) k
    rw [z] at z2
    exact z2.symm
  have e3 : ∀ k, tot (prodL (prodL (clr a) (clr b)) (turn (i + j) 0)) k = tot (prodL a b) k := fun k => by
    rw [← tot_turn_add, ← tot_prod_congr (e2 hA ha) (e2 hB hb) k, tot_turn_assoc]
    refine tot_prod_congr (fun k => ?_) (fun _ => rfl) k
    rw [tot_prod_comm (prodL (clr a) (turn i 0)), tot_turn_assoc]
    exact tot_prod_congr (fun k => tot_prod_comm _ _ k) (fun _ => rfl) k
  have e4 := turn_inj (x := clr (gather (prodL a b))) (y := prodL (clr a) (clr b)) (i + j) fun k => by rw [e1, e3]
  rw [← gather_self (clr_led (gather (prodL a b)))]
  exact gather_ext e4
theorem lax_leds (ls : List (List (Int × Int))) : lax (ls.map led) = true := by
  cases ls with
  | nil => rfl
  | cons l ls => cases l with
    | nil => rfl
    | cons x l => cases l <;> rfl
theorem prodL_nil (a : List (Int × Int)) : prodL a [] = [] := List.eq_nil_of_length_eq_zero (by rw [prod_len]; rfl)
/-! turning ledgers -/
theorem chg_all : ∀ {l : List (Int × Int)}, (∀ i (h : i + 1 < l.length), (l[i]'(by omega)).2 * (l[i + 1]'h).2 < 0) → chg l = l.length - 1
  | [], _ => rfl
  | [x], _ => rfl
  | x :: y :: r, h => by
    have ih := chg_all (l := y :: r) fun i hi => h (i + 1) (by simpa using hi)
    have h0 : x.2 * y.2 < 0 := h 0 (by simp)
    show (if x.2 * y.2 < 0 then 1 else 0) + chg (y :: r) = (y :: r).length + 1 - 1
    rw [if_pos h0, ih]
    simp
    omega
theorem turn_chg (s : Nat) (f : Int) : chg (turn s f) = s := by
  rw [chg_all, turn_len]
  · omega
  intro i hi
  rw [turn_len] at hi
  have g : ∀ (k : Nat) (h : k < (turn s f).length), ((turn s f)[k]'h).2 = (chs s k : Int) * sgz ((s : Int) - (0 + (k : Int))) := fun k h => by simp [turn]
  rw [g, g]
  show (chs s i : Int) * sgz ((s : Int) - (0 + (i : Int))) * ((chs s (i + 1) : Int) * sgz ((s : Int) - (0 + ((i + 1 : Nat) : Int)))) < 0
  have e1 : sgz ((s : Int) - (0 + (i : Int))) = - sgz ((s : Int) - (0 + ((i + 1 : Nat) : Int))) := by
    rw [show (s : Int) - (0 + (i : Int)) = ((s - (i + 1) + 1 : Nat) : Int) by omega, sgz_succ, show (s : Int) - (0 + ((i + 1 : Nat) : Int)) = ((s - (i + 1) : Nat) : Int) by omega]
  have c1 := chs_pos (n := s) (k := i) (by omega)
  have c2 := chs_pos (n := s) (k := i + 1) (by omega)
  have q := sgz_sq ((s : Int) - (0 + ((i + 1 : Nat) : Int)))
  rw [e1]
  generalize sgz ((s : Int) - (0 + ((i + 1 : Nat) : Int))) = z at q
  have e2 : (chs s i : Int) * -z * ((chs s (i + 1) : Int) * z) = -((chs s i : Int) * (chs s (i + 1) : Int)) := by
    have : (chs s i : Int) * -z * ((chs s (i + 1) : Int) * z) = -((chs s i : Int) * (chs s (i + 1) : Int) * (z * z)) := by grind
    rw [this, q, Int.mul_one]
  rw [e2]
  have : 0 < (chs s i : Int) * (chs s (i + 1) : Int) := Int.mul_pos (by omega) (by omega)
  omega
theorem turn_ne (s : Nat) (f : Int) : turn s f ≠ [] := fun e => by
  have := turn_len s f
  rw [e] at this
  cases this
theorem bl_turn (s : Nat) (f : Int) : IsBl (turn s f) s := by
  obtain ⟨j, hj, hb⟩ := led_bl (turn_led s f) (turn_ne s f)
  rw [turn_chg] at hj
  by_cases e : j = s
  · rw [← e]; exact e ▸ hb
  · exact absurd (turn_van s f j (by omega)) hb.1
theorem tot_turn_one (s : Nat) (f k : Int) : tot (prodL [(f, 1)] (turn s 0)) k = tot (turn s f) k := by
  rw [tot_prod_turn, tot_dlt, wsum_turn]
  show 1 * trn s f (dlt k) + 0 = _
  omega
theorem clr_turn (s : Nat) (f : Int) : clr (turn s f) = [(f, 1)] := by
  have z := clear_prod (turn_led s f) (bl_turn s f)
  rw [← clr_is (bl_turn s f)] at z
  have e := turn_inj (x := clr (turn s f)) (y := [(f, 1)]) s fun k => by
    rw [tot_turn_one, ← tot_gather, z]
  rw [← gather_self (clr_led (turn s f)), gather_ext e]
  exact gather_self ⟨by simp, by simp⟩
theorem turn_mul (s t : Nat) (f : Int) : gather (prodL (turn s f) (turn t 0)) = turn (s + t) f := by
  rw [← gather_self (turn_led (s + t) f)]
  refine gather_ext fun k => ?_
  rw [← tot_turn_one (s + t), ← tot_turn_add, tot_prod_congr (fun k => (tot_turn_one s f k).symm) (fun _ => rfl) k]
/-! where three ledgers part -/
open Classical in
noncomputable def blV (l : List (Int × Int)) : Int := if h : ∃ j, IsBl l j then (Classical.choose h : Nat) else 99
theorem blV_is {l : List (Int × Int)} {j : Nat} (h : IsBl l j) : blV l = (j : Int) := by
  have e : ∃ j, IsBl l j := ⟨j, h⟩
  unfold blV
  rw [dif_pos e, (Classical.choose_spec e).uniq h]
theorem blV_congr {a b : List (Int × Int)} (h : ∀ j, psum a j = 0 ↔ psum b j = 0) : blV a = blV b := by
  by_cases e : ∃ j, IsBl a j
  · obtain ⟨j, hj⟩ := e
    rw [blV_is hj, blV_is (l := b) (j := j) ⟨fun z => hj.1 ((h j).mpr z), fun i hi => (h i).mp (hj.2 i hi)⟩]
  · have e2 : ¬ ∃ j, IsBl b j := fun ⟨j, hj⟩ => e ⟨j, fun z => hj.1 ((h j).mp z), fun i hi => (h i).mpr (hj.2 i hi)⟩
    unfold blV
    rw [dif_neg e, dif_neg e2]
theorem blV_cases {l : List (Int × Int)} (h : Led l) : (l = [] ∧ blD l = .none ∧ blV l = 99) ∨ ∃ j, j < l.length ∧ IsBl l j ∧ blD l = .int (j : Int) ∧ blV l = (j : Int) := by
  by_cases hne : l = []
  · refine .inl ⟨hne, by rw [hne, blD_nil], ?_⟩
    unfold blV
    rw [dif_neg]
    rintro ⟨j, hj⟩
    rw [hne] at hj
    exact hj.1 rfl
  · obtain ⟨j, hj, hb⟩ := led_bl h hne
    have := chg_lt hne
    exact .inr ⟨j, by omega, hb, blD_is hb, blV_is hb⟩
/-- of three partings the two smallest are the same -/
theorem three {a b d : List (Int × Int)} (ha : Led a) (hb : Led b) (hd : Led d) (hla : a.length ≤ 99) (hlb : b.length ≤ 99) (hld : d.length ≤ 99) (e : ∀ j, psum d j = psum a j - psum b j) :
    (blV a = blV b ∧ blV a ≤ blV d) ∨ (blV a = blV d ∧ blV a ≤ blV b) ∨ (blV b = blV d ∧ blV b ≤ blV a) := by
  rcases blV_cases ha with ⟨na, _, va⟩ | ⟨i, hi, ba, _, va⟩
  · have z : blV d = blV b := blV_congr fun j => by
      rw [e, na, show psum [] j = 0 from rfl]
      omega
    rw [va, z]
    rcases blV_cases hb with ⟨_, _, vb⟩ | ⟨j, hj, _, _, vb⟩
    · left; rw [vb]; omega
    · right; right; rw [vb]; omega
  · rcases blV_cases hb with ⟨nb, _, vb⟩ | ⟨j, hj, bb, _, vb⟩
    · have z : blV d = blV a := blV_congr fun j => by
        rw [e, nb, show psum [] j = 0 from rfl]
        omega
      right; left
      rw [z, vb, va]; omega
    · rw [va, vb]
      by_cases h1 : i < j
      · have hd2 : IsBl d i := ⟨by rw [e, bb.2 i h1]; have := ba.1; omega, fun k hk => by rw [e, ba.2 k hk, bb.2 k (by omega)]; rfl⟩
        right; left
        rw [blV_is hd2]; omega
      · by_cases h2 : j < i
        · have hd2 : IsBl d j := ⟨by rw [e, ba.2 j h2]; have := bb.1; omega, fun k hk => by rw [e, ba.2 k (by omega), bb.2 k hk]; rfl⟩
          right; right
          rw [blV_is hd2]; omega
        · have hij : i = j := by omega
          subst hij
          left
          refine ⟨rfl, ?_⟩
          rcases blV_cases hd with ⟨_, _, vd⟩ | ⟨t, ht, bd, _, vd⟩
          · rw [vd]; omega
          · rw [vd]
            by_cases h3 : t < i
            · exact absurd (by rw [e, ba.2 t h3, bb.2 t h3]; rfl) bd.1
            · omega
theorem sorted_three {x y z : Int} {ys : List Int} (hp : ys.Perm [x, y, z]) (hs : ys.Pairwise (· ≤ ·)) (h : (x = y ∧ x ≤ z) ∨ (x = z ∧ x ≤ y) ∨ (y = z ∧ y ≤ x)) : ∃ a b, ys = [a, a, b] := by
  have hl := hp.length_eq
  match ys, hl with
  | [a, b, c], _ =>
    simp at hs
    have ha := hp.mem_iff (a := a) |>.mp (by simp)
    have hb := hp.mem_iff (a := b) |>.mp (by simp)
    have hx := hp.mem_iff (a := x) |>.mpr (by simp)
    have hy := hp.mem_iff (a := y) |>.mpr (by simp)
    have hz := hp.mem_iff (a := z) |>.mpr (by simp)
    have hc := hp.count_eq a
    simp [List.count_cons] at ha hb hx hy hz hc
    have : a = b := by
      by_cases e : a = b
      · exact e
      · exfalso
        rw [if_neg (fun w : b = a => e w.symm)] at hc
        have a1 : c ≠ a := by omega
        try rw [if_neg a1] at hc
        rcases h with h | h | h
        · have : x = a := by omega
          have : y = a := by omega
          rw [if_pos ‹x = a›, if_pos ‹y = a›] at hc
          split at hc <;> omega
        · have : x = a := by omega
          have : z = a := by omega
          rw [if_pos ‹x = a›, if_pos ‹z = a›] at hc
          split at hc <;> omega
        · have : y = a := by omega
          have : z = a := by omega
          rw [if_pos ‹y = a›, if_pos ‹z = a›] at hc
          split at hc <;> omega
    subst this
    exact ⟨a, c, rfl⟩
theorem bl_ne {l : List (Int × Int)} {j : Nat} (h : IsBl l j) : l ≠ [] := fun e => h.1 (by rw [e]; rfl)
theorem bl_moved {l : List (Int × Int)} {j : Nat} (h : IsBl l j) (b : Int) : IsBl (gather (l.map fun x => (x.1 + b, x.2))) j :=
  bl_gather ⟨by rw [psum_move1 l b j h.2]; exact h.1, fun i hi => by rw [psum_move1 l b i fun k hk => h.2 k (by omega)]; exact h.2 i hi⟩
theorem bl_scaled {l : List (Int × Int)} {j : Nat} (h : IsBl l j) {b : Int} (hb : b ≠ 0) : IsBl (gather (l.map fun x => (x.1, x.2 * b))) j :=
  bl_gather ⟨by rw [psum_scale]; exact Int.mul_ne_zero h.1 hb, fun i hi => by rw [psum_scale, h.2 i hi, Int.zero_mul]⟩
theorem bl_stretched {l : List (Int × Int)} {j : Nat} (h : IsBl l j) {b : Int} (hb : b ≠ 0) : IsBl (gather (l.map fun x => (x.1 * b, x.2))) j :=
  bl_gather ⟨by rw [psum_stretch]; exact Int.mul_ne_zero h.1 (Int.pow_ne_zero hb), fun i hi => by rw [psum_stretch, h.2 i hi, Int.zero_mul]⟩
theorem win_Kb {l : List (Int × Int)} {f : Int} {n B : Nat} (w : InW f n l) (hf : f.natAbs < 2 ^ 58) (hn : n ≤ 1000) (ha : Amb B l) : Kb 60 B l := fun x hx => by
  have := w x hx
  have e58 : (2 : Nat) ^ 58 = 288230376151711744 := by decide
  have e60 : (2 : Nat) ^ 60 = 1152921504606846976 := by decide
  exact ⟨by omega, ha x hx⟩
theorem amb_mono {l : List (Int × Int)} {A B : Nat} (h : Amb A l) (hab : A ≤ B) : Amb B l := fun x hx => lt_pow (h x hx) hab
section
variable {K : PySem.W.Frag} {q : Option Addr} {δ : List Sl} {te : TE}
theorem DqAll.three {H : Hp} {vs : List V} {d e f : PyData} (h : DqAll H vs [d, e, f]) : ∃ v w u, vs = [v, w, u] ∧ Dq H v d ∧ Dq H w e ∧ Dq H u f := by
  cases h with
  | cons h1 h2 => cases h2 with
    | cons h2 h3 => cases h3 with
      | cons h3 h4 => cases h4; exact ⟨_, _, _, rfl, h1, h2, h3⟩
/-- x, y, z = three drawn values -/
theorem q_par3 {i j l n c : Nat} {ta : TA} {A0 B0 Hk H1 : Hp} {σ : L2.St} {D : Ends} {Ψ : PyData → PyData → PyData → Prop} (h : AJ q δ ta c (fun sls => ∃ a b d, sls = [.dat a, .dat b, .dat d] ∧ Ψ a b d)) (s : At q (n + c) δ A0 B0 σ Hk H1)
    (k : ∀ a b d σ' Hk' H2, Ψ a b d → Gr q Hk H1 Hk' H2 → At q n (((δ.set i (.dat a)).set j (.dat b)).set l (.dat d)) A0 B0 σ' Hk' H2 → tz D σ' H2) : tSeq (tPar3 i j l ta) tz D σ H1 :=
  h σ Hk H1 n s.sg s.ok _ fun sls vs Hk' H2 g o ⟨a, b, d, e, p⟩ hv => by
    subst e
    obtain ⟨x, y, z, rfl, dx, dy, dz⟩ := (VS.dats (ds := [a, b, d]) hv).three
    exact ⟨x, y, z, rfl, k a b d _ Hk' H2 p g ⟨o, (((s.sg.mono g.k).set i (s := .dat a) dx).set j (s := .dat b) dy).set l (s := .dat d) dz, s.gr.trans g⟩⟩
theorem k_sortI {X : Cx} {K : PySem.W.Frag} (h : X.K = K) : CallR X (.builtin "sorted") (rSortedI K) := h ▸ cr_sortedI
theorem j_sortI {ns : List Int} (h : E q δ te (.list (ns.map .int))) : J q δ (tCB (rSortedI K) (tCons te tNil)) 0 (fun d => ∃ ys : List Int, (ys.Perm ns ∧ ys.Pairwise (· ≤ ·)) ∧ d = .list (ys.map .int)) :=
  j_cb1 (Ψ := fun d => d = .list (ns.map .int)) h fun d e => by
    subst e
    intro vs H H1 hd sm Q k
    obtain ⟨v, rfl, h1⟩ := hd.one
    obtain ⟨a, xs, rfl, h2, h3⟩ := h1.lstOf
    have e2 := DqAll.ints h3
    subst e2
    refine ⟨a, ns, rfl, .inl (.inl (sm _ _ h2)), fun ys p hp hs hn => ?_⟩
    exact k _ _ _ _ (Gr.new sm hn) ⟨ys, ⟨hp, hs⟩, rfl⟩ (.lst upd_same (DqAll.ofInts _))
end
end Cr

set_option Elab.async false
set_option linter.all false
set_option maxRecDepth 100000
set_option maxHeartbeats 800000
/-! dicts with tuples as keys: sums that grow by a rule -/
namespace Cr
open PySem PySem.Spec PyProof.Rows L2
/-! ### every tuple that stands is known -/
def ext (Hk H : Hp) : Hp := fun b => match Hk b with
  | some o => some o
  | none => match H b with
    | some (.tup xs) => some (.tup xs)
    | _ => none
theorem ext_k {Hk H : Hp} {b : Addr} {o : HO} (e : Hk b = some o) : ext Hk H b = some o := by unfold ext; rw [e]
theorem ext_tup {Hk H : Hp} {b : Addr} {xs : List V} (s : Same Hk H) (e : H b = some (.tup xs)) : ext Hk H b = some (.tup xs) := by
  cases h : Hk b with
  | some o =>
    have z := s b o h
    rw [e] at z
    rw [ext_k h, z]
  | none => unfold ext; rw [h, e]
theorem ext_none {Hk H : Hp} {b : Addr} (h : Hk b = none) (e : ∀ xs, H b ≠ some (.tup xs)) : ext Hk H b = none := by
  unfold ext
  rw [h]
  cases z : H b with
  | none => rfl
  | some o =>
    cases o with
    | tup xs => exact absurd z (e xs)
    | _ => rfl
theorem ext_same {Hk H : Hp} (s : Same Hk H) : Same (ext Hk H) H := fun b o e => by
  cases h : Hk b with
  | some u =>
    rw [ext_k h] at e
    cases e
    exact s b _ h
  | none =>
    by_cases z : ∃ xs, H b = some (.tup xs)
    · obtain ⟨xs, z⟩ := z
      rw [ext_tup s z] at e
      rw [z]; exact e
    · rw [ext_none h (fun xs y => z ⟨xs, y⟩)] at e
      cases e
theorem ext_le {Hk H : Hp} : Same Hk (ext Hk H) := fun b o e => ext_k e
theorem ext_base {A0 B0 : Hp} (s : Same A0 B0) : ∀ b xs, B0 b = some (.tup xs) → ext A0 B0 b ≠ none := fun b xs e => by
  rw [ext_tup s e]; exact fun z => by cases z
theorem Ok.ext {q : Option Addr} {n : Nat} {Hk H : Hp} (o : Ok q n Hk H) : Ok q n (Cr.ext Hk H) H := ⟨ext_same o.a, fun p e => ext_none (o.kf p e) fun xs z => by
  obtain ⟨x, y, w, a, _⟩ := o.j p e
  rw [a] at z
  exact absurd z (fun y => by cases y), o.j⟩
section
variable {K : PySem.W.Frag} {q : Option Addr} {n : Nat} {δ δ' : List Sl} {te te2 ta tb tp tx ty tz2 : TE} {c c1 c2 c3 : Nat} {d : PyData} {A0 B0 Hk H1 Hk' H2 : Hp} {σ : L2.St} {D : Ends} {tz tbd : TS} {r : Addr}
theorem At.ext (s : At q n δ A0 B0 σ Hk H1) (h : ∀ b xs, B0 b = some (.tup xs) → A0 b ≠ none) : At q n δ A0 B0 σ (Cr.ext Hk H1) H1 := by
  refine ⟨s.ok.ext, s.sg.mono ext_le, s.gr.k.trans ext_le, ext_same s.gr.a, s.gr.s, fun b e z => ?_, s.gr.t⟩
  refine ext_none (s.gr.f b e z) fun xs y => ?_
  by_cases hq : q = some b
  · obtain ⟨x, w, v, a, _⟩ := s.ok.j b hq
    rw [a] at y; cases y
  · cases u : B0 b with
    | none => exact z u
    | some o =>
      have := s.gr.s b o hq u
      rw [y] at this
      cases this
      exact h b xs u e
/-- what was not known at the entry is forgotten -/
def bck (Hk H Hk' : Hp) : Hp := fun b => match Hk b, H b with
  | none, some _ => none
  | _, _ => Hk' b
theorem bck_new {Hk H Hk' : Hp} {b : Addr} (h : H b = none) : bck Hk H Hk' b = Hk' b := by
  unfold bck
  rw [h]
  cases Hk b <;> rfl
theorem bck_le {Hk H Hk' : Hp} {b : Addr} {o : HO} (e : bck Hk H Hk' b = some o) : Hk' b = some o := by
  unfold bck at e
  split at e
  · cases e
  · exact e
theorem bck_no {Hk H Hk' : Hp} {b : Addr} (e : Hk' b = none) : bck Hk H Hk' b = none := by
  unfold bck
  split
  · rfl
  · exact e
theorem Gr.bck (g : Gr q (Cr.ext Hk H1) H1 Hk' H2) : Gr q Hk H1 (Cr.bck Hk H1 Hk') H2 := by
  refine ⟨fun b o e => ?_, fun b o e => g.a b o (bck_le e), g.s, fun b e z => ?_, g.t⟩
  · have w := g.k b o (ext_k e)
    unfold Cr.bck
    rw [e]
    exact w
  · unfold Cr.bck
    rw [e]
    cases u : H1 b with
    | none => exact absurd u z
    | some o => rfl
theorem Ok.bck (o : Ok q n Hk' H2) : Ok q n (Cr.bck Hk H1 Hk') H2 := ⟨fun b u e => o.a b u (bck_le e), fun p e => bck_no (o.kf p e), o.j⟩
theorem bck_pol {p : Addr} {f : List Int} (hp : H1 p = none) (h : Dq Hk' (.ref p) (pol f)) : Dq (Cr.bck Hk H1 Hk') (.ref p) (pol f) := by
  obtain ⟨a, xs, e, h1, h2⟩ := Dq.tupOf h
  cases e
  have e2 := DqAll.ints h2
  subst e2
  refine .tup ?_ (DqAll.ofInts f)
  rcases h1 with ⟨o, d, e⟩ | ⟨d, e⟩
  · exact .inl ⟨o, d, by rw [bck_new hp]; exact e⟩
  · exact .inr ⟨d, by rw [bck_new hp]; exact e⟩
/-! ### the dict -/
def PolyK (f : List Int) : Prop := f.length ≤ 3 ∧ Pl f ∧ CB 4 f ∧ f ≠ []
def cntV (x : List Key × V) : Nat := match x.2 with
  | .int j => j.toNat
  | _ => 0
def GoodT (c : Nat) (kvs : List (List Key × V)) : Prop := kvs.length ≤ c ∧ (∀ x ∈ kvs, ∃ (f : List Int) (j : Nat), x = (f.map Sum.inl, V.int j) ∧ PolyK f ∧ j ≤ c) ∧ (kvs.map (·.1)).Nodup ∧ (kvs.map cntV).sum ≤ c
theorem GoodT.nil : GoodT 0 [] := ⟨Nat.le_refl _, by simp, by simp, by simp⟩
theorem GoodT.mono {c c' : Nat} {kvs : List (List Key × V)} (h : GoodT c kvs) (l : c ≤ c') : GoodT c' kvs := ⟨by have := h.1; omega, fun x hx => by
  obtain ⟨f, j, e, p, z⟩ := h.2.1 x hx
  exact ⟨f, j, e, p, by omega⟩, h.2.2.1, by have := h.2.2.2; omega⟩
theorem good_get {c : Nat} {kvs : List (List Key × V)} (h : GoodT c kvs) (k : List Key) : ∃ j : Nat, j ≤ c ∧ (valV kvs k).getD (.int 0) = .int j := by
  unfold valV
  cases e : kvs.find? fun kv => decide (kv.1 = k) with
  | none => exact ⟨0, Nat.zero_le _, rfl⟩
  | some x =>
    obtain ⟨f, j, ex, _, hj⟩ := h.2.1 x (List.mem_of_find?_eq_some e)
    exact ⟨j, hj, by rw [ex]; rfl⟩
theorem any_key {kvs : List (List Key × V)} {k : List Key} : (kvs.any fun kv => decide (kv.1 = k)) = true ↔ k ∈ kvs.map (·.1) := by
  rw [List.any_eq_true]
  constructor
  · rintro ⟨kv, hk, e⟩
    rw [← of_decide_eq_true e]; exact List.mem_map_of_mem hk
  · intro hx
    obtain ⟨kv, hk, e⟩ := List.mem_map.mp hx
    exact ⟨kv, hk, decide_eq_true e⟩
theorem map_out {k : List Key} {w : V} : ∀ {kvs : List (List Key × V)}, k ∉ kvs.map (·.1) → kvs.map (fun kv => if kv.1 = k then (kv.1, w) else kv) = kvs
  | [], _ => rfl
  | x :: kvs, h => by
    rw [List.map_cons, List.mem_cons, not_or] at h
    rw [List.map_cons, map_out h.2, if_neg (fun e => h.1 e.symm)]
theorem sum_in {k : List Key} {v : Nat} : ∀ {kvs : List (List Key × V)}, (kvs.map (·.1)).Nodup → k ∈ kvs.map (·.1) → (valV kvs k).getD (.int 0) = .int (v : Int) →
    ((kvs.map (fun kv => if kv.1 = k then (kv.1, V.int ((v + 1 : Nat) : Int)) else kv)).map cntV).sum = (kvs.map cntV).sum + 1
  | [], _, h, _ => by cases h
  | x :: kvs, hn, h, hv => by
    rw [List.map_cons, List.nodup_cons] at hn
    by_cases e : x.1 = k
    · rw [valV_pos e] at hv
      have hv2 : x.2 = .int (v : Int) := hv
      rw [List.map_cons, if_pos e, map_out (by rw [← e]; exact hn.1), List.map_cons, List.map_cons, List.sum_cons, List.sum_cons]
      have e1 : cntV (x.1, V.int ((v + 1 : Nat) : Int)) = v + 1 := by show ((v + 1 : Nat) : Int).toNat = v + 1; omega
      have e2 : cntV x = v := by unfold cntV; rw [hv2]; show (v : Int).toNat = v; omega
      rw [e1, e2]; omega
    · rw [valV_neg e] at hv
      have hm : k ∈ kvs.map (·.1) := by
        rw [List.map_cons, List.mem_cons] at h
        rcases h with z | z
        · exact absurd z.symm e
        · exact z
      rw [List.map_cons, if_neg e, List.map_cons, List.sum_cons, sum_in hn.2 hm hv, List.map_cons, List.sum_cons]; omega
theorem good_put {c v : Nat} {kvs : List (List Key × V)} {f : List Int} (h : GoodT c kvs) (hf : PolyK f) (hv : (valV kvs (f.map Sum.inl)).getD (.int 0) = .int (v : Int)) (hj : v ≤ c) : GoodT (c + 1) (putK kvs (f.map Sum.inl) (.int ((v + 1 : Nat) : Int))) := by
  unfold putK
  by_cases hm : (f.map (Sum.inl : Int → Key)) ∈ kvs.map (·.1)
  · rw [if_pos (any_key.mpr hm)]
    refine ⟨by rw [List.length_map]; have := h.1; omega, fun x hx => ?_, ?_, ?_⟩
    · obtain ⟨y, hy, rfl⟩ := List.mem_map.mp hx
      by_cases e : y.1 = f.map Sum.inl
      · rw [if_pos e]; exact ⟨f, v + 1, by rw [e], hf, by omega⟩
      · rw [if_neg e]
        obtain ⟨g, i, e2, hg, hi⟩ := h.2.1 y hy
        exact ⟨g, i, e2, hg, by omega⟩
    · have e : (kvs.map (fun kv => if kv.1 = f.map Sum.inl then (kv.1, V.int ((v + 1 : Nat) : Int)) else kv)).map (·.1) = kvs.map (·.1) := by
        rw [List.map_map]
        refine List.map_congr_left fun x _ => ?_
        show (if x.1 = f.map Sum.inl then (x.1, V.int ((v + 1 : Nat) : Int)) else x).1 = x.1
        split <;> rfl
      rw [e]; exact h.2.2.1
    · rw [sum_in h.2.2.1 hm hv]; have := h.2.2.2; omega
  · rw [if_neg (fun z => hm (any_key.mp z))]
    have hv0 : v = 0 := by
      have e : valV kvs (f.map (Sum.inl : Int → Key)) = none := by
        unfold valV
        rw [Option.map_eq_none_iff, List.find?_eq_none]
        intro x hx e
        exact hm (by rw [← of_decide_eq_true e]; exact List.mem_map_of_mem hx)
      rw [e] at hv
      have : (V.int 0) = .int (v : Int) := hv
      have := V.int.inj this
      omega
    subst hv0
    refine ⟨by rw [List.length_append]; have := h.1; simp; omega, fun x hx => ?_, ?_, ?_⟩
    · rcases List.mem_append.mp hx with hy | hy
      · obtain ⟨g, i, e2, hg, hi⟩ := h.2.1 x hy
        exact ⟨g, i, e2, hg, by omega⟩
      · rw [List.mem_singleton.mp hy]; exact ⟨f, 1, rfl, hf, by omega⟩
    · rw [List.map_append]
      refine List.nodup_append.mpr ⟨h.2.2.1, by simp, fun a ha b hb e2 => ?_⟩
      have eb : b = f.map Sum.inl := by simpa using hb
      exact hm (by rw [← eb, ← e2]; exact ha)
    · rw [List.map_append, List.sum_append]
      have : cntV (f.map Sum.inl, V.int ((0 + 1 : Nat) : Int)) = 1 := rfl
      simp only [List.map_cons, List.map_nil, List.sum_cons, List.sum_nil, this]
      have := h.2.2.2; omega
theorem map_kV (f : List Int) : (f.map (Sum.inl : Int → Key)).map kV = f.map V.int := by rw [List.map_map]; rfl
structure TCell (q : Option Addr) (B0 Hk H1 : Hp) (p : Addr) (kvs : List (List Key × V)) : Prop where
  nk : Hk p = none
  nq : q ≠ some p
  nb : B0 p = none
  ex : H1 p = some (.dT kvs)
theorem TCell.go {kvs : List (List Key × V)} (x : TCell q B0 Hk H1 r kvs) (g : Gr q Hk H1 Hk' H2) : TCell q B0 Hk' H2 r kvs :=
  ⟨g.f r x.nk (by rw [x.ex]; exact fun z => by cases z), x.nq, x.nb, g.s r _ x.nq x.ex⟩
theorem At.fresh {p : Addr} (s : At q n δ A0 B0 σ Hk H1) (h : H1 p = none) : Hk p = none ∧ q ≠ some p ∧ B0 p = none :=
  ⟨s.ok.a.free h, fun e => (s.ok.j p e).ne h, by
    cases e : B0 p with
    | none => rfl
    | some u => exact absurd h (s.gr.t p (by rw [e]; exact fun z => by cases z))⟩
/-- d = {} -/
theorem q_newT {i : Nat} (s : At q n δ A0 B0 σ Hk H1) (k : ∀ p H2, At q n (δ.set i (.adr p)) A0 B0 (σ.set i (some (.ref p))) Hk H2 → TCell q B0 Hk H2 p [] → tz D (σ.set i (some (.ref p))) H2) :
    tSeq (tAsg tDNewT (gName i)) tz D σ H1 := fun p hp => by
  obtain ⟨h1, h2, h3⟩ := s.fresh hp
  exact k p _ ⟨s.ok.cell h1 h2, s.sg.set i (s := .adr p) rfl, s.gr.put h3 h1⟩ ⟨h1, h2, h3, upd_same⟩
/-- d[f] = d.get(f, 0) + 1 -/
theorem s_incT {i ig c : Nat} {b : Addr} {f : List Int} {kvs : List (List Key × V)} (s : At q n δ A0 B0 σ Hk H1) (hi : δ[i]? = some (.adr r)) (hg : δ[ig]? = some (.adr b)) (hb : Hk b = some (.tup (f.map V.int))) (t : TCell q B0 Hk H1 r kvs)
    (hG : GoodT c kvs) (hf : PolyK f) (hc : c ≤ 100) (k : ∀ kvs' H2, GoodT (c + 1) kvs' → At q n δ A0 B0 σ Hk H2 → TCell q B0 Hk H2 r kvs' → D.nx σ H2) :
    sDPut (tVar i) (tVar ig) (tOp (rAddU K) (tDGet2 (tVar i) (tVar ig) (tC (.int 0))) (tC (.int 1))) D σ H1 := by
  have a1 := s.sg.getA hi
  have a2 := s.sg.getA hg
  have hb1 : H1 b = some (.tup ((f.map (Sum.inl : Int → Key)).map kV)) := by rw [map_kV]; exact s.ok.a _ _ hb
  obtain ⟨j, hj, ej⟩ := good_get hG (f.map Sum.inl)
  refine ⟨.ref r, a1, r, rfl, .inr ⟨_, .inl t.ex⟩, .ref b, a2, _, DGet.t t.ex hb1, ?_⟩
  refine .inl ⟨(j : Int), 1, ej, rfl, .ref r, a1, .ref b, a2, r, _, rfl, DPut.t t.ex hb1 (by have := hG.1; rw [sizeLine_eq]; omega), ?_⟩
  refine k _ _ (good_put (v := j) hG hf ej hj) ⟨s.ok.cell t.nk t.nq, s.sg, s.gr.put t.nb t.nk⟩ ⟨t.nk, t.nq, t.nb, ?_⟩
  rw [upd_same]; rfl
/-- a drawn integer, as it comes -/
theorem J.runI {P : Int → Prop} (h : J q δ te c (IntP P)) (sg : Sg Hk σ δ) (o : Ok q (n + c) Hk H1) {Q : VK} (k : ∀ x Hk' H2, P x → Gr q Hk H1 Hk' H2 → Ok q n Hk' H2 → Q (.int x) H2) : te σ H1 Q :=
  h σ Hk H1 n sg o _ fun d v Hk' H2 g o1 ⟨x, hx, e⟩ dv => by
    subst e
    rw [dv.intOf]
    exact k x Hk' H2 hx g o1
theorem Ok.new {p : Addr} {u : HO} (o : Ok q n Hk H1) (hp : H1 p = none) : Ok q n (upd Hk p u) (upd H1 p u) := o.go (Gr.new o.a hp)
/-- some = [(x, 1), (y, z, 1), (-2, 0, 1)]; f = some[i] -/
theorem q_some {is ig : Nat} (hx : J q δ tx c1 (IntP fun x => x.natAbs < 2 ^ 4)) (hy : J q δ ty c2 (IntP fun x => x.natAbs < 2 ^ 4)) (hz : J q δ tz2 c3 (IntP fun x => x.natAbs < 2 ^ 4))
    (hp : J q (δ.set is .any) tp c (IntP fun x => 0 ≤ x ∧ x < 3)) (s : At q (n + c + c3 + c2 + c1) δ A0 B0 σ Hk H1) (his : is < δ.length)
    (k : ∀ b f σ' Hk' H2, PolyK f → Hk' b = some (.tup (f.map V.int)) → Gr q Hk H1 Hk' H2 → At q n ((δ.set is .any).set ig (.adr b)) A0 B0 σ' Hk' H2 → tz D σ' H2) :
    tSeq (tAsg (tLst (tCons (L2.tTup (tCons tx (tCons (tC (.int 1)) tNil))) (tCons (L2.tTup (tCons ty (tCons tz2 (tCons (tC (.int 1)) tNil)))) (tCons (L2.tTup (tCons (tUn (rU fun i => .int (-i)) (tC (.int 2))) (tCons (tC (.int 0)) (tCons (tC (.int 1)) tNil)))) tNil)))) (gName is))
      (tSeq (tAsg (tOp (rIx K) (tVar is) tp) (gName ig)) tz) D σ H1 := by
  have sz : ∀ {n : Nat}, n ≤ 10 → n ≤ sizeLine := fun h => by rw [sizeLine_eq]; omega
  refine hx.runI s.sg s.ok fun x Hk2 H2 px g2 o2 => ⟨sz (by simp), fun p1 h1 => ?_⟩
  have o3 := o2.new (u := .tup [V.int x, V.int 1]) h1
  have g3 := g2.trans (Gr.new (q := q) (o := .tup [V.int x, V.int 1]) o2.a h1)
  refine hy.runI (s.sg.mono g3.k) o3 fun y Hk4 H4 py g4 o4 => ?_
  refine hz.runI ((s.sg.mono g3.k).mono g4.k) o4 fun z Hk5 H5 pz g5 o5 => ⟨sz (by simp), fun p2 h2 => ?_⟩
  have o6 := o5.new (u := .tup [V.int y, V.int z, V.int 1]) h2
  have g6 := ((g3.trans g4).trans g5).trans (Gr.new (q := q) (o := .tup [V.int y, V.int z, V.int 1]) o5.a h2)
  refine ⟨2, rfl, sz (by simp), fun p3 h3 => ⟨sz (by simp), fun l hl => ?_⟩⟩
  have o7 := o6.new (u := .tup [V.int (-2), V.int 0, V.int 1]) h3
  have g7 := g6.trans (Gr.new (q := q) (o := .tup [V.int (-2), V.int 0, V.int 1]) o6.a h3)
  have o8 := o7.new (u := .lst [.ref p1, .ref p2, .ref p3]) hl
  have g8 := g7.trans (Gr.new (q := q) (o := .lst [.ref p1, .ref p2, .ref p3]) o7.a hl)
  have n1 : ∀ {b : Addr} {o : HO}, upd Hk2 p1 (.tup [V.int x, V.int 1]) b = some o → upd (upd (upd Hk5 p2 (.tup [V.int y, V.int z, V.int 1])) p3 (.tup [V.int (-2), V.int 0, V.int 1])) l (.lst [.ref p1, .ref p2, .ref p3]) b = some o := fun e => by
    have e5 := (g4.trans g5).k _ _ e
    rw [upd_ne (ne_of_none ((o7.a) _ _ (by rw [upd_ne (ne_of_none (o6.a _ _ (by rw [upd_ne (ne_of_none (o5.a _ _ e5) h2)]; exact e5)) h3), upd_ne (ne_of_none (o5.a _ _ e5) h2)]; exact e5)) hl), upd_ne (ne_of_none (o6.a _ _ (by rw [upd_ne (ne_of_none (o5.a _ _ e5) h2)]; exact e5)) h3), upd_ne (ne_of_none (o5.a _ _ e5) h2)]
    exact e5
  have k1 := n1 (b := p1) upd_same
  have q2 : p2 ≠ p3 := fun e => by rw [← e, upd_same] at h3; cases h3
  have q3 : p3 ≠ l := fun e => by rw [← e, upd_same] at hl; cases hl
  have q4 : p2 ≠ l := fun e => by rw [← e, upd_ne q2, upd_same] at hl; cases hl
  have k2 : (upd (upd (upd Hk5 p2 (.tup [V.int y, V.int z, V.int 1])) p3 (.tup [V.int (-2), V.int 0, V.int 1])) l (.lst [.ref p1, .ref p2, .ref p3])) p2 = some (.tup [V.int y, V.int z, V.int 1]) := by rw [upd_ne q4, upd_ne q2, upd_same]
  have k3 : (upd (upd (upd Hk5 p2 (.tup [V.int y, V.int z, V.int 1])) p3 (.tup [V.int (-2), V.int 0, V.int 1])) l (.lst [.ref p1, .ref p2, .ref p3])) p3 = some (.tup [V.int (-2), V.int 0, V.int 1]) := by rw [upd_ne q3, upd_same]
  have kl : (upd (upd (upd Hk5 p2 (.tup [V.int y, V.int z, V.int 1])) p3 (.tup [V.int (-2), V.int 0, V.int 1])) l (.lst [.ref p1, .ref p2, .ref p3])) l = some (.lst [.ref p1, .ref p2, .ref p3]) := upd_same
  have st : At q (n + c) (δ.set is .any) A0 B0 (σ.set is (some (.ref l))) _ _ := ⟨o8, (s.sg.mono g8.k).set is (s := .any) trivial, s.gr.trans g8⟩
  obtain ⟨HK, eHK⟩ : ∃ HK, HK = (upd (upd (upd Hk5 p2 (.tup [V.int y, V.int z, V.int 1])) p3 (.tup [V.int (-2), V.int 0, V.int 1])) l (.lst [.ref p1, .ref p2, .ref p3])) := ⟨_, rfl⟩
  obtain ⟨HA, eHA⟩ : ∃ HA, HA = (upd (upd (upd H5 p2 (.tup [V.int y, V.int z, V.int 1])) p3 (.tup [V.int (-2), V.int 0, V.int 1])) l (.lst [.ref p1, .ref p2, .ref p3])) := ⟨_, rfl⟩
  rw [← eHK] at k1 k2 k3 kl st g8
  rw [← eHA] at st g8 ⊢
  have hlσ : is < σ.length := by rw [s.sg.1]; exact his
  refine ⟨.ref l, List.getElem?_set_self hlσ, hp.runI st.sg st.ok fun i Hk9 H9 pi g9 o9 => ?_⟩
  have fin : ∀ (b : Addr) (f : List Int), PolyK f → HK b = some (.tup (f.map V.int)) → gName ig (.ref b) (σ.set is (some (.ref l))) H9 (tz D) := fun b f hf hb =>
    k b f _ Hk9 H9 hf (g9.k _ _ hb) (g8.trans g9) ⟨o9, (st.sg.mono g9.k).set ig (s := .adr b) rfl, st.gr.trans g9⟩
  have hL : SqL K H9 l [.ref p1, .ref p2, .ref p3] := .inl (.inl (g9.a _ _ (g9.k _ _ kl)))
  have cb : ∀ {a b : Int}, a.natAbs < 2 ^ 4 → b.natAbs < 2 ^ 4 → CB 4 [a, b, 1] := fun ha hb w hw => by
    simp only [List.mem_cons, List.not_mem_nil, or_false] at hw
    rcases hw with e | e | e
    · rw [e]; exact ha
    · rw [e]; exact hb
    · rw [e]; decide
  have cases3 : i = 0 ∨ i = 1 ∨ i = 2 := by omega
  rcases cases3 with e | e | e
  · subst e
    exact .inl ⟨l, _, 0, .ref p1, rfl, rfl, hL, rfl, fin p1 [x, 1] ⟨by simp, by simp [Pl], fun w hw => by
      simp only [List.mem_cons, List.not_mem_nil, or_false] at hw
      rcases hw with e | e
      · rw [e]; exact px
      · rw [e]; decide, by simp⟩ k1⟩
  · subst e
    exact .inl ⟨l, _, 1, .ref p2, rfl, rfl, hL, rfl, fin p2 [y, z, 1] ⟨by simp, by simp [Pl], cb py pz, by simp⟩ k2⟩
  · subst e
    exact .inl ⟨l, _, 2, .ref p3, rfl, rfl, hL, rfl, fin p3 [-2, 0, 1] ⟨by simp, by simp [Pl], cb (by decide) (by decide), by simp⟩ k3⟩
theorem val_at : ∀ {kvs : List (List Key × V)} {x : List Key × V}, (kvs.map (·.1)).Nodup → x ∈ kvs → valV kvs x.1 = some x.2
  | [], _, _, h => by cases h
  | y :: kvs, x, hn, h => by
    rw [List.map_cons, List.nodup_cons] at hn
    rcases List.mem_cons.mp h with e | e
    · rw [e]; exact valV_pos rfl
    · rw [valV_neg (fun z => hn.1 (by rw [z]; exact List.mem_map_of_mem e))]
      exact val_at hn.2 e
/-- a def that multiplies what such a dict counts -/
def spM : Sp := fun vs H Q _ => ∃ (q : Option Addr) (Hk : Hp) (r : Addr) (kvs : List (List Key × V)) (n : Nat), Ok q n Hk H ∧ vs = [.ref r] ∧ Hk r = none ∧ q ≠ some r ∧ H r = some (.dT kvs) ∧ GoodT 3 kvs ∧
  ∀ g v Hk' H2, Gr q (Cr.ext Hk H) H Hk' H2 → Ok q n Hk' H2 → (g ≠ [] ∧ g.length ≤ 7 ∧ CB 60 g) → Dq Hk' v (pol g) → Q v H2
theorem q_asgM {i j : Nat} {E0 : XK} {kvs : List (List Key × V)} (s : At q n δ A0 B0 σ Hk H1) (hi : δ[i]? = some (.adr r)) (t : TCell q B0 Hk H1 r kvs) (hG : GoodT 3 kvs) (hA : ∀ b xs, B0 b = some (.tup xs) → A0 b ≠ none)
    (k : ∀ g σ' Hk' H2, (g ≠ [] ∧ g.length ≤ 7 ∧ CB 60 g) → At q n (δ.set j (.dat (pol g))) A0 B0 σ' Hk' H2 → tz D σ' H2) : tSeq (tAsg (tCall spM [] E0 (tCons (tVar i) tNil)) (gName j)) tz D σ H1 := by
  refine ⟨.ref r, s.sg.getA hi, q, Hk, r, kvs, n, s.ok, rfl, t.nk, t.nq, t.ex, hG, fun g v Hk' H2 gr o hg dv => ?_⟩
  have s2 := s.ext hA
  exact k g _ Hk' H2 hg ⟨o, (s2.sg.mono gr.k).set j (s := .dat (pol g)) dv, s2.gr.trans gr⟩
/-- for f in d: for turn in range(d[f]): found = by(found, f) -/
theorem q_mulT {E0 : XK} {sp : Sp} {kvs : List (List Key × V)} (hby : ∀ (δ : List Sl) (g f : List Int), PolyK f → Pl g → g.length ≤ 60 → CB 250 g → δ[1]? = some (.dat (pol g)) → δ[2]? = some (.dat (pol f)) → E q δ (tCall sp [] E0 (tCons (tVar 1) (tCons (tVar 2) tNil))) (pol (convP g f)))
    (s : At q n [.adr r, .dat (pol [1]), .any, .any] A0 B0 σ Hk H1) (t : TCell q B0 Hk H1 r kvs) (hG : GoodT 3 kvs) (hA : ∀ b xs, B0 b = some (.tup xs) → A0 b ≠ none)
    (k : ∀ g σ' Hk' H2, (g ≠ [] ∧ g.length ≤ 7 ∧ CB 60 g) → At q n [.adr r, .dat (pol g), .any, .any] A0 B0 σ' Hk' H2 → TCell q B0 Hk' H2 r kvs → tz D σ' H2) :
    tSeq (tLock (tFor (iKeys (tVar 0)) (gName 2) (tFor (iRng1 (tCons (tDGet (tVar 0) (tVar 2)) tNil)) (gName 3) (tAsg (tCall sp [] E0 (tCons (tVar 1) (tCons (tVar 2) tNil))) (gName 1))))) tz D σ H1 := by
  have hk3 : kvs.length ≤ 3 := hG.1
  refine ⟨r, .dT kvs, t.ex, trivial, fun od => ⟨.ref r, s.sg.getA rfl, r, od, rfl, .inr ⟨kvs, upd_same, ?_⟩⟩⟩
  refine ⟨fun i m σ H => m = kvs.length - i ∧ i ≤ kvs.length ∧ H r = some (.frz od (.dT kvs)) ∧ ∃ Hk' g, Hk' r = none ∧ g ≠ [] ∧ g.length ≤ 1 + 2 * ((kvs.take i).map cntV).sum ∧ Pl g ∧ CB (1 + 18 * ((kvs.take i).map cntV).sum) g ∧ At q n [.adr r, .dat (pol g), .any, .any] A0 B0 σ Hk' H,
    ⟨kvs.length, by simp, by omega, upd_same, Hk, [1], t.nk, by simp, by simp, by simp [Pl], fun a ha => by rw [List.mem_singleton.mp ha]; simp, ⟨s.ok.cell t.nk t.nq, s.sg, s.gr.put t.nb t.nk⟩⟩, ?_⟩
  rintro i m σ' H' ⟨rfl, hi, hr, Hk', g, nk, hne, hl, hP, hC, st⟩
  by_cases hlt : i < kvs.length
  · refine .inr ⟨⟨hr, hlt⟩, fun σ3 H3 => H3 r = some (.frz od (.dT kvs)) ∧ ∃ Hk3 g3, Hk3 r = none ∧ g3 ≠ [] ∧ g3.length ≤ 1 + 2 * ((kvs.take (i + 1)).map cntV).sum ∧ Pl g3 ∧ CB (1 + 18 * ((kvs.take (i + 1)).map cntV).sum) g3 ∧ At q n [.adr r, .dat (pol g3), .any, .any] A0 B0 σ3 Hk3 H3, fun σ3 H3 h => ⟨kvs.length - (i + 1), by omega, rfl, hlt, h⟩, ?_⟩
    rintro x H'' ⟨rfl, key, v, b, ek, rfl, hb⟩
    obtain ⟨f, j, ex, hf, hj⟩ := hG.2.1 (key, v) (List.mem_of_getElem? ek)
    have ev := val_at hG.2.2.1 (List.mem_of_getElem? ek)
    obtain ⟨rfl, rfl⟩ := Prod.mk.inj ex
    obtain ⟨S, eS⟩ : ∃ S, S = ((kvs.take i).map cntV).sum := ⟨_, rfl⟩
    have eS2 : ((kvs.take (i + 1)).map cntV).sum = S + j := by
      rw [List.take_add_one, ek, List.map_append, List.sum_append, ← eS]
      show S + (cntV (f.map Sum.inl, V.int (j : Int)) + 0) = S + j
      have : cntV (f.map Sum.inl, V.int (j : Int)) = j := by show (j : Int).toNat = j; omega
      omega
    have hS3 : S + j ≤ 3 := by
      have z : ∀ (l : List (List Key × V)) (i : Nat), ((l.take i).map cntV).sum ≤ (l.map cntV).sum := by
        intro l
        induction l with
        | nil => intro i; simp
        | cons a l ih =>
          intro i
          cases i with
          | zero => simp
          | succ i => rw [List.take_succ_cons, List.map_cons, List.sum_cons, List.map_cons, List.sum_cons]; have := ih i; omega
      have := z kvs (i + 1)
      have := hG.2.2.2
      omega
    rw [eS2]
    rw [← eS] at hl hC
    have st2 := st.ext hA
    have hb2 := hb
    rw [map_kV] at hb2
    have kb : Cr.ext Hk' H'' b = some (.tup (f.map V.int)) := ext_tup st.ok.a hb2
    have nk2 : Cr.ext Hk' H'' r = none := ext_none nk fun xs z => by rw [hr] at z; cases z
    have db : Dq (Cr.ext Hk' H'') (.ref b) (pol f) := .tup (.inr ⟨lax_of fun d hd => by obtain ⟨a, _, rfl⟩ := List.mem_map.mp hd; rfl, kb⟩) (DqAll.ofInts f)
    have st3 : At q n [.adr r, .dat (pol g), .dat (pol f), .any] A0 B0 (σ'.set 2 (some (.ref b))) (Cr.ext Hk' H'') H'' := ⟨st2.ok, st2.sg.set 2 (s := .dat (pol f)) db, st2.gr⟩
    have hd : ∀ Q : VK, Q (.int j) H'' → tDGet (tVar 0) (tVar 2) (σ'.set 2 (some (.ref b))) H'' Q := fun Q h => by
      refine ⟨.ref r, st3.sg.getA rfl, .ref b, ?_, r, .int j, rfl, .inr ⟨kvs, f.map Sum.inl, b, .inr ⟨od, hr⟩, rfl, hb, ev.symm⟩, h⟩
      rw [List.getElem?_set_self (by rw [st2.sg.1]; simp)]
    refine hd _ ?_
    show tFor (iRng1 (tCons (tC (.int (j : Int))) tNil)) (gName 3) _ _ _ _
    refine s_for (n := n) (c := 0) (ie_rng1 (j := (j : Int)) e_int (by omega) (by omega)) st3 fun items HkW H2 e g2 a2 => ?_
    subst e
    refine ⟨fun t σ3 Hk3 H3 => Same HkW Hk3 ∧ ∃ g3, H3 r = some (.frz od (.dT kvs)) ∧ Hk3 r = none ∧ g3 ≠ [] ∧ g3.length ≤ 1 + 2 * (S + t) ∧ Pl g3 ∧ CB (1 + 18 * (S + t)) g3 ∧ At q n [.adr r, .dat (pol g3), .dat (pol f), .any] A0 B0 σ3 Hk3 H3, ⟨Same.refl _, g, g2.s r _ t.nq hr, g2.f r nk2 (by rw [hr]; exact fun z => by cases z), hne, by omega, hP, hC.mono (by omega), a2⟩, fun t σ3 Hk3 H3 h => ⟨h.1, by obtain ⟨_, _, _, _, _, _, _, _, st⟩ := h; exact st.ok.a⟩, ?_, ?_⟩
    · rintro u d σ4 Hk4 H4 ed ⟨h4, g4, hr4, nk4, hne4, hl4, hP4, hC4, st4⟩ w Hk5 H5 g5 dw
      obtain ⟨hu, rfl⟩ := rng_get' ed
      have hu3 : u < 3 := by omega
      refine gb_name (vs := [3]) (by simp) σ4 Hk5 H5 w (st4.sg.mono g5.k) g5.a dw _ fun σ5 sg5 _ _ => ?_
      have st5 : At q n [.adr r, .dat (pol g4), .dat (pol f), .dat (.int (0 + (u : Int)))] A0 B0 σ5 Hk5 H5 := ⟨st4.ok.go g5, sg5, st4.gr.trans g5.none_to⟩
      have nk5 : Hk5 r = none := g5.f r nk4 (by rw [hr4]; exact fun z => by cases z)
      have hr5 : H5 r = some (.frz od (.dT kvs)) := g5.s r _ (fun z => by cases z) hr4
      have hf0 := hf.1
      have hll : g4.length * f.length ≤ 2 ^ 13 := Nat.le_trans (Nat.mul_le_mul (show g4.length ≤ 60 by omega) hf0) (by decide)
      refine s_asgE (i := 1) (d := pol (convP g4 f)) (hby _ g4 f hf hP4 (by omega) (hC4.mono (by omega)) rfl rfl) st5 fun σ6 Hk6 H6 g6 a6 => ⟨Hk6, (h4.trans g5.k).trans g6.k, convP g4 f, g6.s r _ t.nq hr5, g6.f r nk5 (by rw [hr5]; exact fun z => by cases z), ?_, ?_, convP_Pl hP4 hf.2.1, (convP_CB hC4 hf.2.2.1 hll).mono (by omega), a6.forget 3⟩
      · unfold convP
        rw [if_neg (fun h => h.elim hne4 hf.2.2.2)]
        intro e
        have z := conv_len g4 f
        rw [e] at z
        have := List.length_pos_iff.mpr hne4
        have := List.length_pos_iff.mpr hf.2.2.2
        simp at z; omega
      have z : (convP g4 f).length ≤ g4.length + f.length - 1 := by
        rw [← trim_conv hP4 hf.2.1]
        exact Nat.le_trans (trimL_len _) (by rw [conv_len]; exact Nat.le_refl _)
      omega
    · rintro σ4 Hk4 H4 ⟨h4, g4, hr4, nk4, hne4, hl4, hP4, hC4, st4⟩
      rw [rng_len] at hl4 hC4
      exact ⟨hr4, Hk4, g4, nk4, hne4, by omega, hP4, hC4.mono (by omega), st4.forget 2⟩
  · have ei3 : kvs.take i = kvs := List.take_of_length_le (by omega)
    have := hG.2.2.2
    refine .inl ⟨⟨hr, by omega⟩, hr, k g σ' Hk' _ ⟨hne, by rw [ei3] at hl; omega, hC.mono (by rw [ei3]; omega)⟩ ⟨st.ok.cell nk t.nq, st.sg, st.gr.put t.nb nk⟩ ⟨nk, t.nq, t.nb, upd_same⟩⟩
/-- the sums that grow, with their rule -/
def spG : Sp := fun vs H Q _ => ∃ (q : Option Addr) (Hk : Hp) (p : Addr) (size : Int) (n : Nat), q = some p ∧ Ok q (n + 100) Hk H ∧ vs = [.ref p, .int size] ∧ 1 ≤ size ∧ size ≤ 24 ∧
  ∀ b od f v0 v1 v2 Hk' H2, Gr q Hk H Hk' H2 → Ok q n Hk' H2 → (f.length = size.toNat ∧ CB 9000 f ∧ CB 500 (f.take 6)) → Dq Hk' v0 (pol f) → H2 b = some (.frz od (.tup [v0, v1, v2])) → Q (.ref b) H2
theorem j_grown {p : Addr} {E0 : XK} {i : Nat} {size : Int} (hi : δ[i]? = some (.adr p)) (hs : E (some p) δ te (.int size)) (h1 : 1 ≤ size) (h2 : size ≤ 24) :
    J (some p) δ (tOp (rIx K) (tCall spG [] E0 (tCons (tVar i) (tCons te tNil))) (tC (.int 0))) 100 (fun d => ∃ f, (f.length = size.toNat ∧ CB 9000 f ∧ CB 500 (f.take 6)) ∧ d = pol f) := fun σ H H1 n sg o Q k =>
  ⟨.ref p, sg.getA hi, hs σ H H1 (n + 100) sg o _ fun d v Hk2 H2 g2 o2 e dv => by
    subst e
    rw [dv.intOf]
    exact ⟨some p, Hk2, p, size, n, rfl, o2, rfl, h1, h2, fun b od f v0 v1 v2 Hk' H3 g3 o3 hf dv hb => .inr (.inl ⟨b, _, 0, v0, rfl, rfl, .inl (.inr ⟨od, hb⟩), rfl, k _ v0 Hk' H3 (g2.trans g3) o3 ⟨f, hf, rfl⟩ dv⟩)⟩⟩
/-- return (tuple(e), f, d) -/
theorem s_retG {i j : Nat} {f : List Int} {d5 : PyData} (h : E q δ te (.list (f.map .int))) (s : At q n δ A0 B0 σ Hk H1) (hi : δ[i]? = some (.dat d5)) (hj : δ[j]? = some (.adr r)) (hl : f.length ≤ 1000)
    (fin : ∀ b od p v1 v2 Hk' H2, Gr q A0 B0 Hk' H2 → Ok q n Hk' H2 → Dq Hk' (.ref p) (pol f) → B0 p = none → H2 b = some (.frz od (.tup [.ref p, v1, v2])) → D.rt (.ref b) H2) :
    tRet (Cr.tTup (tCons (tCB (rTupQ K) (tCons te tNil)) (tCons (tVar i) (tCons (tVar j) tNil)))) D σ H1 :=
  h σ Hk H1 n s.sg s.ok _ fun d v Hk2 H2 g2 o2 e dv => by
    subst e
    obtain ⟨a, xs, rfl, h1, h2⟩ := dv.lstOf
    have e2 := DqAll.ints h2
    subst e2
    refine ⟨a, f.map V.int, rfl, .inl ⟨.inl (.inl (g2.a _ _ h1)), fun p o ho hp => ?_⟩⟩
    have s2 : At q n δ A0 B0 σ Hk2 H2 := ⟨o2, s.sg.mono g2.k, s.gr.trans g2⟩
    have g3 := Gr.new (q := q) (o := .frz o (.tup (f.map V.int))) o2.a hp
    have o3 := o2.new (u := .frz o (.tup (f.map V.int))) hp
    have s3 := s2.sg.mono g3.k
    obtain ⟨v1, e1, _⟩ := s3.get hi
    refine ⟨v1, e1, .ref r, s3.getA hj, by rw [sizeLine_eq]; simp, fun b od hod hb => ?_⟩
    have g4 := Gr.new (q := q) (o := .frz od (.tup [.ref p, v1, .ref r])) o3.a hb
    have o4 := o3.new (u := .frz od (.tup [.ref p, v1, .ref r])) hb
    refine fin b od p v1 (.ref r) _ _ ((s2.gr.trans g3).trans g4) o4 (Dq.mono g4.k _ _ (.tup (Tp.new ho) (DqAll.ofInts f))) ?_ upd_same
    cases e : B0 p with
    | none => rfl
    | some u => exact absurd hp (s2.gr.t p (by rw [e]; exact fun z => by cases z))
/-- drawn elements, the list changes on -/
theorem q_newLcD {α : Type} {emb : α → PyData} {wi : TI} {g : TG} {i : Nat} {vs : List Nat} {Ψ : List α → Prop} {Φ : PyData → Prop} {N : Nat} (hw : IJ q δ wi c (fun items => ∃ xs, Ψ xs ∧ items = xs.map emb)) (hz : ∀ xs, Ψ xs → xs.length ≤ N) (hN : N ≤ 1000000)
    (he : ∀ xs, Ψ xs → ∀ x ∈ xs, ∃ δ', GB (wipeD δ vs) g (emb x) δ' vs ∧ J q δ' te c1 Φ) (s : At q (n + (c1 * N + c)) δ A0 B0 σ Hk H1)
    (k : ∀ (xs : List α) (ds : List PyData) p Hk' H2, Ψ xs → ds.length = xs.length → (∀ d ∈ ds, Φ d) → At q n (δ.set i (.adr p)) A0 B0 (σ.set i (some (.ref p))) Hk' H2 → Cell q B0 Hk' H2 p ds → tz D (σ.set i (some (.ref p))) H2) :
    tSeq (tAsg (tLc wi g tYes te vs) (gName i)) tz D σ H1 :=
  hw σ Hk H1 (n + c1 * N) s.sg (by rw [Nat.add_assoc]; exact s.ok) _ fun items Jt HkW H2 g0 o0 pi wk D0 hD => by
    obtain ⟨xs, pi, ei⟩ := pi
    have hlen : items.length = xs.length := by rw [ei, List.length_map]
    have hxN := hz xs pi
    have hDk : HkW D0 = none := g0.a.free hD
    have hDq : q ≠ some D0 := fun e => (o0.j D0 e).ne hD
    have hDb : B0 D0 = none := by
      cases e : B0 D0 with
      | none => rfl
      | some u => exact absurd hD ((s.gr.trans g0).t D0 (by rw [e]; exact fun z => by cases z))
    have g1 : Gr q HkW H2 HkW (upd H2 D0 (.lst [])) := Gr.cell g0.a hD
    refine ⟨fun i m H' => m = items.length - i ∧ i ≤ items.length ∧ ∃ Hk' vs ds, Gr q HkW H2 Hk' H' ∧ Ok q (n + c1 * (N - i)) Hk' H' ∧ Hk' D0 = none ∧ H' D0 = some (.lst vs) ∧ DqAll Hk' vs ds ∧ ds.length = i ∧ ∀ d ∈ ds, Φ d,
      ⟨items.length, by simp, Nat.zero_le _, HkW, [], [], g1, o0.cell hDk hDq, hDk, upd_same, .nil, rfl, by simp⟩, ?_⟩
    rintro i m H' ⟨rfl, hi, Hk', ys, es, gr, ok, hDn, hl, hd, hel, hep⟩
    by_cases hlt : i < items.length
    · obtain ⟨go, yl⟩ := (wk i Hk' H' gr.k ok.a).1 hlt
      refine .inr ⟨go, fun H'' => ∃ Hk3 ys' es', Gr q HkW H2 Hk3 H'' ∧ Ok q (n + c1 * (N - (i + 1))) Hk3 H'' ∧ Hk3 D0 = none ∧ H'' D0 = some (.lst ys') ∧ DqAll Hk3 ys' es' ∧ es'.length = i + 1 ∧ ∀ d ∈ es', Φ d, fun H'' p => ⟨items.length - (i + 1), by omega, rfl, hlt, p⟩, fun v H'' y => ?_⟩
      obtain ⟨Hk2, g2, d, ed, dx⟩ := yl v H'' y
      obtain ⟨x, ex, rfl⟩ : ∃ x, xs[i]? = some x ∧ emb x = d := by
        rw [ei, List.getElem?_map] at ed
        exact Option.map_eq_some_iff.mp ed
      obtain ⟨δ', hgb, hte⟩ := he xs pi x (List.mem_of_getElem? ex)
      have hf : n + c1 * (N - i) = (n + c1 * (N - (i + 1))) + c1 := by
        rw [show N - i = (N - (i + 1)) + 1 by omega, Nat.mul_add, Nat.mul_one, Nat.add_assoc]
      rw [hf] at ok
      have ok2 := ok.go g2
      have sgw : Sg Hk2 (wipe σ vs) (wipeD δ vs) := ((s.sg.mono g0.k).mono (gr.k.trans g2.k)).wipe vs
      have hD2 : Hk2 D0 = none := g2.f D0 hDn (by rw [hl]; exact fun z => by cases z)
      have hl2 : H'' D0 = some (.lst ys) := g2.s D0 _ (fun z => by cases z) hl
      have hd2 := DqAll.mono g2.k _ _ hd
      have gr2 := gr.trans g2.none_to
      refine hgb (wipe σ vs) Hk2 H'' v sgw g2.a dx _ fun σ' sg' hl' hk' => ⟨wipe_eq (by rw [hl', wipe_length]) hk', ?_⟩
      unfold tYes
      refine iteT (hte σ' Hk2 H'' _ sg' ok2 _ fun y w Hk4 H4 g4 o4 ey dw => ?_)
      have hD4 : Hk4 D0 = none := g4.f D0 hD2 (by rw [hl2]; exact fun z => by cases z)
      have hl4 : H4 D0 = some (.lst ys) := g4.s D0 _ hDq hl2
      have hd4 := DqAll.mono g4.k _ _ hd2
      refine ⟨ys, hl4, ?_, Hk4, ys ++ [w], es ++ [y], (gr2.trans g4).put hD hD4, o4.cell hD4 hDq, hD4, upd_same, hd4.append (.cons dw .nil), by rw [List.length_append, hel]; rfl, fun z hz => ?_⟩
      · rw [hd4.length, hel, sizeLine_eq]; omega
      · rcases List.mem_append.mp hz with h | h
        · exact hep z h
        · rw [List.mem_singleton.mp h]; exact ey
    · have e : i = items.length := by omega
      subst e
      refine .inl ⟨(wk _ Hk' H' gr.k ok.a).2 (Nat.le_refl _), ?_⟩
      have st : At q n δ A0 B0 σ Hk' H' := ⟨ok.mono (Nat.le_add_right _ _), (s.sg.mono g0.k).mono gr.k, (s.gr.trans g0).trans gr⟩
      exact k xs es D0 Hk' H' pi (by rw [hel, hlen]) hep ⟨st.ok, st.sg.set _ (s := .adr D0) rfl, st.gr⟩ ⟨hDn, hDq, hDb, ys, hl, hd⟩
/-- while len(row) < size: row.append(e), e read from the row -/
theorem q_whileLen {i js : Nat} {size : Int} {p : Addr} {ds0 : List PyData} (P : List PyData → Prop) (s : At q n δ A0 B0 σ Hk H1) (cl : Cell q B0 Hk H1 p ds0) (h0 : P ds0) (hi : δ[i]? = some (.adr p)) (hs : δ[js]? = some (.dat (.int size))) (hsz : size ≤ 1000)
    (step : ∀ ds, P ds → (ds.length : Int) < size → ∃ d, E q (δ.set i (.dat (.list ds))) te d ∧ plain d = true ∧ P (ds ++ [d]))
    (k : ∀ ds Hk' H2, P ds → size ≤ (ds.length : Int) → At q n δ A0 B0 σ Hk' H2 → Cell q B0 Hk' H2 p ds → tz D σ H2) :
    tSeq (tWhile (tTest (tOp (rI0 fun i j => .bl (decide (i < j))) (tCB (rLenQ K) (tCons (tVar i) tNil)) (tVar js))) (tDrop (tBM K "list" rAppend (tVar i) (tCons te tNil)))) tz D σ H1 := by
  refine ⟨fun m σ' H' => σ' = σ ∧ ∃ Hk' ds, m = size.toNat - ds.length ∧ P ds ∧ At q n δ A0 B0 σ Hk' H' ∧ Cell q B0 Hk' H' p ds, ⟨_, rfl, Hk, ds0, rfl, h0, s, cl⟩, ?_⟩
  rintro m σ' H' ⟨rfl, Hk', ds, rfl, hP, st, cl⟩
  obtain ⟨xs, ex, hd⟩ := cl.ex
  obtain ⟨w, aw, dw⟩ := st.sg.get hs
  have ew := dw.intOf
  subst ew
  have hln := hd.length
  refine ⟨.ref p, st.sg.getA hi, p, xs, rfl, .inl (.inl (.inl ex)), .int size, aw, (xs.length : Int), size, rfl, rfl, decide ((xs.length : Int) < size), rfl, ?_⟩
  by_cases hlt : (xs.length : Int) < size
  · rw [decide_eq_true hlt]
    refine iteT ⟨fun σ3 H3 => σ3 = σ' ∧ ∃ Hk3 ds3, ds3.length = ds.length + 1 ∧ P ds3 ∧ At q n δ A0 B0 σ' Hk3 H3 ∧ Cell q B0 Hk3 H3 p ds3, fun σ3 H3 ⟨e, Hk3, ds3, hl3, p3, s3, c3⟩ => ⟨size.toNat - ds3.length, by omega, e, Hk3, ds3, rfl, p3, s3, c3⟩, ?_⟩
    obtain ⟨d, he, hpl, hP2⟩ := step ds hP (by omega)
    exact s_appendP (n := n) (c := 0) (Φ := fun x => x = d) he st cl hi (by omega) (fun x e => by rw [e]; exact hpl) fun x Hk3 H3 e s3 a3 c3 => by
      subst e
      exact ⟨rfl, Hk3, ds ++ [x], by simp, hP2, a3, c3⟩
  · rw [decide_eq_false hlt]
    exact iteF (k ds Hk' H' hP (by omega) st cl)
end
end Cr

set_option Elab.async false
set_option linter.all false
set_option maxRecDepth 100000
set_option maxHeartbeats 800000
/-! dicts of ints that still change, read by comprehensions -/
namespace Cr
open PySem PySem.Spec PyProof.Rows L2
structure ICell (q : Option Addr) (B0 Hk H1 : Hp) (p : Addr) (m : List (Int × Int)) : Prop where
  nk : Hk p = none
  nq : q ≠ some p
  nb : B0 p = none
  ex : H1 p = some (.dK (mdict m))
section
variable {K : PySem.W.Frag} {q : Option Addr} {n : Nat} {δ δ' : List Sl} {te te2 ta tb tp tx ty tz2 : TE} {c c1 c2 c3 : Nat} {d : PyData} {A0 B0 Hk H1 Hk' H2 : Hp} {σ : L2.St} {D : Ends} {tz tbd : TS} {r : Addr} {m : List (Int × Int)}
theorem ICell.go (x : ICell q B0 Hk H1 r m) (g : Gr q Hk H1 Hk' H2) : ICell q B0 Hk' H2 r m :=
  ⟨g.f r x.nk (by rw [x.ex]; exact fun z => by cases z), x.nq, x.nb, g.s r _ x.nq x.ex⟩
/-- a, b, d = x, y, {} -/
theorem q_asg3D {i j l : Nat} {P1 P2 : Int → Prop} (h1 : J q δ ta c1 (IntP P1)) (h2 : J q δ tb c2 (IntP P2)) (s : At q (n + c2 + c1) δ A0 B0 σ Hk H1)
    (k : ∀ x y p σ' Hk' H2, P1 x → P2 y → At q n (((δ.set i (.dat (.int x))).set j (.dat (.int y))).set l (.adr p)) A0 B0 σ' Hk' H2 → ICell q B0 Hk' H2 p [] → tz D σ' H2) :
    tSeq (tAsg (Cr.tTup (tCons ta (tCons tb (tCons tDNewK tNil)))) (gTup K 3 (gCons (gName i) (gCons (gName j) (gCons (gName l) gNil))))) tz D σ H1 := by
  refine h1.runI s.sg s.ok fun x Hk2 H2 px g2 o2 => ?_
  refine h2.runI (s.sg.mono g2.k) o2 fun y Hk3 H3 py g3 o3 => ?_
  intro p hp
  have s3 : At q n δ A0 B0 σ Hk3 H3 := ⟨o3, (s.sg.mono g2.k).mono g3.k, (s.gr.trans g2).trans g3⟩
  obtain ⟨n1, n2, n3⟩ := s3.fresh hp
  have s4 : At q n δ A0 B0 σ Hk3 (upd H3 p (.dK [])) := ⟨s3.ok.cell n1 n2, s3.sg, s3.gr.put n3 n1⟩
  refine ⟨by rw [sizeLine_eq]; simp, fun b od hod hb => ?_⟩
  have g5 := Gr.new (q := q) (o := .frz od (.tup [.int x, .int y, .ref p])) s4.ok.a hb
  have o5 := s4.ok.new (u := .frz od (.tup [.int x, .int y, .ref p])) hb
  have hpb : p ≠ b := fun e => by rw [← e, upd_same] at hb; cases hb
  refine ⟨b, [.int x, .int y, .ref p], rfl, .inl (.inr ⟨od, upd_same⟩), rfl, ?_⟩
  refine ⟨_, _, rfl, _, _, rfl, _, _, rfl, rfl, ?_⟩
  exact k x y p _ _ _ px py ⟨o5, (((s4.sg.mono g5.k).set i (s := .dat (.int x)) (.int x)).set j (s := .dat (.int y)) (.int y)).set l (s := .adr p) rfl, s4.gr.trans g5⟩ ⟨by rw [upd_ne hpb]; exact n1, n2, n3, by rw [upd_ne hpb, upd_same]; rfl⟩
/-- [g(k) for k in d], the items ints -/
theorem lk_ints {i ip : Nat} (s : At q n δ A0 B0 σ Hk H1) (hi : δ[i]? = some (.adr r)) (t : ICell q B0 Hk H1 r m) (hip : i ≠ ip) (hp : ip < δ.length) (hl : m.length ≤ 1000000) (g : Int × Int → Int)
    (he : ∀ x ∈ m, ∀ (σ' : L2.St) (H : Hp) (od : Obj) (Q : VK), σ'[i]? = some (some (.ref r)) → σ'[ip]? = some (some (.int x.1)) → H r = some (.frz od (.dK (mdict m))) → Q (.int (g x)) H → te σ' H Q) {Q : VK}
    (k : ∀ L, H1 L = none → Q (.ref L) (upd H1 L (.lst ((m.map g).map .int)))) : tLockE (tLc (iKeys (tVar i)) (gName ip) tYes te [ip]) σ H1 Q := by
  refine ⟨r, .dK (mdict m), t.ex, trivial, fun od => ?_⟩
  refine ⟨.ref r, s.sg.getA hi, r, od, rfl, .inl ⟨mdict m, upd_same, fun L hL => ?_⟩⟩
  obtain ⟨HL, eHL⟩ : ∃ HL, HL = upd H1 r (.frz od (.dK (mdict m))) := ⟨_, rfl⟩
  rw [← eHL] at hL ⊢
  have hLr : HL r = some (.frz od (.dK (mdict m))) := by rw [eHL, upd_same]
  have hrL : r ≠ L := fun e => by rw [← e, hLr] at hL; cases hL
  have hL1 : H1 L = none := by rw [eHL, upd_ne (Ne.symm hrL)] at hL; exact hL
  have hml : (mdict m).length = m.length := by unfold mdict; rw [List.length_map]
  refine ⟨fun j mm H => mm = m.length - j ∧ j ≤ m.length ∧ H = upd HL L (.lst (((m.take j).map g).map .int)), ⟨m.length, by simp, Nat.zero_le _, by simp⟩, ?_⟩
  rintro j mm H ⟨rfl, hj, rfl⟩
  have hr2 : (upd HL L (.lst (((m.take j).map g).map V.int))) r = some (.frz od (.dK (mdict m))) := by rw [upd_ne hrL]; exact hLr
  by_cases hlt : j < m.length
  · refine .inr ⟨⟨hr2, by rw [hml]; exact hlt⟩, fun H' => H' = upd HL L (.lst (((m.take (j + 1)).map g).map .int)), fun H' e => ⟨m.length - (j + 1), by omega, rfl, hlt, e⟩, fun x H' y => ?_⟩
    obtain ⟨rfl, kk, v, ek, rfl⟩ := y
    have ex : m[j]? = some (m[j]'hlt) := List.getElem?_eq_getElem hlt
    obtain ⟨x, exx⟩ : ∃ x, x = m[j]'hlt := ⟨_, rfl⟩
    rw [← exx] at ex
    have ek2 : (Sum.inl x.1, V.int x.2) = (kk, v) := by
      unfold mdict at ek
      rw [List.getElem?_map, ex] at ek
      exact Option.some.inj ek
    obtain ⟨rfl, rfl⟩ := Prod.mk.inj ek2
    have hlσ : (wipe σ [ip]).length = δ.length := by rw [wipe_length]; exact s.sg.1
    refine ⟨wipe_eq (by rw [List.length_set, wipe_length]) fun l hl => List.getElem?_set_ne (fun e => hl (by rw [← e]; simp)), ?_⟩
    show te _ _ _
    refine he x (List.mem_of_getElem? ex) _ _ od _ ?_ ?_ hr2 ⟨_, upd_same, ?_, ?_⟩
    · rw [List.getElem?_set_ne (Ne.symm hip)]
      show (σ.set ip none)[i]? = _
      rw [List.getElem?_set_ne (Ne.symm hip)]
      exact s.sg.getA hi
    · rw [List.getElem?_set_self (by rw [hlσ]; exact hp)]
      rfl
    · rw [List.length_map, List.length_map, List.length_take, sizeLine_eq]; omega
    · show _ = _
      rw [upd_over, List.take_add_one, ex, List.map_append, List.map_append]; rfl
  · have e : j = m.length := by omega
    subst e
    refine .inl ⟨⟨hr2, by rw [hml]; exact Nat.le_refl _⟩, hr2, ?_⟩
    rw [List.take_length, upd_swap (Ne.symm hrL), eHL, upd_over, upd_id t.ex]
    exact k L hL1
theorem At.garb {p : Addr} {o : HO} (s : At q n δ A0 B0 σ Hk H1) (h : H1 p = none) : At q n δ A0 B0 σ Hk (upd H1 p o) := by
  obtain ⟨h1, h2, h3⟩ := s.fresh h
  exact ⟨s.ok.cell h1 h2, s.sg, s.gr.put h3 h1⟩
theorem ICell.garb {p : Addr} {o : HO} (t : ICell q B0 Hk H1 r m) (h : H1 p = none) : ICell q B0 Hk (upd H1 p o) r m := ⟨t.nk, t.nq, t.nb, by rw [upd_ne (ne_of_none t.ex h)]; exact t.ex⟩
theorem k_minL {X : Cx} {K : PySem.W.Frag} (hK : X.K = K) (hc : X.calm = true) : CallR X (.builtin "min") (rMin K) := hK ▸ cr_min hc
/-- x = min([k for k in d]) -/
theorem q_minKeys {i ip l : Nat} (s : At q n δ A0 B0 σ Hk H1) (hi : δ[i]? = some (.adr r)) (t : ICell q B0 Hk H1 r m) (hip : i ≠ ip) (hp : ip < δ.length) (hl : m.length ≤ 1000000) (h0 : m ≠ [])
    (k : ∀ x σ' H2, x ∈ m.map (·.1) → At q n (δ.set l (.dat (.int x))) A0 B0 σ' Hk H2 → ICell q B0 Hk H2 r m → tz D σ' H2) :
    tSeq (tAsg (tCB (rMin K) (tCons (tLockE (tLc (iKeys (tVar i)) (gName ip) tYes (tVar ip) [ip])) tNil)) (gName l)) tz D σ H1 := by
  refine lk_ints s hi t hip hp hl (·.1) (fun x _ σ' H od Q _ h2 _ hq => ⟨_, h2, hq⟩) fun L hL => ?_
  refine ⟨L, m.map (·.1), rfl, .inl (.inl upd_same), by rw [List.length_map]; exact List.length_pos_iff.mpr h0, fun x hx _ => ?_⟩
  have s2 := s.garb (o := .lst ((m.map (·.1)).map V.int)) hL
  exact k x _ _ hx ⟨s2.ok, s2.sg.set l (s := .dat (.int x)) (.int x), s2.gr⟩ (t.garb hL)
theorem getI_mem : ∀ {m : List (Int × Int)} {x : Int × Int}, (m.map (·.1)).Nodup → x ∈ m → getI m x.1 = some x.2
  | [], x, _, h => by cases h
  | y :: m, x, hn, h => by
    rw [List.map_cons, List.nodup_cons] at hn
    rcases List.mem_cons.mp h with e | e
    · rw [e]; simp [getI]
    · have hne : ¬ y.1 = x.1 := fun z => hn.1 (by rw [z]; exact List.mem_map_of_mem e)
      have := getI_mem hn.2 e
      unfold getI at this ⊢
      rw [List.find?_cons_of_neg (by simpa using hne)]
      exact this
theorem putI_nd {k v : Int} (h : (m.map (·.1)).Nodup) : ((putI m k v).map (·.1)).Nodup := by
  rw [putI_keys]
  by_cases hk : k ∈ m.map (·.1)
  · rw [if_pos hk]; exact h
  · rw [if_neg hk]
    refine List.nodup_append.mpr ⟨h, by simp, fun a ha b hb e2 => ?_⟩
    rw [List.mem_singleton.mp hb] at e2
    exact hk (by rw [← e2]; exact ha)
theorem putI_mem {k v : Int} {x : Int × Int} (h : x ∈ putI m k v) : x ∈ m ∨ x = (k, v) := by
  unfold putI at h
  split at h
  · obtain ⟨y, hy, e⟩ := List.mem_map.mp h
    by_cases z : y.1 = k
    · rw [if_pos z] at e; exact .inr (by rw [← e, z])
    · rw [if_neg z] at e; exact .inl (by rw [← e]; exact hy)
  · rcases List.mem_append.mp h with e | e
    · exact .inl e
    · exact .inr (List.mem_singleton.mp e)
theorem putI_ln (m : List (Int × Int)) (k v : Int) : (putI m k v).length ≤ m.length + 1 := by
  unfold putI
  split
  · rw [List.length_map]; omega
  · rw [List.length_append]; simp
theorem putI_nn (m : List (Int × Int)) (k v : Int) : putI m k v ≠ [] := by
  unfold putI
  split
  · rename_i h
    intro e
    rw [List.map_eq_nil_iff] at e
    rw [e] at h; simp at h
  · simp
theorem dget_at {x : Int × Int} {H : Hp} (hn : (m.map (·.1)).Nodup) (hx : x ∈ m) (h : Rd H r (.dK (mdict m))) : DGet H r (.int x.1) (some (.int x.2)) :=
  .inl ⟨mdict m, Sum.inl x.1, h, rfl, by rw [mdict_val, getI_mem hn hx]; rfl⟩
/-- d[k] = d[k] + int(0 - sum([d[k] for k in d])) % j -/
theorem s_evenUp {i ip ik ij : Nat} {x j : Int} (s : At q n δ A0 B0 σ Hk H1) (hi : δ[i]? = some (.adr r)) (t : ICell q B0 Hk H1 r m) (hk : δ[ik]? = some (.dat (.int x))) (hj : δ[ij]? = some (.dat (.int j))) (hip : i ≠ ip) (hp : ip < δ.length) (hl : m.length ≤ 1000)
    (hn : (m.map (·.1)).Nodup) (hx : x ∈ m.map (·.1)) (h1 : 1 ≤ j) (k : ∀ v w H2, (x, v) ∈ m → (0 ≤ w ∧ w < j) → At q n δ A0 B0 σ Hk H2 → ICell q B0 Hk H2 r (putI m x (v + w)) → D.nx σ H2) :
    sDPut (tVar i) (tVar ik) (tOp (rAddU K) (tDGet (tVar i) (tVar ik)) (tOp (rI (fun _ j => j ≠ 0) fun i j => .int (i.fmod j)) (tCB rIntQ (tCons (tOp (rI0 fun i j => .int (i - j)) (tC (.int 0)) (tCB (rSum K) (tCons (tLockE (tLc (iKeys (tVar i)) (gName ip) tYes (tDGet (tVar i) (tVar ip)) [ip])) tNil))) tNil)) (tVar ij))) D σ H1 := by
  obtain ⟨⟨x', v⟩, hxm, rfl⟩ := List.mem_map.mp hx
  obtain ⟨w1, a1, d1⟩ := s.sg.get hk
  have e1 := d1.intOf
  subst e1
  obtain ⟨w2, a2, d2⟩ := s.sg.get hj
  have e2 := d2.intOf
  subst e2
  have a3 := s.sg.getA hi
  refine ⟨.ref r, a3, .int x', a1, r, .int v, rfl, dget_at hn hxm (.inl t.ex), ?_⟩
  refine lk_ints s hi t hip hp (by omega) (·.2) (fun y hy σ' H od Q h1 h2 h3 hq => ⟨.ref r, h1, .int y.1, h2, r, .int y.2, rfl, dget_at hn hy (.inr ⟨od, h3⟩), hq⟩) fun L hL => ?_
  refine ⟨L, m.map (·.2), rfl, .inl (.inl upd_same), 0, (m.map (·.2)).sum, rfl, rfl, .inl ⟨0 - (m.map (·.2)).sum, rfl, ?_⟩⟩
  refine ⟨.int j, a2, _, j, rfl, rfl, by omega, .inl ⟨v, (0 - (m.map (·.2)).sum).fmod j, rfl, rfl, .ref r, a3, .int x', a1, r, _, rfl, DPut.k (k := (Sum.inl x' : Key)) (t.garb hL).ex (by unfold mdict; rw [List.length_map, sizeLine_eq]; omega), ?_⟩⟩
  rw [mdict_put]
  have s2 := s.garb (o := .lst ((m.map (·.2)).map V.int)) hL
  have t2 := t.garb (o := .lst ((m.map (·.2)).map V.int)) hL
  exact k v _ _ hxm ⟨Int.fmod_nonneg_of_pos _ (by omega), Int.fmod_lt_of_pos _ (by omega)⟩ ⟨s2.ok.cell t2.nk t2.nq, s2.sg, s2.gr.put t2.nb t2.nk⟩ ⟨t2.nk, t2.nq, t2.nb, upd_same⟩
/-- [(k, d[k]) for k in d] -/
theorem lk_pairs {i ip : Nat} {Q : VK} (s : At q n δ A0 B0 σ Hk H1) (hi : δ[i]? = some (.adr r)) (t : ICell q B0 Hk H1 r m) (hip : i ≠ ip) (hp : ip < δ.length) (hl : m.length ≤ 1000000) (hn : (m.map (·.1)).Nodup)
    (k : ∀ v Hk' H2, At q n δ A0 B0 σ Hk' H2 → ICell q B0 Hk' H2 r m → Dq Hk' v (.list (pd m)) → Q v H2) :
    tLockE (tLc (iKeys (tVar i)) (gName ip) tYes (Cr.tTup (tCons (tVar ip) (tCons (tDGet (tVar i) (tVar ip)) tNil))) [ip]) σ H1 Q := by
  refine ⟨r, .dK (mdict m), t.ex, trivial, fun od => ?_⟩
  refine ⟨.ref r, s.sg.getA hi, r, od, rfl, .inl ⟨mdict m, upd_same, fun L hL => ?_⟩⟩
  have sL : At q n δ A0 B0 σ Hk (upd H1 r (.frz od (.dK (mdict m)))) := ⟨s.ok.cell t.nk t.nq, s.sg, s.gr.put t.nb t.nk⟩
  obtain ⟨nL1, nL2, nL3⟩ := sL.fresh hL
  have hrL : r ≠ L := fun e => by rw [← e, upd_same] at hL; cases hL
  have hml : (mdict m).length = m.length := by unfold mdict; rw [List.length_map]
  refine ⟨fun j mm H => mm = m.length - j ∧ j ≤ m.length ∧ H r = some (.frz od (.dK (mdict m))) ∧ ∃ Hk' ps, At q n δ A0 B0 σ Hk' H ∧ Hk' r = none ∧ Hk' L = none ∧ H L = some (.lst ps) ∧ DqAll Hk' ps (pd (m.take j)),
    ⟨m.length, by simp, Nat.zero_le _, by rw [upd_ne hrL, upd_same], Hk, [], sL.garb hL, t.nk, nL1, upd_same, .nil⟩, ?_⟩
  rintro j mm H ⟨rfl, hj, hr2, Hk', ps, st, kr, kL, eL, dps⟩
  by_cases hlt : j < m.length
  · refine .inr ⟨⟨hr2, by rw [hml]; exact hlt⟩, fun H' => H' r = some (.frz od (.dK (mdict m))) ∧ ∃ Hk' ps, At q n δ A0 B0 σ Hk' H' ∧ Hk' r = none ∧ Hk' L = none ∧ H' L = some (.lst ps) ∧ DqAll Hk' ps (pd (m.take (j + 1))), fun H' e => ⟨m.length - (j + 1), by omega, rfl, hlt, e⟩, fun x H' y => ?_⟩
    obtain ⟨rfl, kk, v, ek, rfl⟩ := y
    have ex : m[j]? = some (m[j]'hlt) := List.getElem?_eq_getElem hlt
    obtain ⟨x, exx⟩ : ∃ x, x = m[j]'hlt := ⟨_, rfl⟩
    rw [← exx] at ex
    have ek2 : (Sum.inl x.1, V.int x.2) = (kk, v) := by
      unfold mdict at ek
      rw [List.getElem?_map, ex] at ek
      exact Option.some.inj ek
    obtain ⟨rfl, rfl⟩ := Prod.mk.inj ek2
    have hlσ : (wipe σ [ip]).length = δ.length := by rw [wipe_length]; exact s.sg.1
    refine ⟨wipe_eq (by rw [List.length_set, wipe_length]) fun l hl => List.getElem?_set_ne (fun e => hl (by rw [← e]; simp)), ?_⟩
    have b1 : ((wipe σ [ip]).set ip (some (kV (Sum.inl x.1))))[i]? = some (some (.ref r)) := by
      rw [List.getElem?_set_ne (Ne.symm hip)]
      show (σ.set ip none)[i]? = _
      rw [List.getElem?_set_ne (Ne.symm hip)]
      exact s.sg.getA hi
    have b2 : ((wipe σ [ip]).set ip (some (kV (Sum.inl x.1))))[ip]? = some (some (.int x.1)) := by
      rw [List.getElem?_set_self (by rw [hlσ]; exact hp)]
      rfl
    unfold tYes
    simp only [if_true]
    refine ⟨.int x.1, b2, .ref r, b1, .int x.1, b2, r, .int x.2, rfl, dget_at hn (List.mem_of_getElem? ex) (.inr ⟨od, hr2⟩), by rw [sizeLine_eq]; simp, fun p o ho hpn => ?_⟩
    have hLp : L ≠ p := fun e => by rw [← e, eL] at hpn; cases hpn
    have hrp : r ≠ p := fun e => by rw [← e, hr2] at hpn; cases hpn
    have g1 := Gr.new (q := q) (o := .frz o (.tup [.int x.1, .int x.2])) st.ok.a hpn
    have o1 := st.ok.new (u := .frz o (.tup [.int x.1, .int x.2])) hpn
    have kL1 : upd Hk' p (.frz o (.tup [.int x.1, .int x.2])) L = none := by rw [upd_ne hLp]; exact kL
    have st1 : At q n δ A0 B0 σ (upd Hk' p (.frz o (.tup [.int x.1, .int x.2]))) (upd H' p (.frz o (.tup [.int x.1, .int x.2]))) := ⟨o1, st.sg.mono g1.k, st.gr.trans g1⟩
    refine ⟨ps, by rw [upd_ne hLp]; exact eL, ?_, by rw [upd_ne hrL, upd_ne hrp]; exact hr2, _, ps ++ [.ref p], ⟨st1.ok.cell kL1 nL2, st1.sg, st1.gr.put nL3 kL1⟩, by rw [upd_ne hrp]; exact kr, kL1, upd_same, ?_⟩
    · rw [dps.length, pd_len, List.length_take, sizeLine_eq]; omega
    · rw [List.take_add_one, ex, ← pd_app]
      exact (DqAll.mono g1.k _ _ dps).append (.cons (.tup (Tp.new ho) (.cons (.int _) (.cons (.int _) .nil))) .nil)
  · have e : j = m.length := by omega
    subst e
    rw [List.take_length] at dps
    refine .inl ⟨⟨hr2, by rw [hml]; exact Nat.le_refl _⟩, hr2, ?_⟩
    have st2 : At q n δ A0 B0 σ Hk' (upd H r (.dK (mdict m))) := ⟨st.ok.cell kr t.nq, st.sg, st.gr.put t.nb kr⟩
    have eL2 : upd H r (.dK (mdict m)) L = some (.lst ps) := by rw [upd_ne (Ne.symm hrL)]; exact eL
    have gf := st2.gr.freeze nL3 kL eL2
    refine k _ (upd Hk' L (.lst ps)) _ ⟨⟨gf.a, fun p e => ?_, st2.ok.j⟩, st2.sg.mono (same_upd kL), gf⟩ ⟨by rw [upd_ne hrL]; exact kr, t.nq, t.nb, upd_same⟩ (.lst upd_same (DqAll.mono (same_upd kL) _ _ dps))
    rw [upd_ne (fun z => nL2 (by rw [← z]; exact e))]
    exact st2.ok.kf p e
/-- return (f([(k, d[k]) for k in d]), j) -/
theorem s_retPairs {i ip ij : Nat} {R : RelX} {E0 : XK} {Φ : PyData → Prop} {d1 d2 : PyData} (s : At q n δ A0 B0 σ Hk H1) (hi : δ[i]? = some (.adr r)) (t : ICell q B0 Hk H1 r m) (hip : i ≠ ip) (hp : ip < δ.length) (hl : m.length ≤ 1000000) (hn : (m.map (·.1)).Nodup)
    (hR : R q [.dat (.list (pd m))] 0 (fun x => x = d1)) (hj : δ[ij]? = some (.dat d2)) (fin : Fin q n A0 B0 Φ D.rt) (hΦ : Φ (.tuple [d1, d2])) :
    tRet (Cr.tTup (tCons (tCall (spX R) [] E0 (tCons (tLockE (tLc (iKeys (tVar i)) (gName ip) tYes (Cr.tTup (tCons (tVar ip) (tCons (tDGet (tVar i) (tVar ip)) tNil))) [ip])) tNil)) (tCons (tVar ij) tNil))) D σ H1 := by
  refine lk_pairs s hi t hip hp hl hn fun v Hk2 H2 s2 t2 dv => ?_
  refine ⟨q, Hk2, _, n, 0, _, s2.ok, VS.cons (s := .dat (.list (pd m))) dv VS.nil, hR, fun d v3 Hk3 H3 g3 o3 e dv3 => ?_⟩
  subst e
  obtain ⟨w, a2, dw⟩ := (s2.sg.mono g3.k).get hj
  refine ⟨w, a2, by rw [sizeLine_eq]; simp, fun p o ho hpn => ?_⟩
  have g4 := Gr.new (q := q) (o := .frz o (.tup [v3, w])) o3.a hpn
  exact fin (.tuple [d, d2]) _ _ _ ((s2.gr.trans g3).trans g4) (o3.new hpn) hΦ (.tup (Tp.new ho) (DqAll.mono g4.k _ _ (.cons dv3 (.cons dw .nil))))
/-! ### a dict whose keys alone matter -/
structure BCell (q : Option Addr) (B0 Hk H1 : Hp) (p : Addr) (ks : List Int) : Prop where
  nk : Hk p = none
  nq : q ≠ some p
  nb : B0 p = none
  ex : ∃ kvs : List (Key × V), H1 p = some (.dK kvs) ∧ kvs.map (·.1) = ks.map Sum.inl
theorem BCell.go {ks : List Int} (x : BCell q B0 Hk H1 r ks) (g : Gr q Hk H1 Hk' H2) : BCell q B0 Hk' H2 r ks := by
  obtain ⟨kvs, e, h⟩ := x.ex
  exact ⟨g.f r x.nk (by rw [e]; exact fun z => by cases z), x.nq, x.nb, kvs, g.s r _ x.nq e, h⟩
/-- x, d = e, {} -/
theorem q_parD {i j : Nat} {Φ : PyData → Prop} (h : J q δ te c Φ) (s : At q (n + c) δ A0 B0 σ Hk H1)
    (k : ∀ x p σ' Hk' H2, Φ x → At q n ((δ.set i (.dat x)).set j (.adr p)) A0 B0 σ' Hk' H2 → BCell q B0 Hk' H2 p [] → tz D σ' H2) : tSeq (tPar i j (tCons te (tCons tDNewK tNil))) tz D σ H1 :=
  h σ Hk H1 n s.sg s.ok _ fun d v Hk2 H2 g o pd dv => by
    intro p hp
    have s3 : At q n δ A0 B0 σ Hk2 H2 := ⟨o, s.sg.mono g.k, s.gr.trans g⟩
    obtain ⟨n1, n2, n3⟩ := s3.fresh hp
    exact ⟨_, _, rfl, k d p _ _ _ pd ⟨s3.ok.cell n1 n2, (s3.sg.set i (s := .dat d) dv).set j (s := .adr p) rfl, s3.gr.put n3 n1⟩ ⟨n1, n2, n3, [], upd_same, rfl⟩⟩
theorem putK_keys (kvs : List (Key × V)) (ks : List Int) (h : kvs.map (·.1) = ks.map Sum.inl) (x : Int) (v : V) : (putK kvs (Sum.inl x) v).map (·.1) = (if x ∈ ks then ks else ks ++ [x]).map Sum.inl := by
  have hm : ((kvs.any fun kv => decide (kv.1 = Sum.inl x)) = true) ↔ x ∈ ks := by
    rw [List.any_eq_true]
    constructor
    · rintro ⟨kv, hk, e⟩
      have e2 := of_decide_eq_true e
      have : (Sum.inl x : Key) ∈ ks.map Sum.inl := by rw [← h, ← e2]; exact List.mem_map_of_mem hk
      obtain ⟨y, hy, e3⟩ := List.mem_map.mp this
      rw [← Sum.inl.inj e3]; exact hy
    · intro hx
      have : (Sum.inl x : Key) ∈ kvs.map (·.1) := by rw [h]; exact List.mem_map_of_mem hx
      obtain ⟨kv, hk, e⟩ := List.mem_map.mp this
      exact ⟨kv, hk, decide_eq_true e⟩
  unfold putK
  by_cases hx : x ∈ ks
  · rw [if_pos (hm.mpr hx), if_pos hx, ← h, List.map_map]
    refine List.map_congr_left fun kv _ => ?_
    show (if kv.1 = Sum.inl x then (kv.1, v) else kv).1 = kv.1
    split <;> rfl
  · rw [if_neg (fun z => hx (hm.mp z)), if_neg hx, List.map_append, List.map_append, h]; rfl
/-- d[key] = True -/
theorem s_putB {i : Nat} {ks : List Int} {b : Bool} {P : Int → Prop} (hk : J q δ te c (IntP P)) (s : At q (n + c) δ A0 B0 σ Hk H1) (hi : δ[i]? = some (.adr r)) (t : BCell q B0 Hk H1 r ks) (hl : ks.length ≤ 100000)
    (k : ∀ x Hk' H2, P x → Same Hk Hk' → At q n δ A0 B0 σ Hk' H2 → BCell q B0 Hk' H2 r (if x ∈ ks then ks else ks ++ [x]) → D.nx σ H2) : sDPut (tVar i) te (tC (.bl b)) D σ H1 := by
  refine ⟨.ref r, s.sg.getA hi, hk.runI s.sg s.ok fun x Hk2 H2 px g o => ?_⟩
  have t2 := t.go g
  obtain ⟨kvs, e, h⟩ := t2.ex
  have hlen : kvs.length = ks.length := by have := congrArg List.length h; rw [List.length_map, List.length_map] at this; exact this
  refine ⟨r, _, rfl, DPut.k (k := (Sum.inl x : Key)) e (by rw [hlen, sizeLine_eq]; omega), ?_⟩
  exact k x Hk2 _ px g.k ⟨o.cell t2.nk t.nq, s.sg.mono g.k, (s.gr.trans g).put t.nb t2.nk⟩ ⟨t2.nk, t.nq, t.nb, _, upd_same, putK_keys kvs ks h x _⟩
/-- if not f(x, tuple(sorted(d))) or ..: it does not hold -/
theorem s_ifSortedNo {i is : Nat} {ks : List Int} {ds : PyData} {R : RelX} {E0 : XK} {tu : TT} {t1 : TS} (s : At q n δ A0 B0 σ Hk H1) (hi : δ[i]? = some (.adr r)) (t : BCell q B0 Hk H1 r ks) (hs : δ[is]? = some (.dat ds)) (hnd : ks.Nodup)
    (hR : ∀ ys : List Int, ys.Pairwise (· < ·) → ys.Perm ks → R q [.dat ds, .dat (pol ys)] 0 (fun x => x = .bool true)) (h2 : TB q δ tu false) (k : ∀ Hk' H2, Same Hk Hk' → At q n δ A0 B0 σ Hk' H2 → D.nx σ H2) :
    tIfS (tOr (tNot (tB (tCall (spX R) [] E0 (tCons (tVar is) (tCons (tCB (rTupQ K) (tCons (tCB rSrtDI (tCons (tVar i) tNil)) tNil)) tNil))))) tu) t1 tNext D σ H1 := by
  obtain ⟨kvs, e, h⟩ := t.ex
  obtain ⟨w, a1, dw⟩ := s.sg.get hs
  refine ⟨w, a1, .ref r, s.sg.getA hi, r, kvs, ks, rfl, .inl e, h, fun ys l hy hsr hln => ?_⟩
  have st : ys.Pairwise (· < ·) := (hsr.and (hy.nodup_iff.mpr hnd)).imp fun {a b} z => by have := z.1; have := z.2; omega
  have s2 := s.garb (o := .lst (ys.map V.int)) hln
  refine ⟨l, ys.map V.int, rfl, .inl ⟨.inl (.inl upd_same), fun p o ho hp => ?_⟩⟩
  have g3 := Gr.new (q := q) (o := .frz o (.tup (ys.map V.int))) s2.ok.a hp
  have o3 := s2.ok.new (u := .frz o (.tup (ys.map V.int))) hp
  have s3 : At q n δ A0 B0 σ _ _ := ⟨o3, s2.sg.mono g3.k, s2.gr.trans g3⟩
  refine ⟨q, _, [.dat ds, .dat (pol ys)], n, 0, _, o3, VS.cons (s := .dat ds) (Dq.mono g3.k _ _ dw) (VS.cons (s := .dat (pol ys)) (.tup (Tp.new ho) (DqAll.ofInts ys)) VS.nil), hR ys st hy, fun d v Hk4 H4 g4 o4 ed dv => ?_⟩
  subst ed
  have ev : v = .bl true := by cases dv; rfl
  subst ev
  refine ⟨true, rfl, ?_⟩
  show tu σ H4 _
  refine h2 σ Hk4 H4 n (s3.sg.mono g4.k) o4 _ fun b Hk5 H5 g5 o5 eb => ?_
  subst eb
  exact k Hk5 H5 ((g3.k.trans g4.k).trans g5.k) ⟨o5, (s3.sg.mono g4.k).mono g5.k, (s3.gr.trans g4).trans g5⟩
end
end Cr

set_option Elab.async false
set_option linter.all false
set_option maxRecDepth 100000
set_option maxHeartbeats 800000
/-! fractions at keys come to the sums -/
namespace Cr
open PySem PySem.Spec PyProof.Rows L2
/-! ### a polynomial with too many roots -/
theorem horn_val (r x : Int) : ∀ (f : List Int) (a : Int), evalP (a :: f) x - evalP (a :: f) r = (x - r) * evalP (hornL r f) x
  | [], a => by simp [evalP, hornL]
  | b :: f, a => by
    have ih := horn_val r x f b
    have hd : hornL r (b :: f) = evalP (b :: f) r :: hornL r f := rfl
    rw [evalP_cons a (b :: f) x, evalP_cons a (b :: f) r, hd, evalP_cons (evalP (b :: f) r)]
    have e1 : evalP (b :: f) x = evalP (b :: f) r + (x - r) * evalP (hornL r f) x := by omega
    rw [e1]
    grind
theorem horn_zero (r : Int) : ∀ f : List Int, (∀ a ∈ hornL r f, a = 0) → ∀ a ∈ f, a = 0
  | [], _, a, h => by cases h
  | b :: f, h, a, ha => by
    have h0 : evalP (b :: f) r = 0 := h _ (by show _ ∈ evalP (b :: f) r :: hornL r f; simp)
    have h1 := horn_zero r f (fun a ha => h a (by show _ ∈ evalP (b :: f) r :: hornL r f; simp [ha]))
    rcases List.mem_cons.mp ha with e | e
    · have z : evalP f r = 0 := by
        cases f with
        | nil => rfl
        | cons c f => exact h _ (by show _ ∈ evalP (b :: c :: f) r :: evalP (c :: f) r :: hornL r f; simp)
      rw [evalP_cons, z] at h0
      rw [e]; omega
    · exact h1 a e
theorem zero_of_roots : ∀ (keys : List Int) (f : List Int), keys.Nodup → f.length ≤ keys.length → (∀ k ∈ keys, evalP f k = 0) → ∀ a ∈ f, a = 0
  | _, [], _, _, _, a, h => by cases h
  | [], b :: f, _, hl, _, _, _ => by simp at hl
  | k :: keys, b :: f, hn, hl, h, a, ha => by
    rw [List.nodup_cons] at hn
    have hk := h k (by simp)
    have hg : ∀ x ∈ keys, evalP (hornL k f) x = 0 := fun x hx => by
      have z := horn_val k x f b
      rw [h x (by simp [hx]), hk] at z
      have ne : x - k ≠ 0 := fun e => hn.1 (by rw [show k = x by omega]; exact hx)
      have z2 : (x - k) * evalP (hornL k f) x = 0 := by omega
      rcases Int.mul_eq_zero.mp z2 with e | e
      · exact absurd e ne
      · exact e
    have hz := horn_zero k f (zero_of_roots keys (hornL k f) hn.2 (by rw [hornL_len]; simpa using hl) hg)
    rcases List.mem_cons.mp ha with e | e
    · have z : ∀ g : List Int, (∀ a ∈ g, a = 0) → evalP g k = 0 := by
        intro g
        induction g with
        | nil => intro _; rfl
        | cons c g ih =>
          intro hg
          rw [evalP_cons, ih (fun a ha => hg a (by simp [ha])), hg c (by simp)]; simp
      rw [evalP_cons, z f hz] at hk
      rw [e]; omega
    · exact hz a e
/-! ### sums of multiples -/
def axpy (w : Int) : List Int → List Int → List Int
  | a :: f, b :: g => (w * a + b) :: axpy w f g
  | _, g => g
theorem axpy_len (w : Int) : ∀ f g : List Int, (axpy w f g).length = g.length
  | [], g => by cases g <;> rfl
  | _ :: _, [] => rfl
  | a :: f, b :: g => by show (axpy w f g).length + 1 = g.length + 1; rw [axpy_len w f g]
theorem axpy_val (w x : Int) : ∀ f g : List Int, f.length = g.length → evalP (axpy w f g) x = w * evalP f x + evalP g x
  | [], [], _ => by simp [axpy, evalP]
  | [], _ :: _, h => by simp at h
  | _ :: _, [], h => by simp at h
  | a :: f, b :: g, h => by
    show evalP ((w * a + b) :: axpy w f g) x = _
    rw [evalP_cons, axpy_val w x f g (by simpa using h), evalP_cons, evalP_cons]
    grind
theorem dotI_nil (g : List Int) : dotI [] g = 0 := rfl
theorem dotI_cons (a b : Int) (f g : List Int) : dotI (a :: f) (b :: g) = a * b + dotI f g := by simp [dotI, zmul]
theorem dotI_none (f : List Int) : dotI f [] = 0 := by cases f <;> rfl
theorem axpy_dot (w : Int) : ∀ f g s : List Int, f.length = g.length → dotI (axpy w f g) s = w * dotI f s + dotI g s
  | [], [], s, _ => by simp [axpy, dotI_nil]
  | [], _ :: _, _, h => by simp at h
  | _ :: _, [], _, h => by simp at h
  | a :: f, b :: g, [], _ => by rw [dotI_none, dotI_none, dotI_none]; simp
  | a :: f, b :: g, c :: s, h => by
    show dotI ((w * a + b) :: axpy w f g) (c :: s) = _
    rw [dotI_cons, axpy_dot w f g s (by simpa using h), dotI_cons, dotI_cons]
    grind
theorem dot_zero : ∀ (f s : List Int), (∀ a ∈ f, a = 0) → dotI f s = 0
  | [], s, _ => dotI_nil s
  | a :: f, [], _ => dotI_none _
  | a :: f, b :: s, h => by
    rw [dotI_cons, h a (by simp), dot_zero f s (fun x hx => h x (by simp [hx]))]; simp
/-- the polynomial a * x ** j as a list of n numbers -/
def mon (a : Int) : Nat → Nat → List Int
  | _, 0 => []
  | 0, n + 1 => a :: List.replicate n 0
  | j + 1, n + 1 => 0 :: mon a j n
theorem mon_len (a : Int) : ∀ j n : Nat, (mon a j n).length = n
  | _, 0 => by unfold mon; rfl
  | 0, n + 1 => by unfold mon; simp
  | j + 1, n + 1 => by unfold mon; rw [List.length_cons, mon_len a j n]
theorem evalP_zeros (x : Int) : ∀ n : Nat, evalP (List.replicate n 0) x = 0
  | 0 => rfl
  | n + 1 => by rw [List.replicate_succ, evalP_cons, evalP_zeros x n]; simp
theorem mon_val (a x : Int) : ∀ j n : Nat, j < n → evalP (mon a j n) x = a * x ^ j
  | _, 0, h => by omega
  | 0, n + 1, _ => by unfold mon; rw [evalP_cons, evalP_zeros]; simp
  | j + 1, n + 1, h => by
    unfold mon
    rw [evalP_cons, mon_val a x j n (by omega), Int.pow_succ]; grind
theorem mon_dot (a : Int) : ∀ (j n : Nat) (s : List Int), j < n → dotI (mon a j n) s = a * s.getD j 0
  | _, 0, _, h => by omega
  | 0, n + 1, [], _ => by rw [dotI_none]; simp
  | 0, n + 1, b :: s, _ => by
    unfold mon
    rw [dotI_cons, dot_zero _ s (fun x hx => (List.mem_replicate.mp hx).2)]; simp
  | j + 1, n + 1, [], _ => by rw [dotI_none]; simp
  | j + 1, n + 1, b :: s, h => by
    unfold mon
    rw [dotI_cons, mon_dot a j n s (by omega)]; simp
theorem fold_val {φ : List Int → Int} (L : Int → List Int) (w : Int → Int) (n : Nat) (h0 : ∀ c f g, f.length = n → g.length = n → φ (axpy c f g) = c * φ f + φ g) (st : List Int) (hs : st.length = n) :
    ∀ ks : List Int, (∀ k ∈ ks, (L k).length = n) → (ks.foldr (fun k acc => axpy (w k) (L k) acc) st).length = n ∧ φ (ks.foldr (fun k acc => axpy (w k) (L k) acc) st) = (ks.map fun k => w k * φ (L k)).sum + φ st
  | [], _ => ⟨hs, by simp⟩
  | k :: ks, h => by
    obtain ⟨h1, h2⟩ := fold_val L w n h0 st hs ks (fun x hx => h x (by simp [hx]))
    refine ⟨by rw [List.foldr_cons, axpy_len]; exact h1, ?_⟩
    rw [List.foldr_cons, h0 _ _ _ (h k (by simp)) h1, h2, List.map_cons, List.sum_cons]; omega
theorem sum_one {φ : Int → Int} {k0 : Int} : ∀ {ks : List Int}, ks.Nodup → k0 ∈ ks → (∀ k ∈ ks, k ≠ k0 → φ k = 0) → (ks.map φ).sum = φ k0
  | [], _, h, _ => by cases h
  | k :: ks, hn, h, hz => by
    rw [List.nodup_cons] at hn
    rw [List.map_cons, List.sum_cons]
    by_cases e : k = k0
    · subst e
      have : (ks.map φ).sum = 0 := by
        have z : ∀ l : List Int, (∀ x ∈ l, φ x = 0) → (l.map φ).sum = 0 := by
          intro l
          induction l with
          | nil => intro _; rfl
          | cons a l ih => intro hl; rw [List.map_cons, List.sum_cons, hl a (by simp), ih (fun x hx => hl x (by simp [hx]))]; rfl
        exact z ks fun x hx => hz x (by simp [hx]) (fun e => hn.1 (by rw [← e]; exact hx))
      rw [this]; omega
    · have hm : k0 ∈ ks := by
        rcases List.mem_cons.mp h with e2 | e2
        · exact absurd e2.symm e
        · exact e2
      rw [hz k (by simp) e, sum_one hn.2 hm (fun x hx => hz x (by simp [hx]))]; omega
theorem sum_mul (c : Int) (φ : Int → Int) : ∀ ks : List Int, (ks.map fun k => φ k * c).sum = (ks.map φ).sum * c
  | [] => by simp
  | k :: ks => by rw [List.map_cons, List.sum_cons, sum_mul c φ ks, List.map_cons, List.sum_cons]; grind
/-- the product of all bottoms -/
def allB (keys : List Int) : Int := (keys.map fun k => evalP (lag keys k) k).foldr (· * ·) 1
theorem prod_dvd {φ : Int → Int} : ∀ {l : List Int} {k : Int}, k ∈ l → ∃ w, (l.map φ).foldr (· * ·) 1 = w * φ k
  | x :: l, k, h => by
    rcases List.mem_cons.mp h with e | e
    · exact ⟨(l.map φ).foldr (· * ·) 1, by rw [e, List.map_cons, List.foldr_cons]; exact Int.mul_comm _ _⟩
    · obtain ⟨w, hw⟩ := prod_dvd e
      exact ⟨φ x * w, by rw [List.map_cons, List.foldr_cons, hw]; exact (Int.mul_assoc _ _ _).symm⟩
theorem prod_ne {φ : Int → Int} : ∀ {l : List Int}, (∀ k ∈ l, φ k ≠ 0) → (l.map φ).foldr (· * ·) 1 ≠ 0
  | [], _ => by simp
  | x :: l, h => by
    rw [List.map_cons, List.foldr_cons]
    exact Int.mul_ne_zero (h x (by simp)) (prod_ne fun k hk => h k (by simp [hk]))
/-- the fractions, each times the powers of its key, come to the sums -/
theorem lag_sum {keys s : List Int} {c : Int → Int} {B : Int} {j : Nat} (hn : keys.Nodup) (hj : j < keys.length) (hc : ∀ k ∈ keys, c k * (share keys s k).2 = (share keys s k).1 * B) :
    (keys.map fun k => c k * k ^ j).sum = s.getD j 0 * B := by
  obtain ⟨M, eM⟩ : ∃ M, M = allB keys := ⟨_, rfl⟩
  have hM : M ≠ 0 := by rw [eM]; exact prod_ne fun k _ => lagr_ne keys k
  have hw : ∀ k, ∃ w, k ∈ keys → M = w * evalP (lag keys k) k := fun k => by
    by_cases hk : k ∈ keys
    · obtain ⟨w, e⟩ := prod_dvd (φ := fun k => evalP (lag keys k) k) hk
      exact ⟨w, fun _ => by rw [eM]; exact e⟩
    · exact ⟨0, fun h => absurd h hk⟩
  obtain ⟨w, hw⟩ : ∃ w : Int → Int, ∀ k ∈ keys, M = w k * evalP (lag keys k) k := ⟨fun k => Classical.choose (hw k), fun k hk => Classical.choose_spec (hw k) hk⟩
  have hL : ∀ k ∈ keys, (lag keys k).length = keys.length := fun k hk => lag_len_in hk hn
  obtain ⟨G, eG⟩ : ∃ G, G = keys.foldr (fun k acc => axpy (w k * k ^ j) (lag keys k) acc) (mon (-M) j keys.length) := ⟨_, rfl⟩
  have hv : ∀ x, evalP G x = (keys.map fun k => w k * k ^ j * evalP (lag keys k) x).sum + -M * x ^ j := fun x => by
    have z := (fold_val (φ := fun f => evalP f x) (lag keys) (fun k => w k * k ^ j) keys.length (fun c f g h1 h2 => axpy_val c x f g (by rw [h1, h2])) (mon (-M) j keys.length) (mon_len _ _ _) keys hL).2
    rw [eG]
    refine z.trans ?_
    rw [mon_val _ _ _ _ hj]
  have hd : dotI G s = (keys.map fun k => w k * k ^ j * dotI (lag keys k) s).sum + -M * s.getD j 0 := by
    have z := (fold_val (φ := fun f => dotI f s) (lag keys) (fun k => w k * k ^ j) keys.length (fun c f g h1 h2 => axpy_dot c f g s (by rw [h1, h2])) (mon (-M) j keys.length) (mon_len _ _ _) keys hL).2
    rw [eG]
    refine z.trans ?_
    rw [mon_dot _ _ _ _ hj]
  have hlen : G.length = keys.length := by
    rw [eG]
    exact (fold_val (φ := fun f => evalP f 0) (lag keys) (fun k => w k * k ^ j) keys.length (fun c f g h1 h2 => axpy_val c 0 f g (by rw [h1, h2])) (mon (-M) j keys.length) (mon_len _ _ _) keys hL).1
  have hroot : ∀ k ∈ keys, evalP G k = 0 := fun k hk => by
    rw [hv, sum_one (k0 := k) hn hk (fun x hx hne => ?_)]
    · have := hw k hk
      rw [show w k * k ^ j * evalP (lag keys k) k = (w k * evalP (lag keys k) k) * k ^ j by grind, ← this]; grind
    · rw [lag_at hk (fun e => hne e.symm)]; simp
  have hz := zero_of_roots keys G hn (by rw [hlen]; exact Nat.le_refl _) hroot
  rw [dot_zero G s hz] at hd
  have h2 : (keys.map fun k => c k * k ^ j).sum * M = (keys.map fun k => w k * k ^ j * dotI (lag keys k) s).sum * B := by
    rw [← sum_mul, ← sum_mul]
    congr 1
    refine List.map_congr_left fun k hk => ?_
    have e1 := hc k hk
    have e2 := hw k hk
    show c k * k ^ j * M = w k * k ^ j * dotI (lag keys k) s * B
    have e3 : c k * evalP (lag keys k) k = dotI (lag keys k) s * B := e1
    rw [e2]
    have : c k * k ^ j * (w k * evalP (lag keys k) k) = (c k * evalP (lag keys k) k) * (k ^ j * w k) := by grind
    rw [this, e3]; grind
  have h3 : (keys.map fun k => w k * k ^ j * dotI (lag keys k) s).sum = M * s.getD j 0 := by grind
  rw [h3] at h2
  have h4 : ((keys.map fun k => c k * k ^ j).sum - s.getD j 0 * B) * M = 0 := by grind
  rcases Int.mul_eq_zero.mp h4 with e | e
  · omega
  · exact absurd e hM
/-! ### least terms -/
def gI (a b : Int) : Int := ((Nat.gcd a.natAbs b.natAbs : Nat) : Int)
theorem gI_dvd1 (a b : Int) : gI a b ∣ a := Int.gcd_dvd_left a b
theorem gI_dvd2 (a b : Int) : gI a b ∣ b := Int.gcd_dvd_right a b
theorem gI_pos {a b : Int} (h : b ≠ 0) : 0 < gI a b := by
  unfold gI
  have : 0 < Nat.gcd a.natAbs b.natAbs := Nat.gcd_pos_of_pos_right _ (by omega)
  omega
def shd (t b : Int) : Int := if b > 0 then gI t b else -gI t b
def ltm (x : Int × Int) : Int × Int := (x.1.fdiv (shd x.1 x.2), x.2.fdiv (shd x.1 x.2))
theorem shd_ne {t b : Int} (h : b ≠ 0) : shd t b ≠ 0 := by
  have := gI_pos (a := t) h
  unfold shd
  split <;> omega
theorem fdiv_ex {a g : Int} (hg : g ≠ 0) (h : g ∣ a) : a.fdiv g * g = a := by
  obtain ⟨q, rfl⟩ := h
  rw [Int.mul_comm g q, Int.mul_fdiv_cancel _ hg]
theorem shd_dvd (t b : Int) : shd t b ∣ t ∧ shd t b ∣ b := by
  unfold shd
  split
  · exact ⟨gI_dvd1 t b, gI_dvd2 t b⟩
  · exact ⟨Int.neg_dvd.mpr (gI_dvd1 t b), Int.neg_dvd.mpr (gI_dvd2 t b)⟩
theorem ltm_back {x : Int × Int} (h : x.2 ≠ 0) : (ltm x).1 * shd x.1 x.2 = x.1 ∧ (ltm x).2 * shd x.1 x.2 = x.2 :=
  ⟨fdiv_ex (shd_ne h) (shd_dvd _ _).1, fdiv_ex (shd_ne h) (shd_dvd _ _).2⟩
theorem ltm_cross {x : Int × Int} (h : x.2 ≠ 0) : (ltm x).1 * x.2 = x.1 * (ltm x).2 := by
  obtain ⟨h1, h2⟩ := ltm_back h
  generalize shd x.1 x.2 = g at *
  rw [← h2]
  conv => rhs; rw [← h1]
  grind
theorem ltm_pos {x : Int × Int} (h : x.2 ≠ 0) : 0 < (ltm x).2 := by
  obtain ⟨_, h2⟩ := ltm_back h
  have hp := gI_pos (a := x.1) h
  unfold shd at h2
  split at h2
  · rename_i hb
    exact Int.pos_of_mul_pos_right (by rw [Int.mul_comm, h2]; exact hb) hp
  · have : (ltm x).2 * gI x.1 x.2 = -x.2 := by
      have : (ltm x).2 * -gI x.1 x.2 = -((ltm x).2 * gI x.1 x.2) := by grind
      omega
    exact Int.pos_of_mul_pos_right (by rw [Int.mul_comm, this]; omega) hp
theorem ltm_gcd {x : Int × Int} (h : x.2 ≠ 0) : gI (ltm x).1 (ltm x).2 = 1 := by
  obtain ⟨h1, h2⟩ := ltm_back h
  have hg : (shd x.1 x.2).natAbs = Nat.gcd x.1.natAbs x.2.natAbs := by
    unfold shd gI
    split <;> omega
  have hp : 0 < Nat.gcd x.1.natAbs x.2.natAbs := Nat.gcd_pos_of_pos_right _ (by omega)
  have e1 : (ltm x).1.natAbs * Nat.gcd x.1.natAbs x.2.natAbs = x.1.natAbs := by rw [← hg, ← Int.natAbs_mul, h1]
  have e2 : (ltm x).2.natAbs * Nat.gcd x.1.natAbs x.2.natAbs = x.2.natAbs := by rw [← hg, ← Int.natAbs_mul, h2]
  have e3 : Nat.gcd ((ltm x).1.natAbs * Nat.gcd x.1.natAbs x.2.natAbs) ((ltm x).2.natAbs * Nat.gcd x.1.natAbs x.2.natAbs) = Nat.gcd x.1.natAbs x.2.natAbs := by rw [e1, e2]
  rw [Nat.gcd_mul_right] at e3
  have e4 : Nat.gcd (ltm x).1.natAbs (ltm x).2.natAbs = 1 := by
    have : Nat.gcd (ltm x).1.natAbs (ltm x).2.natAbs * Nat.gcd x.1.natAbs x.2.natAbs = 1 * Nat.gcd x.1.natAbs x.2.natAbs := by omega
    exact Nat.eq_of_mul_eq_mul_right hp this
  unfold gI
  rw [e4]; rfl
theorem ltm_le {x : Int × Int} (h : x.2 ≠ 0) : (ltm x).1.natAbs ≤ x.1.natAbs ∧ (ltm x).2.natAbs ≤ x.2.natAbs := by
  obtain ⟨h1, h2⟩ := ltm_back h
  have hg : 1 ≤ (shd x.1 x.2).natAbs := by have := shd_ne (t := x.1) h; omega
  constructor
  · have e := congrArg Int.natAbs h1
    rw [Int.natAbs_mul] at e
    rw [← e]; exact Nat.le_mul_of_pos_right _ hg
  · have e := congrArg Int.natAbs h2
    rw [Int.natAbs_mul] at e
    rw [← e]; exact Nat.le_mul_of_pos_right _ hg
theorem ltm_whole (a : Int) {e : Int} (h : e ≠ 0) : ltm (a * e, e) = (a, 1) := by
  have hg : gI (a * e) e = (e.natAbs : Int) := by
    unfold gI
    rw [Int.natAbs_mul, Nat.gcd_comm, Nat.gcd_mul_left_right]
  have hs : shd (a * e) e = e := by
    unfold shd
    rw [hg]
    split <;> omega
  unfold ltm
  rw [hs]
  rw [Int.mul_fdiv_cancel _ h, Int.fdiv_self h]
/-! ### a common multiple -/
def lc1 (a b : Int) : Int := (a * b).fdiv (gI a b)
theorem lc1_ok {a b : Int} (ha : 0 < a) (hb : 0 < b) : 0 < lc1 a b ∧ a ∣ lc1 a b ∧ b ∣ lc1 a b ∧ lc1 a b ≤ a * b := by
  have hg := gI_pos (a := a) (show b ≠ 0 by omega)
  obtain ⟨u, hu⟩ := gI_dvd1 a b
  obtain ⟨v, hv⟩ := gI_dvd2 a b
  have hne : gI a b ≠ 0 := by omega
  have hup : 0 < u := Int.pos_of_mul_pos_right (by rw [← hu]; exact ha) hg
  have hvp : 0 < v := Int.pos_of_mul_pos_right (by rw [← hv]; exact hb) hg
  have e1 : lc1 a b = a * v := by
    unfold lc1
    conv => lhs; arg 1; rw [hv]
    rw [show a * (gI a b * v) = a * v * gI a b by grind, Int.mul_fdiv_cancel _ hne]
  have e2 : lc1 a b = b * u := by
    unfold lc1
    conv => lhs; arg 1; arg 1; rw [hu]
    rw [show gI a b * u * b = b * u * gI a b by grind, Int.mul_fdiv_cancel _ hne]
  refine ⟨by rw [e1]; exact Int.mul_pos ha hvp, ⟨v, e1⟩, ⟨u, e2⟩, ?_⟩
  rw [e1]
  refine Int.mul_le_mul_of_nonneg_left ?_ (by omega)
  conv => rhs; rw [hv]
  have : 1 * v ≤ gI a b * v := Int.mul_le_mul_of_nonneg_right (by omega) (by omega)
  omega
def lcs (l : List (Int × Int)) : Int := l.foldl (fun a x => lc1 a x.2) 1
theorem lcs_snoc (l : List (Int × Int)) (x : Int × Int) : lcs (l ++ [x]) = lc1 (lcs l) x.2 := by unfold lcs; rw [List.foldl_append]; rfl
section
variable {K : PySem.W.Frag} {q : Option Addr} {n : Nat} {δ δ' : List Sl} {te te2 ta tb : TE} {c c1 c2 c3 : Nat} {d d1 d2 : PyData} {A0 B0 Hk H1 Hk' H2 : Hp} {σ : L2.St} {D : Ends} {tz : TS}
theorem e_gcd {a b : Int} (ha : E q δ ta (.int a)) (hb : E q δ tb (.int b)) : E q δ (tCB rGcd (tCons ta (tCons tb tNil))) (.int (gI a b)) := e_cb (ds := [.int a, .int b]) (ae_cons ha (ae_cons hb ae_nil)) fun vs H H1 h e Q k => by
  obtain ⟨v, w, rfl, h1, h2⟩ := h.two
  rw [h1.intOf, h2.intOf]
  exact ⟨a, b, rfl, k _ _ H H1 (Gr.refl e) rfl (.int _)⟩
/-- x, y = e, f, both told -/
theorem q_parEE {i j : Nat} (h1 : E q δ ta d1) (h2 : E q δ tb d2) (s : At q n δ A0 B0 σ Hk H1) (k : ∀ σ' Hk' H2, Gr q Hk H1 Hk' H2 → At q n ((δ.set i (.dat d1)).set j (.dat d2)) A0 B0 σ' Hk' H2 → tz D σ' H2) :
    tSeq (tPar i j (tCons ta (tCons tb tNil))) tz D σ H1 := q_par (c := 0) (Ψ := fun a b => a = d1 ∧ b = d2) ((ae_cons h1 (ae_cons h2 ae_nil)).imp fun sls e => ⟨d1, d2, e, rfl, rfl⟩) s fun a b σ' Hk' H2 ⟨e1, e2⟩ g a2 => by subst e1 e2; exact k σ' Hk' H2 g a2
theorem s_parEE {i j : Nat} (h1 : E q δ ta d1) (h2 : E q δ tb d2) (s : At q n δ A0 B0 σ Hk H1) (k : ∀ σ' Hk' H2, Gr q Hk H1 Hk' H2 → At q n ((δ.set i (.dat d1)).set j (.dat d2)) A0 B0 σ' Hk' H2 → D.nx σ' H2) :
    tPar i j (tCons ta (tCons tb tNil)) D σ H1 := s_par (c := 0) (Ψ := fun a b => a = d1 ∧ b = d2) ((ae_cons h1 (ae_cons h2 ae_nil)).imp fun sls e => ⟨d1, d2, e, rfl, rfl⟩) s fun a b σ' Hk' H2 ⟨e1, e2⟩ g a2 => by subst e1 e2; exact k σ' Hk' H2 g a2
theorem j_tupJ {Ψ : List Int → Prop} (h : J q δ te c (fun d => ∃ ns : List Int, Ψ ns ∧ d = .list (ns.map .int))) : J q δ (tCB (rTupQ K) (tCons te tNil)) c (fun d => ∃ ns : List Int, Ψ ns ∧ d = pol ns) :=
  j_cb1 h fun d ⟨ns, hn, e⟩ => by subst e; exact rc_tupL ⟨ns, hn, rfl⟩
theorem all_ints {P : Int → Prop} : ∀ ds : List PyData, (∀ d ∈ ds, IntP P d) → ∃ l : List Int, ds = l.map .int ∧ ∀ x ∈ l, P x
  | [], _ => ⟨[], rfl, by simp⟩
  | d :: ds, h => by
    obtain ⟨l, e, hl⟩ := all_ints ds fun x hx => h x (by simp [hx])
    obtain ⟨x, hx, ex⟩ := h d (by simp)
    exact ⟨x :: l, by rw [e, ex]; rfl, fun a ha => by
      rcases List.mem_cons.mp ha with e | e
      · rw [e]; exact hx
      · exact hl a e⟩
/-- [e for i in range(n)], all drawn -/
theorem j_lcI {i N : Nat} {lo hi : Int} {P : Int → Prop} {tn : TE} (hn : J q δ tn c (IntP fun j => lo ≤ j ∧ j ≤ hi)) (h0 : 0 ≤ lo) (hN : hi ≤ (N : Int)) (hM : N ≤ 10000)
    (he : ∀ k : Nat, J q ((wipeD δ [i]).set i (.dat (.int (0 + (k : Int))))) te c1 (IntP P)) : J q δ (tLc (iRng1 (tCons tn tNil)) (gName i) tYes te [i]) (c1 * N + c) (fun d => ∃ ns : List Int, ((lo ≤ (ns.length : Int) ∧ (ns.length : Int) ≤ hi) ∧ ∀ x ∈ ns, P x) ∧ d = .list (ns.map .int)) :=
  (j_lcD (N := N) (emb := fun i : Nat => PyData.int (0 + (i : Int))) (vs := [i]) (Ψ := fun xs : List Nat => lo ≤ (xs.length : Int) ∧ (xs.length : Int) ≤ hi) (Φ := IntP P) (ij_rng1 hn fun j hj => ⟨by omega, List.range j.toNat, by rw [List.length_range]; omega, rfl⟩) (fun xs h => by omega) (by omega) fun xs hx x hxm => ⟨_, gb_name (by simp), he x⟩).imp fun d ⟨xs, ds, h1, h2, h3, h4⟩ => by
    obtain ⟨l, e, hl⟩ := all_ints ds h3
    have : l.length = xs.length := by rw [← h2, e, List.length_map]
    exact ⟨l, ⟨by rw [this]; exact h1, hl⟩, by rw [h4, e]⟩
/-- x, y = e, f, both drawn -/
theorem q_parII {i j : Nat} {P1 P2 : Int → Prop} (h1 : J q δ ta c1 (IntP P1)) (h2 : J q δ tb c2 (IntP P2)) (s : At q (n + c2 + c1) δ A0 B0 σ Hk H1)
    (k : ∀ x y σ' Hk' H2, P1 x → P2 y → Gr q Hk H1 Hk' H2 → At q n ((δ.set i (.dat (.int x))).set j (.dat (.int y))) A0 B0 σ' Hk' H2 → tz D σ' H2) : tSeq (tPar i j (tCons ta (tCons tb tNil))) tz D σ H1 := by
  refine h1.runI s.sg s.ok fun x Hk2 H2 px g2 o2 => ?_
  refine h2.runI (s.sg.mono g2.k) o2 fun y Hk3 H3 py g3 o3 => ?_
  exact ⟨_, _, rfl, k x y _ Hk3 H3 px py (g2.trans g3) ⟨o3, (((s.sg.mono g2.k).mono g3.k).set i (s := .dat (.int x)) (.int x)).set j (s := .dat (.int y)) (.int y), (s.gr.trans g2).trans g3⟩⟩
/-- xs = list(t), a list that changes on -/
theorem q_lstC {i : Nat} {Ψ : List Int → Prop} (h : J q δ te c (fun d => ∃ f, Ψ f ∧ d = pol f)) (s : At q (n + c) δ A0 B0 σ Hk H1)
    (k : ∀ f p σ' Hk' H2, Ψ f → At q n (δ.set i (.adr p)) A0 B0 σ' Hk' H2 → Cell q B0 Hk' H2 p (f.map .int) → tz D σ' H2) : tSeq (tAsg (tCB (rLstQ K) (tCons te tNil)) (gName i)) tz D σ H1 :=
  h σ Hk H1 n s.sg s.ok _ fun d v Hk2 H2 g o ⟨f, hf, e⟩ dv => by
    subst e
    obtain ⟨a, xs, rfl, h1, h2⟩ := Dq.tupOf dv
    have e2 := DqAll.ints h2
    subst e2
    have s2 : At q n δ A0 B0 σ Hk2 H2 := ⟨o, s.sg.mono g.k, s.gr.trans g⟩
    refine ⟨a, f.map V.int, rfl, .inr (.inl ?_), fun l hl => ?_⟩
    · rcases (h1.mono o.a).rd with e | e
      · exact .inl e
      · exact .inr e
    · obtain ⟨n1, n2, n3⟩ := s2.fresh hl
      have s3 := s2.garb (o := .lst (f.map V.int)) hl
      exact k f l _ Hk2 _ hf ⟨s3.ok, s3.sg.set i (s := .adr l) rfl, s3.gr⟩ ⟨n1, n2, n3, _, upd_same, DqAll.ofInts f⟩
theorem q_asgW2 {i j : Nat} {Ψ : PyData → PyData → Prop} (h : J q δ te c (fun d => ∃ a b, Ψ a b ∧ d = .tuple [a, b])) (s : At q (n + c) δ A0 B0 σ Hk H1)
    (k : ∀ a b σ' Hk' H2, Ψ a b → Gr q Hk H1 Hk' H2 → At q n ((δ.set i (.dat a)).set j (.dat b)) A0 B0 σ' Hk' H2 → tz D σ' H2) : tSeq (tAsg te (gTup K 2 (gCons (gName i) (gCons (gName j) gNil)))) tz D σ H1 :=
  h σ Hk H1 n s.sg s.ok _ fun d v Hk2 H2 g o ⟨a, b, p, e⟩ dv => by
    subst e
    exact gb_tup2 (d1 := a) (d2 := b) (vs := [i, j]) (by simp) (by simp) σ Hk2 H2 v (s.sg.mono g.k) g.a dv _ fun σ2 sg2 _ _ => k a b σ2 Hk2 H2 p g ⟨o, sg2, s.gr.trans g⟩
theorem e_tupRg1 {b : Int} (h2 : E q δ tb (.int b)) (ok : RgOk 0 b) : E q δ (tTupRg (tRg1 tb)) (pol (rgI 0 b)) := fun σ H H1 n sg o Q k =>
  h2 σ H H1 n sg o _ fun d' v' Hk' H3 g' o2 ed' dv' => by
    subst ed'
    have e2 : v' = .int b := by cases dv'; rfl
    refine ⟨b, e2, ok, fun p hp => ?_⟩
    have g1 := Gr.new (q := none) (o := .tup (rgV 0 b)) g'.a hp
    exact k _ _ _ _ (g'.trans g1.none_to) (o2.go g1) rfl (.tup (.inr ⟨by cases (rgI 0 b) <;> rfl, upd_same⟩) (dq_rg 0 b))
end
theorem gI_step (X Y : Nat) : ((X : Int).fmod (Y : Int)) = ((X % Y : Nat) : Int) := by
  rw [Int.fmod_eq_emod_of_nonneg _ (by omega)]; rfl
/-- the first six sums -/
theorem psums_CBt {l : List (Int × Int)} {A B N n : Nat} (h : Kb A B l) (hl : l.length ≤ 2 ^ N) : CB (B + A * 5 + N + 1) ((psums l n).take 6) := fun a ha => by
  unfold psums at ha
  rw [← List.map_take] at ha
  obtain ⟨j, hj, rfl⟩ := List.mem_map.mp ha
  have hj6 : j < 6 := by
    rw [List.take_range] at hj
    have := List.mem_range.mp hj
    omega
  refine Nat.lt_of_lt_of_le (psum_bits h hl j) (Nat.pow_le_pow_right (by decide) ?_)
  have := Nat.mul_le_mul_left A (show j ≤ 5 by omega)
  omega
theorem cb_six {f : List Int} {b : Nat} (h : ∀ x ∈ f, x.natAbs < 2 ^ b) (hb : b ≤ 500) : CB 9000 f ∧ CB 500 (f.take 6) := ⟨fun a ha => lt_pow (h a ha) (by omega), fun a ha => lt_pow (h a (List.mem_of_mem_take ha)) hb⟩
theorem cb_set {f : List Int} {u : Nat} {y : Int} {B : Nat} (h : CB B (f.take 6)) (hy : u < 6 → y.natAbs < 2 ^ B) : CB B ((f.set u y).take 6) := fun a ha => by
  rw [List.take_set] at ha
  by_cases hu : u < 6
  · rcases List.mem_or_eq_of_mem_set ha with z | z
    · exact h a z
    · rw [z]; exact hy hu
  · rw [List.set_eq_of_length_le (by rw [List.length_take]; omega)] at ha
    exact h a ha
end Cr

set_option Elab.async false
set_option linter.all false
set_option maxRecDepth 100000
set_option maxHeartbeats 800000
/-! rules of sums -/
namespace Cr
open PySem PySem.Spec PyProof.Rows L2
/-! ### a stretch of the sums under a rule -/
def rowS (s f : List Int) (at_ : Nat) : Int := ((List.range f.length).map fun i => f.getD i 0 * s.getD (at_ + i) 0).sum
theorem win_getD {s : List Int} {a n k : Nat} (hk : k < n) (h : a + n ≤ s.length) : ((s.drop a).take n).getD k 0 = s.getD (a + k) 0 := by
  rw [List.getD_eq_getElem?_getD, List.getElem?_take_of_lt hk, List.getElem?_drop, List.getD_eq_getElem?_getD]
theorem row_zip {s f : List Int} {a : Nat} (h : a + f.length ≤ s.length) : (zmul f ((s.drop a).take f.length)).sum = rowS s f a := by
  rw [← zmul_range (by rw [List.length_take, List.length_drop]; omega)]
  unfold rowS
  congr 1
  refine List.map_congr_left fun k hk => ?_
  rw [win_getD (List.mem_range.mp hk) h]
def dueB (s f : List Int) : Bool := if f = [] ∨ s.length + 1 < f.length then false else (List.range (s.length + 1 - f.length)).all fun a => decide (rowS s f a = 0)
theorem find_all {n : Nat} {p : Nat → Bool} (h : (List.range n).all (fun a => !p a) = true) : fstD n p (fun k => (k : Int)) = .none := fst_none fun k hk => by
  have := List.all_eq_true.mp h k (List.mem_range.mpr hk)
  simpa using this
/-! ### numbers divided by what they share -/
def gcdL (l : List Int) : Int := l.foldl gI 0
theorem gI_nn (a b : Int) : 0 ≤ gI a b := by unfold gI; omega
theorem gcdL_snoc (l : List Int) (x : Int) : gcdL (l ++ [x]) = gI (gcdL l) x := by unfold gcdL; rw [List.foldl_append]; rfl
theorem fold_dvd : ∀ (l : List Int) (z : Int), l.foldl gI z ∣ z ∧ ∀ x ∈ l, l.foldl gI z ∣ x
  | [], z => ⟨Int.dvd_refl z, by simp⟩
  | y :: l, z => by
    obtain ⟨h1, h2⟩ := fold_dvd l (gI z y)
    rw [List.foldl_cons]
    refine ⟨Int.dvd_trans h1 (gI_dvd1 z y), fun x hx => ?_⟩
    rcases List.mem_cons.mp hx with e | e
    · rw [e]; exact Int.dvd_trans h1 (gI_dvd2 z y)
    · exact h2 x e
theorem gcdL_nn (l : List Int) : 0 ≤ gcdL l := by
  unfold gcdL
  have z : ∀ (l : List Int) (a : Int), 0 ≤ a → 0 ≤ l.foldl gI a := by
    intro l
    induction l with
    | nil => intro a h; exact h
    | cons x l ih => intro a h; rw [List.foldl_cons]; exact ih _ (gI_nn a x)
  exact z l 0 (Int.le_refl _)
def slimM (l : List Int) : Int := if gcdL l > 1 then gcdL l else 1
def slimL (l : List Int) : List Int := l.map fun v => v / slimM l
theorem slimM_pos (l : List Int) : 0 < slimM l := by unfold slimM; split <;> omega
theorem slimM_dvd {l : List Int} {x : Int} (h : x ∈ l) : slimM l ∣ x := by
  unfold slimM
  split
  · exact (fold_dvd l 0).2 x h
  · exact Int.one_dvd x
theorem slim_len (l : List Int) : (slimL l).length = l.length := by unfold slimL; rw [List.length_map]
theorem slim_CB {l : List Int} {B : Nat} (h : CB B l) : CB B (slimL l) := fun a ha => by
  obtain ⟨v, hv, rfl⟩ := List.mem_map.mp ha
  exact Nat.lt_of_le_of_lt (Int.natAbs_ediv_le_natAbs v _) (h v hv)
theorem slim_get {l : List Int} (h : 0 < l.length) : (slimL l).getD 0 0 = l.getD 0 0 / slimM l := by
  unfold slimL
  rw [List.getD_eq_getElem?_getD, List.getElem?_map, List.getElem?_eq_getElem h, List.getD_eq_getElem?_getD, List.getElem?_eq_getElem h]; rfl
theorem slim_first {l : List Int} (h : 0 < l.length) (h0 : l.getD 0 0 ≠ 0) : (slimL l).getD 0 0 ≠ 0 ∧ ((slimL l).getD 0 0).natAbs ≤ (l.getD 0 0).natAbs ∧ (slimM l).natAbs ≤ (l.getD 0 0).natAbs := by
  have hd := slimM_dvd (Cr.getD_mem h)
  have hp := slimM_pos l
  rw [slim_get h]
  obtain ⟨w, hw⟩ := hd
  generalize slimM l = m at *
  rw [hw] at h0 ⊢
  have hw0 : w ≠ 0 := fun e => h0 (by rw [e]; simp)
  rw [Int.mul_ediv_cancel_left _ (by omega)]
  refine ⟨hw0, ?_, ?_⟩
  · rw [Int.natAbs_mul]; exact Nat.le_mul_of_pos_left _ (by omega)
  · rw [Int.natAbs_mul]; exact Nat.le_mul_of_pos_right _ (by omega)
/-! ### how long the numbers of a shortest rule may be -/
def okB : Nat → Nat → Nat → Nat → Nat → Nat → Nat → Bool
  | 0, _, _, _, L, _, _ => decide (L ≤ 8200)
  | n + 1, t, size, a, L, l, G => okB n (t + 1) size a L l G && (decide (a + G < 9000 ∧ l ≤ 8200) && (if 2 * size ≤ t then okB n (t + 1) (t + 1 - size) (a + G) (max (G + L) (L + 504 + l) + 1) L (L + 504) else okB n (t + 1) size (a + G) (max (G + L) (L + 504 + l) + 1) l G))
theorem okB_start : okB 6 0 0 1 1 1 1 = true := by decide +kernel
theorem okB_end : ∀ {n t size a L l G : Nat}, okB n t size a L l G = true → L ≤ 8200
  | 0, _, _, _, _, _, _, h => of_decide_eq_true h
  | n + 1, _, _, _, _, _, _, h => okB_end (Bool.and_eq_true_iff.mp h).1
def frL (now last : List Int) (wait n : Nat) (gap miss : Int) (j : Nat) : List Int := (List.range n).map fun p => gap * now.getD p 0 - if wait ≤ p ∧ p < wait + j then miss * last.getD (p - wait) 0 else 0
theorem frL_len (now last : List Int) (wait n : Nat) (gap miss : Int) (j : Nat) : (frL now last wait n gap miss j).length = n := by unfold frL; rw [List.length_map, List.length_range]
theorem frL_get {now last : List Int} {wait n : Nat} {gap miss : Int} {j p : Nat} (h : p < n) : (frL now last wait n gap miss j).getD p 0 = gap * now.getD p 0 - if wait ≤ p ∧ p < wait + j then miss * last.getD (p - wait) 0 else 0 := by
  unfold frL
  rw [List.getD_eq_getElem?_getD, List.getElem?_map, List.getElem?_range h]; rfl
theorem frL_zero {now last : List Int} {wait n : Nat} {gap miss : Int} (h : now.length ≤ n) : frL now last wait n gap miss 0 = now.map (gap * ·) ++ List.replicate (n - now.length) 0 := by
  refine List.ext_getElem (by rw [frL_len, List.length_append, List.length_map, List.length_replicate]; omega) fun p h1 h2 => ?_
  rw [frL_len] at h1
  have e : (frL now last wait n gap miss 0)[p]'(by rw [frL_len]; exact h1) = (frL now last wait n gap miss 0).getD p 0 := by rw [List.getD_eq_getElem?_getD, List.getElem?_eq_getElem (by rw [frL_len]; exact h1)]; rfl
  rw [e, frL_get h1, if_neg (by omega), Int.sub_zero]
  by_cases hp : p < now.length
  · rw [List.getElem_append_left (by rw [List.length_map]; exact hp), List.getElem_map, List.getD_eq_getElem?_getD, List.getElem?_eq_getElem hp]; rfl
  · rw [List.getElem_append_right (by rw [List.length_map]; omega), List.getElem_replicate, List.getD_eq_getElem?_getD, List.getElem?_eq_none (by omega)]; simp
theorem frL_set {now last : List Int} {wait n : Nat} {gap miss : Int} {j : Nat} (h : j + wait < n) (hj : j < last.length) : (frL now last wait n gap miss j).set (j + wait) ((frL now last wait n gap miss j).getD (j + wait) 0 - miss * last.getD j 0) = frL now last wait n gap miss (j + 1) := by
  refine List.ext_getElem (by rw [List.length_set, frL_len, frL_len]) fun p h1 h2 => ?_
  rw [frL_len] at h2
  have e : ∀ j, (frL now last wait n gap miss j)[p]'(by rw [frL_len]; exact h2) = (frL now last wait n gap miss j).getD p 0 := fun j => by rw [List.getD_eq_getElem?_getD, List.getElem?_eq_getElem (by rw [frL_len]; exact h2)]; rfl
  rw [List.getElem_set]
  by_cases hp : j + wait = p
  · rw [if_pos hp, e, frL_get h, frL_get h2, if_neg (by omega), ← hp, if_pos (by omega), show j + wait - wait = j by omega]; omega
  · rw [if_neg hp, e, e, frL_get h2, frL_get h2]
    by_cases h3 : wait ≤ p ∧ p < wait + j
    · rw [if_pos h3, if_pos (by omega)]
    · rw [if_neg h3, if_neg (by omega)]
theorem frL_CB {now last : List Int} {wait n : Nat} {gap miss : Int} {j L l G M : Nat} (hn : CB L now) (hl : CB l last) (hg : gap.natAbs < 2 ^ G) (hm : miss.natAbs < 2 ^ M) : CB (max (G + L) (M + l) + 1) (frL now last wait n gap miss j) := fun a ha => by
  unfold frL at ha
  obtain ⟨p, hp, rfl⟩ := List.mem_map.mp ha
  have gd : ∀ {f : List Int} {B i : Nat}, CB B f → (f.getD i 0).natAbs < 2 ^ B := fun {f B i} h => by
    by_cases hi : i < f.length
    · exact h _ (Cr.getD_mem hi)
    · rw [List.getD_eq_getElem?_getD, List.getElem?_eq_none (by omega)]; simp; exact Nat.pow_pos (by decide)
  have m1 : (gap * now.getD p 0).natAbs < 2 ^ (max (G + L) (M + l)) := by
    rw [Int.natAbs_mul]
    refine Nat.lt_of_lt_of_le (Nat.mul_lt_mul'' hg (gd hn)) ?_
    rw [← Nat.pow_add]
    exact Nat.pow_le_pow_right (by decide) (by omega)
  have m2 : (if wait ≤ p ∧ p < wait + j then miss * last.getD (p - wait) 0 else 0).natAbs < 2 ^ (max (G + L) (M + l)) := by
    split
    · rw [Int.natAbs_mul]
      refine Nat.lt_of_lt_of_le (Nat.mul_lt_mul'' hm (gd hl)) ?_
      rw [← Nat.pow_add]
      exact Nat.pow_le_pow_right (by decide) (by omega)
    · exact Nat.pow_pos (by decide)
  exact sub_bits m1 m2
/-! ### rules of the hand layer -/
section
variable {K : PySem.W.Frag} {q : Option Addr} {n : Nat} {δ δ' : List Sl} {te ta tb : TE} {c c1 c2 : Nat} {d d1 d2 d3 d4 d5 : PyData} {A0 B0 Hk H1 H2 Hk' : Hp} {σ : L2.St} {D : Ends} {tz : TS} {p : Addr} {ds es : List PyData}

theorem q_asgT4 {i j l m : Nat} (h : E q δ te (.tuple [d1, d2, d3, d4])) (s : At q n δ A0 B0 σ Hk H1)
    (k : ∀ σ' Hk' H2, Gr q Hk H1 Hk' H2 → At q n ((((δ.set i (.dat d1)).set j (.dat d2)).set l (.dat d3)).set m (.dat d4)) A0 B0 σ' Hk' H2 → D.nx σ' H2) :
    tAsg te (gTup K 4 (gCons (gName i) (gCons (gName j) (gCons (gName l) (gCons (gName m) gNil))))) D σ H1 :=
  h σ Hk H1 n s.sg s.ok _ fun d v Hk2 H2 g o e dv => by
    subst e
    obtain ⟨a, xs, rfl, e1, e2⟩ := dv.tupOf
    obtain ⟨x, y, z, u, rfl, dx, dy, dz, du⟩ : ∃ x y z u, xs = [x, y, z, u] ∧ Dq Hk2 x d1 ∧ Dq Hk2 y d2 ∧ Dq Hk2 z d3 ∧ Dq Hk2 u d4 := by
      cases e2 with
      | cons a b => cases b with
        | cons c d => cases d with
          | cons e f => cases f with
            | cons g h => cases h; exact ⟨_, _, _, _, rfl, a, c, e, g⟩
    exact ⟨a, _, rfl, .inl (e1.mono g.a).rd, rfl, x, _, rfl, y, _, rfl, z, _, rfl, u, _, rfl, rfl, k _ Hk2 H2 g ⟨o, ((((s.sg.mono g.k).set i (s := .dat d1) dx).set j (s := .dat d2) dy).set l (s := .dat d3) dz).set m (s := .dat d4) du, s.gr.trans g⟩⟩
theorem q_asgT5 {i j l m t : Nat} (h : E q δ te (.tuple [d1, d2, d3, d4, d5])) (s : At q n δ A0 B0 σ Hk H1)
    (k : ∀ σ' Hk' H2, Gr q Hk H1 Hk' H2 → At q n (((((δ.set i (.dat d1)).set j (.dat d2)).set l (.dat d3)).set m (.dat d4)).set t (.dat d5)) A0 B0 σ' Hk' H2 → tz D σ' H2) :
    tSeq (tAsg te (gTup K 5 (gCons (gName i) (gCons (gName j) (gCons (gName l) (gCons (gName m) (gCons (gName t) gNil))))))) tz D σ H1 :=
  h σ Hk H1 n s.sg s.ok _ fun d v Hk2 H2 g o e dv => by
    subst e
    obtain ⟨a, xs, rfl, e1, e2⟩ := dv.tupOf
    obtain ⟨x, y, z, u, w, rfl, dx, dy, dz, du, dw⟩ : ∃ x y z u w, xs = [x, y, z, u, w] ∧ Dq Hk2 x d1 ∧ Dq Hk2 y d2 ∧ Dq Hk2 z d3 ∧ Dq Hk2 u d4 ∧ Dq Hk2 w d5 := by
      cases e2 with
      | cons a b => cases b with
        | cons c d => cases d with
          | cons e f => cases f with
            | cons g h => cases h with
              | cons i j => cases j; exact ⟨_, _, _, _, _, rfl, a, c, e, g, i⟩
    exact ⟨a, _, rfl, .inl (e1.mono g.a).rd, rfl, x, _, rfl, y, _, rfl, z, _, rfl, u, _, rfl, w, _, rfl, rfl, k _ Hk2 H2 g ⟨o, (((((s.sg.mono g.k).set i (s := .dat d1) dx).set j (s := .dat d2) dy).set l (s := .dat d3) dz).set m (s := .dat d4) du).set t (s := .dat d5) dw, s.gr.trans g⟩⟩
/-- x = a + b, a list that changes on -/
theorem q_newCat {i : Nat} (ha : E q δ ta (.list ds)) (hb : E q δ tb (.list es)) (hl : ds.length + es.length ≤ 1000000) (s : At q n δ A0 B0 σ Hk H1)
    (k : ∀ p σ' Hk' H2, Gr q Hk H1 Hk' H2 ∨ True → Same Hk Hk' → At q n (δ.set i (.adr p)) A0 B0 σ' Hk' H2 → Cell q B0 Hk' H2 p (ds ++ es) → tz D σ' H2) : tSeq (tAsg (tOp (rAddU K) ta tb) (gName i)) tz D σ H1 :=
  ha σ Hk H1 n s.sg s.ok _ fun d x Hk2 H2 g2 o2 ed dx => hb σ Hk2 H2 n (s.sg.mono g2.k) o2 _ fun d' y Hk3 H3 g3 o3 ed' dy => by
    subst ed; subst ed'
    obtain ⟨a, xs, rfl, h1, h2⟩ := (Dq.mono g3.k _ _ dx).lstOf
    obtain ⟨b, ys, rfl, h3, h4⟩ := dy.lstOf
    have s3 : At q n δ A0 B0 σ Hk3 H3 := ⟨o3, (s.sg.mono g2.k).mono g3.k, (s.gr.trans g2).trans g3⟩
    refine .inr (.inl ⟨a, b, xs, ys, rfl, rfl, o3.a _ _ h1, o3.a _ _ h3, by rw [h2.length, h4.length, sizeLine_eq]; omega, fun l hln => ?_⟩)
    obtain ⟨n1, n2, n3⟩ := s3.fresh hln
    have s4 := s3.garb (o := .lst (xs ++ ys)) hln
    exact k l _ Hk3 _ (.inr trivial) (g2.k.trans g3.k) ⟨s4.ok, s4.sg.set i (s := .adr l) rfl, s4.gr⟩ ⟨n1, n2, n3, _, upd_same, h2.append h4⟩
/-! ### lists of polynomials, some drawn -/
def GP (f : List Int) : Prop := Pl f ∧ CB 10000 f ∧ f.length ≤ 60
theorem ajp_cons {te : TE} {tr : TA} {m : Nat} (h : J q δ te c1 (fun d => ∃ f, GP f ∧ d = pol f)) (hr : AJ q δ tr c2 (fun sls => ∃ fs : List (List Int), (∀ f ∈ fs, GP f) ∧ fs.length = m ∧ sls = (fs.map pol).map Sl.dat)) :
    AJ q δ (tCons te tr) (c2 + c1) (fun sls => ∃ fs : List (List Int), (∀ f ∈ fs, GP f) ∧ fs.length = m + 1 ∧ sls = (fs.map pol).map Sl.dat) := aj_cons h hr fun d sls ⟨f, hf, e⟩ ⟨fs, h1, h2, e2⟩ => ⟨f :: fs, fun x hx => by
  rcases List.mem_cons.mp hx with z | z
  · rw [z]; exact hf
  · exact h1 x z, by rw [List.length_cons, h2], by rw [e, e2]; rfl⟩
theorem ajp_nil : AJ q δ tNil 0 (fun sls => ∃ fs : List (List Int), (∀ f ∈ fs, GP f) ∧ fs.length = 0 ∧ sls = (fs.map pol).map Sl.dat) := ae_nil.imp fun sls e => ⟨[], by simp, rfl, e⟩
theorem jp_lst {tr : TA} {m : Nat} (h : AJ q δ tr c (fun sls => ∃ fs : List (List Int), (∀ f ∈ fs, GP f) ∧ fs.length = m ∧ sls = (fs.map pol).map Sl.dat)) (hm : m ≤ 1000) : J q δ (tLst tr) c (fun d => ∃ fs : List (List Int), ((∀ f ∈ fs, GP f) ∧ fs.length = m) ∧ d = .list (fs.map pol)) :=
  (j_lst (Ψ := fun ds => ∃ fs : List (List Int), ((∀ f ∈ fs, GP f) ∧ fs.length = m) ∧ ds = fs.map pol) (h.imp fun sls ⟨fs, h1, h2, e⟩ => ⟨fs.map pol, e, by rw [List.length_map]; omega, fs, ⟨h1, h2⟩, rfl⟩)).imp fun d ⟨ds, ⟨fs, h, e⟩, e2⟩ => ⟨fs, h, by rw [e2, e]⟩
theorem E.gp {te : TE} {f : List Int} (h : E q δ te (pol f)) (hf : GP f) : J q δ te 0 (fun d => ∃ f, GP f ∧ d = pol f) := J.imp h fun d e => ⟨f, hf, e⟩
theorem Pl_end (f : List Int) {a : Int} (h : a ≠ 0) : Pl (f ++ [a]) := by unfold Pl; rw [List.getLast?_append]; simp [h]
theorem Pl_tail {f : List Int} (h : Pl f) : Pl (f.drop 1) := by
  cases f with
  | nil => exact h
  | cons a f =>
    cases f with
    | nil => simp [Pl]
    | cons b f => unfold Pl at h ⊢; rw [List.getLast?_cons_cons] at h; exact h
theorem rep_pol (k : Nat) (a : Int) : (List.replicate k [PyData.int 0]).flatten ++ [.int a] = (List.replicate k (0 : Int) ++ [a]).map .int := by
  rw [List.flatten_replicate_singleton, List.map_append, List.map_replicate]; rfl
end
end Cr

namespace Lw
open PySem PySem.Spec PyProof.Rows L2 Cr
def topS (i : Nat) : Stmt := PySem.Challenge.pw_changesums_k34_rules_judged.main.body.getD i (.Pass ⟨0, 0, 0, 0⟩)
abbrev s_is_an_integer : Stmt := topS 5
abbrev N_is_an_integer : List Str := ["value"]
abbrev P_is_an_integer : List Str := ["value"]
theorem sc_is_an_integer : FnScope N_is_an_integer P_is_an_integer (defScope s_is_an_integer) := ⟨rfl, rfl, rfl, by decide +kernel, rfl, by decide +kernel, by decide +kernel⟩
abbrev s_is_polynomial : Stmt := topS 7
abbrev N_is_polynomial : List Str := ["value", "number"]
abbrev P_is_polynomial : List Str := ["value"]
theorem sc_is_polynomial : FnScope N_is_polynomial P_is_polynomial (defScope s_is_polynomial) := ⟨rfl, rfl, rfl, by decide +kernel, rfl, by decide +kernel, by decide +kernel⟩
abbrev s_check_polynomial : Stmt := topS 8
abbrev N_check_polynomial : List Str := ["value"]
abbrev P_check_polynomial : List Str := ["value"]
theorem sc_check_polynomial : FnScope N_check_polynomial P_check_polynomial (defScope s_check_polynomial) := ⟨rfl, rfl, rfl, by decide +kernel, rfl, by decide +kernel, by decide +kernel⟩
abbrev s_is_sums : Stmt := topS 10
abbrev N_is_sums : List Str := ["value", "number"]
abbrev P_is_sums : List Str := ["value"]
theorem sc_is_sums : FnScope N_is_sums P_is_sums (defScope s_is_sums) := ⟨rfl, rfl, rfl, by decide +kernel, rfl, by decide +kernel, by decide +kernel⟩
abbrev s_check_sums : Stmt := topS 11
abbrev N_check_sums : List Str := ["value"]
abbrev P_check_sums : List Str := ["value"]
theorem sc_check_sums : FnScope N_check_sums P_check_sums (defScope s_check_sums) := ⟨rfl, rfl, rfl, by decide +kernel, rfl, by decide +kernel, by decide +kernel⟩
abbrev s_in_row : Stmt := topS 13
abbrev N_in_row : List Str := ["sums", "rule", "place", "factor", "number"]
abbrev P_in_row : List Str := ["sums", "rule", "place"]
theorem sc_in_row : FnScope N_in_row P_in_row (defScope s_in_row) := ⟨rfl, rfl, rfl, by decide +kernel, rfl, by decide +kernel, by decide +kernel⟩
abbrev s_first_fault : Stmt := topS 14
abbrev N_first_fault : List Str := ["sums", "rule", "start", "place"]
abbrev P_first_fault : List Str := ["sums", "rule", "start"]
theorem sc_first_fault : FnScope N_first_fault P_first_fault (defScope s_first_fault) := ⟨rfl, rfl, rfl, by decide +kernel, rfl, by decide +kernel, by decide +kernel⟩
abbrev s_is_rule : Stmt := topS 16
abbrev N_is_rule : List Str := ["sums", "polynomial"]
abbrev P_is_rule : List Str := ["sums", "polynomial"]
theorem sc_is_rule : FnScope N_is_rule P_is_rule (defScope s_is_rule) := ⟨rfl, rfl, rfl, by decide +kernel, rfl, by decide +kernel, by decide +kernel⟩
abbrev s__law_jar : Stmt := topS 18
abbrev N__law_jar : List Str := ["script", "at", "cell"]
abbrev P__law_jar : List Str := ["script", "at"]
theorem sc__law_jar : FnScope N__law_jar P__law_jar (defScope s__law_jar) := ⟨rfl, rfl, rfl, by decide +kernel, rfl, by decide +kernel, by decide +kernel⟩
abbrev s__law_pick : Stmt := topS 19
abbrev N__law_pick : List Str := ["jar", "below", "digit", "blend"]
abbrev P__law_pick : List Str := ["jar", "below"]
theorem sc__law_pick : FnScope N__law_pick P__law_pick (defScope s__law_pick) := ⟨rfl, rfl, rfl, by decide +kernel, rfl, by decide +kernel, by decide +kernel⟩
abbrev s__law_same : Stmt := topS 20
abbrev N__law_same : List Str := ["found", "due", "k"]
abbrev P__law_same : List Str := ["found", "due"]
theorem sc__law_same : FnScope N__law_same P__law_same (defScope s__law_same) := ⟨rfl, rfl, rfl, by decide +kernel, rfl, by decide +kernel, by decide +kernel⟩
abbrev s__law_gather : Stmt := topS 21
abbrev N__law_gather : List Str := ["rows_here", "table", "key_here", "by_here"]
abbrev P__law_gather : List Str := ["rows_here"]
theorem sc__law_gather : FnScope N__law_gather P__law_gather (defScope s__law_gather) := ⟨rfl, rfl, rfl, by decide +kernel, rfl, by decide +kernel, by decide +kernel⟩
abbrev s__law_amount : Stmt := topS 22
abbrev N__law_amount : List Str := ["jar", "most_here", "amount_here"]
abbrev P__law_amount : List Str := ["jar", "most_here"]
theorem sc__law_amount : FnScope N__law_amount P__law_amount (defScope s__law_amount) := ⟨rfl, rfl, rfl, by decide +kernel, rfl, by decide +kernel, by decide +kernel⟩
abbrev s__law_sums : Stmt := topS 23
abbrev N__law_sums : List Str := ["book", "size", "found", "terms", "j", "key_here", "amount_here", "k"]
abbrev P__law_sums : List Str := ["book", "size"]
theorem sc__law_sums : FnScope N__law_sums P__law_sums (defScope s__law_sums) := ⟨rfl, rfl, rfl, by decide +kernel, rfl, by decide +kernel, by decide +kernel⟩
abbrev s__law_wide : Stmt := topS 24
abbrev N__law_wide : List Str := ["jar", "pieces", "found", "turn"]
abbrev P__law_wide : List Str := ["jar", "pieces"]
theorem sc__law_wide : FnScope N__law_wide P__law_wide (defScope s__law_wide) := ⟨rfl, rfl, rfl, by decide +kernel, rfl, by decide +kernel, by decide +kernel⟩
abbrev s__law_trim : Stmt := topS 25
abbrev N__law_trim : List Str := ["row", "size"]
abbrev P__law_trim : List Str := ["row"]
theorem sc__law_trim : FnScope N__law_trim P__law_trim (defScope s__law_trim) := ⟨rfl, rfl, rfl, by decide +kernel, rfl, by decide +kernel, by decide +kernel⟩
abbrev s__law_by : Stmt := topS 26
abbrev N__law_by : List Str := ["f", "g", "found", "i", "j"]
abbrev P__law_by : List Str := ["f", "g"]
theorem sc__law_by : FnScope N__law_by P__law_by (defScope s__law_by) := ⟨rfl, rfl, rfl, by decide +kernel, rfl, by decide +kernel, by decide +kernel⟩
abbrev s__law_gcd : Stmt := topS 27
abbrev N__law_gcd : List Str := ["a", "b"]
abbrev P__law_gcd : List Str := ["a", "b"]
theorem sc__law_gcd : FnScope N__law_gcd P__law_gcd (defScope s__law_gcd) := ⟨rfl, rfl, rfl, by decide +kernel, rfl, by decide +kernel, by decide +kernel⟩
abbrev s__law_poly : Stmt := topS 28
abbrev N__law_poly : List Str := ["jar", "degrees", "size", "row", "k"]
abbrev P__law_poly : List Str := ["jar", "degrees", "size"]
theorem sc__law_poly : FnScope N__law_poly P__law_poly (defScope s__law_poly) := ⟨rfl, rfl, rfl, by decide +kernel, rfl, by decide +kernel, by decide +kernel⟩
abbrev s__law_kept : Stmt := topS 29
abbrev N__law_kept : List Str := ["jar", "degrees", "size", "f"]
abbrev P__law_kept : List Str := ["jar", "degrees", "size"]
theorem sc__law_kept : FnScope N__law_kept P__law_kept (defScope s__law_kept) := ⟨rfl, rfl, rfl, by decide +kernel, rfl, by decide +kernel, by decide +kernel⟩
abbrev s__law_multiplied : Stmt := topS 30
abbrev N__law_multiplied : List Str := ["table", "found", "f", "turn"]
abbrev P__law_multiplied : List Str := ["table"]
theorem sc__law_multiplied : FnScope N__law_multiplied P__law_multiplied (defScope s__law_multiplied) := ⟨rfl, rfl, rfl, by decide +kernel, rfl, by decide +kernel, by decide +kernel⟩
abbrev s__law_ledger : Stmt := topS 31
abbrev N__law_ledger : List Str := ["jar", "many_here", "reach", "most_here", "base", "rows_here", "k"]
abbrev P__law_ledger : List Str := ["jar", "many_here"]
theorem sc__law_ledger : FnScope N__law_ledger P__law_ledger (defScope s__law_ledger) := ⟨rfl, rfl, rfl, by decide +kernel, rfl, by decide +kernel, by decide +kernel⟩
abbrev s__law_slim : Stmt := topS 32
abbrev N__law_slim : List Str := ["row", "measure", "value"]
abbrev P__law_slim : List Str := ["row"]
theorem sc__law_slim : FnScope N__law_slim P__law_slim (defScope s__law_slim) := ⟨rfl, rfl, rfl, by decide +kernel, rfl, by decide +kernel, by decide +kernel⟩
abbrev s__law_shortest : Stmt := topS 33
abbrev N__law_shortest : List Str := ["s", "now", "last", "size", "wait", "gap", "at", "miss", "fresh", "i", "value"]
abbrev P__law_shortest : List Str := ["s"]
theorem sc__law_shortest : FnScope N__law_shortest P__law_shortest (defScope s__law_shortest) := ⟨rfl, rfl, rfl, by decide +kernel, rfl, by decide +kernel, by decide +kernel⟩
abbrev s__law_split : Stmt := topS 34
abbrev N__law_split : List Str := ["jar", "part_here", "rest_here", "table", "reach", "few", "turn", "first", "key_here"]
abbrev P__law_split : List Str := ["jar"]
theorem sc__law_split : FnScope N__law_split P__law_split (defScope s__law_split) := ⟨rfl, rfl, rfl, by decide +kernel, rfl, by decide +kernel, by decide +kernel⟩
abbrev s__law_grown : Stmt := topS 35
abbrev N__law_grown : List Str := ["jar", "size", "table", "turn", "some", "f", "row", "k", "i"]
abbrev P__law_grown : List Str := ["jar", "size"]
theorem sc__law_grown : FnScope N__law_grown P__law_grown (defScope s__law_grown) := ⟨rfl, rfl, rfl, by decide +kernel, rfl, by decide +kernel, by decide +kernel⟩
abbrev s__law_some_sums : Stmt := topS 36
abbrev N__law_some_sums : List Str := ["jar", "kind", "size", "row", "spot", "rows_here", "part_here", "k", "value"]
abbrev P__law_some_sums : List Str := ["jar"]
theorem sc__law_some_sums : FnScope N__law_some_sums P__law_some_sums (defScope s__law_some_sums) := ⟨rfl, rfl, rfl, by decide +kernel, rfl, by decide +kernel, by decide +kernel⟩
abbrev s__law_due : Stmt := topS 37
abbrev N__law_due : List Str := ["s", "f", "at", "i"]
abbrev P__law_due : List Str := ["s", "f"]
theorem sc__law_due : FnScope N__law_due P__law_due (defScope s__law_due) := ⟨rfl, rfl, rfl, by decide +kernel, rfl, by decide +kernel, by decide +kernel⟩
abbrev s__law_right : Stmt := topS 38
abbrev N__law_right : List Str := ["s", "f", "due"]
abbrev P__law_right : List Str := ["s", "f"]
theorem sc__law_right : FnScope N__law_right P__law_right (defScope s__law_right) := ⟨rfl, rfl, rfl, by decide +kernel, rfl, by decide +kernel, by decide +kernel⟩
abbrev s__law_polys : Stmt := topS 39
abbrev N__law_polys : List Str := ["jar", "s", "book", "f", "key_here", "amount_here", "size", "now", "g", "some", "i", "part_here"]
abbrev P__law_polys : List Str := ["jar", "s", "book"]
theorem sc__law_polys : FnScope N__law_polys P__law_polys (defScope s__law_polys) := ⟨rfl, rfl, rfl, by decide +kernel, rfl, by decide +kernel, by decide +kernel⟩
abbrev s_law : Stmt := topS 40
abbrev N_law : List Str := ["script", "at", "jar", "book", "s", "f"]
abbrev P_law : List Str := ["script"]
theorem sc_law : FnScope N_law P_law (defScope s_law) := ⟨rfl, rfl, rfl, by decide +kernel, rfl, by decide +kernel, by decide +kernel⟩
structure Tx (K : PySem.W.Frag) (mg : Str → Option Value) where
  a_is_an_integer : Addr
  fd_is_an_integer : FuncData
  F_is_an_integer : Fun K "is_an_integer" "is_an_integer" s_is_an_integer a_is_an_integer fd_is_an_integer
  b_is_an_integer : Binds K fd_is_an_integer P_is_an_integer []
  m_is_an_integer : mg "is_an_integer" = some (.ref a_is_an_integer)
  a_is_polynomial : Addr
  fd_is_polynomial : FuncData
  F_is_polynomial : Fun K "is_polynomial" "is_polynomial" s_is_polynomial a_is_polynomial fd_is_polynomial
  b_is_polynomial : Binds K fd_is_polynomial P_is_polynomial []
  m_is_polynomial : mg "is_polynomial" = some (.ref a_is_polynomial)
  a_check_polynomial : Addr
  fd_check_polynomial : FuncData
  F_check_polynomial : Fun K "check_polynomial" "check_polynomial" s_check_polynomial a_check_polynomial fd_check_polynomial
  b_check_polynomial : Binds K fd_check_polynomial P_check_polynomial []
  m_check_polynomial : mg "check_polynomial" = some (.ref a_check_polynomial)
  a_is_sums : Addr
  fd_is_sums : FuncData
  F_is_sums : Fun K "is_sums" "is_sums" s_is_sums a_is_sums fd_is_sums
  b_is_sums : Binds K fd_is_sums P_is_sums []
  m_is_sums : mg "is_sums" = some (.ref a_is_sums)
  a_check_sums : Addr
  fd_check_sums : FuncData
  F_check_sums : Fun K "check_sums" "check_sums" s_check_sums a_check_sums fd_check_sums
  b_check_sums : Binds K fd_check_sums P_check_sums []
  m_check_sums : mg "check_sums" = some (.ref a_check_sums)
  a_in_row : Addr
  fd_in_row : FuncData
  F_in_row : Fun K "in_row" "in_row" s_in_row a_in_row fd_in_row
  b_in_row : Binds K fd_in_row P_in_row []
  m_in_row : mg "in_row" = some (.ref a_in_row)
  a_first_fault : Addr
  fd_first_fault : FuncData
  F_first_fault : Fun K "first_fault" "first_fault" s_first_fault a_first_fault fd_first_fault
  b_first_fault : Binds K fd_first_fault P_first_fault []
  m_first_fault : mg "first_fault" = some (.ref a_first_fault)
  a_is_rule : Addr
  fd_is_rule : FuncData
  F_is_rule : Fun K "is_rule" "is_rule" s_is_rule a_is_rule fd_is_rule
  b_is_rule : Binds K fd_is_rule P_is_rule []
  m_is_rule : mg "is_rule" = some (.ref a_is_rule)
  a__law_jar : Addr
  fd__law_jar : FuncData
  F__law_jar : Fun K "_law_jar" "_law_jar" s__law_jar a__law_jar fd__law_jar
  b__law_jar : Binds K fd__law_jar P__law_jar []
  m__law_jar : mg "_law_jar" = some (.ref a__law_jar)
  a__law_pick : Addr
  fd__law_pick : FuncData
  F__law_pick : Fun K "_law_pick" "_law_pick" s__law_pick a__law_pick fd__law_pick
  b__law_pick : Binds K fd__law_pick P__law_pick []
  m__law_pick : mg "_law_pick" = some (.ref a__law_pick)
  a__law_same : Addr
  fd__law_same : FuncData
  F__law_same : Fun K "_law_same" "_law_same" s__law_same a__law_same fd__law_same
  b__law_same : Binds K fd__law_same P__law_same []
  m__law_same : mg "_law_same" = some (.ref a__law_same)
  a__law_gather : Addr
  fd__law_gather : FuncData
  F__law_gather : Fun K "_law_gather" "_law_gather" s__law_gather a__law_gather fd__law_gather
  b__law_gather : Binds K fd__law_gather P__law_gather []
  m__law_gather : mg "_law_gather" = some (.ref a__law_gather)
  a__law_amount : Addr
  fd__law_amount : FuncData
  F__law_amount : Fun K "_law_amount" "_law_amount" s__law_amount a__law_amount fd__law_amount
  b__law_amount : Binds K fd__law_amount P__law_amount []
  m__law_amount : mg "_law_amount" = some (.ref a__law_amount)
  a__law_sums : Addr
  fd__law_sums : FuncData
  F__law_sums : Fun K "_law_sums" "_law_sums" s__law_sums a__law_sums fd__law_sums
  b__law_sums : Binds K fd__law_sums P__law_sums []
  m__law_sums : mg "_law_sums" = some (.ref a__law_sums)
  a__law_wide : Addr
  fd__law_wide : FuncData
  F__law_wide : Fun K "_law_wide" "_law_wide" s__law_wide a__law_wide fd__law_wide
  b__law_wide : Binds K fd__law_wide P__law_wide []
  m__law_wide : mg "_law_wide" = some (.ref a__law_wide)
  a__law_trim : Addr
  fd__law_trim : FuncData
  F__law_trim : Fun K "_law_trim" "_law_trim" s__law_trim a__law_trim fd__law_trim
  b__law_trim : Binds K fd__law_trim P__law_trim []
  m__law_trim : mg "_law_trim" = some (.ref a__law_trim)
  a__law_by : Addr
  fd__law_by : FuncData
  F__law_by : Fun K "_law_by" "_law_by" s__law_by a__law_by fd__law_by
  b__law_by : Binds K fd__law_by P__law_by []
  m__law_by : mg "_law_by" = some (.ref a__law_by)
  a__law_gcd : Addr
  fd__law_gcd : FuncData
  F__law_gcd : Fun K "_law_gcd" "_law_gcd" s__law_gcd a__law_gcd fd__law_gcd
  b__law_gcd : Binds K fd__law_gcd P__law_gcd []
  m__law_gcd : mg "_law_gcd" = some (.ref a__law_gcd)
  a__law_poly : Addr
  fd__law_poly : FuncData
  F__law_poly : Fun K "_law_poly" "_law_poly" s__law_poly a__law_poly fd__law_poly
  b__law_poly : Binds K fd__law_poly P__law_poly []
  m__law_poly : mg "_law_poly" = some (.ref a__law_poly)
  a__law_kept : Addr
  fd__law_kept : FuncData
  F__law_kept : Fun K "_law_kept" "_law_kept" s__law_kept a__law_kept fd__law_kept
  b__law_kept : Binds K fd__law_kept P__law_kept []
  m__law_kept : mg "_law_kept" = some (.ref a__law_kept)
  a__law_multiplied : Addr
  fd__law_multiplied : FuncData
  F__law_multiplied : Fun K "_law_multiplied" "_law_multiplied" s__law_multiplied a__law_multiplied fd__law_multiplied
  b__law_multiplied : Binds K fd__law_multiplied P__law_multiplied []
  m__law_multiplied : mg "_law_multiplied" = some (.ref a__law_multiplied)
  a__law_ledger : Addr
  fd__law_ledger : FuncData
  F__law_ledger : Fun K "_law_ledger" "_law_ledger" s__law_ledger a__law_ledger fd__law_ledger
  b__law_ledger : Binds K fd__law_ledger P__law_ledger []
  m__law_ledger : mg "_law_ledger" = some (.ref a__law_ledger)
  a__law_slim : Addr
  fd__law_slim : FuncData
  F__law_slim : Fun K "_law_slim" "_law_slim" s__law_slim a__law_slim fd__law_slim
  b__law_slim : Binds K fd__law_slim P__law_slim []
  m__law_slim : mg "_law_slim" = some (.ref a__law_slim)
  a__law_shortest : Addr
  fd__law_shortest : FuncData
  F__law_shortest : Fun K "_law_shortest" "_law_shortest" s__law_shortest a__law_shortest fd__law_shortest
  b__law_shortest : Binds K fd__law_shortest P__law_shortest []
  m__law_shortest : mg "_law_shortest" = some (.ref a__law_shortest)
  a__law_split : Addr
  fd__law_split : FuncData
  F__law_split : Fun K "_law_split" "_law_split" s__law_split a__law_split fd__law_split
  b__law_split : Binds K fd__law_split P__law_split []
  m__law_split : mg "_law_split" = some (.ref a__law_split)
  a__law_grown : Addr
  fd__law_grown : FuncData
  F__law_grown : Fun K "_law_grown" "_law_grown" s__law_grown a__law_grown fd__law_grown
  b__law_grown : Binds K fd__law_grown P__law_grown []
  m__law_grown : mg "_law_grown" = some (.ref a__law_grown)
  a__law_some_sums : Addr
  fd__law_some_sums : FuncData
  F__law_some_sums : Fun K "_law_some_sums" "_law_some_sums" s__law_some_sums a__law_some_sums fd__law_some_sums
  b__law_some_sums : Binds K fd__law_some_sums P__law_some_sums []
  m__law_some_sums : mg "_law_some_sums" = some (.ref a__law_some_sums)
  a__law_due : Addr
  fd__law_due : FuncData
  F__law_due : Fun K "_law_due" "_law_due" s__law_due a__law_due fd__law_due
  b__law_due : Binds K fd__law_due P__law_due []
  m__law_due : mg "_law_due" = some (.ref a__law_due)
  a__law_right : Addr
  fd__law_right : FuncData
  F__law_right : Fun K "_law_right" "_law_right" s__law_right a__law_right fd__law_right
  b__law_right : Binds K fd__law_right P__law_right []
  m__law_right : mg "_law_right" = some (.ref a__law_right)
  a__law_polys : Addr
  fd__law_polys : FuncData
  F__law_polys : Fun K "_law_polys" "_law_polys" s__law_polys a__law_polys fd__law_polys
  b__law_polys : Binds K fd__law_polys P__law_polys []
  m__law_polys : mg "_law_polys" = some (.ref a__law_polys)
  a_law : Addr
  fd_law : FuncData
  F_law : Fun K "law" "law" s_law a_law fd_law
  b_law : Binds K fd_law P_law []
  m_law : mg "law" = some (.ref a_law)
  z_abs : mg "abs" = none
  z_all : mg "all" = none
  z_bool : mg "bool" = none
  z_int : mg "int" = none
  z_isinstance : mg "isinstance" = none
  z_len : mg "len" = none
  z_list : mg "list" = none
  z_max : mg "max" = none
  z_min : mg "min" = none
  z_range : mg "range" = none
  z_sorted : mg "sorted" = none
  z_sum : mg "sum" = none
  z_tuple : mg "tuple" = none
  z_zip : mg "zip" = none
def g_kb_is_rule_0_polynomial_sums {α : Type} (us ws : List α) : List α := match us, ws with
  | [], [k0, k1] => [k1, k0]
  | _, _ => []
theorem kb_is_rule_0_polynomial_sums {K : PySem.W.Frag} {f : Addr} {fd : FuncData} (F : Fun K "is_rule" "is_rule" s_is_rule f fd) : KBinds K fd P_is_rule ["polynomial", "sums"] g_kb_is_rule_0_polynomial_sums g_kb_is_rule_0_polynomial_sums where
  to := fun s us ws _ hl => by
    obtain ⟨oc, od, kV, doc, pm, an, cdv, ct, osl, rfl, lk, hcd⟩ := F.ex
    unfold g_kb_is_rule_0_polynomial_sums at hl ⊢
    split at hl
    · exact .of_eq rfl
    · exact absurd hl (by decide)
  rel := fun {vs us zs ws} h1 h2 => by
    rcases h1 with _ | ⟨_, _⟩ <;> rcases h2 with _ | ⟨rk0, _ | ⟨rk1, _ | ⟨_, _⟩⟩⟩ <;> first | exact (.cons rk1 (.cons rk0 .nil)) | exact .nil
theorem v_kb_is_rule_0_polynomial_sums {H : Hp} {uk0 uk1 : Sl} : ∀ vs zs : List V, VS H vs [] → VS H zs [uk0, uk1] → VS H (g_kb_is_rule_0_polynomial_sums vs zs) [uk1, uk0] := by
  intro vs zs h1 h2
  have za := VS.inv0 h1
  subst za
  obtain ⟨wk0, tk0, rfl, qk0, rk0⟩ := VS.inv1 h2
  obtain ⟨wk1, tk1, rfl, qk1, rk1⟩ := VS.inv1 rk0
  have zb := VS.inv0 rk1
  subst zb
  exact (VS.cons qk1 (VS.cons qk0 VS.nil))
section
variable {P : Program} {w : World} {K : PySem.W.Frag} {mg : Str → Option Value} {base : Heap}
/-! ### is_an_integer -/
def R_is_an_integer : RelX := fun _ sls c Φ => c = 0 ∧ ∃ d, sls = [.dat d] ∧ Φ = fun x => x = .bool (isIntD d)
theorem ok_is_an_integer (T : Tx K mg) : FnOk P w K mg base CX0 1 T.a_is_an_integer T.fd_is_an_integer P_is_an_integer (spX R_is_an_integer) := by
  refine fn_ok T.F_is_an_integer sc_is_an_integer (by decide) (fun q sls c Φ h => by obtain ⟨_, d, rfl, _⟩ := h; rfl) fun cdv A outer s B0 Ew hr => ⟨_,
    (pss_one (ps_ret (pe_and (pe_callB (k_isi (K := K) rfl) (by rfl) T.z_isinstance (by decide +kernel) (pa_cons (pv 0) (pa_cons (pe_bltn (v := .ty "int") (by rfl) T.z_int (by decide +kernel) rfl) pa_nil))) (pe_one (pe_not (pe_callB (k_isi (K := K) rfl) (by rfl) T.z_isinstance (by decide +kernel) (pa_cons (pv 0) (pa_cons (pe_bltn (v := .ty "bool") (by rfl) T.z_bool (by decide +kernel) rfl) pa_nil)))))))), fun q sls n c Φ A0 σ Q hR hA fin => ?_⟩
  obtain ⟨rfl, d, rfl, rfl⟩ := hR
  exact s_retE (e_andV (e_isi (e_var rfl) (kit_int d)) (fun _ => e_notV (e_isi (e_var rfl) (kit_bool d)))) hA (Nat.le_refl _) fin (by rw [isInt_eq])
/-! ### is_polynomial -/
def R_is_polynomial : RelX := fun _ sls c Φ => c = 0 ∧ ∃ f, Pl f ∧ f.length ≤ 100000 ∧ sls = [.dat (pol f)] ∧ Φ = fun x => x = .bool true
theorem ok_is_polynomial (T : Tx K mg) : FnOk P w K mg base CX0 2 T.a_is_polynomial T.fd_is_polynomial P_is_polynomial (spX R_is_polynomial) := by
  have G_is_an_integer := ok_is_an_integer (P := P) (w := w) (base := base) T
  refine fn_ok T.F_is_polynomial sc_is_polynomial (by decide) (fun q sls c Φ h => by obtain ⟨_, f, _, _, rfl, _⟩ := h; rfl) fun cdv A outer s B0 Ew hr => ⟨_,
    (pss_cons (ps_if (PW.pt (pw_or (pt_not (pt_val (pe_callB (k_isi (K := K) rfl) (by rfl) T.z_isinstance (by decide +kernel) (pa_cons (pv 0) (pa_cons (pe_bltn (v := .ty "tuple") (by rfl) T.z_tuple (by decide +kernel) rfl) pa_nil))))) (pw_or1 (pt_not (pt_val (pe_callB (k_all (K := K) rfl rfl) (by rfl) T.z_all (by decide +kernel) (pa_cons (pe_lc (own := [("number", 1)]) rfl sc_is_polynomial.nd (k_piTup (K := K) rfl (pv 0)) (blkOk_by (own := [("number", 1)]) (N := N_is_polynomial) (sc := defScope s_is_polynomial) (by decide +kernel)) (fun _ _ _ _ _ => (pg_name (i := 1) sc_is_polynomial.nd rfl (Or.inl rfl))) (fun _ _ _ _ _ => pts_nil) (fun _ _ _ _ _ => (pe_call G_is_an_integer (hr.mono (by decide)) (by rfl) T.m_is_an_integer T.F_is_an_integer.kp T.b_is_an_integer .nil pass0 (pa_cons (pv 1) pa_nil)))) pa_nil))))))) (pss_one (ps_ret pe_bl)) pss_nil)
      (pss_one (ps_ret (pe_or (pe_cmpR (k_eqD (K := K) rfl hr.units) (pv 0) (Cr.pe_tup pa_nil) (nomark _)) (pe_one (pe_cmpR (k_neD (K := K) rfl hr.units) (pe_ix (k_ix (K := K) rfl) (pv 0) (pe_un un_neg pe_int) (fun _ _ => rfl)) pe_int (nomark _))))))), fun q sls n c Φ A0 σ Q hR hA fin => ?_⟩
  obtain ⟨rfl, f, hP, hl, rfl, rfl⟩ := hR
  refine q_whenB (b := false) (tb_is (tb_or (b := false) (tb_not (tb_B (e_isi (e_var rfl) (kit_tuple _)))) fun _ => tb_is (tb_not (tb_B (e_is (e_all (bs := f.map fun _ => true) (e_is (e_lc1 (vs := [1]) (emb := PyData.int) (xs := f) (ie_tup (e_var rfl)) (fun _ => .bool true) (by omega) fun x hx => ⟨_, gb_name (by simp), j_call (R := R_is_an_integer) (ae_cons (e_var rfl) ae_nil) fun sls e => ⟨rfl, .int x, e, rfl⟩⟩) (by rw [bools_map]))) (by rw [all_id_map])))) (by simp)) rfl) hA (fun h => by cases h) fun _ Hk1 H1 g1 a1 => ?_
  by_cases hf : f = []
  · subst hf
    exact s_retE (d := .bool true) (e_is (e_orV (a := true) (b := true) (e_is (e_eqD (e_var rfl) (e_tup (ds := []) ae_nil) (pol_shape []) rfl) (by rw [eqv_pol_nil]; rfl)) (fun h => by cases h)) rfl) a1 (Nat.le_refl _) fin rfl
  · obtain ⟨a, ha⟩ : ∃ a, f.getLast? = some a := ⟨f.getLast hf, List.getLast?_eq_some_getLast hf⟩
    have ha0 : (a == 0) = false := by
      by_cases h : a = 0
      · rw [h] at ha; exact absurd ha hP
      · simpa using h
    exact s_retE (d := .bool true) (e_is (e_orV (b := true) (e_is (e_eqD (e_var rfl) (e_tup (ds := []) ae_nil) (pol_shape f) rfl) (by rw [eqv_pol_nil])) (fun _ => e_is (e_neDI (e_iT (e_var rfl) (e_un e_int) (pol_last ha)) e_int) (by rw [ha0]; rfl))) (by simp)) a1 (Nat.le_refl _) fin rfl
/-! ### check_polynomial -/
def R_check_polynomial : RelX := fun _ sls c Φ => c = 0 ∧ ∃ f, Pl f ∧ f.length ≤ 100000 ∧ sls = [.dat (pol f)] ∧ Φ = fun x => x = .none
theorem ok_check_polynomial (T : Tx K mg) : FnOk P w K mg base CX0 3 T.a_check_polynomial T.fd_check_polynomial P_check_polynomial (spX R_check_polynomial) := by
  have G_is_polynomial := ok_is_polynomial (P := P) (w := w) (base := base) T
  refine fn_ok T.F_check_polynomial sc_check_polynomial (by decide) (fun q sls c Φ h => by obtain ⟨_, f, _, _, rfl, _⟩ := h; rfl) fun cdv A outer s B0 Ew hr => ⟨_,
    (pss_one (ps_if (pt_not (pt_val (pe_call G_is_polynomial (hr.mono (by decide)) (by rfl) T.m_is_polynomial T.F_is_polynomial.kp T.b_is_polynomial .nil pass0 (pa_cons (pv 0) pa_nil)))) (pss_one ps_never) pss_nil)), fun q sls n c Φ A0 σ Q hR hA fin => ?_⟩
  obtain ⟨rfl, f, hP, hl, rfl, rfl⟩ := hR
  exact s_ifNo (tb_is (tb_not (tb_B (j_call (R := R_is_polynomial) (ae_cons (e_var rfl) ae_nil) fun sls e => ⟨rfl, f, hP, hl, e, rfl⟩))) rfl) hA fun Hk' H2 g a => s_end a (Nat.le_refl _) fin rfl
/-! ### is_sums -/
def R_is_sums : RelX := fun _ sls c Φ => c = 0 ∧ ∃ f : List Int, f ≠ [] ∧ f.length ≤ 100000 ∧ sls = [.dat (pol f)] ∧ Φ = fun x => x = .bool true
theorem ok_is_sums (T : Tx K mg) : FnOk P w K mg base CX0 2 T.a_is_sums T.fd_is_sums P_is_sums (spX R_is_sums) := by
  have G_is_an_integer := ok_is_an_integer (P := P) (w := w) (base := base) T
  refine fn_ok T.F_is_sums sc_is_sums (by decide) (fun q sls c Φ h => by obtain ⟨_, f, _, _, rfl, _⟩ := h; rfl) fun cdv A outer s B0 Ew hr => ⟨_,
    (pss_one (ps_ret (pe_and (pe_callB (k_isi (K := K) rfl) (by rfl) T.z_isinstance (by decide +kernel) (pa_cons (pv 0) (pa_cons (pe_bltn (v := .ty "tuple") (by rfl) T.z_tuple (by decide +kernel) rfl) pa_nil))) (pe_and (pe_cmpR op_gt (pe_callB (k_len (K := K) rfl) (by rfl) T.z_len (by decide +kernel) (pa_cons (pv 0) pa_nil)) pe_int (nomark _)) (pe_one (pe_callB (k_all (K := K) rfl rfl) (by rfl) T.z_all (by decide +kernel) (pa_cons (pe_lc (own := [("number", 1)]) rfl sc_is_sums.nd (k_piTup (K := K) rfl (pv 0)) (blkOk_by (own := [("number", 1)]) (N := N_is_sums) (sc := defScope s_is_sums) (by decide +kernel)) (fun _ _ _ _ _ => (pg_name (i := 1) sc_is_sums.nd rfl (Or.inl rfl))) (fun _ _ _ _ _ => pts_nil) (fun _ _ _ _ _ => (pe_call G_is_an_integer (hr.mono (by decide)) (by rfl) T.m_is_an_integer T.F_is_an_integer.kp T.b_is_an_integer .nil pass0 (pa_cons (pv 1) pa_nil)))) pa_nil))))))), fun q sls n c Φ A0 σ Q hR hA fin => ?_⟩
  obtain ⟨rfl, f, hf, hl, rfl, rfl⟩ := hR
  have h0 : 0 < f.length := List.length_pos_iff.mpr hf
  refine s_retE (d := .bool true) (e_is (e_andV (a := true) (b := true) (e_isi (e_var rfl) (kit_tuple _)) fun _ => e_is (e_andV (a := true) (b := true) (e_is (e_gtI (e_lenT (e_var rfl)) e_int) (by rw [pol_len, decide_eq_true (by omega)])) fun _ => e_is (e_all (bs := f.map fun _ => true) (e_is (e_lc1 (vs := [1]) (emb := PyData.int) (xs := f) (ie_tup (e_var rfl)) (fun _ => .bool true) (by omega) fun x hx => ⟨_, gb_name (by simp), j_call (R := R_is_an_integer) (ae_cons (e_var rfl) ae_nil) fun sls e => ⟨rfl, .int x, e, rfl⟩⟩) (by rw [bools_map]))) (by rw [all_id_map]; simp)) rfl) rfl) hA (Nat.le_refl _) fin rfl
/-! ### check_sums -/
def R_check_sums : RelX := fun _ sls c Φ => c = 0 ∧ ∃ f : List Int, f ≠ [] ∧ f.length ≤ 100000 ∧ sls = [.dat (pol f)] ∧ Φ = fun x => x = .none
theorem ok_check_sums (T : Tx K mg) : FnOk P w K mg base CX0 3 T.a_check_sums T.fd_check_sums P_check_sums (spX R_check_sums) := by
  have G_is_sums := ok_is_sums (P := P) (w := w) (base := base) T
  refine fn_ok T.F_check_sums sc_check_sums (by decide) (fun q sls c Φ h => by obtain ⟨_, f, _, _, rfl, _⟩ := h; rfl) fun cdv A outer s B0 Ew hr => ⟨_,
    (pss_one (ps_if (pt_not (pt_val (pe_call G_is_sums (hr.mono (by decide)) (by rfl) T.m_is_sums T.F_is_sums.kp T.b_is_sums .nil pass0 (pa_cons (pv 0) pa_nil)))) (pss_one ps_never) pss_nil)), fun q sls n c Φ A0 σ Q hR hA fin => ?_⟩
  obtain ⟨rfl, f, hf, hl, rfl, rfl⟩ := hR
  exact s_ifNo (tb_is (tb_not (tb_B (j_call (R := R_is_sums) (ae_cons (e_var rfl) ae_nil) fun sls e => ⟨rfl, f, hf, hl, e, rfl⟩))) rfl) hA fun Hk' H2 g a => s_end a (Nat.le_refl _) fin rfl
/-! ### in_row -/
def R_in_row : RelX := fun _ sls c Φ => c = 0 ∧ ∃ (s f : List Int) (a : Nat), a + f.length ≤ s.length ∧ CB 9000 s ∧ CB 10000 f ∧ s.length ≤ 400 ∧ sls = [.dat (pol s), .dat (pol f), .dat (.int (a : Int))] ∧ Φ = fun d => d = .int (rowS s f a)
theorem ok_in_row (T : Tx K mg) : FnOk P w K mg base CX0 1 T.a_in_row T.fd_in_row P_in_row (spX R_in_row) := by
  refine fn_ok T.F_in_row sc_in_row (by decide) (fun q sls c Φ h => by obtain ⟨_, s, f, a, _, _, _, _, rfl, _⟩ := h; rfl) fun cdv A outer s B0 Ew hr => ⟨_,
    (pss_one (ps_ret (pe_callB (k_sum (K := K) rfl rfl) (by rfl) T.z_sum (by decide +kernel) (pa_cons (pe_lc (own := [("factor", 3), ("number", 4)]) rfl sc_in_row.nd (k_piZip (K := K) rfl rfl T.z_zip (pa_cons (pv 1) (pa_cons (pe_slice (k_sl (K := K) rfl) (pv 0) (po_some (pv 2)) (po_some (pe_op (k_addU (K := K) rfl) (pv 2) (pe_callB (k_len (K := K) rfl) (by rfl) T.z_len (by decide +kernel) (pa_cons (pv 1) pa_nil))))) pa_nil))) (blkOk_by (own := [("factor", 3), ("number", 4)]) (N := N_in_row) (sc := defScope s_in_row) (by decide +kernel)) (fun _ _ _ _ _ => (k_pgTup (K := K) (n := 2) rfl rfl (pgs_cons (pg_name (i := 3) sc_in_row.nd rfl (Or.inl rfl)) (pgs_cons (pg_name (i := 4) sc_in_row.nd rfl (Or.inl rfl)) pgs_nil)))) (fun _ _ _ _ _ => pts_nil) (fun _ _ _ _ _ => (pe_op op_mulU (pv 3) (pv 4)))) pa_nil)))), fun q sls n c Φ A0 σ Q hR hA fin => ?_⟩
  obtain ⟨rfl, s, f, a, hl, hs, hf, hsl, rfl, rfl⟩ := hR
  refine s_retE (d := .int (rowS s f a)) (e_is (e_sum (ns := zmul f ((s.drop a).take f.length)) (e_is (e_lc1 (vs := [3, 4]) (emb := pr) (xs := f.zip ((s.drop a).take f.length)) ((ie_zipT (ds := f.map .int) (es := ((s.drop a).take f.length).map .int) (e_var rfl) (e_is (e_slT (ds := s.map .int) (lo := some (a : Int)) (hi := some ((a + f.length : Nat) : Int)) (e_var rfl) (to_some (e_var rfl)) (to_some (e_is (e_addI (e_var rfl) (e_is (e_lenT (e_var rfl)) (d1 := .int ((f.length : Nat) : Int)) (by rw [pol_len]))) (by congr 1)))) (by rw [cutD_mid _ (by rw [List.length_map]; omega) (by rw [List.length_map]; omega), ← List.map_drop, ← List.map_take, show a + f.length - a = f.length by omega]))).is (zipD_ints _ _)) (fun x => .int (x.1 * x.2)) (by rw [List.length_zip]; omega) fun x hx => ⟨_, gb_tup2 (by simp) (by simp), e_mulI (e_var rfl) (e_var rfl) ?_⟩) (by unfold zmul; rw [List.map_map]; rfl))) (by rw [row_zip hl])) hA (Nat.le_refl _) fin rfl
  have hz := List.of_mem_zip (a := x.1) (b := x.2) hx
  exact wide_mul (hf _ hz.1) (hs _ (List.mem_of_mem_drop (List.mem_of_mem_take hz.2))) (by omega) (by omega) (by omega)
/-! ### first_fault -/
def R_first_fault : RelX := fun _ sls c Φ => c = 0 ∧ ∃ (s f : List Int), f.length ≤ s.length + 1 ∧ f ≠ [] ∧ CB 9000 s ∧ CB 10000 f ∧ s.length ≤ 400 ∧ sls = [.dat (pol s), .dat (pol f), .dat (.int 0)] ∧ Φ = fun d => d = fstD (s.length + 1 - f.length) (fun a => decide (rowS s f a ≠ 0)) fun k => (k : Int)
theorem ok_first_fault (T : Tx K mg) : FnOk P w K mg base CX0 2 T.a_first_fault T.fd_first_fault P_first_fault (spX R_first_fault) := by
  have G_in_row := ok_in_row (P := P) (w := w) (base := base) T
  refine fn_ok T.F_first_fault sc_first_fault (by decide) (fun q sls c Φ h => by obtain ⟨_, s, f, _, _, _, _, _, rfl, _⟩ := h; rfl) fun cdv A outer s B0 Ew hr => ⟨_,
    (pss_cons (ps_for PassesOwn.never rfl (pi_range2 rfl T.z_range (pa_cons (pv 2) (pa_cons (pe_op (k_addU (K := K) rfl) (pe_op op_sub (pe_callB (k_len (K := K) rfl) (by rfl) T.z_len (by decide +kernel) (pa_cons (pv 0) pa_nil)) (pe_callB (k_len (K := K) rfl) (by rfl) T.z_len (by decide +kernel) (pa_cons (pv 1) pa_nil))) pe_int) pa_nil))) (pg_name (i := 3) sc_first_fault.nd rfl (Or.inl rfl)) (pss_one (ps_if (pt_cmpR (k_neD (K := K) rfl hr.units) (pe_call G_in_row (hr.mono (by decide)) (by rfl) T.m_in_row T.F_in_row.kp T.b_in_row .nil pass0 (pa_cons (pv 0) (pa_cons (pv 1) (pa_cons (pv 3) pa_nil)))) pe_int (nomark _)) (pss_one (ps_ret (pv 3))) pss_nil)))
      (pss_one (ps_ret pe_non))), fun q sls n c Φ A0 σ Q hR hA fin => ?_⟩
  obtain ⟨rfl, s, f, hl, hne, hs, hf, hsl, rfl, rfl⟩ := hR
  have hfp := List.length_pos_iff.mpr hne
  refine q_for (n := n) (c := 0) (ie_rng2 (j := ((s.length + 1 - f.length : Nat) : Int)) (e_var rfl) (e_is (e_addI (e_subI (e_is (e_lenT (e_var rfl)) (d1 := .int ((s.length : Nat) : Int)) (by rw [pol_len])) (e_is (e_lenT (e_var rfl)) (d1 := .int ((f.length : Nat) : Int)) (by rw [pol_len]))) e_int) (by congr 1; omega)) ⟨by omega, by omega, by omega, by omega⟩) hA fun items HkW H2 e g2 a2 => ?_
  subst e
  refine ⟨fun i σ' Hk' H' => Same HkW Hk' ∧ (∀ k < i, decide (rowS s f k ≠ 0) = false) ∧ At q n [.dat (pol s), .dat (pol f), .dat (.int 0), .any] A0 B0 σ' Hk' H', ⟨Same.refl _, by simp, a2⟩, fun i σ' Hk' H' h => ⟨h.1, h.2.2.ok.a⟩, ?_, ?_⟩
  · rintro i d σ' Hk' H' ed ⟨h2, hk, st⟩ v Hk3 H3 g3 dv
    obtain ⟨hi, rfl⟩ := rng_get' ed
    have hi2 : i < s.length + 1 - f.length := by omega
    refine gb_name (vs := [3]) (by simp) σ' Hk3 H3 v (st.sg.mono g3.k) g3.a dv _ fun σ2 sg2 _ _ => ?_
    have st2 : At q n _ A0 B0 σ2 Hk3 H3 := ⟨st.ok.go g3, sg2, st.gr.trans g3.none_to⟩
    refine s_ifB (b := decide (rowS s f i ≠ 0)) (tb_is (tb_test (e_neDI (j_call (R := R_in_row) (c := 0) (ae_cons (e_var rfl) (ae_cons (e_var rfl) (ae_cons (e_is (e_var rfl) (d1 := .int (i : Int)) (by rw [Int.zero_add])) ae_nil))) fun sls e => ⟨rfl, s, f, i, by omega, hs, hf, hsl, e, rfl⟩) e_int)) ?_) st2 (fun hb Hk4 H4 g4 a4 => ?_) (fun hb Hk4 H4 g4 a4 => ⟨Hk4, (h2.trans g3.k).trans g4.k, fun k hk2 => ?_, a4.forget 3⟩)
    · by_cases z : rowS s f i = 0
      · rw [z]; rfl
      · rw [decide_eq_true z]; simpa using z
    · exact s_retE (d := .int (i : Int)) (e_is (e_var rfl) (by rw [Int.zero_add])) a4 (Nat.le_refl _) fin (fst_hit hi2 hk hb).symm
    · by_cases e : k = i
      · rw [e]; exact hb
      · exact hk k (by omega)
  · rintro σ' Hk' H' ⟨h2, hk, st⟩
    rw [rng_len] at hk
    exact s_retE (d := .none) e_non st (Nat.le_refl _) fin (fst_none fun k hk2 => hk k (by omega)).symm
/-! ### is_rule -/
def R_is_rule : RelX := fun _ sls c Φ => c = 0 ∧ ∃ (s f : List Int), s ≠ [] ∧ Pl f ∧ CB 9000 s ∧ CB 10000 f ∧ s.length ≤ 400 ∧ f.length ≤ 1000 ∧ sls = [.dat (pol s), .dat (pol f)] ∧ Φ = fun d => d = .bool (dueB s f)
theorem ok_is_rule (T : Tx K mg) : FnOk P w K mg base CX0 4 T.a_is_rule T.fd_is_rule P_is_rule (spX R_is_rule) := by
  have G_check_polynomial := ok_check_polynomial (P := P) (w := w) (base := base) T
  have G_check_sums := ok_check_sums (P := P) (w := w) (base := base) T
  have G_first_fault := ok_first_fault (P := P) (w := w) (base := base) T
  refine fn_ok T.F_is_rule sc_is_rule (by decide) (fun q sls c Φ h => by obtain ⟨_, s, f, _, _, _, _, _, _, rfl, _⟩ := h; rfl) fun cdv A outer s B0 Ew hr => ⟨_,
    (pss_cons (ps_expr (pe_call G_check_sums (hr.mono (by decide)) (by rfl) T.m_check_sums T.F_check_sums.kp T.b_check_sums .nil pass0 (pa_cons (pv 0) pa_nil)))
      (pss_cons (ps_expr (pe_call G_check_polynomial (hr.mono (by decide)) (by rfl) T.m_check_polynomial T.F_check_polynomial.kp T.b_check_polynomial .nil pass0 (pa_cons (pv 1) pa_nil)))
      (pss_cons (ps_if (PW.pt (pw_or (pt_cmpR (k_eqD (K := K) rfl hr.units) (pv 1) (Cr.pe_tup pa_nil) (nomark _)) (pw_or1 (pt_cmpR op_gt (pe_callB (k_len (K := K) rfl) (by rfl) T.z_len (by decide +kernel) (pa_cons (pv 1) pa_nil)) (pe_op (k_addU (K := K) rfl) (pe_callB (k_len (K := K) rfl) (by rfl) T.z_len (by decide +kernel) (pa_cons (pv 0) pa_nil)) pe_int) (nomark _))))) (pss_one (ps_ret pe_bl)) pss_nil)
      (pss_one (ps_ret (pe_cmpR op_isNQ (pe_call G_first_fault (hr.mono (by decide)) (by rfl) T.m_first_fault T.F_first_fault.kp T.b_first_fault .nil pass0 (pa_cons (pv 0) (pa_cons (pv 1) (pa_cons pe_int pa_nil)))) pe_non (nomark _))))))), fun q sls n c Φ A0 σ Q hR hA fin => ?_⟩
  obtain ⟨rfl, s, f, hne, hP, hs, hf, hsl, hfl, rfl, rfl⟩ := hR
  refine q_drop (j_call (R := R_check_sums) (ae_cons (e_var rfl) ae_nil) fun sls e => ⟨rfl, s, hne, by omega, e, rfl⟩) hA fun Hk1 H1 g1 a1 => ?_
  refine q_drop (j_call (R := R_check_polynomial) (ae_cons (e_var rfl) ae_nil) fun sls e => ⟨rfl, f, hP, by omega, e, rfl⟩) a1 fun Hk2 H2 g2 a2 => ?_
  refine q_whenB (b := decide (f = [] ∨ s.length + 1 < f.length)) (tb_is (tb_or (a := decide (f = [])) (b := decide (s.length + 1 < f.length)) (tb_test (e_is (e_eqD (e_var rfl) (e_is (e_tup (ds := []) ae_nil) (d1 := pol []) rfl) (pol_shape f) (pol_shape [])) (by rw [eqv_pols]))) fun _ => tb_is (tb_test (e_gtI (e_is (e_lenT (e_var rfl)) (d1 := .int ((f.length : Nat) : Int)) (by rw [pol_len])) (e_addI (e_is (e_lenT (e_var rfl)) (d1 := .int ((s.length : Nat) : Int)) (by rw [pol_len])) e_int))) (by rw [decide_eq_decide]; omega)) (by rw [Bool.eq_iff_iff]; simp)) a2 (fun hb Hk3 H3 g3 a3 => ?_) (fun hb Hk3 H3 g3 a3 => ?_)
  · exact s_retE (d := .bool false) e_bl a3 (Nat.le_refl _) fin (by unfold dueB; rw [if_pos (of_decide_eq_true hb)])
  · have hno := of_decide_eq_false hb
    rw [not_or] at hno
    refine s_retE (e_isN (j_call (R := R_first_fault) (c := 0) (ae_cons (e_var rfl) (ae_cons (e_var rfl) (ae_cons e_int ae_nil))) fun sls e => ⟨rfl, s, f, by omega, hno.1, hs, hf, hsl, e, rfl⟩)) a3 (Nat.le_refl _) fin ?_
    unfold dueB
    rw [if_neg (by rw [not_or]; exact hno)]
    congr 1
    by_cases hall : ((List.range (s.length + 1 - f.length)).all fun a => decide (rowS s f a = 0)) = true
    · rw [hall, fst_none fun k hk => by have := List.all_eq_true.mp hall k (List.mem_range.mpr hk); simpa using this]; rfl
    · rw [Bool.not_eq_true] at hall
      rw [hall]
      obtain ⟨x, hx, hp⟩ := List.all_eq_false.mp hall
      unfold fstD
      cases e : (List.range (s.length + 1 - f.length)).find? fun a => decide (rowS s f a ≠ 0) with
      | none => exact absurd (List.find?_eq_none.mp e x hx) (by simpa using hp)
      | some k => rfl
/-! ### _law_jar -/

theorem ok__law_jar (T : Tx K mg) : FnOk P w K mg base CX0 1 T.a__law_jar T.fd__law_jar P__law_jar (spMk K) := by
  refine T.F__law_jar.ok sc__law_jar (fun vs H Q Ew h => by obtain ⟨a, ns, t, rfl, _⟩ := h; rfl) (fun cdv A outer s H vs Q Ew hr h => ?_)
  obtain ⟨a, ns, t, rfl, hS, h0, h1, k⟩ := h
  refine ⟨_, (pss_cons (ps_set (i := 2) sc__law_jar.nd rfl (Or.inl rfl) (pe_ifExp (pt_cmpR op_lt (pv 1) (pe_callB (k_len (K := K) rfl) (by rfl) T.z_len (by decide +kernel) (pa_cons (pv 0) pa_nil)) (nomark _)) (pe_ix (k_ix (K := K) rfl) (pv 0) (pv 1) (fun _ _ => rfl)) pe_int))
      (pss_one (ps_ret (pe_lst (pa_cons (pe_callB (call_maxQ rfl) (by rfl) T.z_max (by decide +kernel) (pa_cons pe_int (pa_cons (pe_op op_sub (pe_callB call_absQ (by rfl) T.z_abs (by decide +kernel) (pa_cons (pv 2) pa_nil)) (pe_op op_powW pe_int pe_int)) pa_nil))) (pa_cons (pe_op (k_addU (K := K) rfl) (pe_op (k_addU (K := K) rfl) (pe_op op_mulU (pe_op op_modN (pe_callTy call_intQ (by rfl) T.z_int (by decide +kernel) (pa_cons (pv 2) pa_nil)) (pe_op (k_addU (K := K) rfl) (pe_op op_powW pe_int pe_int) pe_int)) pe_int) (pe_op op_mulU pe_int (pv 1))) pe_int) (pa_cons pe_int pa_nil))))))), ?_⟩
  have hA : At none 0 [.scr K ns, .dat (.int t), .any] H H (L2.start N__law_jar [.ref a, .int t]) H H := ⟨⟨Same.refl _, fun p e => (by cases e), fun p e => (by cases e)⟩, start_sg (N := N__law_jar) (VS.cons (s := .scr K ns) ⟨a, rfl, hS⟩ (VS.cons (s := .dat (.int t)) (.int t) VS.nil)) (by show 2 ≤ 3; decide), Gr.refl (Same.refl _)⟩
  refine q_asg (n := 0) (c := 0) (Φ := fun x => ∃ v : Int, x = .int v) ?_ hA fun d σ1 Hk1 H1 ⟨v, e⟩ g1 a1 => ?_
  · by_cases ht : t < ns.length
    · have hv : atI ns t = some (ns[t.toNat]'(by omega)) := by
        have h2 := atI_nat (List.getElem?_eq_getElem (show t.toNat < ns.length by omega))
        rw [Int.toNat_of_nonneg h0] at h2; exact h2
      exact (e_if (b := true) (tb_is (tb_test (e_ltI (e_var rfl) (e_lenS rfl))) (decide_eq_true ht)) (fun _ => e_iS rfl (e_var rfl) hv) (fun h => by cases h)).imp fun d e => ⟨_, e⟩
    · exact (e_if (b := false) (d := .int 0) (tb_is (tb_test (e_ltI (e_var rfl) (e_lenS rfl))) (decide_eq_false ht)) (fun h => by cases h) (fun _ => e_int)).imp fun d e => ⟨_, e⟩
  · subst e
    obtain ⟨m1, em1⟩ : ∃ m : Int, m = (10 : Int) ^ (37 : Int).toNat + 139 := ⟨_, rfl⟩
    have hm1 : 0 < m1 ∧ m1 < 2 ^ 130 := by rw [em1]; exact ⟨by decide, by decide⟩
    have b1 := fmod_in (a := v) hm1.1
    obtain ⟨x, ex⟩ : ∃ x : Int, x = (if (if v < 0 then -v else v) - (10 : Int) ^ (18 : Int).toNat > 0 then (if v < 0 then -v else v) - (10 : Int) ^ (18 : Int).toNat else 0) := ⟨_, rfl⟩
    have E1 := e_max (q := none) (δ := [.scr K ns, .dat (.int t), .dat (.int v)]) (e_int (i := 0)) (e_subI (e_abs (e_var (i := 2) rfl)) (e_pow (e_int (i := 10)) (e_int (i := 18)) (pow_ok (a := 4) (by decide) (by omega) (by omega) (by omega))))
    rw [← ex] at E1
    have E2 := e_addI (q := none) (K := K) (δ := [.scr K ns, .dat (.int t), .dat (.int v)]) (e_addI (K := K) (e_mulI (e_mod (j := m1) (e_intI (e_var (i := 2) rfl)) (e_is (e_addI (K := K) (e_pow (e_int (i := 10)) (e_int (i := 37)) (pow_ok (a := 4) (by decide) (by omega) (by omega) (by omega))) (e_int (i := 139))) (by rw [em1])) (by omega)) (e_int (i := 83)) (wide_mul (a := 130) (b := 7) (by omega) (by decide) (by omega) (by omega) (by omega))) (e_mulI (e_int (i := 61)) (e_var (i := 1) rfl) (wide_mul (a := 6) (b := 11) (by decide) (by omega) (by omega) (by omega) (by omega)))) (e_int (i := 23))
    obtain ⟨y, ey⟩ : ∃ y : Int, y = v.fmod m1 * 83 + 61 * t + 23 := ⟨_, rfl⟩
    rw [← ey] at E2
    refine s_retLst (n := 0) (ds := [.int x, .int y, .int 0]) (ae_cons E1 (ae_cons E2 (ae_cons e_int ae_nil))) (by simp) a1 fun p vs Hk2 H2 g2 hp hv => ?_
    have hvs := DqAll.ints (ns := [x, y, 0]) hv
    subst hvs
    have gg := (g1.trans g2).trans (Gr.cell (q := none) (o := .lst [.int x, .int y, .int 0]) g2.a hp)
    refine k p _ (fun b o h => gg.s b o (fun z => by cases z) h) ?_ ⟨x, y, 0, upd_same, by omega, by omega, by omega, by omega⟩
    cases hH : H p with
    | none => rfl
    | some o => exact absurd hp ((g1.trans g2).t p (by rw [hH]; exact fun z => by cases z))
/-! ### _law_pick -/
abbrev R__law_pick : RelX := R_pick
theorem ok__law_pick (T : Tx K mg) : FnOk P w K mg base CX0 1 T.a__law_pick T.fd__law_pick P__law_pick (spX R__law_pick) := by
  refine fn_ok T.F__law_pick sc__law_pick (by decide) (fun q sls c Φ h => by obtain ⟨_, p, b, _, _, _, rfl, _⟩ := h; rfl) fun cdv A outer s B0 Ew hr => ⟨_,
    (pss_cons (ps_if (pt_cmpR op_gt (pe_ix (k_ix (K := K) rfl) (pv 0) pe_int (fun _ _ => rfl)) pe_int (nomark _)) (pss_cons (ps_set (i := 2) sc__law_pick.nd rfl (Or.inl rfl) (pe_op op_modN (pe_callTy call_intQ (by rfl) T.z_int (by decide +kernel) (pa_cons (pe_ix (k_ix (K := K) rfl) (pv 0) pe_int (fun _ _ => rfl)) pa_nil)) (pv 1)))
      (pss_cons (ps_asg (pe_op op_fdivW (pe_ix (k_ix (K := K) rfl) (pv 0) pe_int (fun _ _ => rfl)) (pv 1)) (pg_sub (pv 0) pe_int set_list))
      (pss_one (ps_ret (pv 2))))) pss_nil)
      (pss_cons (ps_asg (pe_op (k_addU (K := K) rfl) (pe_ix (k_ix (K := K) rfl) (pv 0) pe_int (fun _ _ => rfl)) pe_int) (pg_sub (pv 0) pe_int set_list))
      (pss_cons (ps_set (i := 3) sc__law_pick.nd rfl (Or.inl rfl) (pe_op op_modN (pe_op op_powW (pe_callTy call_intQ (by rfl) T.z_int (by decide +kernel) (pa_cons (pe_op (k_addU (K := K) rfl) (pe_ix (k_ix (K := K) rfl) (pv 0) pe_int (fun _ _ => rfl)) (pe_op op_mulU pe_int (pe_ix (k_ix (K := K) rfl) (pv 0) pe_int (fun _ _ => rfl)))) pa_nil)) pe_int) (pe_op (k_addU (K := K) rfl) (pe_op op_powW pe_int pe_int) pe_int)))
      (pss_cons (ps_set (i := 3) sc__law_pick.nd rfl (Or.inl rfl) (pe_op op_modN (pe_op op_powW (pe_callTy call_intQ (by rfl) T.z_int (by decide +kernel) (pa_cons (pe_op (k_addU (K := K) rfl) (pv 3) (pe_op op_mulU pe_int (pe_ix (k_ix (K := K) rfl) (pv 0) pe_int (fun _ _ => rfl)))) pa_nil)) pe_int) (pe_op (k_addU (K := K) rfl) (pe_op op_powW pe_int pe_int) pe_int)))
      (pss_one (ps_ret (pe_op op_modN (pe_op op_fdivW (pv 3) pe_int) (pv 1)))))))), fun q sls n c Φ A0 σ Q hR hA fin => ?_⟩
  obtain ⟨rfl, p, b, rfl, hb, hb2, rfl, rfl⟩ := hR
  exact read_pick hb hb2 hA fin
/-! ### _law_same -/
abbrev R__law_same : RelX := R_same 6
theorem ok_same_k (T : Tx K mg) : ∀ k : Nat, FnOk P w K mg base CX0 k T.a__law_same T.fd__law_same P__law_same (spX (R_same k))
  | 0 => by
    have no : ∀ vs H Q Ew, spX (R_same 0) vs H Q Ew → False := fun vs H Q Ew h => by
      obtain ⟨_, _, _, _, _, _, _, _, ⟨_, d, hd, _⟩, _⟩ := h
      exact Bool.noConfusion (show false = true from hd)
    exact ⟨fun vs H Q Ew h => (no _ _ _ _ h).elim, fun _ _ _ _ _ _ _ _ _ _ _ _ _ h => (no _ _ _ _ h).elim⟩
  | k + 1 => by
    have G__law_same := ok_same_k T k
    refine fn_ok T.F__law_same sc__law_same (by decide) (fun q sls c Φ h => by obtain ⟨_, d, _, rfl, _⟩ := h; rfl) fun cdv A outer s B0 Ew hr => ⟨_,
      (pss_cons (ps_if (PW.pt (pw_or (pt_val (pe_callB (k_isi (K := K) rfl) (by rfl) T.z_isinstance (by decide +kernel) (pa_cons (pv 0) (pa_cons (pe_bltn (v := .ty "bool") (by rfl) T.z_bool (by decide +kernel) rfl) pa_nil)))) (pw_or1 (pt_val (pe_callB (k_isi (K := K) rfl) (by rfl) T.z_isinstance (by decide +kernel) (pa_cons (pv 1) (pa_cons (pe_bltn (v := .ty "bool") (by rfl) T.z_bool (by decide +kernel) rfl) pa_nil))))))) (pss_one (ps_ret (pe_and (pe_callB (k_isi (K := K) rfl) (by rfl) T.z_isinstance (by decide +kernel) (pa_cons (pv 0) (pa_cons (pe_bltn (v := .ty "bool") (by rfl) T.z_bool (by decide +kernel) rfl) pa_nil))) (pe_and (pe_callB (k_isi (K := K) rfl) (by rfl) T.z_isinstance (by decide +kernel) (pa_cons (pv 1) (pa_cons (pe_bltn (v := .ty "bool") (by rfl) T.z_bool (by decide +kernel) rfl) pa_nil))) (pe_one (pe_cmpR (k_eqD (K := K) rfl hr.units) (pv 0) (pv 1) (nomark _))))))) pss_nil)
      (pss_cons (ps_if (pt_cmpR (k_neD (K := K) rfl hr.units) (pe_callB (k_isi (K := K) rfl) (by rfl) T.z_isinstance (by decide +kernel) (pa_cons (pv 0) (pa_cons (pe_bltn (v := .ty "list") (by rfl) T.z_list (by decide +kernel) rfl) pa_nil))) (pe_callB (k_isi (K := K) rfl) (by rfl) T.z_isinstance (by decide +kernel) (pa_cons (pv 1) (pa_cons (pe_bltn (v := .ty "list") (by rfl) T.z_list (by decide +kernel) rfl) pa_nil))) (nomark _)) (pss_one (ps_ret pe_bl)) pss_nil)
      (pss_cons (ps_if (PW.pt (pw_and (pt_val (pe_callB (k_isi (K := K) rfl) (by rfl) T.z_isinstance (by decide +kernel) (pa_cons (pv 0) (pa_cons (L2.pe_tup (pa_cons (pe_bltn (v := .ty "list") (by rfl) T.z_list (by decide +kernel) rfl) (pa_cons (pe_bltn (v := .ty "tuple") (by rfl) T.z_tuple (by decide +kernel) rfl) pa_nil))) pa_nil)))) (pw_and1 (pt_val (pe_callB (k_isi (K := K) rfl) (by rfl) T.z_isinstance (by decide +kernel) (pa_cons (pv 1) (pa_cons (L2.pe_tup (pa_cons (pe_bltn (v := .ty "list") (by rfl) T.z_list (by decide +kernel) rfl) (pa_cons (pe_bltn (v := .ty "tuple") (by rfl) T.z_tuple (by decide +kernel) rfl) pa_nil))) pa_nil))))))) (pss_cons (ps_if (pt_cmpR (k_neD (K := K) rfl hr.units) (pe_callB (k_len (K := K) rfl) (by rfl) T.z_len (by decide +kernel) (pa_cons (pv 0) pa_nil)) (pe_callB (k_len (K := K) rfl) (by rfl) T.z_len (by decide +kernel) (pa_cons (pv 1) pa_nil)) (nomark _)) (pss_one (ps_ret pe_bl)) pss_nil)
      (pss_one (ps_ret (pe_cmpR (k_eqD (K := K) rfl hr.units) (pe_lc (own := [("k", 2)]) rfl sc__law_same.nd (pi_range1 rfl T.z_range (pa_cons (pe_callB (k_len (K := K) rfl) (by rfl) T.z_len (by decide +kernel) (pa_cons (pv 1) pa_nil)) pa_nil)) (blkOk_by (own := [("k", 2)]) (N := N__law_same) (sc := defScope s__law_same) (by decide +kernel)) (fun _ _ _ _ _ => (pg_name (i := 2) sc__law_same.nd rfl (Or.inl rfl))) (fun _ _ _ _ _ => (pts_one (pt_not (pt_val (pe_call G__law_same hr (by rfl) T.m__law_same T.F__law_same.kp T.b__law_same .nil pass0 (pa_cons (pe_ix (k_ix (K := K) rfl) (pv 0) (pv 2) (fun _ _ => rfl)) (pa_cons (pe_ix (k_ix (K := K) rfl) (pv 1) (pv 2) (fun _ _ => rfl)) pa_nil))))))) (fun _ _ _ _ _ => (pv 2))) (pe_lst pa_nil) (nomark _))))) pss_nil)
      (pss_one (ps_ret (pe_and (pe_cmpR (k_eqD (K := K) rfl hr.units) (pv 0) (pv 1) (nomark _)) (pe_one (pe_cmpR (k_eqD (K := K) rfl hr.units) (pe_callB (k_isi (K := K) rfl) (by rfl) T.z_isinstance (by decide +kernel) (pa_cons (pv 0) (pa_cons (pe_bltn (v := .ty "int") (by rfl) T.z_int (by decide +kernel) rfl) pa_nil))) (pe_callB (k_isi (K := K) rfl) (by rfl) T.z_isinstance (by decide +kernel) (pa_cons (pv 1) (pa_cons (pe_bltn (v := .ty "int") (by rfl) T.z_int (by decide +kernel) rfl) pa_nil))) (nomark _))))))))), fun q sls n c Φ A0 σ Q hR hA fin => ?_⟩
    obtain ⟨rfl, d, hd, rfl, rfl⟩ := hR
    by_cases hb : isiBool d = true
    · obtain ⟨b, rfl⟩ : ∃ b, d = .bool b := by
        cases d with
        | bool b => exact ⟨b, rfl⟩
        | _ => cases hb
      refine q_whenB (b := true) (tb_is (tb_or (b := true) (tb_B (e_isi (e_var rfl) (kit_bool (.bool b)))) (fun h => by cases h)) rfl) hA (fun _ Hk1 H1 g1 a1 => ?_) (fun h => by cases h)
      exact s_retE (e_andV (e_isi (e_var rfl) (kit_bool (.bool b))) fun _ => e_andV (e_isi (e_var rfl) (kit_bool (.bool b))) fun _ => e_eqDB (e_var rfl) (e_var rfl)) a1 (Nat.le_refl _) fin (by cases b <;> rfl)
    · have hb' : isiBool d = false := by simpa using hb
      refine q_whenB (b := false) (tb_is (tb_or (tb_B (e_isi (e_var rfl) (kit_bool d))) (fun _ => tb_B (e_isi (e_var rfl) (kit_bool d)))) (by rw [hb']; rfl)) hA (fun h => by cases h) fun _ Hk1 H1 g1 a1 => ?_
      refine q_whenB (b := false) (tb_is (tb_test (e_neDB (e_isi (e_var rfl) (kit_list d)) (e_isi (e_var rfl) (kit_list d)))) (by simp)) a1 (fun h => by cases h) fun _ Hk2 H2 g2 a2 => ?_
      by_cases hs : (isiLst d || isiTup d) = true
      · refine q_whenB (b := true) (tb_is (tb_and (tb_B (e_isi2 (e_var rfl) (kit_list d) (kit_tuple d))) (fun _ => tb_B (e_isi2 (e_var rfl) (kit_list d) (kit_tuple d)))) (by rw [hs]; rfl)) a2 (fun _ Hk3 H3 g3 a3 => ?_) (fun h => by cases h)
        cases d with
        | list ds =>
          have hd2 : ds.length ≤ 100000 ∧ ∀ x ∈ ds, okS k x = true := by
            have h : (decide (ds.length ≤ 100000) && ds.all (okS k)) = true := hd
            rw [Bool.and_eq_true] at h
            exact ⟨of_decide_eq_true h.1, List.all_eq_true.mp h.2⟩
          refine q_whenB (b := false) (tb_is (tb_test (e_neDI (e_lenL (e_var rfl)) (e_lenL (e_var rfl)))) (by simp)) a3 (fun h => by cases h) fun _ Hk4 H4 g4 a4 => ?_
          refine s_retE (d := .bool true) (e_eqD (d1 := .list []) (d2 := .list []) ?_ (e_lst (ds := []) ae_nil) rfl rfl) a4 (Nat.le_refl _) fin rfl
          refine e_is (e_lc (vs := [2]) (emb := fun i : Nat => .int (0 + (i : Int))) (xs := List.range ds.length) (by have h := ie_rng1 (q := q) (e_lenL (K := K) (δ := [.dat (.list ds), .dat (.list ds), .any]) (e_var (i := 1) rfl)) (by omega) (by omega); rw [Int.toNat_natCast] at h; exact h) (fun _ => false) (fun i => .int 0) (by rw [List.length_range]; omega) fun i hi => ⟨_, gb_name (by simp), ?_, fun h => by cases h⟩) (by simp)
          have hi := List.mem_range.mp hi
          have at1 : atI ds (0 + (i : Int)) = some ds[i] := by rw [Int.zero_add]; exact atI_nat (List.getElem?_eq_getElem hi)
          exact tb_is (tb_not (tb_B (j_call (R := R_same k) (ae_cons (e_iL (e_var rfl) (e_var rfl) at1) (ae_cons (e_iL (e_var rfl) (e_var rfl) at1) ae_nil)) fun sls e => ⟨rfl, ds[i], hd2.2 _ (List.getElem_mem hi), e, rfl⟩))) rfl
        | tuple ds =>
          have hd2 : ds.length ≤ 100000 ∧ ∀ x ∈ ds, okS k x = true := by
            have h : (decide (ds.length ≤ 100000) && ds.all (okS k)) = true := hd
            rw [Bool.and_eq_true] at h
            exact ⟨of_decide_eq_true h.1, List.all_eq_true.mp h.2⟩
          refine q_whenB (b := false) (tb_is (tb_test (e_neDI (e_lenT (e_var rfl)) (e_lenT (e_var rfl)))) (by simp)) a3 (fun h => by cases h) fun _ Hk4 H4 g4 a4 => ?_
          refine s_retE (d := .bool true) (e_eqD (d1 := .list []) (d2 := .list []) ?_ (e_lst (ds := []) ae_nil) rfl rfl) a4 (Nat.le_refl _) fin rfl
          refine e_is (e_lc (vs := [2]) (emb := fun i : Nat => .int (0 + (i : Int))) (xs := List.range ds.length) (by have h := ie_rng1 (q := q) (e_lenT (K := K) (δ := [.dat (.tuple ds), .dat (.tuple ds), .any]) (e_var (i := 1) rfl)) (by omega) (by omega); rw [Int.toNat_natCast] at h; exact h) (fun _ => false) (fun i => .int 0) (by rw [List.length_range]; omega) fun i hi => ⟨_, gb_name (by simp), ?_, fun h => by cases h⟩) (by simp)
          have hi := List.mem_range.mp hi
          have at1 : atI ds (0 + (i : Int)) = some ds[i] := by rw [Int.zero_add]; exact atI_nat (List.getElem?_eq_getElem hi)
          exact tb_is (tb_not (tb_B (j_call (R := R_same k) (ae_cons (e_iT (e_var rfl) (e_var rfl) at1) (ae_cons (e_iT (e_var rfl) (e_var rfl) at1) ae_nil)) fun sls e => ⟨rfl, ds[i], hd2.2 _ (List.getElem_mem hi), e, rfl⟩))) rfl
        | none => cases hs
        | bool _ => cases hs
        | int _ => cases hs
        | str _ => cases hs
        | dict _ => cases hs
      · have hs' : (isiLst d || isiTup d) = false := by simpa using hs
        refine q_whenB (b := false) (tb_is (tb_and (tb_B (e_isi2 (e_var rfl) (kit_list d) (kit_tuple d))) (fun _ => tb_B (e_isi2 (e_var rfl) (kit_list d) (kit_tuple d)))) (by rw [hs']; rfl)) a2 (fun h => by cases h) fun _ Hk3 H3 g3 a3 => ?_
        have leaf : SeqAt.shaped d = true ∧ PyData.eqv d d = true := by
          cases d with
          | none => exact ⟨rfl, by simp [PyData.eqv]⟩
          | int i => exact ⟨rfl, by simp [PyData.eqv]⟩
          | str x =>
            have hd2 : PyData.strOk x = true := hd
            exact ⟨by show (PyData.strOk x && _) = true; rw [hd2]; rfl, by simp [PyData.eqv]⟩
          | bool _ => exact absurd rfl hb
          | list _ => exact absurd rfl hs
          | tuple _ => exact absurd rfl hs
          | dict _ => exact Bool.noConfusion (show false = true from hd)
        exact s_retE (e_andV (e_eqD (e_var rfl) (e_var rfl) leaf.1 leaf.1) fun _ => e_eqDB (e_isi (e_var rfl) (kit_int d)) (e_isi (e_var rfl) (kit_int d))) a3 (Nat.le_refl _) fin (by rw [leaf.2]; simp)
theorem ok__law_same (T : Tx K mg) : FnOk P w K mg base CX0 6 T.a__law_same T.fd__law_same P__law_same (spX R__law_same) := ok_same_k T 6
/-! ### _law_gather -/
def R__law_gather : RelX := fun _ sls c Φ => c = 0 ∧ ∃ cs : List (Int × Int), cs.length ≤ 100000 ∧ sls = [.dat (.list (pd cs))] ∧ Φ = fun x => x = led (gather cs)
theorem ok__law_gather (T : Tx K mg) : FnOk P w K mg base CX0 1 T.a__law_gather T.fd__law_gather P__law_gather (spX R__law_gather) := by
  refine fn_ok T.F__law_gather sc__law_gather (by decide) (fun q sls c Φ h => by obtain ⟨_, l, _, rfl, _⟩ := h; rfl) fun cdv A outer s B0 Ew hr => ?_
  have hu := hu_of hr
  refine ⟨_,
    (pss_cons (ps_set (i := 1) sc__law_gather.nd rfl (Or.inr rfl) pe_dnewK)
      (pss_cons (ps_for PassesOwn.never rfl (k_piList (K := K) rfl (pv 0)) (k_pgTup (K := K) (n := 2) rfl rfl (pgs_cons (pg_name (i := 2) sc__law_gather.nd rfl (Or.inl rfl)) (pgs_cons (pg_name (i := 3) sc__law_gather.nd rfl (Or.inl rfl)) pgs_nil))) (pss_one (ps_dput hu (pv 1) (pv 2) (pe_op (k_addU (K := K) rfl) (pe_dget2 hu (pv 1) (pv 2) pe_int ⟨rfl, rfl, rfl, rfl⟩) (pv 3)) rfl)))
      (pss_one (ps_ret (pe_callTy (k_tup (K := K) rfl) (by rfl) T.z_tuple (by decide +kernel) (pa_cons (pe_lc (own := [("key_here", 2)]) rfl sc__law_gather.nd (k_piList (K := K) rfl (pe_callB (call_sortedDIa rfl) (by rfl) T.z_sorted (by decide +kernel) (pa_cons (pv 1) pa_nil))) (blkOk_by (own := [("key_here", 2)]) (N := N__law_gather) (sc := defScope s__law_gather) (by decide +kernel)) (fun _ _ _ _ _ => (pg_name (i := 2) sc__law_gather.nd rfl (Or.inl rfl))) (fun _ _ _ _ _ => (pts_one (pt_cmpR (k_neD (K := K) rfl hr.units) (pe_dget hu (pv 1) (pv 2) (fun _ _ => rfl)) pe_int (nomark _)))) (fun _ _ _ _ _ => (Cr.pe_tup (pa_cons (pv 2) (pa_cons (pe_dget hu (pv 1) (pv 2) (fun _ _ => rfl)) pa_nil))))) pa_nil)))))), fun q sls n c Φ A0 σ Q hR hA fin => ?_⟩
  obtain ⟨rfl, l, hl, rfl, rfl⟩ := hR
  exact read_summed l hl hA fin
/-! ### _law_amount -/
def R__law_amount : RelX := fun q sls c Φ => c = 1 ∧ ∃ (p : Addr) (m : Int), q = some p ∧ 1 ≤ m ∧ m < 2 ^ 60 ∧ sls = [.adr p, .dat (.int m)] ∧ Φ = IntP fun i => i ≠ 0 ∧ -m ≤ i ∧ i ≤ m
theorem ok__law_amount (T : Tx K mg) : FnOk P w K mg base CX0 2 T.a__law_amount T.fd__law_amount P__law_amount (spX R__law_amount) := by
  have G__law_pick := ok__law_pick (P := P) (w := w) (base := base) T
  refine fn_ok T.F__law_amount sc__law_amount (by decide) (fun q sls c Φ h => by obtain ⟨_, p, m, _, _, _, rfl, _⟩ := h; rfl) fun cdv A outer s B0 Ew hr => ⟨_,
    (pss_cons (ps_set (i := 2) sc__law_amount.nd rfl (Or.inl rfl) (pe_op op_sub (pe_call G__law_pick (hr.mono (by decide)) (by rfl) T.m__law_pick T.F__law_pick.kp T.b__law_pick .nil pass0 (pa_cons (pv 0) (pa_cons (pe_op op_mulU pe_int (pv 1)) pa_nil))) (pv 1)))
      (pss_one (ps_ret (pe_ifExp (pt_cmpR op_ge (pv 2) pe_int (nomark _)) (pe_op (k_addU (K := K) rfl) (pv 2) pe_int) (pv 2))))), fun q sls n c Φ A0 σ Q hR hA fin => ?_⟩
  obtain ⟨rfl, p, m, rfl, h1, h2, rfl, rfl⟩ := hR
  refine q_asg (n := n) (c := 1) ((j_subI (Φ := IntP fun i => -m ≤ i ∧ i < m) (j_pick rfl (e_mulI e_int (e_var rfl) (wide_mul (a := 2) (b := 60) (by decide) (by omega) (by omega) (by omega) (by omega))) (by omega) (by omega)) (e_var rfl).intP fun i j hi hj => ⟨i - j, by omega, rfl⟩).cost (by omega)) hA fun d σ1 Hk1 H1 ⟨i, hi, ed⟩ g1 a1 => ?_
  subst ed
  by_cases h0 : 0 ≤ i
  · exact s_ret (n := n) (c := 0) (Φ := fun x => x = .int (i + 1)) (e_if (b := true) (tb_is (tb_test (e_geI (e_var rfl) e_int)) (decide_eq_true h0)) (fun _ => e_addI (e_var rfl) e_int) (fun h => by cases h)) a1 (by omega) fin fun d e => ⟨i + 1, by omega, e⟩
  · exact s_ret (n := n) (c := 0) (Φ := fun x => x = .int i) (e_if (b := false) (tb_is (tb_test (e_geI (e_var rfl) e_int)) (decide_eq_false h0)) (fun h => by cases h) (fun _ => e_var rfl)) a1 (by omega) fin fun d e => ⟨i, by omega, e⟩
/-! ### _law_sums -/
def R__law_sums : RelX := fun _ sls c Φ => c = 0 ∧ ∃ (l : List (Int × Int)) (m : Int) (A B : Nat), Kb A B l ∧ A ≤ 1000 ∧ 0 < A ∧ 0 < B ∧ B ≤ 100000 ∧ l.length ≤ 100000 ∧ 0 ≤ m ∧ m ≤ 400 ∧ sls = [.dat (led l), .dat (.int m)] ∧ Φ = fun d => d = pol (psums l m.toNat)
theorem ok__law_sums (T : Tx K mg) : FnOk P w K mg base CX0 1 T.a__law_sums T.fd__law_sums P__law_sums (spX R__law_sums) := by
  refine fn_ok T.F__law_sums sc__law_sums (by decide) (fun q sls c Φ h => by obtain ⟨_, l, m, A, B, _, _, _, _, _, _, _, _, rfl, _⟩ := h; rfl) fun cdv A outer s B0 Ew hr => ⟨_,
    (pss_cons (ps_asg (Cr.pe_tup (pa_cons (pe_lst pa_nil) (pa_cons (pe_lc (own := [("key_here", 5), ("amount_here", 6)]) rfl sc__law_sums.nd (k_piTup (K := K) rfl (pv 0)) (blkOk_by (own := [("key_here", 5), ("amount_here", 6)]) (N := N__law_sums) (sc := defScope s__law_sums) (by decide +kernel)) (fun _ _ _ _ _ => (k_pgTup (K := K) (n := 2) rfl rfl (pgs_cons (pg_name (i := 5) sc__law_sums.nd rfl (Or.inl rfl)) (pgs_cons (pg_name (i := 6) sc__law_sums.nd rfl (Or.inl rfl)) pgs_nil)))) (fun _ _ _ _ _ => pts_nil) (fun _ _ _ _ _ => (pv 6))) pa_nil))) (k_pgTup (K := K) (n := 2) rfl rfl (pgs_cons (pg_name (i := 2) sc__law_sums.nd rfl (Or.inl rfl)) (pgs_cons (pg_name (i := 3) sc__law_sums.nd rfl (Or.inr rfl)) pgs_nil))))
      (pss_cons (ps_for PassesOwn.never rfl (pi_range1 rfl T.z_range (pa_cons (pv 1) pa_nil)) (pg_name (i := 4) sc__law_sums.nd rfl (Or.inl rfl)) (pss_cons (ps_expr (pe_bm PySem.F.plainAttrs_list PySem.F.slot_list_append PySem.F.type_list_append mt_append (pv 2) (pa_cons (pe_callB (k_sum (K := K) rfl rfl) (by rfl) T.z_sum (by decide +kernel) (pa_cons (pv 3) pa_nil)) pa_nil)))
      (pss_one (ps_set (i := 3) sc__law_sums.nd rfl (Or.inr rfl) (pe_lc (own := [("k", 7)]) rfl sc__law_sums.nd (pi_range1 rfl T.z_range (pa_cons (pe_callB (k_len (K := K) rfl) (by rfl) T.z_len (by decide +kernel) (pa_cons (pv 0) pa_nil)) pa_nil)) (blkOk_by (own := [("k", 7)]) (N := N__law_sums) (sc := defScope s__law_sums) (by decide +kernel)) (fun _ _ _ _ _ => (pg_name (i := 7) sc__law_sums.nd rfl (Or.inl rfl))) (fun _ _ _ _ _ => pts_nil) (fun _ _ _ _ _ => (pe_op op_mulU (pe_ix (k_ix (K := K) rfl) (pv 3) (pv 7) (fun _ _ => rfl)) (pe_ix (k_ix (K := K) rfl) (pe_ix (k_ix (K := K) rfl) (pv 0) (pv 7) (fun _ _ => rfl)) pe_int (fun _ _ => rfl)))))))))
      (pss_one (ps_ret (pe_callTy (k_tup (K := K) rfl) (by rfl) T.z_tuple (by decide +kernel) (pa_cons (pv 2) pa_nil)))))), fun q sls n c Φ A0 σ Q hR hA fin => ?_⟩
  obtain ⟨rfl, l, m, A, B, hK, hA1, hA0, hB0, hB1, hl, h0, h1, rfl, rfl⟩ := hR
  refine q_tupNew (i := 2) (j := 3) (d2 := .list ((tms l 0).map .int)) (e_is (e_lc1 (vs := [5, 6]) (emb := pr) (xs := l) (ie_tup (e_var rfl)) (fun x => .int x.2) (by omega) fun x hx => ⟨_, gb_tup2 (by simp) (by simp), e_var rfl⟩) (by rw [tms_zero, List.map_map]; rfl)) hA fun p σ1 Hk1 H1 g1 a1 cl1 => ?_
  refine q_for (n := n) (c := 0) (ie_rng1 (e_var rfl) (by omega) (by omega)) a1 fun items HkW H4 e g4 a4 => ?_
  subst e
  refine ⟨fun i σ' Hk' H' => Same HkW Hk' ∧ At q n [.dat (led l), .dat (.int m), .adr p, .dat (.list ((tms l i).map .int)), .any, .any, .any, .any] A0 B0 σ' Hk' H' ∧ Cell q B0 Hk' H' p ((psums l i).map .int), ⟨Same.refl _, a4, cl1.go g4⟩, fun i σ' Hk' H' h => ⟨h.1, h.2.1.ok.a⟩, ?_, ?_⟩
  · rintro i d σ' Hk' H' ed ⟨h4, st, cl⟩ v Hk5 H5 g5 dv
    obtain ⟨hi, rfl⟩ := rng_get' ed
    refine gb_name (vs := [4]) (by simp) σ' Hk5 H5 v (st.sg.mono g5.k) g5.a dv _ fun σ2 sg2 _ _ => ?_
    have st2 : At q n _ A0 B0 σ2 Hk5 H5 := ⟨st.ok.go g5, sg2, st.gr.trans g5.none_to⟩
    refine q_append (n := n) (c := 0) (Φ := fun d => d = .int (psum l i)) (e_sum (e_var rfl)) st2 (cl.go g5.none_to) rfl (by rw [List.length_map, psums_len]; omega) fun d Hk6 H6 ed s6 a6 cl6 => ?_
    have hil : A * i ≤ A * 400 := Nat.mul_le_mul_left _ (by omega)
    have hil2 : A * 400 ≤ 1000 * 400 := Nat.mul_le_mul_right _ hA1
    refine s_asgE (i := 3) (d := .list ((tms l (i + 1)).map .int)) (e_is (e_lc1 (vs := [7]) (emb := fun k : Nat => PyData.int (0 + (k : Int))) (xs := List.range l.length) ((ie_rng1 (j := (l.length : Nat)) (e_is (e_lenT (e_var rfl)) (by rw [pd_len])) (by omega) (by omega)).is rfl) (fun k => .int ((tms l i).getD k 0 * (l.getD k (0, 0)).1)) (by rw [List.length_range]; omega) fun k hk => ?_) (by rw [← terms_range, List.map_map]; rfl)) a6 fun σ7 Hk7 H7 g7 a7 => ⟨Hk7, ((h4.trans g5.k).trans s6).trans g7.k, a7.forget 4, ?_⟩
    · have hk' := List.mem_range.mp hk
      have tl : (tms l i).length = l.length := by simp [tms]
      have hx := hK l[k] (List.getElem_mem hk')
      have e1 : (tms l i).getD k 0 = l[k].2 * l[k].1 ^ i := by simp [tms, List.getD_eq_getElem?_getD, hk']
      have e2 : l.getD k (0, 0) = l[k] := by simp [List.getD_eq_getElem?_getD, hk']
      rw [e1, e2]
      refine ⟨_, gb_name (by simp), e_mulI (e_iL (ds := (tms l i).map .int) (e_var rfl) (e_var rfl) ?_) (e_iT (ds := [.int l[k].1, .int l[k].2]) (e_iT (ds := pd l) (e_var rfl) (e_var rfl) ?_) e_int rfl) (wide_mul (tm_bits hx.1 hx.2 i) hx.1 (by omega) (by omega) (by omega))⟩
      · rw [Int.zero_add]
        exact atI_nat (by rw [List.getElem?_map]; simp [tms, hk'])
      · rw [Int.zero_add]
        exact atI_nat (by unfold pd; rw [List.getElem?_map, List.getElem?_eq_getElem hk']; rfl)
    have cl7 := cl6.go g7
    rw [ed] at cl7
    rw [psums_succ, List.map_append]; exact cl7
  · rintro σ' Hk' H' ⟨h4, st, cl⟩
    rw [rng_len] at cl
    obtain ⟨Hk5, s5, st5⟩ := st.freeze (i := 2) cl rfl
    exact s_retE (d := pol (psums l m.toNat)) (e_tupL (e_var rfl)) st5 (Nat.le_refl _) fin rfl
/-! ### _law_wide -/
def R__law_wide : RelX := fun q sls c Φ => c = 60 ∧ ∃ (p : Addr) (m : Int), q = some p ∧ 1 ≤ m ∧ m ≤ 28 ∧ sls = [.adr p, .dat (.int m)] ∧ Φ = IntP fun x => x.natAbs < 2 ^ (101 * m.toNat)
theorem ok__law_wide (T : Tx K mg) : FnOk P w K mg base CX0 2 T.a__law_wide T.fd__law_wide P__law_wide (spX R__law_wide) := by
  have G__law_pick := ok__law_pick (P := P) (w := w) (base := base) T
  refine fn_ok T.F__law_wide sc__law_wide (by decide) (fun q sls c Φ h => by obtain ⟨_, p, m, _, _, _, rfl, _⟩ := h; rfl) fun cdv A outer s B0 Ew hr => ⟨_,
    (pss_cons (ps_set (i := 2) sc__law_wide.nd rfl (Or.inl rfl) pe_int)
      (pss_cons (ps_for PassesOwn.never rfl (pi_range1 rfl T.z_range (pa_cons (pe_op (k_addU (K := K) rfl) pe_int (pe_call G__law_pick (hr.mono (by decide)) (by rfl) T.m__law_pick T.F__law_pick.kp T.b__law_pick .nil pass0 (pa_cons (pv 0) (pa_cons (pv 1) pa_nil)))) pa_nil)) (pg_name (i := 3) sc__law_wide.nd rfl (Or.inl rfl)) (pss_one (ps_set (i := 2) sc__law_wide.nd rfl (Or.inl rfl) (pe_op (k_addU (K := K) rfl) (pe_op op_mulU (pv 2) (pe_op op_powW pe_int pe_int)) (pe_call G__law_pick (hr.mono (by decide)) (by rfl) T.m__law_pick T.F__law_pick.kp T.b__law_pick .nil pass0 (pa_cons (pv 0) (pa_cons (pe_op op_powW pe_int pe_int) pa_nil)))))))
      (pss_one (ps_ret (pe_ifExp (pt_cmpR (k_eqD (K := K) rfl hr.units) (pe_call G__law_pick (hr.mono (by decide)) (by rfl) T.m__law_pick T.F__law_pick.kp T.b__law_pick .nil pass0 (pa_cons (pv 0) (pa_cons pe_int pa_nil))) pe_int (nomark _)) (pv 2) (pe_op op_sub pe_int (pv 2))))))), fun q sls n c Φ A0 σ Q hR hA fin => ?_⟩
  obtain ⟨rfl, p, m, rfl, hm1, hm2, rfl, rfl⟩ := hR
  obtain ⟨T, eT⟩ : ∃ T : Int, T = (10 : Int) ^ (30 : Int).toNat := ⟨_, rfl⟩
  have hT : T = 1000000000000000000000000000000 := by rw [eT]; decide
  refine q_asgE e_int hA fun σ1 Hk1 H1 g1 a1 => ?_
  refine q_for (n := n + 50) (c := 1) (Ψ := fun items => ∃ k : Nat, (k : Int) ≤ m ∧ items = rng 0 k) ((ij_rng1 (j_addI (Φ := IntP fun x => 1 ≤ x ∧ x ≤ m) e_int.intP (j_pick rfl (e_var rfl) (by omega) (by omega)) fun i j hi hj => ⟨i + j, by omega, rfl⟩) fun j hj => ⟨by omega, j.toNat, by omega, rfl⟩)) (a1.mono (by omega)) fun items HkW H2 ⟨k, hk, ei⟩ g2 a2 => ?_
  subst ei
  refine ⟨fun i σ' Hk' H' => Same HkW Hk' ∧ ∃ (e : Nat) (v : Int), e + i = n + 50 ∧ i ≤ k ∧ v.natAbs < 2 ^ (101 * i) ∧ At (some p) e [.adr p, .dat (.int m), .dat (.int v), .any] A0 B0 σ' Hk' H', ⟨Same.refl _, n + 50, 0, by omega, by omega, by simp, a2⟩, fun i σ' Hk' H' h => ⟨h.1, by obtain ⟨_, e, v, _, _, _, st⟩ := h; exact st.ok.a⟩, ?_, ?_⟩
  · rintro i d σ' Hk' H' ed ⟨h2, e, u, he, hik, hu, st⟩ v Hk2 H3 g3 dv
    obtain ⟨hi, rfl⟩ := rng_get' ed
    refine gb_name (vs := [3]) (by simp) σ' Hk2 H3 v (st.sg.mono g3.k) g3.a dv _ fun σ2 sg2 _ _ => ?_
    obtain ⟨e1, ee1⟩ : ∃ e1, e = e1 + 1 := ⟨e - 1, by omega⟩
    have st2 : At (some p) e _ A0 B0 σ2 Hk2 H3 := ⟨st.ok.go g3, sg2, st.gr.trans g3.none_to⟩
    have ep : (E (some p) [.adr p, .dat (.int m), .dat (.int u), .dat (.int (0 + (i : Int)))] (tOp (rI CPowW fun i j => .int (i ^ j.toNat)) (tC (.int 10)) (tC (.int 30))) (.int T)) := e_is (e_pow e_int e_int (pow_ok (a := 4) (by decide) (by omega) (by omega) (by omega))) (by rw [eT])
    refine s_asg (n := e1) (c := 1) (Φ := IntP fun x => x.natAbs < 2 ^ (101 * (i + 1))) ((j_addI (P1 := fun x => x = u * T) (e_mulI (e_var rfl) ep (wide_mul (a := 101 * i + 1) (b := 100) (Nat.lt_of_lt_of_le hu (Nat.pow_le_pow_right (by decide) (by omega))) (by rw [hT]; decide) (by omega) (by omega) (by omega))).intP (j_pick rfl ep (by omega) (by rw [hT]; decide)) fun x y hx hy => ⟨x + y, ?_, rfl⟩).cost (by omega)) (st2.mono (by omega)) fun d σ3 Hk3 H4 ⟨z, hz, ed⟩ g4 a4 => ⟨Hk3, (h2.trans g3.k).trans g4.k, e1, z, by omega, by omega, hz, ?_⟩
    · subst ed; exact a4.forget 3
    · rw [hx]
      have h1 := Int.natAbs_add_le (u * T) y
      rw [Int.natAbs_mul] at h1
      have h3 : (2 : Nat) ^ (101 * (i + 1)) = 2 ^ (101 * i) * 2 ^ 101 := by rw [Nat.mul_add, Nat.mul_one, Nat.pow_add]
      rw [h3]
      have hN : T.natAbs ≤ 2 ^ 101 := by rw [hT]; decide
      have h6 : y.natAbs < T.natAbs := by omega
      have h4 : (u.natAbs + 1) * T.natAbs ≤ 2 ^ (101 * i) * 2 ^ 101 := Nat.mul_le_mul hu hN
      rw [Nat.add_mul, Nat.one_mul] at h4
      generalize u.natAbs * T.natAbs = s at h1 h4
      generalize 2 ^ (101 * i) * 2 ^ 101 = w at h4
      clear hN
      generalize T.natAbs = t at h4 h6
      clear hT eT
      omega
  · rintro σ' Hk' H' ⟨h2, e, u, he, hik, hu, st⟩
    rw [rng_len] at he hu
    have hu2 : u.natAbs < 2 ^ (101 * m.toNat) := Nat.lt_of_lt_of_le hu (Nat.pow_le_pow_right (by decide) (by omega))
    refine s_ret (n := n) (c := 1) (Φ := IntP fun x => x = u ∨ x = -u) ((j_if (c := 1) (c1 := 0) (P := fun _ => True) (tj_test (j_eqDI (Φ := BoolP fun _ => True) (j_pick rfl e_int (by omega) (by omega)) e_int.intP fun i j _ _ => ⟨i == j, trivial, rfl⟩)) (fun _ => (e_var rfl).is (.inl rfl)) (fun _ => (e_is (e_subI e_int (e_var rfl)) (by rw [Int.zero_sub])).is (.inr rfl))).cost (by omega)) st (by omega) fin fun d ⟨x, hx, ed⟩ => ⟨x, ?_, ed⟩
    rcases hx with e | e
    · rw [e]; exact hu2
    · rw [e, Int.natAbs_neg]; exact hu2
/-! ### _law_trim -/
def R__law_trim : RelX := fun _ sls c Φ => c = 0 ∧ ∃ r : List Int, r.length ≤ 100000 ∧ sls = [.dat (.list (r.map .int))] ∧ Φ = fun d => d = pol (trimL r)
theorem ok__law_trim (T : Tx K mg) : FnOk P w K mg base CX0 1 T.a__law_trim T.fd__law_trim P__law_trim (spX R__law_trim) := by
  refine fn_ok T.F__law_trim sc__law_trim (by decide) (fun q sls c Φ h => by obtain ⟨_, r, _, rfl, _⟩ := h; rfl) fun cdv A outer s B0 Ew hr => ⟨_,
    (pss_cons (ps_set (i := 1) sc__law_trim.nd rfl (Or.inl rfl) (pe_callB (k_len (K := K) rfl) (by rfl) T.z_len (by decide +kernel) (pa_cons (pv 0) pa_nil)))
      (pss_cons (ps_while PassesOwn.never (PW.pt (pw_and (pt_cmpR op_gt (pv 1) pe_int (nomark _)) (pw_and1 (pt_cmpR (k_eqD (K := K) rfl hr.units) (pe_ix (k_ix (K := K) rfl) (pv 0) (pe_op op_sub (pv 1) pe_int) (fun _ _ => rfl)) pe_int (nomark _))))) (pss_one (ps_set (i := 1) sc__law_trim.nd rfl (Or.inl rfl) (pe_op op_sub (pv 1) pe_int))))
      (pss_one (ps_ret (pe_callTy (k_tup (K := K) rfl) (by rfl) T.z_tuple (by decide +kernel) (pa_cons (pe_slice (k_sl (K := K) rfl) (pv 0) po_none (po_some (pv 1))) pa_nil)))))), fun q sls n c Φ A0 σ Q hR hA fin => ?_⟩
  obtain ⟨rfl, r, hl, rfl, rfl⟩ := hR
  refine q_asgE (d := .int (r.length : Nat)) (e_is (e_lenL (e_var rfl)) (by rw [pol_len])) hA fun σ1 Hk1 H1 g1 a1 => ?_
  refine q_while (q := q) (A0 := A0) (B0 := B0) (fun m σ' Hk' H' => m ≤ r.length ∧ trimL (r.take m) = trimL r ∧ At q n [.dat (.list (r.map .int)), .dat (.int (m : Nat))] A0 B0 σ' Hk' H') r.length ⟨Nat.le_refl _, by rw [List.take_length], a1⟩ fun m σ' Hk' H' ⟨hm, ht, st⟩ => ?_
  refine ⟨_, decide ((0 : Int) < (m : Int)) && (r.getD (m - 1) 0 == 0), n, tb_and (tb_test (e_gtI (e_var rfl) e_int)) (fun hpos => ?_), st, fun hb Hk2 H2 g2 a2 => ?_, fun hb Hk2 H2 g2 a2 => ?_⟩
  · have h0 : 0 < m := by
      have z := of_decide_eq_true hpos
      omega
    have hlt : m - 1 < r.length := by omega
    have z := atI_nat (xs := r.map PyData.int) (j := m - 1) (v := .int (r.getD (m - 1) 0)) (by
      rw [List.getElem?_map, List.getElem?_eq_getElem hlt]
      simp [List.getD_eq_getElem?_getD, hlt])
    exact tb_test (e_eqDI (e_iL (e_var rfl) (e_subI (e_var rfl) e_int) (by rw [show ((m : Nat) : Int) - 1 = ((m - 1 : Nat) : Int) by omega]; exact z)) e_int)
  · rw [Bool.and_eq_true] at hb
    have h0 : 0 < m := by
      have z := of_decide_eq_true hb.1
      omega
    have hlt : m - 1 < r.length := by omega
    have hz : r.getD (m - 1) 0 = 0 := by simpa using hb.2
    refine s_asgE (d := .int ((m - 1 : Nat) : Nat)) (e_is (e_subI (e_var rfl) e_int) (by congr 1; omega)) a2 fun σ3 Hk3 H3 g3 a3 => ⟨m - 1, Hk3, by omega, by omega, ?_, a3⟩
    rw [← ht]
    have e : r.take m = r.take (m - 1) ++ [0] := by
      have e1 : m = (m - 1) + 1 := by omega
      rw [e1, List.take_add_one, List.getElem?_eq_getElem (by omega)]
      rw [List.getD_eq_getElem?_getD, List.getElem?_eq_getElem hlt] at hz
      have hz' : r[m - 1] = 0 := hz
      show r.take (m - 1) ++ [r[m - 1]] = _
      rw [hz']; rfl
    rw [e, trimL_snoc0]
  · have hfin : trimL (r.take m) = r.take m := by
      by_cases h0 : 0 < m
      · have hlt : m - 1 < r.length := by omega
        have e : r.take m = r.take (m - 1) ++ [r[m - 1]] := by
          have e1 : m = (m - 1) + 1 := by omega
          conv => lhs; rw [e1]
          rw [List.take_add_one, List.getElem?_eq_getElem hlt]; rfl
        have hnz : r[m - 1] ≠ 0 := fun z => by
          have z1 : r.getD (m - 1) 0 = 0 := by
            rw [List.getD_eq_getElem?_getD, List.getElem?_eq_getElem hlt]; exact z
          rw [z1, decide_eq_true (by omega)] at hb
          cases hb
        rw [e, trimL_snoc _ hnz]
      · have e : m = 0 := by omega
        subst e; rfl
    refine s_retE (d := pol (trimL r)) (e_is (e_tupL (e_slL (e_var rfl) to_none (to_some (e_var rfl)))) ?_) a2 (Nat.le_refl _) fin rfl
    rw [cutD_to, ← ht, hfin]
    unfold pol
    rw [List.map_take]
/-! ### _law_by -/
def R__law_by : RelX := fun _ sls c Φ => c = 0 ∧ ∃ (f g : List Int) (B : Nat), Pl f ∧ Pl g ∧ CB B f ∧ CB B g ∧ 0 < B ∧ B ≤ 100000 ∧ f.length ≤ 1000 ∧ g.length ≤ 1000 ∧ sls = [.dat (pol f), .dat (pol g)] ∧ Φ = fun d => d = pol (convP f g)
theorem ok__law_by (T : Tx K mg) : FnOk P w K mg base CX0 2 T.a__law_by T.fd__law_by P__law_by (spX R__law_by) := by
  have G__law_trim := ok__law_trim (P := P) (w := w) (base := base) T
  refine fn_ok T.F__law_by sc__law_by (by decide) (fun q sls c Φ h => by obtain ⟨_, f, g, B, _, _, _, _, _, _, _, _, rfl, _⟩ := h; rfl) fun cdv A outer s B0 Ew hr => ⟨_,
    (pss_cons (ps_set (i := 2) sc__law_by.nd rfl (Or.inl rfl) (pe_op op_mulU (pe_lst (pa_cons pe_int pa_nil)) (pe_callB (call_maxQ rfl) (by rfl) T.z_max (by decide +kernel) (pa_cons pe_int (pa_cons (pe_op op_sub (pe_op (k_addU (K := K) rfl) (pe_callB (k_len (K := K) rfl) (by rfl) T.z_len (by decide +kernel) (pa_cons (pv 0) pa_nil)) (pe_callB (k_len (K := K) rfl) (by rfl) T.z_len (by decide +kernel) (pa_cons (pv 1) pa_nil))) pe_int) pa_nil)))))
      (pss_cons (ps_for PassesOwn.never rfl (pi_range1 rfl T.z_range (pa_cons (pe_callB (k_len (K := K) rfl) (by rfl) T.z_len (by decide +kernel) (pa_cons (pv 0) pa_nil)) pa_nil)) (pg_name (i := 3) sc__law_by.nd rfl (Or.inl rfl)) (pss_one (ps_for PassesOwn.never rfl (pi_range1 rfl T.z_range (pa_cons (pe_callB (k_len (K := K) rfl) (by rfl) T.z_len (by decide +kernel) (pa_cons (pv 1) pa_nil)) pa_nil)) (pg_name (i := 4) sc__law_by.nd rfl (Or.inl rfl)) (pss_one (ps_asg (pe_op (k_addU (K := K) rfl) (pe_ix (k_ix (K := K) rfl) (pv 2) (pe_op (k_addU (K := K) rfl) (pv 3) (pv 4)) (fun _ _ => rfl)) (pe_op op_mulU (pe_ix (k_ix (K := K) rfl) (pv 0) (pv 3) (fun _ _ => rfl)) (pe_ix (k_ix (K := K) rfl) (pv 1) (pv 4) (fun _ _ => rfl)))) (pg_sub (pv 2) (pe_op (k_addU (K := K) rfl) (pv 3) (pv 4)) set_list))))))
      (pss_one (ps_ret (pe_call G__law_trim (hr.mono (by decide)) (by rfl) T.m__law_trim T.F__law_trim.kp T.b__law_trim .nil pass0 (pa_cons (pv 2) pa_nil)))))), fun q sls n c Φ A0 σ Q hR hA fin => ?_⟩
  obtain ⟨rfl, f, g, B, hP, hP2, hf, hg, hB0, hB, hl, hl2, rfl, rfl⟩ := hR
  obtain ⟨M, eM⟩ : ∃ M : Int, M = if (f.length : Int) + (g.length : Int) - 1 > 0 then (f.length : Int) + (g.length : Int) - 1 else 0 := ⟨_, rfl⟩
  have hM : 0 ≤ M ∧ M.toNat = f.length + g.length - 1 := by
    rw [eM]
    split <;> omega
  refine q_newRep (i := 2) (m := M) (es := [.int 0]) (ae_cons e_int ae_nil) (by simp) (e_is (e_max e_int (e_subI (e_addI (e_lenT (e_var rfl)) (e_lenT (e_var rfl))) e_int)) (by rw [pol_len, pol_len, eM])) (by omega) (by omega) (by simp; omega) hA fun p Hk2 H2 g2 a2 cl2 => ?_
  rw [hM.2, zeros_data, ← part_zero f g] at cl2
  refine q_for (n := n) (c := 0) (ie_rng1 (j := (f.length : Nat)) (e_is (e_lenT (e_var rfl)) (by rw [pol_len])) (by omega) (by omega)) a2 fun items HkW H3 e g3 a3 => ?_
  subst e
  refine ⟨fun i σ' Hk' H' => Same HkW Hk' ∧ At q n [.dat (pol f), .dat (pol g), .adr p, .any, .any] A0 B0 σ' Hk' H' ∧ Cell q B0 Hk' H' p ((part f g i 0).map .int), ⟨Same.refl _, a3, cl2.go g3⟩, fun i σ' Hk' H' h => ⟨h.1, h.2.1.ok.a⟩, ?_, ?_⟩
  · rintro i d σ' Hk' H' ed ⟨h4, st, cl⟩ v Hk4 H4 g4 dv
    obtain ⟨hi0, rfl⟩ := rng_get' ed
    have hi : i < f.length := by omega
    refine gb_name (vs := [3]) (by simp) σ' Hk4 H4 v (st.sg.mono g4.k) g4.a dv _ fun σ2 sg2 _ _ => ?_
    have st2 : At q n _ A0 B0 σ2 Hk4 H4 := ⟨st.ok.go g4, sg2, st.gr.trans g4.none_to⟩
    refine s_for (n := n) (c := 0) (ie_rng1 (j := (g.length : Nat)) (e_is (e_lenT (e_var rfl)) (by rw [pol_len])) (by omega) (by omega)) st2 fun items HkV H5 e g5 a5 => ?_
    subst e
    refine ⟨fun j σ' Hk' H' => Same HkV Hk' ∧ At q n [.dat (pol f), .dat (pol g), .adr p, .dat (.int (0 + (i : Int))), .any] A0 B0 σ' Hk' H' ∧ Cell q B0 Hk' H' p ((part f g i j).map .int), ⟨Same.refl _, a5, (cl.go g4.none_to).go g5⟩, fun i σ' Hk' H' h => ⟨h.1, h.2.1.ok.a⟩, ?_, ?_⟩
    · rintro j d σ3 Hk6 H6 ed ⟨h6, st6, cl6⟩ v6 Hk7 H7 g7 dv7
      obtain ⟨hj0, rfl⟩ := rng_get' ed
      have hj : j < g.length := by omega
      refine gb_name (vs := [4]) (by simp) σ3 Hk7 H7 v6 (st6.sg.mono g7.k) g7.a dv7 _ fun σ4 sg4 _ _ => ?_
      have st7 : At q n _ A0 B0 σ4 Hk7 H7 := ⟨st6.ok.go g7, sg4, st6.gr.trans g7.none_to⟩
      have hlt : i + j < (part f g i j).length := by rw [part_len]; omega
      have at1 : atI ((part f g i j).map PyData.int) ((0 + (i : Int)) + (0 + (j : Int))) = some (.int ((part f g i j).getD (i + j) 0)) := by
        have z := atI_nat (xs := (part f g i j).map PyData.int) (j := i + j) (v := .int ((part f g i j).getD (i + j) 0)) (by
          rw [List.getElem?_map, List.getElem?_eq_getElem hlt]
          simp [List.getD_eq_getElem?_getD, hlt])
        rw [show (0 + (i : Int)) + (0 + (j : Int)) = ((i + j : Nat) : Int) by omega]; exact z
      have at2 : ∀ {h : List Int} {k : Nat}, k < h.length → atI (h.map PyData.int) (0 + (k : Int)) = some (.int (h.getD k 0)) := fun {h k} hk => by
        have z := atI_nat (xs := h.map PyData.int) (j := k) (v := .int (h.getD k 0)) (by
          rw [List.getElem?_map, List.getElem?_eq_getElem hk]
          simp [List.getD_eq_getElem?_getD, hk])
        rw [Int.zero_add]; exact z
      refine s_setCE (i := 2) (j := i + j) (m := (0 + (i : Int)) + (0 + (j : Int))) (c := 0) (Φ := fun d => d = .int ((part f g i j).getD (i + j) 0 + f.getD i 0 * g.getD j 0)) (e_addI (e_iL (e_var rfl) (e_addI (e_var rfl) (e_var rfl)) at1) (e_mulI (e_iT (e_var rfl) (e_var rfl) (at2 hi)) (e_iT (e_var rfl) (e_var rfl) (at2 hj)) (wide_mul (hf _ (Cr.getD_mem hi)) (hg _ (Cr.getD_mem hj)) hB0 hB0 (by omega)))) st7 (cl6.go g7.none_to) rfl (fun d ed => by rw [ed]; rfl) (e_addI (e_var rfl) (e_var rfl)) (by omega) (by rw [List.length_map]; exact hlt) fun d Hk8 H8 ed s8 a8 cl8 => ⟨Hk8, (h6.trans g7.k).trans s8, a8.forget 4, ?_⟩
      rw [ed] at cl8
      rw [part_step]
      unfold addAt
      rw [List.map_set]; exact cl8
    · rintro σ3 Hk6 H6 ⟨h6, st6, cl6⟩
      rw [rng_len, show ((g.length : Nat) : Int).toNat = g.length by omega, part_row] at cl6
      exact ⟨Hk6, ((h4.trans g4.k).trans g5.k).trans h6, st6.forget 3, cl6⟩
  · rintro σ' Hk' H' ⟨h4, st, cl⟩
    rw [rng_len, show ((f.length : Nat) : Int).toNat = f.length by omega, part_end] at cl
    obtain ⟨Hk5, s5, st5⟩ := st.freeze (i := 2) cl rfl
    exact s_retE (d := pol (convP f g)) (j_call (R := R__law_trim) (ae_cons (e_var rfl) ae_nil) fun sls e => ⟨rfl, conv f g, by rw [conv_len]; omega, e, by rw [trim_conv hP hP2]⟩) st5 (Nat.le_refl _) fin rfl
/-! ### _law_gcd -/
def R__law_gcd : RelX := fun _ sls c Φ => c = 0 ∧ ∃ a b : Int, sls = [.dat (.int a), .dat (.int b)] ∧ Φ = fun d => d = .int (gI a b)
theorem ok__law_gcd (T : Tx K mg) : FnOk P w K mg base CX0 1 T.a__law_gcd T.fd__law_gcd P__law_gcd (spX R__law_gcd) := by
  refine fn_ok T.F__law_gcd sc__law_gcd (by decide) (fun q sls c Φ h => by obtain ⟨_, a, b, rfl, _⟩ := h; rfl) fun cdv A outer s B0 Ew hr => ⟨_,
    (pss_cons (ps_par (i := 0) (j := 1) (by rfl) sc__law_gcd.nd rfl rfl (by decide) rfl rfl (pa_cons (pe_callB call_absQ (by rfl) T.z_abs (by decide +kernel) (pa_cons (pv 0) pa_nil)) (pa_cons (pe_callB call_absQ (by rfl) T.z_abs (by decide +kernel) (pa_cons (pv 1) pa_nil)) pa_nil)) (by rfl))
      (pss_cons (ps_while PassesOwn.never (pt_cmpR op_gt (pv 1) pe_int (nomark _)) (pss_one (ps_par (i := 0) (j := 1) (by rfl) sc__law_gcd.nd rfl rfl (by decide) rfl rfl (pa_cons (pv 1) (pa_cons (pe_op op_modN (pe_callTy call_intQ (by rfl) T.z_int (by decide +kernel) (pa_cons (pv 0) pa_nil)) (pv 1)) pa_nil)) (by rfl))))
      (pss_one (ps_ret (pv 0))))), fun q sls n c Φ A0 σ Q hR hA fin => ?_⟩
  obtain ⟨rfl, a, b, rfl, rfl⟩ := hR
  refine q_parEE (i := 0) (j := 1) (d1 := .int ((a.natAbs : Nat) : Int)) (d2 := .int ((b.natAbs : Nat) : Int)) (e_is (e_abs (e_var rfl)) (by split <;> congr 1 <;> omega)) (e_is (e_abs (e_var rfl)) (by split <;> congr 1 <;> omega)) hA fun σ1 Hk1 H1 g1 a1 => ?_
  refine q_while (q := q) (A0 := A0) (B0 := B0) (fun m σ' Hk' H' => ∃ X Y : Nat, m = Y ∧ Nat.gcd X Y = Nat.gcd a.natAbs b.natAbs ∧ At q n [.dat (.int (X : Int)), .dat (.int (Y : Int))] A0 B0 σ' Hk' H') b.natAbs ⟨a.natAbs, b.natAbs, rfl, rfl, a1⟩ ?_
  rintro m σ' Hk' H' ⟨X, Y, rfl, hg, st⟩
  refine ⟨_, decide ((0 : Int) < (m : Int)), n, tb_test (e_gtI (e_var rfl) e_int), st, fun hb Hk2 H2 g2 a2 => ?_, fun hb Hk2 H2 g2 a2 => ?_⟩
  · have hm : 0 < m := by have := of_decide_eq_true hb; omega
    refine s_parEE (i := 0) (j := 1) (d1 := .int (m : Int)) (d2 := .int ((X % m : Nat) : Int)) (e_var rfl) (e_is (e_mod (e_toInt (e_var rfl)) (e_var rfl) (by omega)) (by rw [gI_step])) a2 fun σ3 Hk3 H3 g3 a3 => ⟨X % m, Hk3, Nat.mod_lt _ hm, m, X % m, rfl, ?_, a3⟩
    rw [← hg, Nat.gcd_comm X m, Nat.gcd_rec m X, Nat.gcd_comm]
  · have hm : m = 0 := by have := of_decide_eq_false hb; omega
    subst hm
    exact s_retE (d := .int (X : Int)) (e_var rfl) a2 (Nat.le_refl _) fin (by unfold gI; rw [← hg, Nat.gcd_zero_right])
/-! ### _law_poly -/
def R__law_poly : RelX := fun q sls c Φ => c = 40 ∧ ∃ (p : Addr) (dg sz : Int), q = some p ∧ 1 ≤ dg ∧ dg ≤ 24 ∧ 1 ≤ sz ∧ sz < 2 ^ 120 ∧ sls = [.adr p, .dat (.int dg), .dat (.int sz)] ∧ Φ = fun d => ∃ f, Pl f ∧ CB 130 f ∧ f.length ≤ 26 ∧ d = pol f
theorem ok__law_poly (T : Tx K mg) : FnOk P w K mg base CX0 2 T.a__law_poly T.fd__law_poly P__law_poly (spX R__law_poly) := by
  have G__law_pick := ok__law_pick (P := P) (w := w) (base := base) T
  have G__law_trim := ok__law_trim (P := P) (w := w) (base := base) T
  refine fn_ok T.F__law_poly sc__law_poly (by decide) (fun q sls c Φ h => by obtain ⟨_, p, dg, sz, _, _, _, _, _, rfl, _⟩ := h; rfl) fun cdv A outer s B0 Ew hr => ⟨_,
    (pss_cons (ps_setLc (i := 3) (own := [("k", 4)]) rfl sc__law_poly.nd rfl rfl (sw_true rfl rfl rfl (by decide +kernel)) (pi_range1 rfl T.z_range (pa_cons (pe_call G__law_pick (hr.mono (by decide)) (by rfl) T.m__law_pick T.F__law_pick.kp T.b__law_pick .nil pass0 (pa_cons (pv 0) (pa_cons (pe_op (k_addU (K := K) rfl) (pv 1) pe_int) pa_nil))) pa_nil)) (blkOk_by (own := [("k", 4)]) (N := N__law_poly) (sc := defScope s__law_poly) (by decide +kernel)) (fun _ _ _ _ _ => (pg_name (i := 4) sc__law_poly.nd rfl (Or.inl rfl))) (fun _ _ _ _ _ => pts_nil) (fun _ _ _ _ _ => (pe_op op_sub (pe_call G__law_pick (hr.mono (by decide)) (by rfl) T.m__law_pick T.F__law_pick.kp T.b__law_pick .nil pass0 (pa_cons (pv 0) (pa_cons (pe_op (k_addU (K := K) rfl) (pe_op op_mulU pe_int (pv 2)) pe_int) pa_nil))) (pv 2))))
      (pss_one (ps_ret (pe_call G__law_trim (hr.mono (by decide)) (by rfl) T.m__law_trim T.F__law_trim.kp T.b__law_trim .nil pass0 (pa_cons (pv 3) pa_nil))))), fun q sls n c Φ A0 σ Q hR hA fin => ?_⟩
  obtain ⟨rfl, p, dg, sz, rfl, hd1, hd2, hs1, hs2, rfl, rfl⟩ := hR
  refine q_asg (n := n) (c := 27) (Φ := fun d => ∃ r : List Int, r.length ≤ 26 ∧ CB 130 r ∧ d = .list (r.map .int)) ?_ (hA.mono (by omega)) fun d σ1 Hk1 H1 ⟨r, hr1, hr2, ed⟩ g1 a1 => ?_
  · refine ((j_lcD (c := 1) (c1 := 1) (N := 26) (emb := fun i : Nat => PyData.int (0 + (i : Int))) (vs := [4]) (Ψ := fun xs : List Nat => xs.length ≤ 26) (Φ := fun d => ∃ v : Int, v.natAbs < 2 ^ 130 ∧ d = .int v) (ij_rng1 (j_pick rfl (e_addI (e_var rfl) e_int) (by omega) (by omega)) fun j hj => ⟨by omega, List.range j.toNat, by rw [List.length_range]; omega, rfl⟩) (fun xs h => h) (by omega) fun xs hx i hi => ⟨_, gb_name (by simp), (j_subI (j_pick rfl (e_addI (e_mulI e_int (e_var rfl) (wide_mul (a := 2) (b := 120) (by decide) (by omega) (by omega) (by omega) (by omega))) e_int) (by omega) (by omega)) (e_var rfl).intP fun i j hi hj => ⟨i - j, by omega, rfl⟩).cost (by omega)⟩).imp fun d ⟨xs, ds, h1, h2, h3, h4⟩ => ?_)
    obtain ⟨r, e, hr⟩ := ints_of h3
    exact ⟨r, by rw [e, List.length_map] at h2; omega, hr, by rw [h4, e]⟩
  subst ed
  exact s_ret (n := n) (c := 0) (Φ := fun d => d = pol (trimL r)) (j_call (R := R__law_trim) (ae_cons (e_var rfl) ae_nil) fun sls e => ⟨rfl, r, by omega, e, rfl⟩) a1 (by omega) fin fun d e => ⟨trimL r, trimL_Pl r, fun a ha => hr2 a (trimL_mem ha), by have := trimL_len r; omega, e⟩
/-! ### _law_kept -/
def R__law_kept : RelX := fun q sls c Φ => c = 42 ∧ ∃ (p : Addr) (dg sz : Int), q = some p ∧ 1 ≤ dg ∧ dg ≤ 24 ∧ 1 ≤ sz ∧ sz < 2 ^ 60 ∧ sls = [.adr p, .dat (.int dg), .dat (.int sz)] ∧ Φ = fun d => ∃ f, (Pl f ∧ f ≠ [] ∧ CB 130 f ∧ f.length ≤ 26) ∧ d = pol f
theorem ok__law_kept (T : Tx K mg) : FnOk P w K mg base CX0 3 T.a__law_kept T.fd__law_kept P__law_kept (spX R__law_kept) := by
  have G__law_pick := ok__law_pick (P := P) (w := w) (base := base) T
  have G__law_poly := ok__law_poly (P := P) (w := w) (base := base) T
  refine fn_ok T.F__law_kept sc__law_kept (by decide) (fun q sls c Φ h => by obtain ⟨_, p, dg, sz, _, _, _, _, _, rfl, _⟩ := h; rfl) fun cdv A outer s B0 Ew hr => ⟨_,
    (pss_cons (ps_set (i := 3) sc__law_kept.nd rfl (Or.inl rfl) (pe_call G__law_poly (hr.mono (by decide)) (by rfl) T.m__law_poly T.F__law_poly.kp T.b__law_poly .nil pass0 (pa_cons (pv 0) (pa_cons (pv 1) (pa_cons (pv 2) pa_nil)))))
      (pss_one (ps_ret (pe_ifExp (pt_cmpR (k_neD (K := K) rfl hr.units) (pv 3) (Cr.pe_tup pa_nil) (nomark _)) (pv 3) (Cr.pe_tup (pa_cons (pe_op (k_addU (K := K) rfl) pe_int (pe_call G__law_pick (hr.mono (by decide)) (by rfl) T.m__law_pick T.F__law_pick.kp T.b__law_pick .nil pass0 (pa_cons (pv 0) (pa_cons (pv 2) pa_nil)))) pa_nil)))))), fun q sls n c Φ A0 σ Q hR hA fin => ?_⟩
  obtain ⟨rfl, p, dg, sz, rfl, hd1, hd2, hs1, hs2, rfl, rfl⟩ := hR
  refine q_asg (i := 3) (n := n + 2) (c := 40) (Φ := fun d => ∃ f, Pl f ∧ CB 130 f ∧ f.length ≤ 26 ∧ d = pol f) (j_call (R := R__law_poly) (c := 40) (c1 := 0) (ae_adr rfl (ae_cons (e_var rfl) (ae_cons (e_var rfl) ae_nil))) fun sls e => ⟨rfl, p, dg, sz, rfl, hd1, hd2, hs1, by omega, e, rfl⟩) hA fun d σ1 Hk1 H1 ⟨f, hP, hC, hl, ed⟩ g1 a1 => ?_
  subst ed
  refine s_ret (n := n) (c := 2) ((j_if (c := 0) (c1 := 2) (P := fun b => b = !decide (f = [])) (Φ := fun d => ∃ f, (Pl f ∧ f ≠ [] ∧ CB 130 f ∧ f.length ≤ 26) ∧ d = pol f) (tb_test (e_is (e_neD (e_var rfl) (e_is (e_tup (ds := []) ae_nil) (d1 := pol []) rfl) (pol_shape f) (pol_shape [])) (by rw [eqv_pols]))) (fun hb => ?_) (fun hb => ?_)).cost (by omega)) a1 (by omega) fin fun d e => e
  · have hf : f ≠ [] := by simpa using hb
    exact (show J (some p) _ _ 0 _ from (e_var rfl).imp fun d e => ⟨f, ⟨hP, hf, hC, hl⟩, e⟩).cost (by omega)
  · refine ((j_tup (c := 1) (Ψ := fun ds => ∃ a : Int, (1 ≤ a ∧ a ≤ sz) ∧ ds = [.int a]) ((aj_int (c1 := 1) (c2 := 0) (P := fun a => 1 ≤ a ∧ a ≤ sz) (Φ' := fun sls => ∃ a : Int, (1 ≤ a ∧ a ≤ sz) ∧ sls = [.dat (.int a)]) (Φr := fun sls => sls = []) ((j_addI (c1 := 0) (c2 := 1) e_int.intP (j_pick rfl (e_var rfl) (by omega) (by omega)) fun i j hi hj => ⟨i + j, by omega, rfl⟩).cost (by omega)) ae_nil fun i sls hi e => ⟨i, hi, by rw [e]⟩).imp fun sls ⟨a, ha, e⟩ => ⟨[.int a], e, by simp, a, ha, rfl⟩)).imp fun d ⟨ds, ⟨a, ha, e⟩, e2⟩ => ⟨[a], ⟨?_, by simp, ?_, by simp⟩, by rw [e2, e]; rfl⟩).cost (by omega)
    · simp [Pl]; omega
    · intro x hx
      rw [List.mem_singleton.mp hx]
      exact lt_pow (a := 60) (by omega) (by omega)
/-! ### _law_multiplied -/

theorem ok__law_multiplied (T : Tx K mg) : FnOk P w K mg base CX0 3 T.a__law_multiplied T.fd__law_multiplied P__law_multiplied spM := by
  have G__law_by := ok__law_by (P := P) (w := w) (base := base) T
  refine T.F__law_multiplied.ok sc__law_multiplied (fun vs H Q Ew h => by obtain ⟨_, _, _, _, _, _, rfl, _⟩ := h; rfl) (fun cdv A outer s H vs Q Ew hr h => ?_)
  have hu := hu_of hr
  obtain ⟨q, Hk, r, kvs, n, o, rfl, nk, nq, hm, hG, kont⟩ := h
  refine ⟨_, (pss_cons (ps_set (i := 1) sc__law_multiplied.nd rfl (Or.inl rfl) (Cr.pe_tup (pa_cons pe_int pa_nil)))
      (pss_cons (ps_lock (ps_for PassesOwn.never rfl (pi_keys (pv 0)) (pg_name (i := 2) sc__law_multiplied.nd rfl (Or.inl rfl)) (pss_one (ps_for PassesOwn.never rfl (pi_range1 rfl T.z_range (pa_cons (pe_dget hu (pv 0) (pv 2) (fun _ _ => rfl)) pa_nil)) (pg_name (i := 3) sc__law_multiplied.nd rfl (Or.inl rfl)) (pss_one (ps_set (i := 1) sc__law_multiplied.nd rfl (Or.inl rfl) (pe_call G__law_by (hr.mono (by decide)) (by rfl) T.m__law_by T.F__law_by.kp T.b__law_by .nil pass0 (pa_cons (pv 1) (pa_cons (pv 2) pa_nil)))))))))
      (pss_one (ps_ret (pv 1))))), ?_⟩
  have o2 := o.ext
  have nk2 : Cr.ext Hk H r = none := ext_none nk fun xs z => by rw [hm] at z; cases z
  have hA : At q n [.adr r, .any, .any, .any] (Cr.ext Hk H) (hole r H) (L2.start N__law_multiplied [.ref r]) (Cr.ext Hk H) H := ⟨o2, start_sg (N := N__law_multiplied) (VS.cons (s := .adr r) rfl VS.nil) (by show 1 ≤ 4; decide), Gr.hole o2.a⟩
  have hb : ∀ b xs, hole r H b = some (.tup xs) → Cr.ext Hk H b ≠ none := fun b xs e => by
    refine ext_base o.a b xs ?_
    by_cases hbr : b = r
    · rw [hbr, hole_at] at e; cases e
    · rw [hole_ne hbr] at e; exact e
  refine q_asgE (i := 1) (d := pol [1]) (e_tup (ds := [.int 1]) (ae_cons e_int ae_nil)) hA fun σ1 Hk1 H1 g1 a1 => ?_
  have t1 : TCell q (hole r H) Hk1 H1 r kvs := ⟨g1.f r nk2 (by rw [hm]; exact fun z => by cases z), nq, hole_at, g1.s r _ nq hm⟩
  refine q_mulT (sp := spX R__law_by) (fun δ g f hf hg hgl hgc h1 h2 => j_call (R := R__law_by) (ae_cons (e_var h1) (ae_cons (e_var h2) ae_nil)) fun sls e => ⟨rfl, g, f, 250, hg, hf.2.1, hgc, hf.2.2.1.mono (by omega), by omega, by omega, by omega, by have := hf.1; omega, e, rfl⟩) a1 t1 hG hb fun g σ2 Hk2 H2 hg a2 t2 => ?_
  obtain ⟨w, hw, dw⟩ := a2.sg.get (i := 1) rfl
  have g2 : Gr q (Cr.ext Hk H) H Hk2 H2 := by
    refine ⟨a2.gr.k, a2.gr.a, fun b u hq e => ?_, fun b e z => ?_, fun b e => ?_⟩
    · by_cases hbr : b = r
      · rw [hbr] at e ⊢; rw [hm] at e; rw [t2.ex]; exact e
      · exact a2.gr.s b u hq (by rw [hole_ne hbr]; exact e)
    · by_cases hbr : b = r
      · rw [hbr]; exact t2.nk
      · exact a2.gr.f b e (by rw [hole_ne hbr]; exact z)
    · by_cases hbr : b = r
      · rw [hbr, t2.ex]; exact fun z => by cases z
      · exact a2.gr.t b (by rw [hole_ne hbr]; exact e)
  exact ⟨w, hw, kont g w Hk2 H2 g2 a2.ok hg dw⟩
/-! ### _law_ledger -/
def R__law_ledger : RelX := fun q sls c Φ => c = 300 ∧ ∃ (p : Addr) (m : Int), q = some p ∧ 0 ≤ m ∧ m ≤ 100 ∧ sls = [.adr p, .dat (.int m)] ∧ Φ = fun d => ∃ l, Led l ∧ (l.length : Int) ≤ m ∧ Kb 52 60 l ∧ d = led l
theorem j_ledger {δ : List Sl} {i : Nat} {p : Addr} {E0 : XK} {tm : TE} {m : Int} (hi : δ[i]? = some (.adr p)) (h : E (some p) δ tm (.int m)) (h0 : 0 ≤ m) (h1 : m ≤ 100) :
    J (some p) δ (tCall (spX R__law_ledger) [] E0 (tCons (tVar i) (tCons tm tNil))) 300 (fun d => ∃ l, Led l ∧ (l.length : Int) ≤ m ∧ Kb 52 60 l ∧ d = led l) :=
  (j_call (R := R__law_ledger) (c := 300) (c1 := 0) (ae_adr hi (ae_cons h ae_nil)) fun sls e => ⟨rfl, p, m, rfl, h0, h1, e, rfl⟩)
theorem ok__law_ledger (T : Tx K mg) : FnOk P w K mg base CX0 3 T.a__law_ledger T.fd__law_ledger P__law_ledger (spX R__law_ledger) := by
  have G__law_amount := ok__law_amount (P := P) (w := w) (base := base) T
  have G__law_gather := ok__law_gather (P := P) (w := w) (base := base) T
  have G__law_pick := ok__law_pick (P := P) (w := w) (base := base) T
  refine fn_ok T.F__law_ledger sc__law_ledger (by decide) (fun q sls c Φ h => by obtain ⟨_, p, m, _, _, _, rfl, _⟩ := h; rfl) fun cdv A outer s B0 Ew hr => ⟨_,
    (pss_cons (ps_set (i := 2) sc__law_ledger.nd rfl (Or.inl rfl) (pe_ix (k_ix (K := K) rfl) (pe_lst (pa_cons pe_int (pa_cons pe_int (pa_cons pe_int (pa_cons (pe_op op_sub (pe_op op_powW pe_int pe_int) pe_int) pa_nil))))) (pe_call G__law_pick (hr.mono (by decide)) (by rfl) T.m__law_pick T.F__law_pick.kp T.b__law_pick .nil pass0 (pa_cons (pv 0) (pa_cons pe_int pa_nil))) (fun _ _ => rfl)))
      (pss_cons (ps_set (i := 3) sc__law_ledger.nd rfl (Or.inl rfl) (pe_ix (k_ix (K := K) rfl) (pe_lst (pa_cons pe_int (pa_cons pe_int (pa_cons (pe_op op_powW pe_int pe_int) pa_nil)))) (pe_call G__law_pick (hr.mono (by decide)) (by rfl) T.m__law_pick T.F__law_pick.kp T.b__law_pick .nil pass0 (pa_cons (pv 0) (pa_cons pe_int pa_nil))) (fun _ _ => rfl)))
      (pss_cons (ps_set (i := 4) sc__law_ledger.nd rfl (Or.inl rfl) pe_int)
      (pss_cons (ps_if (PW.pt (pw_and (pt_cmpR op_lt (pv 2) (pe_op op_powW pe_int pe_int) (nomark _)) (pw_and1 (pt_cmpR (k_eqD (K := K) rfl hr.units) (pe_call G__law_pick (hr.mono (by decide)) (by rfl) T.m__law_pick T.F__law_pick.kp T.b__law_pick .nil pass0 (pa_cons (pv 0) (pa_cons pe_int pa_nil))) pe_int (nomark _))))) (pss_one (ps_set (i := 4) sc__law_ledger.nd rfl (Or.inl rfl) (pe_op (k_addU (K := K) rfl) (pe_op op_sub (pe_call G__law_pick (hr.mono (by decide)) (by rfl) T.m__law_pick T.F__law_pick.kp T.b__law_pick .nil pass0 (pa_cons (pv 0) (pa_cons (pe_op op_sub (pe_op op_mulU pe_int (pe_op op_powW pe_int pe_int)) (pe_op op_powW pe_int pe_int)) pa_nil))) (pe_op op_powW pe_int pe_int)) pe_int))) pss_nil)
      (pss_cons (ps_set (i := 5) sc__law_ledger.nd rfl (Or.inl rfl) (pe_lst pa_nil))
      (pss_cons (ps_for PassesOwn.never rfl (pi_range1 rfl T.z_range (pa_cons (pe_call G__law_pick (hr.mono (by decide)) (by rfl) T.m__law_pick T.F__law_pick.kp T.b__law_pick .nil pass0 (pa_cons (pv 0) (pa_cons (pe_op (k_addU (K := K) rfl) (pv 1) pe_int) pa_nil))) pa_nil)) (pg_name (i := 6) sc__law_ledger.nd rfl (Or.inl rfl)) (pss_one (ps_expr (pe_bm PySem.F.plainAttrs_list PySem.F.slot_list_append PySem.F.type_list_append mt_append (pv 5) (pa_cons (Cr.pe_tup (pa_cons (pe_op op_sub (pe_op (k_addU (K := K) rfl) (pv 4) (pe_call G__law_pick (hr.mono (by decide)) (by rfl) T.m__law_pick T.F__law_pick.kp T.b__law_pick .nil pass0 (pa_cons (pv 0) (pa_cons (pe_op (k_addU (K := K) rfl) (pe_op op_mulU pe_int (pv 2)) pe_int) pa_nil)))) (pv 2)) (pa_cons (pe_call G__law_amount (hr.mono (by decide)) (by rfl) T.m__law_amount T.F__law_amount.kp T.b__law_amount .nil pass0 (pa_cons (pv 0) (pa_cons (pv 3) pa_nil))) pa_nil))) pa_nil)))))
      (pss_one (ps_ret (pe_call G__law_gather (hr.mono (by decide)) (by rfl) T.m__law_gather T.F__law_gather.kp T.b__law_gather .nil pass0 (pa_cons (pv 5) pa_nil)))))))))), fun q sls n c Φ A0 σ Q hR hA fin => ?_⟩
  obtain ⟨rfl, p, m, rfl, hm0, hm, rfl, rfl⟩ := hR
  have ten15 : ∀ {δ : List Sl}, E (some p) δ (tOp (rI CPowW fun i j => .int (i ^ j.toNat)) (tC (.int 10)) (tC (.int 15))) (.int 1000000000000000) := e_ten (by omega) (by omega) (by decide)
  have ten13 : ∀ {δ : List Sl}, E (some p) δ (tOp (rI CPowW fun i j => .int (i ^ j.toNat)) (tC (.int 10)) (tC (.int 13))) (.int 10000000000000) := e_ten (by omega) (by omega) (by decide)
  have ten4 : ∀ {δ : List Sl}, E (some p) δ (tOp (rI CPowW fun i j => .int (i ^ j.toNat)) (tC (.int 10)) (tC (.int 4))) (.int 10000) := e_ten (by omega) (by omega) (by decide)
  refine q_asg (i := 2) (n := n + 290) (c := 1) (Φ := IntP fun x => 3 ≤ x ∧ x < 1000000000000000) ((j_menu (c := 0) (ci := 1) (P := fun x => 3 ≤ x ∧ x < 1000000000000000) (aji_cons (e_int.is (by omega)) (aji_cons (e_int.is (by omega)) (aji_cons (e_int.is (by omega)) (aji_cons ((e_subI ten15 e_int).is (by omega)) aji_nil)))) (by omega) (j_pick rfl e_int (by omega) (by omega))).cost (by omega)) (hA.mono (by omega)) fun d σ1 Hk1 H1 ⟨r, hr, ed⟩ g1 a1 => ?_
  subst ed
  refine q_asg (i := 3) (n := n + 280) (c := 1) (Φ := IntP fun x => 1 ≤ x ∧ x ≤ 10000000000000) ((j_menu (c := 0) (ci := 1) (P := fun x => 1 ≤ x ∧ x ≤ 10000000000000) (aji_cons (e_int.is (by omega)) (aji_cons (e_int.is (by omega)) (aji_cons (ten13.is (by omega)) aji_nil))) (by omega) (j_pick rfl e_int (by omega) (by omega))).cost (by omega)) (a1.mono (by omega)) fun d σ2 Hk2 H2 ⟨a, ha, ed⟩ g2 a2 => ?_
  subst ed
  refine q_asgE (i := 4) (d := .int 0) e_int a2 fun σ3 Hk3 H3 g3 a3 => ?_
  refine q_ifAsg (i := 4) (n := n + 270) (c := 1) (c1 := 1) (P0 := fun _ => True) (d0 := .int 0) (Φ := IntP fun x => -1000000000000000 ≤ x ∧ x ≤ 1000000000000000) (tj_and (Ψ := fun _ => True) (tb_test (e_ltI (e_var rfl) ten4)) (fun _ => (tj_test (j_eqDI (Φ := BoolP fun _ => True) (j_pick rfl e_int (by omega) (by omega)) e_int.intP fun i j _ _ => ⟨i == j, trivial, rfl⟩)).cost (by omega)) fun _ => trivial) (a3.mono (by omega)) (fun _ => (j_addI (c1 := 1) (c2 := 0) (P1 := fun x => -1000000000000000 ≤ x ∧ x ≤ 999999999990000) (j_subI (c1 := 1) (c2 := 0) (j_pick rfl (e_is (e_subI (e_mulI e_int ten15 (wide_mul (a := 2) (b := 50) (by decide) (by decide) (by omega) (by omega) (by omega))) ten4) (congrArg PyData.int (show (2 * 1000000000000000 - 10000 : Int) = 1999999999990000 by decide))) (by omega) (by omega)) ten15.intP fun i j hi hj => ⟨i - j, by omega, rfl⟩) e_int.intP fun i j hi hj => ⟨i + j, by omega, rfl⟩).cost (by omega)) rfl (fun _ => ⟨0, by omega, rfl⟩) fun d σ4 Hk4 H4 ⟨b, hb, ed⟩ a4 => ?_
  subst ed
  refine q_newL (i := 5) a4 fun l H5 a5 cl5 => ?_
  refine q_for (n := n + 260) (c := 1) (Ψ := fun items => ∃ k : Nat, (k : Int) ≤ m ∧ items = rng 0 k) (ij_rng1 (j_pick rfl (e_addI (e_var rfl) e_int) (by omega) (by omega)) fun j hj => ⟨by omega, j.toNat, by omega, rfl⟩) (a5.mono (by omega)) fun items HkW H6 ⟨k, hk, ei⟩ g6 a6 => ?_
  subst ei
  refine ⟨fun i σ' Hk' H' => Same HkW Hk' ∧ i ≤ k ∧ ∃ cs : List (Int × Int), cs.length = i ∧ Kb 52 44 cs ∧ At (some p) (n + 2 * (k - i)) [.adr p, .dat (.int m), .dat (.int r), .dat (.int a), .dat (.int b), .adr l, .any] A0 B0 σ' Hk' H' ∧ Cell (some p) B0 Hk' H' l (pd cs), ⟨Same.refl _, Nat.zero_le _, [], rfl, (by intro x hx; cases hx), a6.mono (by omega), cl5.go g6⟩, fun i σ' Hk' H' h => ⟨h.1, by obtain ⟨_, _, cs, _, _, st, _⟩ := h; exact st.ok.a⟩, ?_, ?_⟩
  · rintro i d σ' Hk' H' ed ⟨h2, hik, cs, hlen, hK, st, cl3⟩ v Hk2 H3 g3 dv
    obtain ⟨hi, rfl⟩ := rng_get' ed
    refine gb_name (vs := [6]) (by simp) σ' Hk2 H3 v (st.sg.mono g3.k) g3.a dv _ fun σ2 sg2 _ _ => ?_
    have st2 : At (some p) (n + 2 * (k - i)) _ A0 B0 σ2 Hk2 H3 := ⟨st.ok.go g3, sg2, st.gr.trans g3.none_to⟩
    have cl4 := cl3.go g3.none_to
    refine s_append (n := n + 2 * (k - (i + 1))) (c := 2) (Φ := fun x => ∃ y : Int × Int, y.1.natAbs < 2 ^ 52 ∧ y.2.natAbs < 2 ^ 44 ∧ x = pr y) ?_ (st2.mono (by omega)) cl4 rfl (by rw [pd_len]; omega) fun d Hk3 H4 ⟨y, hy1, hy2, ed⟩ s3 a3 cl5 => ⟨Hk3, (h2.trans g3.k).trans s3, by omega, cs ++ [y], ?_, ?_, a3.forget 6, ?_⟩
    · refine (j_tup (c := 2) (Ψ := fun ds => ∃ y : Int × Int, y.1.natAbs < 2 ^ 52 ∧ y.2.natAbs < 2 ^ 44 ∧ ds = [.int y.1, .int y.2]) ?_).imp fun d ⟨ds, ⟨y, h1, h2, e⟩, e2⟩ => ⟨y, h1, h2, by rw [e2, e]; rfl⟩
      refine ((aj_cons (c1 := 1) (c2 := 1) (Φ1 := IntP fun i => i.natAbs < 2 ^ 52) (Φr := fun sls => ∃ y : Int, y.natAbs < 2 ^ 44 ∧ sls = [.dat (.int y)]) (Φ' := fun sls => ∃ y : Int × Int, y.1.natAbs < 2 ^ 52 ∧ y.2.natAbs < 2 ^ 44 ∧ sls = [.dat (.int y.1), .dat (.int y.2)]) ?_ ?_ fun d sls ⟨i, hi, e⟩ ⟨y, hy, e2⟩ => ⟨(i, y), hi, hy, by rw [e, e2]⟩)).imp fun sls ⟨y, h1, h2, e⟩ => ⟨[.int y.1, .int y.2], e, by simp, y, h1, h2, rfl⟩
      · exact (j_subI (c1 := 1) (c2 := 0) (P1 := fun x => b ≤ x ∧ x < b + (2 * r + 1)) (j_addI (c1 := 0) (c2 := 1) (e_var rfl).intP (j_pick rfl (e_addI (e_mulI e_int (e_var rfl) (wide_mul (a := 2) (b := 50) (by decide) (by omega) (by omega) (by omega) (by omega))) e_int) (by omega) (by omega)) fun i j hi hj => ⟨i + j, by omega, rfl⟩) (e_var rfl).intP fun i j hi hj => ⟨i - j, by omega, rfl⟩).cost (by omega)
      · refine ((aj_cons (c1 := 1) (c2 := 0) (Φ1 := IntP fun i => i ≠ 0 ∧ -a ≤ i ∧ i ≤ a) (j_call (R := R__law_amount) (ae_adr rfl (ae_cons (e_var rfl) ae_nil)) fun sls e => ⟨rfl, p, a, rfl, ha.1, by omega, e, rfl⟩) ae_nil fun d sls ⟨i, hi, e⟩ e2 => ⟨i, by omega, by rw [e, e2]⟩)).cost (by omega)
    · rw [List.length_append, hlen]; rfl
    · intro x hx
      rcases List.mem_append.mp hx with h | h
      · exact hK x h
      · rw [List.mem_singleton.mp h]; exact ⟨hy1, hy2⟩
    · rw [ed] at cl5
      show Cell (some p) B0 Hk3 H4 l ((cs ++ [y]).map pr)
      rw [List.map_append]; exact cl5
  · rintro σ' Hk' H' ⟨h2, _, cs, hlen, hK, st, cl3⟩
    rw [rng_len] at hlen
    obtain ⟨Hk2, s2, st2⟩ := st.freeze (i := 5) cl3 rfl
    refine s_ret (n := n) (c := 0) (Φ := fun x => x = led (gather cs)) (j_call (R := R__law_gather) (ae_cons (e_var rfl) ae_nil) fun sls e => ⟨rfl, cs, by omega, e, rfl⟩) st2 (by omega) fin fun d e => ⟨gather cs, gather_led cs, ?_, fun x hx => ?_, e⟩
    · have := gather_len cs; omega
    · have z := gather_Kb (N := 10) hK (by omega) x hx
      exact ⟨z.1, lt_pow z.2 (by omega)⟩
/-! ### _law_slim -/
def R__law_slim : RelX := fun _ sls c Φ => c = 0 ∧ ∃ r : List Int, 0 < r.length ∧ r.length ≤ 1000 ∧ (r.getD 0 0 ≠ 0) ∧ (r.getD 0 0).natAbs < 2 ^ 9000 ∧ sls = [.dat (.list (r.map .int))] ∧ Φ = fun d => d = .list ((slimL r).map .int)
theorem ok__law_slim (T : Tx K mg) : FnOk P w K mg base CX0 2 T.a__law_slim T.fd__law_slim P__law_slim (spX R__law_slim) := by
  have G__law_gcd := ok__law_gcd (P := P) (w := w) (base := base) T
  refine fn_ok T.F__law_slim sc__law_slim (by decide) (fun q sls c Φ h => by obtain ⟨_, r, _, _, _, _, rfl, _⟩ := h; rfl) fun cdv A outer s B0 Ew hr => ⟨_,
    (pss_cons (ps_set (i := 1) sc__law_slim.nd rfl (Or.inr rfl) pe_int)
      (pss_cons (ps_for PassesOwn.never rfl (k_piList (K := K) rfl (pv 0)) (pg_name (i := 2) sc__law_slim.nd rfl (Or.inl rfl)) (pss_one (ps_set (i := 1) sc__law_slim.nd rfl (Or.inr rfl) (pe_call G__law_gcd (hr.mono (by decide)) (by rfl) T.m__law_gcd T.F__law_gcd.kp T.b__law_gcd .nil pass0 (pa_cons (pv 1) (pa_cons (pv 2) pa_nil))))))
      (pss_one (ps_ret (pe_lc (own := [("value", 2)]) rfl sc__law_slim.nd (k_piList (K := K) rfl (pv 0)) (blkOk_by (own := [("value", 2)]) (N := N__law_slim) (sc := defScope s__law_slim) (by decide +kernel)) (fun _ _ _ _ _ => (pg_name (i := 2) sc__law_slim.nd rfl (Or.inl rfl))) (fun _ _ _ _ _ => pts_nil) (fun _ _ _ _ _ => (pe_op op_fdivW (pv 2) (pe_callB (call_maxQ rfl) (by rfl) T.z_max (by decide +kernel) (pa_cons pe_int (pa_cons (pv 1) pa_nil)))))))))), fun q sls n c Φ A0 σ Q hR hA fin => ?_⟩
  obtain ⟨rfl, r, hr0, hrl, hr1, hr2, rfl, rfl⟩ := hR
  refine q_asgE (i := 1) (d := .int (gcdL (r.take 0))) (e_is e_int rfl) hA fun σ1 Hk1 H1 g1 a1 => ?_
  refine q_for (n := n) (c := 0) (ie_lst (e_var rfl)) a1 fun items HkW H2 e g2 a2 => ?_
  subst e
  refine ⟨fun i σ' Hk' H' => Same HkW Hk' ∧ At q n [.dat (.list (r.map .int)), .dat (.int (gcdL (r.take i))), .any] A0 B0 σ' Hk' H', ⟨Same.refl _, a2⟩, fun i σ' Hk' H' h => ⟨h.1, h.2.ok.a⟩, ?_, ?_⟩
  · rintro i d σ' Hk' H' ed ⟨h2, st⟩ v Hk3 H3 g3 dv
    rw [List.getElem?_map] at ed
    obtain ⟨x, er, rfl⟩ := Option.map_eq_some_iff.mp ed
    refine gb_name (vs := [2]) (by simp) σ' Hk3 H3 v (st.sg.mono g3.k) g3.a dv _ fun σ2 sg2 _ _ => ?_
    have st2 : At q n _ A0 B0 σ2 Hk3 H3 := ⟨st.ok.go g3, sg2, st.gr.trans g3.none_to⟩
    refine s_asgE (i := 1) (d := .int (gcdL (r.take (i + 1)))) (j_call (R := R__law_gcd) (c := 0) (ae_cons (e_var rfl) (ae_cons (e_var rfl) ae_nil)) fun sls e => ⟨rfl, gcdL (r.take i), x, e, by rw [List.take_add_one, er, ← gcdL_snoc]; rfl⟩) st2 fun σ4 Hk4 H4 g4 a4 => ⟨Hk4, (h2.trans g3.k).trans g4.k, a4.forget 2⟩
  · rintro σ' Hk' H' ⟨h2, st⟩
    rw [List.length_map, List.take_length] at st
    have hm := slim_first hr0 hr1
    exact s_retE (d := .list ((slimL r).map .int)) (e_is (e_lc1 (vs := [2]) (emb := PyData.int) (xs := r) (ie_lst (e_var rfl)) (fun v => .int (v / slimM r)) (by omega) fun v hv => ⟨_, gb_name (by simp), e_fdiv (e_var rfl) (e_is (e_max e_int (e_var rfl)) (d1 := .int (slimM r)) rfl) (wide_div (b := 9000) (slimM_pos r) (Nat.lt_of_le_of_lt hm.2.2 hr2) (by omega) (by omega))⟩) (by unfold slimL; rw [List.map_map]; rfl)) st (Nat.le_refl _) fin rfl
/-! ### _law_shortest -/
def R__law_shortest : RelX := fun _ sls c Φ => c = 0 ∧ ∃ s : List Int, s.length ≤ 6 ∧ CB 500 s ∧ sls = [.dat (pol s)] ∧ Φ = fun d => ∃ (size : Int) (now : List Int), (0 ≤ size ∧ size ≤ 6 ∧ now.length ≤ 8 ∧ CB 8200 now) ∧ d = .tuple [.int size, .list (now.map .int)]
theorem ok__law_shortest (T : Tx K mg) : FnOk P w K mg base CX0 3 T.a__law_shortest T.fd__law_shortest P__law_shortest (spX R__law_shortest) := by
  have G__law_slim := ok__law_slim (P := P) (w := w) (base := base) T
  refine fn_ok T.F__law_shortest sc__law_shortest (by decide) (fun q sls c Φ h => by obtain ⟨_, s, _, _, rfl, _⟩ := h; rfl) fun cdv A outer s B0 Ew hr => ⟨_,
    (pss_cons (ps_asg (Cr.pe_tup (pa_cons (pe_lst (pa_cons pe_int pa_nil)) (pa_cons (pe_lst (pa_cons pe_int pa_nil)) (pa_cons pe_int (pa_cons pe_int (pa_cons pe_int pa_nil)))))) (k_pgTup (K := K) (n := 5) rfl rfl (pgs_cons (pg_name (i := 1) sc__law_shortest.nd rfl (Or.inr rfl)) (pgs_cons (pg_name (i := 2) sc__law_shortest.nd rfl (Or.inl rfl)) (pgs_cons (pg_name (i := 3) sc__law_shortest.nd rfl (Or.inl rfl)) (pgs_cons (pg_name (i := 4) sc__law_shortest.nd rfl (Or.inl rfl)) (pgs_cons (pg_name (i := 5) sc__law_shortest.nd rfl (Or.inr rfl)) pgs_nil)))))))
      (pss_cons (ps_for PassesOwn.never rfl (pi_range1 rfl T.z_range (pa_cons (pe_callB (k_len (K := K) rfl) (by rfl) T.z_len (by decide +kernel) (pa_cons (pv 0) pa_nil)) pa_nil)) (pg_name (i := 6) sc__law_shortest.nd rfl (Or.inr rfl)) (pss_cons (ps_set (i := 7) sc__law_shortest.nd rfl (Or.inl rfl) (pe_callB (k_sum (K := K) rfl rfl) (by rfl) T.z_sum (by decide +kernel) (pa_cons (pe_lc (own := [("i", 9)]) rfl sc__law_shortest.nd (pi_range1 rfl T.z_range (pa_cons (pe_callB (call_minQ rfl) (by rfl) T.z_min (by decide +kernel) (pa_cons (pe_callB (k_len (K := K) rfl) (by rfl) T.z_len (by decide +kernel) (pa_cons (pv 1) pa_nil)) (pa_cons (pe_op (k_addU (K := K) rfl) (pv 6) pe_int) pa_nil))) pa_nil)) (blkOk_by (own := [("i", 9)]) (N := N__law_shortest) (sc := defScope s__law_shortest) (by decide +kernel)) (fun _ _ _ _ _ => (pg_name (i := 9) sc__law_shortest.nd rfl (Or.inl rfl))) (fun _ _ _ _ _ => pts_nil) (fun _ _ _ _ _ => (pe_op op_mulU (pe_ix (k_ix (K := K) rfl) (pv 1) (pv 9) (fun _ _ => rfl)) (pe_ix (k_ix (K := K) rfl) (pv 0) (pe_op op_sub (pv 6) (pv 9)) (fun _ _ => rfl))))) pa_nil)))
      (pss_cons (ps_if (pt_cmpR (k_neD (K := K) rfl hr.units) (pv 7) pe_int (nomark _)) (pss_cons (ps_set (i := 8) sc__law_shortest.nd rfl (Or.inl rfl) (pe_op (k_addU (K := K) rfl) (pe_lc (own := [("value", 10)]) rfl sc__law_shortest.nd (k_piList (K := K) rfl (pv 1)) (blkOk_by (own := [("value", 10)]) (N := N__law_shortest) (sc := defScope s__law_shortest) (by decide +kernel)) (fun _ _ _ _ _ => (pg_name (i := 10) sc__law_shortest.nd rfl (Or.inl rfl))) (fun _ _ _ _ _ => pts_nil) (fun _ _ _ _ _ => (pe_op op_mulU (pv 5) (pv 10)))) (pe_op op_mulU (pe_lst (pa_cons pe_int pa_nil)) (pe_callB (call_maxQ rfl) (by rfl) T.z_max (by decide +kernel) (pa_cons pe_int (pa_cons (pe_op op_sub (pe_op (k_addU (K := K) rfl) (pe_callB (k_len (K := K) rfl) (by rfl) T.z_len (by decide +kernel) (pa_cons (pv 2) pa_nil)) (pv 4)) (pe_callB (k_len (K := K) rfl) (by rfl) T.z_len (by decide +kernel) (pa_cons (pv 1) pa_nil))) pa_nil))))))
      (pss_cons (ps_for PassesOwn.never rfl (pi_range1 rfl T.z_range (pa_cons (pe_callB (k_len (K := K) rfl) (by rfl) T.z_len (by decide +kernel) (pa_cons (pv 2) pa_nil)) pa_nil)) (pg_name (i := 9) sc__law_shortest.nd rfl (Or.inl rfl)) (pss_one (ps_asg (pe_op op_sub (pe_ix (k_ix (K := K) rfl) (pv 8) (pe_op (k_addU (K := K) rfl) (pv 9) (pv 4)) (fun _ _ => rfl)) (pe_op op_mulU (pv 7) (pe_ix (k_ix (K := K) rfl) (pv 2) (pv 9) (fun _ _ => rfl)))) (pg_sub (pv 8) (pe_op (k_addU (K := K) rfl) (pv 9) (pv 4)) set_list))))
      (pss_cons (ps_if (pt_cmpR op_le (pe_op op_mulU pe_int (pv 3)) (pv 6) (nomark _)) (pss_one (ps_asg (Cr.pe_tup (pa_cons (pv 1) (pa_cons (pv 7) (pa_cons (pe_op op_sub (pe_op (k_addU (K := K) rfl) (pv 6) pe_int) (pv 3)) (pa_cons pe_int pa_nil))))) (k_pgTup (K := K) (n := 4) rfl rfl (pgs_cons (pg_name (i := 2) sc__law_shortest.nd rfl (Or.inl rfl)) (pgs_cons (pg_name (i := 5) sc__law_shortest.nd rfl (Or.inr rfl)) (pgs_cons (pg_name (i := 3) sc__law_shortest.nd rfl (Or.inl rfl)) (pgs_cons (pg_name (i := 4) sc__law_shortest.nd rfl (Or.inl rfl)) pgs_nil))))))) pss_nil)
      (pss_one (ps_set (i := 1) sc__law_shortest.nd rfl (Or.inr rfl) (pe_call G__law_slim (hr.mono (by decide)) (by rfl) T.m__law_slim T.F__law_slim.kp T.b__law_slim .nil pass0 (pa_cons (pv 8) pa_nil))))))) pss_nil)
      (pss_one (ps_set (i := 4) sc__law_shortest.nd rfl (Or.inl rfl) (pe_op (k_addU (K := K) rfl) (pv 4) pe_int))))))
      (pss_one (ps_ret (Cr.pe_tup (pa_cons (pv 3) (pa_cons (pv 1) pa_nil))))))), fun q sls n c Φ A0 σ Q hR hA fin => ?_⟩
  obtain ⟨rfl, s, hsl, hsb, rfl, rfl⟩ := hR
  refine q_asgT5 (i := 1) (j := 2) (l := 3) (m := 4) (t := 5) (d1 := .list ([1].map .int)) (d2 := .list ([1].map .int)) (d3 := .int ((0 : Nat) : Int)) (d4 := .int ((1 : Nat) : Int)) (d5 := .int 1) (e_is (e_tup (ds := [.list [.int 1], .list [.int 1], .int 0, .int 1, .int 1]) (ae_cons (e_lst (ds := [.int 1]) (ae_cons e_int ae_nil)) (ae_cons (e_lst (ds := [.int 1]) (ae_cons e_int ae_nil)) (ae_cons e_int (ae_cons e_int (ae_cons e_int ae_nil)))))) rfl) hA fun σ1 Hk1 H1 g1 a1 => ?_
  refine q_for (n := n) (c := 0) (ie_rng1 (j := (s.length : Nat)) (e_is (e_lenT (e_var rfl)) (d1 := .int ((s.length : Nat) : Int)) (by rw [pol_len])) (by omega) (by omega)) a1 fun items HkW H2 e g2 a2 => ?_
  subst e
  refine ⟨fun t σ' Hk' H' => Same HkW Hk' ∧ t ≤ s.length ∧ ∃ (now last : List Int) (size wait : Nat) (gap : Int) (a L l G : Nat), okB (6 - t) t size a L l G = true ∧ (0 < now.length ∧ now.length ≤ t + 2 ∧ last.length + wait ≤ t + 2 ∧ 1 ≤ wait ∧ size ≤ t) ∧ (now.getD 0 0 ≠ 0 ∧ (now.getD 0 0).natAbs < 2 ^ a ∧ CB L now ∧ CB l last ∧ gap.natAbs < 2 ^ G ∧ gap ≠ 0 ∧ 0 < a ∧ 0 < L ∧ 0 < l ∧ 0 < G) ∧ At q n [.dat (pol s), .dat (.list (now.map .int)), .dat (.list (last.map .int)), .dat (.int (size : Int)), .dat (.int (wait : Int)), .dat (.int gap), .any, .any, .any, .any, .any] A0 B0 σ' Hk' H', ⟨Same.refl _, Nat.zero_le _, [1], [1], 0, 1, 1, 1, 1, 1, 1, okB_start, by simp, ⟨by simp, by decide, fun x hx => by rw [List.mem_singleton.mp hx]; decide, fun x hx => by rw [List.mem_singleton.mp hx]; decide, by decide, by decide, by decide, by decide, by decide, by decide⟩, a2⟩, fun t σ' Hk' H' h => ⟨h.1, by obtain ⟨_, _, _, _, _, _, _, _, _, _, _, _, _, _, st⟩ := h; exact st.ok.a⟩, ?_, ?_⟩
  · rintro t d σ' Hk' H' ed ⟨h2, _, now, last, size, wait, gap, a, L, l, G, hok, ⟨hn0, hn1, hlw, hw, hst⟩, ⟨hz, hzb, hnC, hlC, hgb, hg0, ha0, hL0, hl0, hG0⟩, st⟩ v Hk3 H3 g3 dv
    obtain ⟨hi, rfl⟩ := rng_get' ed
    have ht : t < s.length := by omega
    refine gb_name (vs := [6]) (by simp) σ' Hk3 H3 v (st.sg.mono g3.k) g3.a dv _ fun σ2 sg2 _ _ => ?_
    have st2 : At q n [.dat (pol s), .dat (.list (now.map .int)), .dat (.list (last.map .int)), .dat (.int (size : Int)), .dat (.int (wait : Int)), .dat (.int gap), .dat (.int (t : Int)), .any, .any, .any, .any] A0 B0 σ2 Hk3 H3 := by
      have z : At q n _ A0 B0 σ2 Hk3 H3 := ⟨st.ok.go g3, sg2, st.gr.trans g3.none_to⟩
      rw [Int.zero_add] at z
      exact z
    have lenL : ∀ {δ : List Sl} {i : Nat} {f : List Int}, δ[i]? = some (.dat (.list (f.map .int))) → E q δ (tCB (rLenQ K) (tCons (tVar i) tNil)) (.int ((f.length : Nat) : Int)) := fun h => e_is (e_lenL (e_var h)) (by rw [List.length_map])
    obtain ⟨m, em⟩ : ∃ m : Nat, m = min now.length (t + 1) := ⟨_, rfl⟩
    have hprod : ∀ k, k < m → (now.getD k 0 * s.getD (t - k) 0).natAbs < 2 ^ (L + 500) := fun k hk => by
      rw [Int.natAbs_mul, Nat.pow_add]
      exact Nat.mul_lt_mul'' (hnC _ (Cr.getD_mem (by omega))) (hsb _ (Cr.getD_mem (by omega)))
    obtain ⟨ns, ens⟩ : ∃ ns : List Int, ns = (List.range m).map fun k => now.getD k 0 * s.getD (t - k) 0 := ⟨_, rfl⟩
    have hmiss : ns.sum.natAbs < 2 ^ (L + 504) := sum_bits (b := L + 500) (N := 3) (fun x hx => by
      rw [ens] at hx
      obtain ⟨k, hk, rfl⟩ := List.mem_map.mp hx
      exact hprod k (List.mem_range.mp hk)) (by rw [ens, List.length_map, List.length_range]; omega)
    refine q_asgE (i := 7) (d := .int ns.sum) (e_sum (ns := ns) (e_is (e_lcR (i := 9) (m := m) (e_is (e_min (lenL rfl) (e_addI (e_var rfl) e_int)) (d1 := .int (m : Int)) (by split <;> congr 1 <;> omega)) rfl (by omega) (fun k => .int (now.getD k 0 * s.getD (t - k) 0)) fun k hk => e_mulI (e_iL (ds := now.map .int) (e_var rfl) (e_var rfl) (at_ints (by omega))) (e_iT (ds := s.map .int) (i := ((t - k : Nat) : Int)) (e_var rfl) (e_is (e_subI (e_var rfl) (e_var rfl)) (by congr 1; omega)) (at_ints0 (by omega))) (wide_mul (hnC _ (Cr.getD_mem (by omega))) (hsb _ (Cr.getD_mem (by omega))) (by omega) (by omega) (by have := okB_end hok; omega))) (by rw [ens, List.map_map]; rfl))) st2 fun σ3 Hk4 H4 g4 a4 => ?_
    obtain ⟨u, eu⟩ : ∃ u, 6 - t = u + 1 := ⟨5 - t, by omega⟩
    have eu2 : 6 - (t + 1) = u := by omega
    rw [eu] at hok
    obtain ⟨hok1, hok2⟩ := Bool.and_eq_true_iff.mp hok
    obtain ⟨hag, hok3⟩ := Bool.and_eq_true_iff.mp hok2
    obtain ⟨hag2, hl8⟩ : a + G < 9000 ∧ l ≤ 8200 := of_decide_eq_true hag
    have hL8 := okB_end hok1
    have tail : ∀ {rt : VK} {bk ct : L2.St → Hp → Prop} {σ5 : L2.St} {Hk5 H5 : Hp} (now' last' : List Int) (size' wait' : Nat) (gap' : Int) (a' L' l' G' : Nat), okB u (t + 1) size' a' L' l' G' = true → (0 < now'.length ∧ now'.length ≤ t + 3 ∧ last'.length + wait' ≤ t + 2 ∧ size' ≤ t + 1) → (now'.getD 0 0 ≠ 0 ∧ (now'.getD 0 0).natAbs < 2 ^ a' ∧ CB L' now' ∧ CB l' last' ∧ gap'.natAbs < 2 ^ G' ∧ gap' ≠ 0 ∧ 0 < a' ∧ 0 < L' ∧ 0 < l' ∧ 0 < G') → Same HkW Hk5 → At q n [.dat (pol s), .dat (.list (now'.map .int)), .dat (.list (last'.map .int)), .dat (.int (size' : Int)), .dat (.int (wait' : Int)), .dat (.int gap'), .any, .any, .any, .any, .any] A0 B0 σ5 Hk5 H5 →
        tAsg (tOp (rAddU K) (tVar 4) (tC (.int 1))) (gName 4) ⟨fun σ3 H4 => ∃ Hk3, Same HkW Hk3 ∧ t + 1 ≤ s.length ∧ ∃ (now last : List Int) (size wait : Nat) (gap : Int) (a L l G : Nat), okB (6 - (t + 1)) (t + 1) size a L l G = true ∧ (0 < now.length ∧ now.length ≤ t + 1 + 2 ∧ last.length + wait ≤ t + 1 + 2 ∧ 1 ≤ wait ∧ size ≤ t + 1) ∧ (now.getD 0 0 ≠ 0 ∧ (now.getD 0 0).natAbs < 2 ^ a ∧ CB L now ∧ CB l last ∧ gap.natAbs < 2 ^ G ∧ gap ≠ 0 ∧ 0 < a ∧ 0 < L ∧ 0 < l ∧ 0 < G) ∧ At q n [.dat (pol s), .dat (.list (now.map .int)), .dat (.list (last.map .int)), .dat (.int (size : Int)), .dat (.int (wait : Int)), .dat (.int gap), .any, .any, .any, .any, .any] A0 B0 σ3 Hk3 H4, rt, bk, ct⟩ σ5 H5 := fun now' last' size' wait' gap' a' L' l' G' h1 h3 h4 h5 st5 =>
      s_asgE (i := 4) (d := .int ((wait' + 1 : Nat) : Int)) (e_is (e_addI (e_var rfl) e_int) (by congr 1)) st5 fun σ6 Hk6 H6 g6 a6 => ⟨Hk6, h5.trans g6.k, by omega, now', last', size', wait' + 1, gap', a', L', l', G', by rw [eu2]; exact h1, ⟨h3.1, by omega, by omega, by omega, h3.2.2.2⟩, h4, a6⟩
    refine q_whenB (b := decide (ns.sum ≠ 0)) (tb_is (tb_test (e_neDI (e_var rfl) e_int)) ?_) a4 (fun hb Hk5 H5 g5 a5 => ?_) (fun hb Hk5 H5 g5 a5 => ?_)
    · by_cases z : ns.sum = 0
      · rw [z]; rfl
      · rw [decide_eq_true z]; simpa using z
    · have hm0 : ns.sum ≠ 0 := of_decide_eq_true hb
      obtain ⟨N, eN⟩ : ∃ N : Nat, N = max now.length (last.length + wait) := ⟨_, rfl⟩
      have hN : N ≤ t + 2 ∧ now.length ≤ N ∧ last.length + wait ≤ N := by omega
      obtain ⟨miss, emiss⟩ : ∃ miss, miss = ns.sum := ⟨_, rfl⟩
      rw [← emiss] at a5 hm0 hmiss
      have hfC : ∀ j, CB (max (G + L) (L + 504 + l) + 1) (frL now last wait N gap miss j) := fun j => frL_CB hnC hlC hgb hmiss
      have hf0 : ∀ j, (frL now last wait N gap miss j).getD 0 0 = gap * now.getD 0 0 := fun j => by rw [frL_get (by omega), if_neg (by omega), Int.sub_zero]
      refine s_seq (q_newCat (i := 8) (ds := (now.map (gap * ·)).map .int) (es := (List.replicate (N - now.length) (0 : Int)).map .int) (e_is (e_lc1 (vs := [10]) (emb := PyData.int) (xs := now) (ie_lst (e_var rfl)) (fun v => .int (gap * v)) (by omega) fun v hv => ⟨_, gb_name (by simp), e_mulI (e_var rfl) (e_var rfl) (wide_mul hgb (hnC v hv) hG0 hL0 (by omega))⟩) (by rw [List.map_map]; rfl)) ?_ ?_ a5 fun p σ6 Hk6 H6 _ s6 a6 cl6 => ?_)
      · refine e_is (e_rep (ds := [.int 0]) (n := ((N - now.length : Nat) : Int)) (e_lst (ds := [.int 0]) (ae_cons e_int ae_nil)) (e_is (e_max e_int (e_subI (e_addI (lenL rfl) (e_var rfl)) (lenL rfl))) (by split <;> congr 1 <;> omega)) (by omega) (by omega) (by simp; omega)) ?_
        rw [Int.toNat_natCast, List.flatten_replicate_singleton, List.map_replicate]
      · rw [List.length_map, List.length_map, List.length_map, List.length_replicate]; omega
      rw [← List.map_append, ← frL_zero (last := last) (wait := wait) (miss := miss) hN.2.1] at cl6
      refine q_for (n := n) (c := 0) (ie_rng1 (lenL rfl) (by omega) (by omega)) a6 fun items HkV H7 e g7 a7 => ?_
      subst e
      refine ⟨fun j σ'' Hk'' H'' => Same HkV Hk'' ∧ At q n [.dat (pol s), .dat (.list (now.map .int)), .dat (.list (last.map .int)), .dat (.int (size : Int)), .dat (.int (wait : Int)), .dat (.int gap), .dat (.int (t : Int)), .dat (.int miss), .adr p, .any, .any] A0 B0 σ'' Hk'' H'' ∧ Cell q B0 Hk'' H'' p ((frL now last wait N gap miss j).map .int), ⟨Same.refl _, a7, cl6.go g7⟩, fun j σ'' Hk'' H'' h => ⟨h.1, h.2.1.ok.a⟩, ?_, ?_⟩
      · rintro j d σ'' Hk'' H'' ed ⟨h8, st8, cl8⟩ w Hk8 H8 g8 dw
        obtain ⟨hj, rfl⟩ := rng_get' ed
        have hjl : j < last.length := by omega
        refine gb_name (vs := [9]) (by simp) σ'' Hk8 H8 w (st8.sg.mono g8.k) g8.a dw _ fun σ9 sg9 _ _ => ?_
        have st9 : At q n _ A0 B0 σ9 Hk8 H8 := ⟨st8.ok.go g8, sg9, st8.gr.trans g8.none_to⟩
        have hfl : j + wait < (frL now last wait N gap miss j).length := by rw [frL_len]; omega
        refine s_setCE (i := 8) (j := j + wait) (m := ((j + wait : Nat) : Int)) (n := n) (c := 0) (Φ := fun d => d = .int ((frL now last wait N gap miss j).getD (j + wait) 0 - miss * last.getD j 0)) (e_subI (e_iL (ds := (frL now last wait N gap miss j).map .int) (i := ((j + wait : Nat) : Int)) (e_var rfl) (e_is (e_addI (e_var rfl) (e_var rfl)) (by congr 1; omega)) (at_ints0 hfl)) (e_mulI (e_var rfl) (e_iL (ds := last.map .int) (e_var rfl) (e_var rfl) (at_ints hjl)) (wide_mul hmiss (hlC _ (Cr.getD_mem hjl)) (by omega) hl0 (by have := hL8; omega)))) st9 (cl8.go g8.none_to) rfl (fun d e => by rw [e]; rfl) (e_is (e_addI (e_var rfl) (e_var rfl)) (by congr 1; omega)) rfl (by rw [List.length_map]; exact hfl) fun d Hk10 H10 ed s10 a10 cl10 => ⟨Hk10, (h8.trans g8.k).trans s10, a10.forget 9, ?_⟩
        subst ed
        rw [← List.map_set, frL_set (by omega) hjl] at cl10
        exact cl10
      · rintro σ'' Hk'' H'' ⟨h8, st8, cl8⟩
        rw [rng_len, Int.toNat_natCast] at cl8
        obtain ⟨Hk9, s9, st9⟩ := st8.freeze (i := 8) cl8 rfl
        obtain ⟨F, eF⟩ : ∃ F, F = frL now last wait N gap miss last.length := ⟨_, rfl⟩
        have hF0 : F.getD 0 0 = gap * now.getD 0 0 := by rw [eF]; exact hf0 _
        have hFC : CB (max (G + L) (L + 504 + l) + 1) F := by rw [eF]; exact hfC _
        have hFl : F.length = N := by rw [eF, frL_len]
        rw [← eF] at st9
        have hFne : F.getD 0 0 ≠ 0 := by rw [hF0]; exact Int.mul_ne_zero hg0 hz
        have hFb : (F.getD 0 0).natAbs < 2 ^ (a + G) := by
          rw [hF0, Int.natAbs_mul, Nat.add_comm a G, Nat.pow_add]
          exact Nat.mul_lt_mul'' hgb hzb
        have hsl2 := slim_first (l := F) (by omega) hFne
        have slim : ∀ {δ : List Sl} {E0 : XK}, δ[8]? = some (.dat (.list (F.map .int))) → E q δ (tCall (spX R__law_slim) [] E0 (tCons (tVar 8) tNil)) (.list ((slimL F).map .int)) := fun h => j_call (R := R__law_slim) (c := 0) (ae_cons (e_var h) ae_nil) fun sls e => ⟨rfl, F, by omega, by omega, hFne, lt_pow hFb (by omega), e, rfl⟩
        have sameK : Same HkW Hk9 := ((((((h2.trans g3.k).trans g4.k).trans g5.k).trans s6).trans g7.k).trans h8).trans s9
        refine q_whenB (b := decide (2 * (size : Int) ≤ (t : Int))) (tb_test (e_leI (e_mulI e_int (e_var rfl) (wide_mul (a := 3) (b := 4) (by decide) (by omega) (by omega) (by omega) (by omega))) (e_var rfl))) st9 (fun hb2 Hk11 H11 g11 a11 => ?_) (fun hb2 Hk11 H11 g11 a11 => ?_)
        · have h2s : 2 * size ≤ t := by have := of_decide_eq_true hb2; omega
          rw [if_pos h2s] at hok3
          refine q_asgT4 (i := 2) (j := 5) (l := 3) (m := 4) (d1 := .list (now.map .int)) (d2 := .int miss) (d3 := .int ((t + 1 - size : Nat) : Int)) (d4 := .int ((0 : Nat) : Int)) (e_tup (ds := [.list (now.map .int), .int miss, .int ((t + 1 - size : Nat) : Int), .int ((0 : Nat) : Int)]) (ae_cons (e_var rfl) (ae_cons (e_var rfl) (ae_cons (e_is (e_subI (e_addI (e_var rfl) e_int) (e_var rfl)) (by congr 1; omega)) (ae_cons e_int ae_nil))))) a11 fun σ12 Hk12 H12 g12 a12 => ?_
          refine s_asgE (i := 1) (d := .list ((slimL F).map .int)) (slim rfl) a12 fun σ13 Hk13 H13 g13 a13 => ?_
          exact tail (slimL F) now (t + 1 - size) 0 miss _ _ _ _ hok3 ⟨by rw [slim_len]; omega, by rw [slim_len]; omega, by omega, by omega⟩ ⟨hsl2.1, Nat.lt_of_le_of_lt hsl2.2.1 hFb, slim_CB hFC, hnC, hmiss, hm0, by omega, by omega, hL0, by omega⟩ (((sameK.trans g11.k).trans g12.k).trans g13.k) ((((a13.forget 6).forget 7).forget 8))
        · have h2s : ¬ 2 * size ≤ t := by have := of_decide_eq_false hb2; omega
          rw [if_neg h2s] at hok3
          refine s_asgE (i := 1) (d := .list ((slimL F).map .int)) (slim rfl) a11 fun σ13 Hk13 H13 g13 a13 => ?_
          exact tail (slimL F) last size wait gap _ _ _ _ hok3 ⟨by rw [slim_len]; omega, by rw [slim_len]; omega, by omega, by omega⟩ ⟨hsl2.1, Nat.lt_of_le_of_lt hsl2.2.1 hFb, slim_CB hFC, hlC, hgb, hg0, by omega, by omega, hl0, hG0⟩ ((sameK.trans g11.k).trans g13.k) ((((a13.forget 6).forget 7).forget 8))
    · have hm0 : ns.sum = 0 := by simpa using hb
      exact tail now last size wait gap a L l G hok1 ⟨hn0, by omega, hlw, by omega⟩ ⟨hz, hzb, hnC, hlC, hgb, hg0, ha0, hL0, hl0, hG0⟩ (((h2.trans g3.k).trans g4.k).trans g5.k) ((a5.forget 6).forget 7)
  · rintro σ' Hk' H' ⟨h2, _, now, last, size, wait, gap, a, L, l, G, hok, ⟨hn0, hn1, hlw, hw, hst⟩, ⟨hz, hzb, hnC, hlC, hgb, hg0, ha0, hL0, hl0, hG0⟩, st⟩
    rw [rng_len, Int.toNat_natCast] at hn1 hst hok
    have hL8 := okB_end hok
    exact s_retE (d := .tuple [.int (size : Int), .list (now.map .int)]) (e_tup (ds := [.int (size : Int), .list (now.map .int)]) (ae_cons (e_var rfl) (ae_cons (e_var rfl) ae_nil))) st (Nat.le_refl _) fin ⟨(size : Int), now, ⟨by omega, by omega, by omega, hnC.mono hL8⟩, rfl⟩
/-! ### _law_split -/
def R__law_split : RelX := fun q sls c Φ => c = 100 ∧ ∃ p : Addr, q = some p ∧ sls = [.adr p] ∧ Φ = fun d => ∃ (l : List (Int × Int)) (j : Int), (Led l ∧ l.length ≤ 20 ∧ Kb 80 12 l ∧ 2 ≤ j ∧ j ≤ 6) ∧ d = .tuple [led l, .int j]
theorem ok__law_split (T : Tx K mg) : FnOk P w K mg base CX0 3 T.a__law_split T.fd__law_split P__law_split (spX R__law_split) := by
  have G__law_amount := ok__law_amount (P := P) (w := w) (base := base) T
  have G__law_gather := ok__law_gather (P := P) (w := w) (base := base) T
  have G__law_pick := ok__law_pick (P := P) (w := w) (base := base) T
  refine fn_ok T.F__law_split sc__law_split (by decide) (fun q sls c Φ h => by obtain ⟨_, p, _, rfl, _⟩ := h; rfl) fun cdv A outer s B0 Ew hr => ?_
  have hu := hu_of hr
  refine ⟨_,
    (pss_cons (ps_asg (Cr.pe_tup (pa_cons (pe_op (k_addU (K := K) rfl) pe_int (pe_call G__law_pick (hr.mono (by decide)) (by rfl) T.m__law_pick T.F__law_pick.kp T.b__law_pick .nil pass0 (pa_cons (pv 0) (pa_cons pe_int pa_nil)))) (pa_cons (pe_op op_sub (pe_call G__law_pick (hr.mono (by decide)) (by rfl) T.m__law_pick T.F__law_pick.kp T.b__law_pick .nil pass0 (pa_cons (pv 0) (pa_cons pe_int pa_nil))) pe_int) (pa_cons pe_dnewK pa_nil)))) (k_pgTup (K := K) (n := 3) rfl rfl (pgs_cons (pg_name (i := 1) sc__law_split.nd rfl (Or.inl rfl)) (pgs_cons (pg_name (i := 2) sc__law_split.nd rfl (Or.inl rfl)) (pgs_cons (pg_name (i := 3) sc__law_split.nd rfl (Or.inr rfl)) pgs_nil)))))
      (pss_cons (ps_asg (pe_ix (k_ix (K := K) rfl) (pe_lst (pa_cons (Cr.pe_tup (pa_cons pe_int (pa_cons pe_int pa_nil))) (pa_cons (Cr.pe_tup (pa_cons pe_int (pa_cons pe_int pa_nil))) (pa_cons (Cr.pe_tup (pa_cons (pe_op op_powW pe_int pe_int) (pa_cons pe_int pa_nil))) pa_nil)))) (pe_call G__law_pick (hr.mono (by decide)) (by rfl) T.m__law_pick T.F__law_pick.kp T.b__law_pick .nil pass0 (pa_cons (pv 0) (pa_cons pe_int pa_nil))) (fun _ _ => rfl)) (k_pgTup (K := K) (n := 2) rfl rfl (pgs_cons (pg_name (i := 4) sc__law_split.nd rfl (Or.inl rfl)) (pgs_cons (pg_name (i := 5) sc__law_split.nd rfl (Or.inl rfl)) pgs_nil))))
      (pss_cons (ps_for PassesOwn.never rfl (pi_range1 rfl T.z_range (pa_cons (pe_op (k_addU (K := K) rfl) pe_int (pe_call G__law_pick (hr.mono (by decide)) (by rfl) T.m__law_pick T.F__law_pick.kp T.b__law_pick .nil pass0 (pa_cons (pv 0) (pa_cons (pv 5) pa_nil)))) pa_nil)) (pg_name (i := 6) sc__law_split.nd rfl (Or.inl rfl)) (pss_one (ps_dput hu (pv 3) (pe_op (k_addU (K := K) rfl) (pv 2) (pe_op op_mulU (pv 1) (pe_op op_sub (pe_call G__law_pick (hr.mono (by decide)) (by rfl) T.m__law_pick T.F__law_pick.kp T.b__law_pick .nil pass0 (pa_cons (pv 0) (pa_cons (pe_op (k_addU (K := K) rfl) (pe_op op_mulU pe_int (pv 4)) pe_int) pa_nil))) (pv 4)))) (pe_call G__law_amount (hr.mono (by decide)) (by rfl) T.m__law_amount T.F__law_amount.kp T.b__law_amount .nil pass0 (pa_cons (pv 0) (pa_cons pe_int pa_nil))) rfl)))
      (pss_cons (ps_set (i := 7) sc__law_split.nd rfl (Or.inl rfl) (pe_callB (k_minL (K := K) rfl rfl) (by rfl) T.z_min (by decide +kernel) (pa_cons (pe_lock (pe_lc (own := [("key_here", 8)]) rfl sc__law_split.nd (pi_keys (pv 3)) (blkOk_by (own := [("key_here", 8)]) (N := N__law_split) (sc := defScope s__law_split) (by decide +kernel)) (fun _ _ _ _ _ => (pg_name (i := 8) sc__law_split.nd rfl (Or.inl rfl))) (fun _ _ _ _ _ => pts_nil) (fun _ _ _ _ _ => (pv 8)))) pa_nil)))
      (pss_cons (ps_dput hu (pv 3) (pv 7) (pe_op (k_addU (K := K) rfl) (pe_dget hu (pv 3) (pv 7) (fun _ _ => rfl)) (pe_op op_modN (pe_callTy call_intQ (by rfl) T.z_int (by decide +kernel) (pa_cons (pe_op op_sub pe_int (pe_callB (k_sum (K := K) rfl rfl) (by rfl) T.z_sum (by decide +kernel) (pa_cons (pe_lock (pe_lc (own := [("key_here", 8)]) rfl sc__law_split.nd (pi_keys (pv 3)) (blkOk_by (own := [("key_here", 8)]) (N := N__law_split) (sc := defScope s__law_split) (by decide +kernel)) (fun _ _ _ _ _ => (pg_name (i := 8) sc__law_split.nd rfl (Or.inl rfl))) (fun _ _ _ _ _ => pts_nil) (fun _ _ _ _ _ => (pe_dget hu (pv 3) (pv 8) (fun _ _ => rfl))))) pa_nil))) pa_nil)) (pv 1))) rfl)
      (pss_one (ps_ret (Cr.pe_tup (pa_cons (pe_call G__law_gather (hr.mono (by decide)) (by rfl) T.m__law_gather T.F__law_gather.kp T.b__law_gather .nil pass0 (pa_cons (pe_lock (pe_lc (own := [("key_here", 8)]) rfl sc__law_split.nd (pi_keys (pv 3)) (blkOk_by (own := [("key_here", 8)]) (N := N__law_split) (sc := defScope s__law_split) (by decide +kernel)) (fun _ _ _ _ _ => (pg_name (i := 8) sc__law_split.nd rfl (Or.inl rfl))) (fun _ _ _ _ _ => pts_nil) (fun _ _ _ _ _ => (Cr.pe_tup (pa_cons (pv 8) (pa_cons (pe_dget hu (pv 3) (pv 8) (fun _ _ => rfl)) pa_nil)))))) pa_nil)) (pa_cons (pv 1) pa_nil)))))))))), fun q sls n c Φ A0 σ Q hR hA fin => ?_⟩
  obtain ⟨rfl, p, rfl, rfl, rfl⟩ := hR
  refine q_asg3D (i := 1) (j := 2) (l := 3) (n := n + 90) (c1 := 1) (c2 := 1) (P1 := fun x => 2 ≤ x ∧ x ≤ 6) (P2 := fun x => -3 ≤ x ∧ x ≤ 3) ((j_addI (c1 := 0) (c2 := 1) e_int.intP (j_pick rfl e_int (by omega) (by omega)) fun i j hi hj => ⟨i + j, by omega, rfl⟩).cost (by omega)) ((j_subI (c1 := 1) (c2 := 0) (j_pick rfl e_int (by omega) (by omega)) e_int.intP fun i j hi hj => ⟨i - j, by omega, rfl⟩).cost (by omega)) (hA.mono (by omega)) fun j y r σ1 Hk1 H1 hj hy a1 t1 => ?_
  refine q_asgU (i := 4) (j := 5) (n := n + 80) (c := 1) (Pp := fun x => (0 ≤ x.1 ∧ x.1 ≤ 100000000000000000000) ∧ 1 ≤ x.2 ∧ x.2 ≤ 6) ((j_iL (c1 := 0) (c2 := 1) (P := fun x => 0 ≤ x ∧ x < 3) (Ψ := fun ds => ds = [pr (15, 6), pr (15, 6), pr (100000000000000000000, 3)]) (Φ := fun d => ∃ x : Int × Int, ((0 ≤ x.1 ∧ x.1 ≤ 100000000000000000000) ∧ 1 ≤ x.2 ∧ x.2 ≤ 6) ∧ d = pr x) ((e_lst (ds := [pr (15, 6), pr (15, 6), pr (100000000000000000000, 3)]) (ae_cons (e_pr e_int e_int) (ae_cons (e_pr e_int e_int) (ae_cons (e_pr (e_ten (by omega) (by omega) (by decide)) e_int) ae_nil)))).imp fun d e => ⟨_, rfl, e⟩) (j_pick rfl e_int (by omega) (by omega)) fun ds i e hi => ?_).cost (by omega)) (a1.mono (by omega)) fun x σ2 Hk2 H2 hx g2 a2 => ?_
  · subst e
    have c3 : i = 0 ∨ i = 1 ∨ i = 2 := by omega
    rcases c3 with e | e | e <;> subst e
    · exact ⟨_, rfl, (15, 6), by simp, rfl⟩
    · exact ⟨_, rfl, (15, 6), by simp, rfl⟩
    · exact ⟨_, rfl, (100000000000000000000, 3), by simp, rfl⟩
  obtain ⟨u, w⟩ := x
  obtain ⟨⟨hu0, hu1⟩, hw0, hw1⟩ := hx
  have t2 := t1.go g2
  refine q_for (n := n + 60) (c := 1) (Ψ := fun items => ∃ k : Nat, 1 ≤ k ∧ k ≤ 6 ∧ items = rng 0 k) ((ij_rng1 (j_addI (Φ := IntP fun x => 1 ≤ x ∧ x ≤ 6) e_int.intP (j_pick rfl (e_var rfl) (by omega) (by omega)) fun i j hi hj => ⟨i + j, by omega, rfl⟩) fun j hj => ⟨by omega, j.toNat, by omega, by omega, rfl⟩)) (a2.mono (by omega)) fun items HkW H3 ⟨kk, hk1, hkk, ei⟩ g3 a3 => ?_
  subst ei
  refine ⟨fun i σ' Hk' H' => Same HkW Hk' ∧ i ≤ kk ∧ ∃ m : List (Int × Int), (m.map (·.1)).Nodup ∧ m.length ≤ i ∧ (1 ≤ i → m ≠ []) ∧ Kb 80 6 m ∧ (∀ z ∈ m, -30 ≤ z.2 ∧ z.2 ≤ 30) ∧ At (some p) (n + 2 * (kk - i)) [.adr p, .dat (.int j), .dat (.int y), .adr r, .dat (.int u), .dat (.int w), .any, .any, .any] A0 B0 σ' Hk' H' ∧ ICell (some p) B0 Hk' H' r m, ⟨Same.refl _, Nat.zero_le _, [], by simp, by simp, by simp, (by intro z hz; cases hz), by simp, a3.mono (by omega), t2.go g3⟩, fun i σ' Hk' H' h => ⟨h.1, by obtain ⟨_, _, m, _, _, _, _, _, st, _⟩ := h; exact st.ok.a⟩, ?_, ?_⟩
  · rintro i d σ' Hk' H' ed ⟨h2, hik, m, hnd, hln, hne, hK, hV, st, tc⟩ v Hk4 H4 g4 dv
    obtain ⟨hi, rfl⟩ := rng_get' ed
    refine gb_name (vs := [6]) (by simp) σ' Hk4 H4 v (st.sg.mono g4.k) g4.a dv _ fun σ4 sg4 _ _ => ?_
    have st4 : At (some p) (n + 2 * (kk - (i + 1)) + 1 + 1) _ A0 B0 σ4 Hk4 H4 := ⟨(st.ok.go g4).mono (by omega), sg4, st.gr.trans g4.none_to⟩
    have tc4 := tc.go g4.none_to
    have hmul : ∀ a b : Int, a = j → (-100000000000000000000 ≤ b ∧ b ≤ 100000000000000000000) → -600000000000000000000 ≤ a * b ∧ a * b ≤ 600000000000000000000 := fun a b ha hb => by
      have c6 : a = 2 ∨ a = 3 ∨ a = 4 ∨ a = 5 ∨ a = 6 := by omega
      rcases c6 with e | e | e | e | e <;> subst e <;> omega
    refine s_dput (n := n + 2 * (kk - (i + 1))) (c1 := 1) (c2 := 1) (P1 := fun v => -30 ≤ v ∧ v ≤ 30) (P2 := fun k => k.natAbs < 2 ^ 80) ((j_call (R := R__law_amount) (c := 1) (c1 := 0) (ae_adr rfl (ae_cons e_int ae_nil)) fun sls e => ⟨rfl, p, 30, rfl, by omega, by omega, e, rfl⟩).imp fun d ⟨x, hx, e⟩ => ⟨x, by omega, e⟩) ((j_addI (c1 := 0) (c2 := 1) (P2 := fun x => -600000000000000000000 ≤ x ∧ x ≤ 600000000000000000000) (e_var rfl).intP ((j_mulI (c1 := 0) (c2 := 1) (P1 := fun x => x = j) (P2 := fun x => -100000000000000000000 ≤ x ∧ x ≤ 100000000000000000000) (e_var rfl).intP ((j_subI (c1 := 1) (c2 := 0) (j_pick rfl (e_addI (e_mulI e_int (e_var rfl) (wide_mul (a := 2) (b := 70) (by decide) (by omega) (by omega) (by omega) (by omega))) e_int) (by omega) (by omega)) (e_var rfl).intP fun i j hi hj => ⟨i - j, by omega, rfl⟩).cost (by omega)) (fun a b ha hb => wide_mul (a := 4) (b := 70) (by omega) (by omega) (by omega) (by omega) (by omega)) fun a b ha hb => ⟨a * b, hmul a b ha hb, rfl⟩).cost (by omega)) fun a b ha hb => ⟨a + b, by omega, rfl⟩).cost (by omega)) st4 rfl tc4.ex tc4.nk tc4.nq tc4.nb (by omega) fun v k Hk5 H5 hv hk s5 a5 h5 n5 => ⟨Hk5, (h2.trans g4.k).trans s5, by omega, putI m k v, putI_nd hnd, ?_, fun _ => putI_nn _ _ _, ?_, ?_, a5.forget 6, ⟨n5, tc.nq, tc.nb, h5⟩⟩
    · have := putI_ln m k v; omega
    · intro z hz
      rcases putI_mem hz with h | h
      · exact hK z h
      · rw [h]; exact ⟨hk, by show v.natAbs < 2 ^ 6; omega⟩
    · intro z hz
      rcases putI_mem hz with h | h
      · exact hV z h
      · rw [h]; exact hv
  · rintro σ' Hk' H' ⟨h2, hik, m, hnd, hln, hne, hK, hV, st, tc⟩
    rw [rng_len] at hln hne st
    refine q_minKeys (i := 3) (ip := 8) (l := 7) st rfl tc (by decide) (by simp) (by omega) (hne hk1) fun f σ4 H4 hf a4 t4 => ?_
    refine s_seq (s_evenUp (i := 3) (ip := 8) (ik := 7) (ij := 1) a4 rfl t4 rfl rfl (by decide) (by simp) (by omega) hnd hf (by omega) fun v z H5 hvm hz a5 t5 => ?_)
    have hK2 : Kb 80 6 (putI m f (v + z)) := fun x hx => by
      rcases putI_mem hx with h | h
      · exact hK x h
      · rw [h]; exact ⟨(hK _ hvm).1, by have := hV _ hvm; show (v + z).natAbs < 2 ^ 6; omega⟩
    have hl2 := putI_ln m f (v + z)
    refine s_retPairs (i := 3) (ip := 8) (ij := 1) (R := R__law_gather) (d1 := led (gather (putI m f (v + z)))) (d2 := .int j) (a5.mono (show n ≤ _ by omega)) rfl t5 (by decide) (by simp) (by omega) (putI_nd hnd) ⟨rfl, _, by omega, rfl, rfl⟩ rfl fin ⟨_, j, ⟨gather_led _, ?_, fun x hx => ?_, hj.1, hj.2⟩, rfl⟩
    · have := gather_len (putI m f (v + z)); omega
    · have q := gather_Kb (N := 5) hK2 (by omega) x hx
      exact ⟨lt_pow q.1 (by omega), lt_pow q.2 (by omega)⟩
/-! ### _law_grown -/

theorem ok__law_grown (T : Tx K mg) : FnOk P w K mg base CX0 4 T.a__law_grown T.fd__law_grown P__law_grown spG := by
  have G__law_multiplied := ok__law_multiplied (P := P) (w := w) (base := base) T
  have G__law_pick := ok__law_pick (P := P) (w := w) (base := base) T
  refine T.F__law_grown.ok sc__law_grown (fun vs H Q Ew h => by obtain ⟨_, _, _, _, _, _, _, rfl, _⟩ := h; rfl) (fun cdv A outer s H vs Q Ew hr h => ?_)
  have hu := hu_of hr
  obtain ⟨q, Hk, p, size, n, rfl, o, rfl, hs1, hs2, kont⟩ := h
  refine ⟨_, (pss_cons (ps_set (i := 2) sc__law_grown.nd rfl (Or.inl rfl) pe_dnewT)
      (pss_cons (ps_for PassesOwn.never rfl (pi_range1 rfl T.z_range (pa_cons (pe_op (k_addU (K := K) rfl) pe_int (pe_call G__law_pick (hr.mono (by decide)) (by rfl) T.m__law_pick T.F__law_pick.kp T.b__law_pick .nil pass0 (pa_cons (pv 0) (pa_cons pe_int pa_nil)))) pa_nil)) (pg_name (i := 3) sc__law_grown.nd rfl (Or.inl rfl)) (pss_cons (ps_set (i := 4) sc__law_grown.nd rfl (Or.inl rfl) (pe_lst (pa_cons (L2.pe_tup (pa_cons (pe_op op_sub (pe_call G__law_pick (hr.mono (by decide)) (by rfl) T.m__law_pick T.F__law_pick.kp T.b__law_pick .nil pass0 (pa_cons (pv 0) (pa_cons pe_int pa_nil))) pe_int) (pa_cons pe_int pa_nil))) (pa_cons (L2.pe_tup (pa_cons (pe_op (k_addU (K := K) rfl) pe_int (pe_call G__law_pick (hr.mono (by decide)) (by rfl) T.m__law_pick T.F__law_pick.kp T.b__law_pick .nil pass0 (pa_cons (pv 0) (pa_cons pe_int pa_nil)))) (pa_cons (pe_call G__law_pick (hr.mono (by decide)) (by rfl) T.m__law_pick T.F__law_pick.kp T.b__law_pick .nil pass0 (pa_cons (pv 0) (pa_cons pe_int pa_nil))) (pa_cons pe_int pa_nil)))) (pa_cons (L2.pe_tup (pa_cons (pe_un un_neg pe_int) (pa_cons pe_int (pa_cons pe_int pa_nil)))) pa_nil)))))
      (pss_cons (ps_set (i := 5) sc__law_grown.nd rfl (Or.inr rfl) (pe_ix (k_ix (K := K) rfl) (pv 4) (pe_call G__law_pick (hr.mono (by decide)) (by rfl) T.m__law_pick T.F__law_pick.kp T.b__law_pick .nil pass0 (pa_cons (pv 0) (pa_cons pe_int pa_nil))) (fun _ _ => rfl)))
      (pss_one (ps_dput hu (pv 2) (pv 5) (pe_op (k_addU (K := K) rfl) (pe_dget2 hu (pv 2) (pv 5) pe_int ⟨rfl, rfl, rfl, rfl⟩) pe_int) rfl)))))
      (pss_cons (ps_set (i := 5) sc__law_grown.nd rfl (Or.inr rfl) (pe_call G__law_multiplied (hr.mono (by decide)) (by rfl) T.m__law_multiplied T.F__law_multiplied.kp T.b__law_multiplied .nil pass0 (pa_cons (pv 2) pa_nil)))
      (pss_cons (ps_set (i := 6) sc__law_grown.nd rfl (Or.inr rfl) (pe_lc (own := [("k", 7)]) rfl sc__law_grown.nd (pi_range1 rfl T.z_range (pa_cons (pe_op op_sub (pe_callB (k_len (K := K) rfl) (by rfl) T.z_len (by decide +kernel) (pa_cons (pv 5) pa_nil)) pe_int) pa_nil)) (blkOk_by (own := [("k", 7)]) (N := N__law_grown) (sc := defScope s__law_grown) (by decide +kernel)) (fun _ _ _ _ _ => (pg_name (i := 7) sc__law_grown.nd rfl (Or.inl rfl))) (fun _ _ _ _ _ => pts_nil) (fun _ _ _ _ _ => (pe_op op_sub (pe_call G__law_pick (hr.mono (by decide)) (by rfl) T.m__law_pick T.F__law_pick.kp T.b__law_pick .nil pass0 (pa_cons (pv 0) (pa_cons pe_int pa_nil))) pe_int))))
      (pss_cons (ps_while PassesOwn.never (pt_cmpR op_lt (pe_callB (k_len (K := K) rfl) (by rfl) T.z_len (by decide +kernel) (pa_cons (pv 6) pa_nil)) (pv 1) (nomark _)) (pss_one (ps_expr (pe_bm PySem.F.plainAttrs_list PySem.F.slot_list_append PySem.F.type_list_append mt_append (pv 6) (pa_cons (pe_op op_sub pe_int (pe_callB (k_sum (K := K) rfl rfl) (by rfl) T.z_sum (by decide +kernel) (pa_cons (pe_lc (own := [("i", 8)]) rfl sc__law_grown.nd (pi_range1 rfl T.z_range (pa_cons (pe_op op_sub (pe_callB (k_len (K := K) rfl) (by rfl) T.z_len (by decide +kernel) (pa_cons (pv 5) pa_nil)) pe_int) pa_nil)) (blkOk_by (own := [("i", 8)]) (N := N__law_grown) (sc := defScope s__law_grown) (by decide +kernel)) (fun _ _ _ _ _ => (pg_name (i := 8) sc__law_grown.nd rfl (Or.inl rfl))) (fun _ _ _ _ _ => pts_nil) (fun _ _ _ _ _ => (pe_op op_mulU (pe_ix (k_ix (K := K) rfl) (pv 5) (pv 8) (fun _ _ => rfl)) (pe_ix (k_ix (K := K) rfl) (pv 6) (pe_op (k_addU (K := K) rfl) (pe_op (k_addU (K := K) rfl) (pe_op op_sub (pe_callB (k_len (K := K) rfl) (by rfl) T.z_len (by decide +kernel) (pa_cons (pv 6) pa_nil)) (pe_callB (k_len (K := K) rfl) (by rfl) T.z_len (by decide +kernel) (pa_cons (pv 5) pa_nil))) pe_int) (pv 8)) (fun _ _ => rfl))))) pa_nil))) pa_nil)))))
      (pss_one (ps_ret (Cr.pe_tup (pa_cons (pe_callTy (k_tup (K := K) rfl) (by rfl) T.z_tuple (by decide +kernel) (pa_cons (pe_slice (k_sl (K := K) rfl) (pv 6) po_none (po_some (pv 1))) pa_nil)) (pa_cons (pv 5) (pa_cons (pv 2) pa_nil))))))))))), ?_⟩
  have o2 := o.ext
  have hA : At (some p) (n + 100) [.adr p, .dat (.int size), .any, .any, .any, .any, .any, .any, .any] (Cr.ext Hk H) H (L2.start N__law_grown [.ref p, .int size]) (Cr.ext Hk H) H := ⟨o2, start_sg (N := N__law_grown) (VS.cons (s := .adr p) rfl (VS.cons (s := .dat (.int size)) (.int size) VS.nil)) (by show 2 ≤ 9; decide), Gr.refl o2.a⟩
  have hb : ∀ b xs, H b = some (.tup xs) → Cr.ext Hk H b ≠ none := ext_base o.a
  refine q_newT (i := 2) hA fun r H1 a1 t1 => ?_
  refine q_for (n := n + 60) (c := 1) (Ψ := fun items => ∃ k : Nat, k ≤ 3 ∧ items = rng 0 k) ((ij_rng1 (j_addI (Φ := IntP fun x => 1 ≤ x ∧ x ≤ 3) e_int.intP (j_pick rfl e_int (by omega) (by omega)) fun i j hi hj => ⟨i + j, by omega, rfl⟩) fun j hj => ⟨by omega, j.toNat, by omega, rfl⟩)) (a1.mono (by omega)) fun items HkW H2 ⟨kk, hkk, ei⟩ g2 a2 => ?_
  subst ei
  refine ⟨fun i σ' Hk' H' => Same HkW Hk' ∧ i ≤ kk ∧ ∃ kvs, GoodT i kvs ∧ At (some p) (n + 45 + 4 * (kk - i)) [.adr p, .dat (.int size), .adr r, .any, .any, .any, .any, .any, .any] (Cr.ext Hk H) H σ' Hk' H' ∧ TCell (some p) H Hk' H' r kvs, ⟨Same.refl _, Nat.zero_le _, [], GoodT.nil, a2.mono (by omega), t1.go g2⟩, fun i σ' Hk' H' h => ⟨h.1, by obtain ⟨_, _, _, _, st, _⟩ := h; exact st.ok.a⟩, ?_, ?_⟩
  · rintro i d σ' Hk' H' ed ⟨h2, hik, kvs, hG, st, tc⟩ v Hk2 H3 g3 dv
    obtain ⟨hi, rfl⟩ := rng_get' ed
    refine gb_name (vs := [3]) (by simp) σ' Hk2 H3 v (st.sg.mono g3.k) g3.a dv _ fun σ2 sg2 _ _ => ?_
    obtain ⟨F, hF⟩ : ∃ F, F = n + 45 + 4 * (kk - (i + 1)) := ⟨_, rfl⟩
    have st2 : At (some p) (F + 1 + 1 + 1 + 1) [.adr p, .dat (.int size), .adr r, .dat (.int (0 + (i : Int))), .any, .any, .any, .any, .any] (Cr.ext Hk H) H σ2 Hk2 H3 := ⟨(st.ok.go g3).mono (by omega), sg2, st.gr.trans g3.none_to⟩
    have tc2 := tc.go g3.none_to
    refine q_some (is := 4) (ig := 5) (n := F) (c := 1) (c1 := 1) (c2 := 1) (c3 := 1) ((j_subI (Φ := IntP fun x => x.natAbs < 2 ^ 4) (j_pick rfl e_int (by omega) (by omega)) e_int.intP fun i j hi hj => ⟨i - j, by omega, rfl⟩).cost (by omega)) ((j_addI (Φ := IntP fun x => x.natAbs < 2 ^ 4) e_int.intP (j_pick rfl e_int (by omega) (by omega)) fun i j hi hj => ⟨i + j, by omega, rfl⟩).cost (by omega)) ((j_pick rfl e_int (by omega) (by omega)).imp fun d ⟨x, hx, e⟩ => ⟨x, by omega, e⟩) (j_pick rfl e_int (by omega) (by omega)) st2 (by simp) fun b f σ4 Hk4 H4 hf hbk g4 a4 => ?_
    refine s_incT (i := 2) (ig := 5) (c := i) a4 rfl rfl hbk (tc2.go g4) hG hf (by omega) fun kvs' H5 hG5 a5 t5 => ⟨Hk4, (h2.trans g3.k).trans g4.k, by omega, kvs', hG5, ?_, t5⟩
    rw [← hF]
    exact ((a5.forget 3).forget 4).forget 5
  · rintro σ' Hk' H' ⟨h2, hik, kvs, hG, st, tc⟩
    rw [rng_len] at hG st
    have st0 := st.mono (show n + 45 ≤ _ by omega)
    refine q_asgM (i := 2) (j := 5) st0 rfl tc (hG.mono hkk) hb fun f σ3 Hk3 H3 hf a3 => ?_
    obtain ⟨hf0, hf1, hf2⟩ := hf
    have hfp := List.length_pos_iff.mpr hf0
    obtain ⟨m, em⟩ : ∃ m : Nat, f.length = m + 1 := ⟨f.length - 1, by omega⟩
    have elen : ∀ {δ : List Sl}, δ[5]? = some (.dat (pol f)) → E (some p) δ (tOp (rI0 fun i j => .int (i - j)) (tCB (rLenQ K) (tCons (tVar 5) tNil)) (tC (.int 1))) (.int (m : Int)) := fun h => e_is (e_subI (e_is (e_lenT (e_var h)) (d1 := .int ((f.length : Nat) : Int)) (by rw [pol_len])) e_int) (by congr 1; omega)
    refine q_newLcD (i := 6) (vs := [7]) (emb := fun k : Nat => PyData.int (0 + (k : Int))) (n := n) (c := 0) (c1 := 1) (N := 45) (Ψ := fun xs => xs = List.range m) (Φ := IntP fun x => x.natAbs < 2 ^ 4) (ij_rng1 (E.intP (elen rfl)) fun j e => by subst e; exact ⟨by omega, List.range m, rfl, by rw [Int.toNat_natCast]; rfl⟩) (fun xs e => by rw [e, List.length_range]; omega) (by omega) (fun xs e x hx => ⟨_, gb_name (by simp), (j_subI (Φ := IntP fun x => x.natAbs < 2 ^ 4) (j_pick rfl e_int (by omega) (by omega)) e_int.intP fun i j hi hj => ⟨i - j, by omega, rfl⟩).cost (by omega)⟩) (a3.mono (by omega)) fun xs ds D0 Hk4 H4 exs hdl hdp a4 cl4 => ?_
    rw [exs, List.length_range] at hdl
    refine q_whileLen (i := 6) (js := 1) (size := size) (fun ds => ∃ l : List Int, ds = l.map .int ∧ m ≤ l.length ∧ l.length ≤ 60 ∧ (l.length ≤ m ∨ (l.length : Int) ≤ size) ∧ ∀ i, i < l.length → (l.getD i 0).natAbs < 2 ^ (10 + 70 * (i + 1))) a4 cl4 ?_ rfl rfl (by omega) ?_ ?_
    · have z : ∀ ds : List PyData, (∀ d ∈ ds, ∃ x : Int, x.natAbs < 2 ^ 4 ∧ d = .int x) → ∃ l : List Int, ds = l.map .int ∧ CB 4 l := by
        intro ds
        induction ds with
        | nil => intro _; exact ⟨[], rfl, fun a ha => by cases ha⟩
        | cons d ds ih =>
          intro h
          obtain ⟨l, e, hl⟩ := ih fun x hx => h x (by simp [hx])
          obtain ⟨x, hx, ex⟩ := h d (by simp)
          exact ⟨x :: l, by rw [e, ex]; rfl, fun a ha => by
            rcases List.mem_cons.mp ha with e | e
            · rw [e]; exact hx
            · exact hl a e⟩
      obtain ⟨l, e, hl⟩ := z ds hdp
      have : l.length = m := by rw [← hdl, e, List.length_map]
      exact ⟨l, e, by omega, by omega, .inl (by omega), fun i hi => lt_pow (hl _ (Cr.getD_mem hi)) (by omega)⟩
    · rintro ds ⟨l, rfl, hl1, hl2, hl3, hC⟩ hlt
      rw [List.length_map] at hlt
      have hrow : ∀ k, k < m → (l.getD (l.length - m + k) 0).natAbs < 2 ^ (10 + 70 * l.length) := fun k hk => lt_pow (hC (l.length - m + k) (by omega)) (by omega)
      have hprod : ∀ k, k < m → (f.getD k 0 * l.getD (l.length - m + k) 0).natAbs < 2 ^ (60 + (10 + 70 * l.length)) := fun k hk => by
        have h1 : (f.getD k 0).natAbs < 2 ^ 60 := hf2 _ (Cr.getD_mem (by omega))
        rw [Int.natAbs_mul, Nat.pow_add]
        exact Nat.mul_lt_mul'' h1 (hrow k hk)
      obtain ⟨ns, ens⟩ : ∃ ns : List Int, ns = (List.range m).map fun k => f.getD k 0 * l.getD (l.length - m + k) 0 := ⟨_, rfl⟩
      have hsum : ns.sum.natAbs < 2 ^ (60 + (10 + 70 * l.length) + 3 + 1) := sum_bits (b := 60 + (10 + 70 * l.length)) (N := 3) (fun x hx => by
        rw [ens] at hx
        obtain ⟨k, hk, rfl⟩ := List.mem_map.mp hx
        exact hprod k (List.mem_range.mp hk)) (by rw [ens, List.length_map, List.length_range]; omega)
      refine ⟨.int (0 - ns.sum), e_subI e_int (e_sum (ns := ns) (e_is (e_lcR (i := 8) (m := m) (elen rfl) rfl (by omega) (fun k => .int (f.getD k 0 * l.getD (l.length - m + k) 0)) fun k hk => e_mulI (e_iT (ds := f.map .int) (e_var rfl) (e_var rfl) (at_ints (by omega))) (e_iL (ds := l.map .int) (i := ((l.length - m + k : Nat) : Int)) (e_var rfl) (e_is (e_addI (e_addI (e_subI (e_is (e_lenL (e_var rfl)) (d1 := .int ((l.length : Nat) : Int)) (by rw [List.length_map])) (e_is (e_lenT (e_var rfl)) (d1 := .int ((f.length : Nat) : Int)) (by rw [pol_len]))) e_int) (e_var rfl)) (by congr 1; omega)) (at_ints0 (by omega))) (wide_mul (hf2 _ (Cr.getD_mem (by omega))) (hrow k hk) (by omega) (by omega) (by omega))) (by rw [ens, List.map_map]; rfl))), rfl, l ++ [0 - ns.sum], by rw [List.map_append]; rfl, by rw [List.length_append]; simp; omega, by rw [List.length_append]; simp; omega, .inr (by rw [List.length_append]; simp; omega), ?_⟩
      intro i hi
      have hll : (l ++ [0 - ns.sum]).length = l.length + 1 := by simp
      rw [hll] at hi
      by_cases hil : i < l.length
      · have e : (l ++ [0 - ns.sum]).getD i 0 = l.getD i 0 := by rw [List.getD_eq_getElem?_getD, List.getElem?_append_left hil, ← List.getD_eq_getElem?_getD]
        rw [e]; exact hC i hil
      · have ei : i = l.length := by omega
        have e : (l ++ [0 - ns.sum]).getD i 0 = 0 - ns.sum := by rw [ei, List.getD_eq_getElem?_getD, List.getElem?_append_right (Nat.le_refl _)]; simp
        rw [e, Int.zero_sub, Int.natAbs_neg]
        exact lt_pow hsum (by omega)
    · rintro ds Hk5 H5 ⟨l, rfl, hl1, hl2, hl3, hC⟩ hge a5 cl5
      rw [List.length_map] at hge
      obtain ⟨Hk6, s6, st6⟩ := a5.freeze (i := 6) cl5 rfl
      obtain ⟨u, eu⟩ : ∃ u : Nat, size = (u : Int) := ⟨size.toNat, by omega⟩
      have hml : (l.take u).length = u := by rw [List.length_take]; omega
      refine s_retG (i := 5) (j := 2) (f := l.take u) (r := r) (e_is (e_slL (ds := l.map .int) (lo := none) (hi := some (u : Int)) (e_var rfl) to_none (to_some (e_is (e_var rfl) (by rw [eu])))) (by rw [cutD_to, List.map_take])) st6 rfl rfl (by omega) fun b od p0 v1 v2 Hk7 H7 g7 o7 dq hp0 hb7 => ?_
      have hl40 : l.length ≤ 40 := by rcases hl3 with h | h <;> omega
      have hall : ∀ a ∈ l, a.natAbs < 2 ^ 9000 := fun a ha => by
        obtain ⟨i, hi, e⟩ := List.getElem_of_mem ha
        have z := hC i hi
        rw [List.getD_eq_getElem?_getD, List.getElem?_eq_getElem hi] at z
        rw [← e]
        exact lt_pow z (by omega)
      refine kont b od (l.take u) _ v1 v2 _ H7 g7.bck o7.bck ⟨by rw [hml, eu]; rfl, fun a ha => hall a (List.mem_of_mem_take ha), fun a ha => ?_⟩ (bck_pol hp0 dq) hb7
      obtain ⟨i, hi, e⟩ := List.getElem_of_mem ha
      have hi6 : i < 6 := by rw [List.length_take] at hi; omega
      have hil : i < l.length := by rw [List.length_take, List.length_take] at hi; omega
      have z := hC i hil
      rw [List.getD_eq_getElem?_getD, List.getElem?_eq_getElem hil] at z
      rw [List.getElem_take, List.getElem_take] at e
      rw [← e]
      exact lt_pow z (by omega)
/-! ### _law_some_sums -/
def R__law_some_sums : RelX := fun q sls c Φ => c = 1000 ∧ ∃ p : Addr, q = some p ∧ sls = [.adr p] ∧ Φ = fun d => ∃ f : List Int, (1 ≤ f.length ∧ f.length ≤ 24 ∧ CB 9000 f ∧ CB 500 (f.take 6)) ∧ d = pol f
theorem ok__law_some_sums (T : Tx K mg) : FnOk P w K mg base CX0 5 T.a__law_some_sums T.fd__law_some_sums P__law_some_sums (spX R__law_some_sums) := by
  have G__law_amount := ok__law_amount (P := P) (w := w) (base := base) T
  have G__law_grown := ok__law_grown (P := P) (w := w) (base := base) T
  have G__law_ledger := ok__law_ledger (P := P) (w := w) (base := base) T
  have G__law_pick := ok__law_pick (P := P) (w := w) (base := base) T
  have G__law_split := ok__law_split (P := P) (w := w) (base := base) T
  have G__law_sums := ok__law_sums (P := P) (w := w) (base := base) T
  have G__law_wide := ok__law_wide (P := P) (w := w) (base := base) T
  refine fn_ok T.F__law_some_sums sc__law_some_sums (by decide) (fun q sls c Φ h => by obtain ⟨_, p, _, rfl, _⟩ := h; rfl) fun cdv A outer s B0 Ew hr => ⟨_,
    (pss_cons (ps_par (i := 1) (j := 2) (by rfl) sc__law_some_sums.nd rfl rfl (by decide) rfl rfl (pa_cons (pe_call G__law_pick (hr.mono (by decide)) (by rfl) T.m__law_pick T.F__law_pick.kp T.b__law_pick .nil pass0 (pa_cons (pv 0) (pa_cons pe_int pa_nil))) (pa_cons (pe_op (k_addU (K := K) rfl) pe_int (pe_call G__law_pick (hr.mono (by decide)) (by rfl) T.m__law_pick T.F__law_pick.kp T.b__law_pick .nil pass0 (pa_cons (pv 0) (pa_cons pe_int pa_nil)))) pa_nil)) (by rfl))
      (pss_cons (ps_if (pt_cmpR (k_eqD (K := K) rfl hr.units) (pv 1) pe_int (nomark _)) (pss_one (ps_ret (pe_call G__law_sums (hr.mono (by decide)) (by rfl) T.m__law_sums T.F__law_sums.kp T.b__law_sums .nil pass0 (pa_cons (pe_call G__law_ledger (hr.mono (by decide)) (by rfl) T.m__law_ledger T.F__law_ledger.kp T.b__law_ledger .nil pass0 (pa_cons (pv 0) (pa_cons pe_int pa_nil))) (pa_cons (pv 2) pa_nil))))) pss_nil)
      (pss_cons (ps_if (pt_cmpR (k_eqD (K := K) rfl hr.units) (pv 1) pe_int (nomark _)) (pss_cons (ps_set (i := 3) sc__law_some_sums.nd rfl (Or.inl rfl) (pe_callTy (k_lst (K := K) rfl) (by rfl) T.z_list (by decide +kernel) (pa_cons (pe_call G__law_sums (hr.mono (by decide)) (by rfl) T.m__law_sums T.F__law_sums.kp T.b__law_sums .nil pass0 (pa_cons (pe_call G__law_ledger (hr.mono (by decide)) (by rfl) T.m__law_ledger T.F__law_ledger.kp T.b__law_ledger .nil pass0 (pa_cons (pv 0) (pa_cons pe_int pa_nil))) (pa_cons (pe_op (k_addU (K := K) rfl) pe_int (pe_op op_fdivW (pv 2) pe_int)) pa_nil))) pa_nil)))
      (pss_cons (ps_set (i := 4) sc__law_some_sums.nd rfl (Or.inl rfl) (pe_call G__law_pick (hr.mono (by decide)) (by rfl) T.m__law_pick T.F__law_pick.kp T.b__law_pick .nil pass0 (pa_cons (pv 0) (pa_cons (pe_callB (k_len (K := K) rfl) (by rfl) T.z_len (by decide +kernel) (pa_cons (pv 3) pa_nil)) pa_nil))))
      (pss_cons (ps_asg (pe_op (k_addU (K := K) rfl) (pe_ix (k_ix (K := K) rfl) (pv 3) (pv 4) (fun _ _ => rfl)) (pe_call G__law_amount (hr.mono (by decide)) (by rfl) T.m__law_amount T.F__law_amount.kp T.b__law_amount .nil pass0 (pa_cons (pv 0) (pa_cons pe_int pa_nil)))) (pg_sub (pv 3) (pv 4) set_list))
      (pss_one (ps_ret (pe_callTy (k_tup (K := K) rfl) (by rfl) T.z_tuple (by decide +kernel) (pa_cons (pv 3) pa_nil))))))) pss_nil)
      (pss_cons (ps_if (pt_cmpR (k_eqD (K := K) rfl hr.units) (pv 1) pe_int (nomark _)) (pss_one (ps_ret (pe_callTy (k_tup (K := K) rfl) (by rfl) T.z_tuple (by decide +kernel) (pa_cons (pe_lc (own := [("k", 7)]) rfl sc__law_some_sums.nd (pi_range1 rfl T.z_range (pa_cons (pe_op (k_addU (K := K) rfl) pe_int (pe_op op_fdivW (pv 2) pe_int)) pa_nil)) (blkOk_by (own := [("k", 7)]) (N := N__law_some_sums) (sc := defScope s__law_some_sums) (by decide +kernel)) (fun _ _ _ _ _ => (pg_name (i := 7) sc__law_some_sums.nd rfl (Or.inl rfl))) (fun _ _ _ _ _ => pts_nil) (fun _ _ _ _ _ => (pe_op op_sub (pe_call G__law_pick (hr.mono (by decide)) (by rfl) T.m__law_pick T.F__law_pick.kp T.b__law_pick .nil pass0 (pa_cons (pv 0) (pa_cons pe_int pa_nil))) pe_int))) pa_nil)))) pss_nil)
      (pss_cons (ps_if (pt_cmpR (k_eqD (K := K) rfl hr.units) (pv 1) pe_int (nomark _)) (pss_one (ps_ret (pe_ix (k_ix (K := K) rfl) (pe_call G__law_grown (hr.mono (by decide)) (by rfl) T.m__law_grown T.F__law_grown.kp T.b__law_grown .nil pass0 (pa_cons (pv 0) (pa_cons (pv 2) pa_nil))) pe_int (fun _ _ => rfl)))) pss_nil)
      (pss_cons (ps_if (pt_cmpR (k_eqD (K := K) rfl hr.units) (pv 1) pe_int (nomark _)) (pss_one (ps_ret (pe_op (k_addU (K := K) rfl) (pe_op (k_repTA (K := K) rfl) (Cr.pe_tup (pa_cons pe_int pa_nil)) (pe_op op_fdivW (pv 2) pe_int)) (pe_callTy (k_tup (K := K) rfl) (by rfl) T.z_tuple (by decide +kernel) (pa_cons (pe_lc (own := [("k", 7)]) rfl sc__law_some_sums.nd (pi_range1 rfl T.z_range (pa_cons (pe_op (k_addU (K := K) rfl) pe_int (pe_call G__law_pick (hr.mono (by decide)) (by rfl) T.m__law_pick T.F__law_pick.kp T.b__law_pick .nil pass0 (pa_cons (pv 0) (pa_cons pe_int pa_nil)))) pa_nil)) (blkOk_by (own := [("k", 7)]) (N := N__law_some_sums) (sc := defScope s__law_some_sums) (by decide +kernel)) (fun _ _ _ _ _ => (pg_name (i := 7) sc__law_some_sums.nd rfl (Or.inl rfl))) (fun _ _ _ _ _ => pts_nil) (fun _ _ _ _ _ => (pe_op op_sub (pe_call G__law_pick (hr.mono (by decide)) (by rfl) T.m__law_pick T.F__law_pick.kp T.b__law_pick .nil pass0 (pa_cons (pv 0) (pa_cons pe_int pa_nil))) pe_int))) pa_nil))))) pss_nil)
      (pss_cons (ps_if (pt_cmpR (k_eqD (K := K) rfl hr.units) (pv 1) pe_int (nomark _)) (pss_one (ps_ret (pe_callTy (k_tup (K := K) rfl) (by rfl) T.z_tuple (by decide +kernel) (pa_cons (pe_lc (own := [("k", 7)]) rfl sc__law_some_sums.nd (pi_range1 rfl T.z_range (pa_cons (pe_op (k_addU (K := K) rfl) pe_int (pe_op op_fdivW (pv 2) pe_int)) pa_nil)) (blkOk_by (own := [("k", 7)]) (N := N__law_some_sums) (sc := defScope s__law_some_sums) (by decide +kernel)) (fun _ _ _ _ _ => (pg_name (i := 7) sc__law_some_sums.nd rfl (Or.inl rfl))) (fun _ _ _ _ _ => pts_nil) (fun _ _ _ _ _ => (pe_call G__law_wide (hr.mono (by decide)) (by rfl) T.m__law_wide T.F__law_wide.kp T.b__law_wide .nil pass0 (pa_cons (pv 0) (pa_cons pe_int pa_nil))))) pa_nil)))) pss_nil)
      (pss_cons (ps_asg (pe_call G__law_split (hr.mono (by decide)) (by rfl) T.m__law_split T.F__law_split.kp T.b__law_split .nil pass0 (pa_cons (pv 0) pa_nil)) (k_pgTup (K := K) (n := 2) rfl rfl (pgs_cons (pg_name (i := 5) sc__law_some_sums.nd rfl (Or.inl rfl)) (pgs_cons (pg_name (i := 6) sc__law_some_sums.nd rfl (Or.inr rfl)) pgs_nil))))
      (pss_one (ps_ret (pe_callTy (k_tup (K := K) rfl) (by rfl) T.z_tuple (by decide +kernel) (pa_cons (pe_lc (own := [("value", 8)]) rfl sc__law_some_sums.nd (k_piTup (K := K) rfl (pe_call G__law_sums (hr.mono (by decide)) (by rfl) T.m__law_sums T.F__law_sums.kp T.b__law_sums .nil pass0 (pa_cons (pv 5) (pa_cons (pe_callB (call_minQ rfl) (by rfl) T.z_min (by decide +kernel) (pa_cons (pv 2) (pa_cons pe_int pa_nil))) pa_nil)))) (blkOk_by (own := [("value", 8)]) (N := N__law_some_sums) (sc := defScope s__law_some_sums) (by decide +kernel)) (fun _ _ _ _ _ => (pg_name (i := 8) sc__law_some_sums.nd rfl (Or.inl rfl))) (fun _ _ _ _ _ => pts_nil) (fun _ _ _ _ _ => (pe_op op_fdivW (pv 8) (pv 6)))) pa_nil)))))))))))), fun q sls n c Φ A0 σ Q hR hA fin => ?_⟩
  obtain ⟨rfl, p, rfl, rfl, rfl⟩ := hR
  have half : ∀ {δ : List Sl} {te : TE} {x z : Int}, E (some p) δ te (.int x) → 1 ≤ x → x ≤ 24 → (2 ≤ z ∧ z ≤ 3) → E (some p) δ (tOp (rI CDivW fun i j => .int (i / j)) te (tC (.int z))) (.int (x / z)) := fun h h1 h2 h3 => e_fdiv h e_int (wide_div (b := 8) (by omega) (by omega) (by omega) (by omega))
  refine q_parII (i := 1) (j := 2) (n := n + 990) (c1 := 1) (c2 := 1) (P1 := fun x => 0 ≤ x ∧ x < 7) (P2 := fun x => 1 ≤ x ∧ x ≤ 24) (j_pick rfl e_int (by omega) (by omega)) ((j_addI (c1 := 0) (c2 := 1) e_int.intP (j_pick rfl e_int (by omega) (by omega)) fun i j hi hj => ⟨i + j, by omega, rfl⟩).cost (by omega)) (hA.mono (by omega)) fun kd sz σ1 Hk1 H1 hk hs g1 a1 => ?_
  have jsum : ∀ {δ : List Sl} {te tm : TE} {x m : Int} {E0 E1 : XK}, δ[0]? = some (.adr p) → E (some p) δ tm (.int m) → 1 ≤ m → m ≤ 24 → E (some p) δ te (.int x) → 0 ≤ x → x ≤ 13 → J (some p) δ (tCall (spX R__law_sums) [] E1 (tCons (tCall (spX R__law_ledger) [] E0 (tCons (tVar 0) (tCons te tNil))) (tCons tm tNil))) 300 (fun d => ∃ f : List Int, (f.length = m.toNat ∧ CB 1600 f ∧ CB 325 (f.take 6)) ∧ d = pol f) := fun h0 hm hm1 hm2 hx hx0 hx1 =>
    (j_callD (R := R__law_sums) (c := 0) (c1 := 300) (Φa := fun sls => ∃ l : List (Int × Int), (l.length ≤ 13 ∧ Kb 52 60 l) ∧ sls = [.dat (led l), .dat (.int _)]) (aj_cons (c1 := 300) (c2 := 0) (Φ1 := fun d => ∃ l : List (Int × Int), (l.length ≤ 13 ∧ Kb 52 60 l) ∧ d = led l) ((j_ledger h0 hx hx0 (by omega)).imp fun d ⟨l, h1, h2, h3, e⟩ => ⟨l, ⟨by omega, h3⟩, e⟩) (ae_cons hm ae_nil) fun d sls ⟨l, hl, e⟩ e2 => ⟨l, hl, by rw [e, e2]⟩) fun sls ⟨l, hl, e⟩ => ⟨_, ⟨rfl, l, _, 52, 60, hl.2, by omega, by omega, by omega, by omega, by omega, by omega, by omega, e, rfl⟩, fun d ed => ⟨_, ⟨psums_len _ _, (psums_CB (N := 4) hl.2 (by omega)).mono (by omega), psums_CBt (N := 4) hl.2 (by omega)⟩, ed⟩⟩).cost (by omega)
  refine q_whenB (b := kd == 0) (tb_test (e_eqDI (e_var rfl) e_int)) a1 (fun hb Hk2 H2 g2 a2 => ?_) (fun hb Hk2 H2 g2 a2 => ?_)
  · exact s_ret (n := n) (c := 300) (jsum rfl (e_var rfl) hs.1 hs.2 e_int (by omega) (by omega)) a2 (by omega) fin fun d ⟨f, hf, e⟩ => ⟨f, ⟨by omega, by omega, hf.2.1.mono (by omega), hf.2.2.mono (by omega)⟩, e⟩
  refine q_whenB (b := kd == 1) (tb_test (e_eqDI (e_var rfl) e_int)) a2 (fun hb Hk3 H3 g3 a3 => ?_) (fun hb Hk3 H3 g3 a3 => ?_)
  · refine s_seq ?_
    refine q_lstC (i := 3) (n := n + 100) (c := 300) (jsum (m := 1 + sz / 2) rfl (e_addI e_int (half (e_var rfl) hs.1 hs.2 (by omega))) (by omega) (by omega) e_int (by omega) (by omega)) (a3.mono (by omega)) fun f l σ4 Hk4 H4 hf a4 cl4 => ?_
    refine q_asgC (i := 3) (j := 4) (n := n + 90) (c := 1) (Φ := IntP fun x => 0 ≤ x ∧ x < (f.length : Int)) (j_pick rfl (e_is (e_lenL (e_var rfl)) (d1 := .int ((f.length : Nat) : Int)) (by rw [List.length_map])) (by omega) (by omega)) (a4.mono (by omega)) cl4 rfl (fun d ⟨x, _, e⟩ => by rw [e]; rfl) fun d σ5 Hk5 H5 hd g5 a5 cl5 => ?_
    obtain ⟨x, hx, ed⟩ := hd
    subst ed
    obtain ⟨u, eu⟩ : ∃ u : Nat, x = (u : Int) := ⟨x.toNat, by omega⟩
    subst eu
    have hu : u < f.length := by omega
    have hfu := hf.2.1 _ (Cr.getD_mem hu)
    refine s_seq (s_setCE (i := 3) (j := u) (m := (u : Int)) (n := n + 80) (c := 1) (Φ := IntP fun y => ∃ b : Int, (-9 ≤ b ∧ b ≤ 9) ∧ y = f.getD u 0 + b) ((j_addI (c1 := 0) (c2 := 1) (P1 := fun y => y = f.getD u 0) (P2 := fun y => -9 ≤ y ∧ y ≤ 9) (e_iL (ds := f.map .int) (e_var rfl) (e_var rfl) (at_ints0 hu)).intP ((j_call (R := R__law_amount) (c := 1) (c1 := 0) (ae_adr rfl (ae_cons e_int ae_nil)) fun sls e => ⟨rfl, p, 9, rfl, by omega, by omega, e, rfl⟩).imp fun d ⟨x, hx, e⟩ => ⟨x, by omega, e⟩) fun a b ha hb => ⟨a + b, ⟨b, hb, by rw [ha]⟩, rfl⟩).cost (by omega)) (a5.mono (by omega)) cl5 rfl (fun d ⟨y, _, e⟩ => by rw [e]; rfl) (e_var rfl) rfl (by rw [List.length_map]; exact hu) fun d Hk6 H6 ⟨y, hy, ed⟩ s6 a6 cl6 => ?_)
    subst ed
    have es : (f.map PyData.int).set u (.int y) = (f.set u y).map .int := by rw [List.map_set]
    rw [es] at cl6
    obtain ⟨Hk7, s7, st7⟩ := a6.freeze (i := 3) cl6 rfl
    obtain ⟨b, hb9, ey⟩ := hy
    have hy1 : y.natAbs < 2 ^ 1601 := by rw [ey]; exact add_bits (B := 1600) hfu (lt_pow (a := 4) (by omega) (by omega))
    have hy2 : u < 6 → y.natAbs < 2 ^ 326 := fun hu6 => by
      rw [ey]
      refine add_bits (B := 325) (hf.2.2 _ ?_) (lt_pow (a := 4) (by omega) (by omega))
      rw [List.getD_eq_getElem?_getD, List.getElem?_eq_getElem hu]
      exact List.mem_take_iff_getElem.mpr ⟨u, by omega, rfl⟩
    exact s_retE (d := pol (f.set u y)) (e_tupL (e_var rfl)) st7 (by omega) fin ⟨f.set u y, ⟨by rw [List.length_set]; omega, by rw [List.length_set]; omega, fun a ha => by
      rcases List.mem_or_eq_of_mem_set ha with h | h
      · exact lt_pow (hf.2.1 a h) (by omega)
      · rw [h]; exact lt_pow hy1 (by omega), cb_set (hf.2.2.mono (by omega)) fun h => lt_pow (hy2 h) (by omega)⟩, rfl⟩
  refine q_whenB (b := kd == 2) (tb_test (e_eqDI (e_var rfl) e_int)) a3 (fun hb Hk4 H4 g4 a4 => ?_) (fun hb Hk4 H4 g4 a4 => ?_)
  · refine s_ret (n := n) (c := 50) ((j_tupJ (j_lcI (c := 0) (c1 := 1) (N := 30) (lo := 1) (hi := 13) (P := fun x => x.natAbs < 2 ^ 4) ((e_addI e_int (half (e_var rfl) hs.1 hs.2 (by omega))).is (by omega)) (by omega) (by omega) (by omega) fun k => (j_subI (j_pick rfl e_int (by omega) (by omega)) e_int.intP fun i j hi hj => ⟨i - j, by omega, rfl⟩).cost (by omega))).cost (by omega)) a4 (by omega) fin fun d ⟨f, hf, e⟩ => ⟨f, ⟨by omega, by omega, cb_six hf.2 (by omega)⟩, e⟩
  refine q_whenB (b := kd == 3) (tb_test (e_eqDI (e_var rfl) e_int)) a4 (fun hb Hk5 H5 g5 a5 => ?_) (fun hb Hk5 H5 g5 a5 => ?_)
  · exact s_ret (n := n) (c := 100) (j_grown rfl (e_var rfl) hs.1 hs.2) a5 (by omega) fin fun d ⟨f, hf, e⟩ => ⟨f, ⟨by omega, by omega, hf.2⟩, e⟩
  refine q_whenB (b := kd == 4) (tb_test (e_eqDI (e_var rfl) e_int)) a5 (fun hb Hk6 H6 g6 a6 => ?_) (fun hb Hk6 H6 g6 a6 => ?_)
  · refine s_ret (n := n) (c := 50) ((j_op (c1 := 0) (c2 := 9) (Φ1 := fun d => d = pol (List.replicate (sz / 2).toNat 0)) (Φ2 := fun d => ∃ ns : List Int, ((1 ≤ (ns.length : Int) ∧ (ns.length : Int) ≤ 8) ∧ ∀ x ∈ ns, x.natAbs < 2 ^ 4) ∧ d = pol ns) (Φ := fun d => ∃ f : List Int, (1 ≤ f.length ∧ f.length ≤ 24 ∧ CB 9000 f ∧ CB 500 (f.take 6)) ∧ d = pol f) (e_is (e_repTA (ds := [.int 0]) (e_tup (ds := [.int 0]) (ae_cons e_int ae_nil)) (half (e_var rfl) hs.1 hs.2 (by omega)) (by simp) (by omega) (by omega) (by simp)) (by rw [List.flatten_replicate_singleton]; unfold pol; rw [List.map_replicate])) ((j_tupJ (j_lcI (c := 1) (c1 := 1) (N := 8) (lo := 1) (hi := 8) (P := fun x => x.natAbs < 2 ^ 4) ((j_addI (c1 := 0) (c2 := 1) e_int.intP (j_pick rfl e_int (by omega) (by omega)) fun i j hi hj => ⟨i + j, by omega, rfl⟩).cost (by omega)) (by omega) (by omega) (by omega) fun k => (j_subI (j_pick rfl e_int (by omega) (by omega)) e_int.intP fun i j hi hj => ⟨i - j, by omega, rfl⟩).cost (by omega))).cost (by omega)) fun a b ea ⟨ns, hns, eb⟩ => ?_).cost (by omega)) a6 (by omega) fin fun d e => e
    subst ea; subst eb
    refine RJ.to (rj_catT (by rw [List.length_map, List.length_map, List.length_replicate]; omega) ⟨List.replicate (sz / 2).toNat 0 ++ ns, ⟨by rw [List.length_append, List.length_replicate]; omega, by rw [List.length_append, List.length_replicate]; omega, cb_six (b := 4) (fun a ha => ?_) (by omega)⟩, by unfold pol; rw [List.map_append]⟩) fun _ _ _ _ h => .inr (.inr h)
    rcases List.mem_append.mp ha with h | h
    · rw [(List.mem_replicate.mp h).2]; exact Nat.pow_pos (by decide)
    · exact hns.2 a h
  refine q_whenB (b := kd == 6) (tb_test (e_eqDI (e_var rfl) e_int)) a6 (fun hb Hk7 H7 g7 a7 => ?_) (fun hb Hk7 H7 g7 a7 => ?_)
  · refine s_ret (n := n) (c := 900) ((j_tupJ (j_lcI (c := 0) (c1 := 60) (N := 9) (lo := 1) (hi := 9) (P := fun x => x.natAbs < 2 ^ 202) ((e_addI e_int (half (e_var rfl) hs.1 hs.2 (by omega))).is (by omega)) (by omega) (by omega) (by omega) fun k => (j_call (R := R__law_wide) (c := 60) (c1 := 0) (ae_adr rfl (ae_cons e_int ae_nil)) fun sls e => ⟨rfl, p, 2, rfl, by omega, by omega, e, rfl⟩).imp fun d ⟨x, hx, e⟩ => ⟨x, hx, e⟩)).cost (by omega)) a7 (by omega) fin fun d ⟨f, hf, e⟩ => ⟨f, ⟨by omega, by omega, cb_six hf.2 (by omega)⟩, e⟩
  refine q_asgW2 (i := 5) (j := 6) (n := n) (c := 100) (Ψ := fun a b => ∃ (l : List (Int × Int)) (j : Int), (Led l ∧ l.length ≤ 20 ∧ Kb 80 12 l ∧ 2 ≤ j ∧ j ≤ 6) ∧ a = led l ∧ b = .int j) ((j_call (R := R__law_split) (ae_adr rfl ae_nil) fun sls e => ⟨rfl, p, rfl, e, rfl⟩).imp fun d ⟨l, j, h, e⟩ => ⟨_, _, ⟨l, j, h, rfl, rfl⟩, e⟩) (a7.mono (by omega)) fun a b σ8 Hk8 H8 ⟨l, j, ⟨hL, hl, hK, hj1, hj2⟩, ea, eb⟩ g8 a8 => ?_
  subst ea; subst eb
  obtain ⟨m, em⟩ : ∃ m : Int, m = if (16 : Int) < sz then 16 else sz := ⟨_, rfl⟩
  have hm : 1 ≤ m ∧ m ≤ 16 := by rw [em]; split <;> omega
  have hC : CB 2000 (psums l m.toNat) := (psums_CB (N := 5) hK (by omega)).mono (by omega)
  refine s_retE (d := pol ((psums l m.toNat).map fun v => v / j)) (e_tupL (e_is (e_lc1 (vs := [8]) (emb := PyData.int) (xs := psums l m.toNat) (ie_tup (j_call (R := R__law_sums) (ae_cons (e_var rfl) (ae_cons (e_is (e_min (e_var rfl) e_int) (d1 := .int (if (16 : Int) < sz then 16 else sz)) rfl) ae_nil)) fun sls e => ⟨rfl, l, m, 80, 12, hK, by omega, by omega, by omega, by omega, by omega, by omega, by omega, by rw [em]; exact e, rfl⟩)) (fun v => .int (v / j)) (by rw [psums_len]; omega) fun v hv => ⟨_, gb_name (by simp), e_fdiv (e_var rfl) (e_var rfl) (wide_div (b := 8) (by omega) (by omega) (by omega) (by omega))⟩) (by rw [List.map_map]; rfl))) a8 (by omega) fin ⟨_, ⟨by rw [List.length_map, psums_len]; omega, by rw [List.length_map, psums_len]; omega, fun a ha => ?_, fun a ha => ?_⟩, rfl⟩
  · obtain ⟨v, hv, rfl⟩ := List.mem_map.mp ha
    refine Nat.lt_of_le_of_lt ?_ (lt_pow (hC v hv) (show 2000 ≤ 9000 by omega))
    exact Int.natAbs_ediv_le_natAbs v j
  · rw [← List.map_take] at ha
    obtain ⟨v, hv, rfl⟩ := List.mem_map.mp ha
    refine Nat.lt_of_le_of_lt ?_ (lt_pow (psums_CBt (N := 5) hK (by omega) v hv) (show 12 + 80 * 5 + 5 + 1 ≤ 500 by omega))
    exact Int.natAbs_ediv_le_natAbs v j
/-! ### _law_due -/
def R__law_due : RelX := fun _ sls c Φ => c = 0 ∧ ∃ (s f : List Int), CB 9000 s ∧ CB 10000 f ∧ s.length ≤ 400 ∧ f.length ≤ 1000 ∧ sls = [.dat (pol s), .dat (pol f)] ∧ Φ = fun d => d = .bool (dueB s f)
theorem ok__law_due (T : Tx K mg) : FnOk P w K mg base CX0 1 T.a__law_due T.fd__law_due P__law_due (spX R__law_due) := by
  refine fn_ok T.F__law_due sc__law_due (by decide) (fun q sls c Φ h => by obtain ⟨_, s, f, _, _, _, _, rfl, _⟩ := h; rfl) fun cdv A outer s B0 Ew hr => ⟨_,
    (pss_cons (ps_if (PW.pt (pw_or (pt_cmpR (k_eqD (K := K) rfl hr.units) (pv 1) (Cr.pe_tup pa_nil) (nomark _)) (pw_or1 (pt_cmpR op_gt (pe_callB (k_len (K := K) rfl) (by rfl) T.z_len (by decide +kernel) (pa_cons (pv 1) pa_nil)) (pe_op (k_addU (K := K) rfl) (pe_callB (k_len (K := K) rfl) (by rfl) T.z_len (by decide +kernel) (pa_cons (pv 0) pa_nil)) pe_int) (nomark _))))) (pss_one (ps_ret pe_bl)) pss_nil)
      (pss_cons (ps_for PassesOwn.never rfl (pi_range1 rfl T.z_range (pa_cons (pe_op op_sub (pe_op (k_addU (K := K) rfl) (pe_callB (k_len (K := K) rfl) (by rfl) T.z_len (by decide +kernel) (pa_cons (pv 0) pa_nil)) pe_int) (pe_callB (k_len (K := K) rfl) (by rfl) T.z_len (by decide +kernel) (pa_cons (pv 1) pa_nil))) pa_nil)) (pg_name (i := 2) sc__law_due.nd rfl (Or.inr rfl)) (pss_one (ps_if (pt_cmpR (k_neD (K := K) rfl hr.units) (pe_callB (k_sum (K := K) rfl rfl) (by rfl) T.z_sum (by decide +kernel) (pa_cons (pe_lc (own := [("i", 3)]) rfl sc__law_due.nd (pi_range1 rfl T.z_range (pa_cons (pe_callB (k_len (K := K) rfl) (by rfl) T.z_len (by decide +kernel) (pa_cons (pv 1) pa_nil)) pa_nil)) (blkOk_by (own := [("i", 3)]) (N := N__law_due) (sc := defScope s__law_due) (by decide +kernel)) (fun _ _ _ _ _ => (pg_name (i := 3) sc__law_due.nd rfl (Or.inl rfl))) (fun _ _ _ _ _ => pts_nil) (fun _ _ _ _ _ => (pe_op op_mulU (pe_ix (k_ix (K := K) rfl) (pv 1) (pv 3) (fun _ _ => rfl)) (pe_ix (k_ix (K := K) rfl) (pv 0) (pe_op (k_addU (K := K) rfl) (pv 2) (pv 3)) (fun _ _ => rfl))))) pa_nil)) pe_int (nomark _)) (pss_one (ps_ret pe_bl)) pss_nil)))
      (pss_one (ps_ret pe_bl)))), fun q sls n c Φ A0 σ Q hR hA fin => ?_⟩
  obtain ⟨rfl, s, f, hs, hf, hsl, hfl, rfl, rfl⟩ := hR
  have lenS : ∀ {δ : List Sl}, δ[0]? = some (.dat (pol s)) → E q δ (tCB (rLenQ K) (tCons (tVar 0) tNil)) (.int ((s.length : Nat) : Int)) := fun h => e_is (e_lenT (e_var h)) (by rw [pol_len])
  have lenF : ∀ {δ : List Sl}, δ[1]? = some (.dat (pol f)) → E q δ (tCB (rLenQ K) (tCons (tVar 1) tNil)) (.int ((f.length : Nat) : Int)) := fun h => e_is (e_lenT (e_var h)) (by rw [pol_len])
  refine q_whenB (b := decide (f = [] ∨ s.length + 1 < f.length)) (tb_is (tb_or (a := decide (f = [])) (b := decide (s.length + 1 < f.length)) (tb_test (e_is (e_eqD (e_var rfl) (e_is (e_tup (ds := []) ae_nil) (d1 := pol []) rfl) (pol_shape f) (pol_shape [])) (by rw [eqv_pols]))) fun _ => tb_is (tb_test (e_gtI (lenF rfl) (e_addI (lenS rfl) e_int))) (by rw [decide_eq_decide]; omega)) (by rw [Bool.eq_iff_iff]; simp)) hA (fun hb Hk3 H3 g3 a3 => ?_) (fun hb Hk3 H3 g3 a3 => ?_)
  · exact s_retE (d := .bool false) e_bl a3 (Nat.le_refl _) fin (by unfold dueB; rw [if_pos (of_decide_eq_true hb)])
  · have hno := of_decide_eq_false hb
    have hd : dueB s f = (List.range (s.length + 1 - f.length)).all fun a => decide (rowS s f a = 0) := by unfold dueB; rw [if_neg hno]
    rw [not_or] at hno
    have hfp := List.length_pos_iff.mpr hno.1
    refine q_for (n := n) (c := 0) (ie_rng1 (j := ((s.length + 1 - f.length : Nat) : Int)) (e_is (e_subI (e_addI (lenS rfl) e_int) (lenF rfl)) (by congr 1; omega)) (by omega) (by omega)) a3 fun items HkW H2 e g2 a2 => ?_
    subst e
    refine ⟨fun i σ' Hk' H' => Same HkW Hk' ∧ (∀ k < i, rowS s f k = 0) ∧ At q n [.dat (pol s), .dat (pol f), .any, .any] A0 B0 σ' Hk' H', ⟨Same.refl _, by simp, a2⟩, fun i σ' Hk' H' h => ⟨h.1, h.2.2.ok.a⟩, ?_, ?_⟩
    · rintro i d σ' Hk' H' ed ⟨h2, hk, st⟩ v Hk4 H4 g4 dv
      obtain ⟨hi, rfl⟩ := rng_get' ed
      have hi2 : i < s.length + 1 - f.length := by omega
      refine gb_name (vs := [2]) (by simp) σ' Hk4 H4 v (st.sg.mono g4.k) g4.a dv _ fun σ2 sg2 _ _ => ?_
      have st2 : At q n _ A0 B0 σ2 Hk4 H4 := ⟨st.ok.go g4, sg2, st.gr.trans g4.none_to⟩
      refine s_ifB (b := decide (rowS s f i ≠ 0)) (tb_is (tb_test (e_neDI (e_sum (ns := (List.range f.length).map fun k => f.getD k 0 * s.getD (i + k) 0) (e_is (e_lcR (i := 3) (m := f.length) (lenF rfl) rfl (by omega) (fun k => .int (f.getD k 0 * s.getD (i + k) 0)) fun k hk2 => e_mulI (e_iT (ds := f.map .int) (e_var rfl) (e_var rfl) (at_ints hk2)) (e_iT (ds := s.map .int) (i := ((i + k : Nat) : Int)) (e_var rfl) (e_is (e_addI (e_var rfl) (e_var rfl)) (by congr 1; omega)) (at_ints0 (by omega))) (wide_mul (hf _ (Cr.getD_mem hk2)) (hs _ (Cr.getD_mem (by omega))) (by omega) (by omega) (by omega))) (by rw [List.map_map]; rfl))) e_int)) ?_) st2 (fun hb2 Hk5 H5 g5 a5 => ?_) (fun hb2 Hk5 H5 g5 a5 => ⟨Hk5, (h2.trans g4.k).trans g5.k, fun k hk2 => ?_, a5.forget 2⟩)
      · show (!(rowS s f i == 0)) = _
        by_cases z : rowS s f i = 0
        · rw [z]; rfl
        · rw [decide_eq_true z]; simpa using z
      · exact s_retE (d := .bool false) e_bl a5 (Nat.le_refl _) fin (by
          rw [hd]
          congr 1
          exact (List.all_eq_false.mpr ⟨i, List.mem_range.mpr hi2, by simpa using of_decide_eq_true hb2⟩).symm)
      · by_cases e : k = i
        · rw [e]; simpa using of_decide_eq_false hb2
        · exact hk k (by omega)
    · rintro σ' Hk' H' ⟨h2, hk, st⟩
      rw [rng_len] at hk
      exact s_retE (d := .bool true) e_bl st (Nat.le_refl _) fin (by
        rw [hd]
        congr 1
        exact (List.all_eq_true.mpr fun k hk2 => decide_eq_true (hk k (by have := List.mem_range.mp hk2; omega))).symm)
/-! ### _law_right -/
def R__law_right : RelX := fun _ sls c Φ => c = 0 ∧ ∃ (s f : List Int), s ≠ [] ∧ Pl f ∧ CB 9000 s ∧ CB 10000 f ∧ s.length ≤ 400 ∧ f.length ≤ 1000 ∧ sls = [.dat (pol s), .dat (pol f)] ∧ Φ = fun d => d = .bool true
theorem ok__law_right (T : Tx K mg) : FnOk P w K mg base CX0 7 T.a__law_right T.fd__law_right P__law_right (spX R__law_right) := by
  have G__law_due := ok__law_due (P := P) (w := w) (base := base) T
  have G__law_same := ok__law_same (P := P) (w := w) (base := base) T
  have G_is_rule := ok_is_rule (P := P) (w := w) (base := base) T
  refine fn_ok T.F__law_right sc__law_right (by decide) (fun q sls c Φ h => by obtain ⟨_, s, f, _, _, _, _, _, _, rfl, _⟩ := h; rfl) fun cdv A outer s B0 Ew hr => ⟨_,
    (pss_cons (ps_set (i := 2) sc__law_right.nd rfl (Or.inl rfl) (pe_call G__law_due (hr.mono (by decide)) (by rfl) T.m__law_due T.F__law_due.kp T.b__law_due .nil pass0 (pa_cons (pv 0) (pa_cons (pv 1) pa_nil))))
      (pss_one (ps_ret (pe_call G__law_same (hr.mono (by decide)) (by rfl) T.m__law_same T.F__law_same.kp T.b__law_same .nil pass0 (pa_cons (pe_lst (pa_cons (pe_call G_is_rule (hr.mono (by decide)) (by rfl) T.m_is_rule T.F_is_rule.kp T.b_is_rule .nil pass0 (pa_cons (pv 0) (pa_cons (pv 1) pa_nil))) (pa_cons (pe_callK0 G_is_rule (hr.mono (by decide)) (by rfl) T.m_is_rule T.F_is_rule.kp (kb_is_rule_0_polynomial_sums T.F_is_rule) pass0 (pk_cons (pv 1) (pk_cons (pv 0) pk_nil))) pa_nil))) (pa_cons (pe_lst (pa_cons (pv 2) (pa_cons (pv 2) pa_nil))) pa_nil)))))), fun q sls n c Φ A0 σ Q hR hA fin => ?_⟩
  obtain ⟨rfl, s, f, hne, hP, hs, hf, hsl, hfl, rfl, rfl⟩ := hR
  refine q_asgE (i := 2) (d := .bool (dueB s f)) (j_call (R := R__law_due) (c := 0) (ae_cons (e_var rfl) (ae_cons (e_var rfl) ae_nil)) fun sls e => ⟨rfl, s, f, hs, hf, hsl, hfl, e, rfl⟩) hA fun σ1 Hk1 H1 g1 a1 => ?_
  exact s_retE (d := .bool true) (e_sameX (k := 6) (X := .list [.bool (dueB s f), .bool (dueB s f)]) (e_lst (ds := [.bool (dueB s f), .bool (dueB s f)]) (ae_cons (j_call (R := R_is_rule) (c := 0) (ae_cons (e_var rfl) (ae_cons (e_var rfl) ae_nil)) fun sls e => ⟨rfl, s, f, hne, hP, hs, hf, hsl, hfl, e, rfl⟩) (ae_cons (e_callK (R := R_is_rule) (d := .bool (dueB s f)) ae_nil (ae_cons (e_var rfl) (ae_cons (e_var rfl) ae_nil)) (fun H => v_kb_is_rule_0_polynomial_sums) ⟨rfl, s, f, hne, hP, hs, hf, hsl, hfl, rfl, rfl⟩) ae_nil))) (e_lst (ds := [.bool (dueB s f), .bool (dueB s f)]) (ae_cons (e_var rfl) (ae_cons (e_var rfl) ae_nil))) (by simp [okS])) a1 (Nat.le_refl _) fin rfl
/-! ### _law_polys -/
def R__law_polys : RelX := fun q sls c Φ => c = 200 ∧ ∃ (p : Addr) (s : List Int) (l : List (Int × Int)), q = some p ∧ 1 ≤ s.length ∧ s.length ≤ 24 ∧ CB 500 (s.take 6) ∧ l.length ≤ 12 ∧ Kb 52 60 l ∧ sls = [.adr p, .dat (pol s), .dat (led l)] ∧ Φ = fun d => ∃ fs : List (List Int), ((∀ f ∈ fs, GP f) ∧ fs.length ≤ 20) ∧ d = .list (fs.map pol)
theorem ok__law_polys (T : Tx K mg) : FnOk P w K mg base CX0 4 T.a__law_polys T.fd__law_polys P__law_polys (spX R__law_polys) := by
  have G__law_by := ok__law_by (P := P) (w := w) (base := base) T
  have G__law_kept := ok__law_kept (P := P) (w := w) (base := base) T
  have G__law_poly := ok__law_poly (P := P) (w := w) (base := base) T
  have G__law_shortest := ok__law_shortest (P := P) (w := w) (base := base) T
  have G__law_trim := ok__law_trim (P := P) (w := w) (base := base) T
  refine fn_ok T.F__law_polys sc__law_polys (by decide) (fun q sls c Φ h => by obtain ⟨_, p, s, l, _, _, _, _, _, _, rfl, _⟩ := h; rfl) fun cdv A outer s B0 Ew hr => ⟨_,
    (pss_cons (ps_set (i := 3) sc__law_polys.nd rfl (Or.inl rfl) (Cr.pe_tup (pa_cons pe_int pa_nil)))
      (pss_cons (ps_for PassesOwn.never rfl (k_piTup (K := K) rfl (pe_slice (k_sl (K := K) rfl) (pv 2) po_none (po_some pe_int))) (k_pgTup (K := K) (n := 2) rfl rfl (pgs_cons (pg_name (i := 4) sc__law_polys.nd rfl (Or.inl rfl)) (pgs_cons (pg_name (i := 5) sc__law_polys.nd rfl (Or.inl rfl)) pgs_nil))) (pss_one (ps_set (i := 3) sc__law_polys.nd rfl (Or.inl rfl) (pe_call G__law_by (hr.mono (by decide)) (by rfl) T.m__law_by T.F__law_by.kp T.b__law_by .nil pass0 (pa_cons (pv 3) (pa_cons (Cr.pe_tup (pa_cons (pe_op op_sub pe_int (pv 4)) (pa_cons pe_int pa_nil))) pa_nil))))))
      (pss_cons (ps_asg (pe_call G__law_shortest (hr.mono (by decide)) (by rfl) T.m__law_shortest T.F__law_shortest.kp T.b__law_shortest .nil pass0 (pa_cons (pe_slice (k_sl (K := K) rfl) (pv 1) po_none (po_some pe_int)) pa_nil)) (k_pgTup (K := K) (n := 2) rfl rfl (pgs_cons (pg_name (i := 6) sc__law_polys.nd rfl (Or.inr rfl)) (pgs_cons (pg_name (i := 7) sc__law_polys.nd rfl (Or.inr rfl)) pgs_nil))))
      (pss_cons (ps_set (i := 8) sc__law_polys.nd rfl (Or.inl rfl) (pe_call G__law_trim (hr.mono (by decide)) (by rfl) T.m__law_trim T.F__law_trim.kp T.b__law_trim .nil pass0 (pa_cons (pe_lc (own := [("i", 10)]) rfl sc__law_polys.nd (pi_range1 rfl T.z_range (pa_cons (pe_op (k_addU (K := K) rfl) (pv 6) pe_int) pa_nil)) (blkOk_by (own := [("i", 10)]) (N := N__law_polys) (sc := defScope s__law_polys) (by decide +kernel)) (fun _ _ _ _ _ => (pg_name (i := 10) sc__law_polys.nd rfl (Or.inl rfl))) (fun _ _ _ _ _ => pts_nil) (fun _ _ _ _ _ => (pe_ifExp (pt_cmpR op_lt (pe_op op_sub (pv 6) (pv 10)) (pe_callB (k_len (K := K) rfl) (by rfl) T.z_len (by decide +kernel) (pa_cons (pv 7) pa_nil)) (nomark _)) (pe_ix (k_ix (K := K) rfl) (pv 7) (pe_op op_sub (pv 6) (pv 10)) (fun _ _ => rfl)) pe_int))) pa_nil)))
      (pss_cons (ps_set (i := 9) sc__law_polys.nd rfl (Or.inl rfl) (pe_lst (pa_cons (pv 3) (pa_cons (pe_call G__law_by (hr.mono (by decide)) (by rfl) T.m__law_by T.F__law_by.kp T.b__law_by .nil pass0 (pa_cons (pv 3) (pa_cons (pe_call G__law_kept (hr.mono (by decide)) (by rfl) T.m__law_kept T.F__law_kept.kp T.b__law_kept .nil pass0 (pa_cons (pv 0) (pa_cons pe_int (pa_cons pe_int pa_nil)))) pa_nil))) (pa_cons (pe_call G__law_by (hr.mono (by decide)) (by rfl) T.m__law_by T.F__law_by.kp T.b__law_by .nil pass0 (pa_cons (pv 8) (pa_cons (pe_call G__law_kept (hr.mono (by decide)) (by rfl) T.m__law_kept T.F__law_kept.kp T.b__law_kept .nil pass0 (pa_cons (pv 0) (pa_cons pe_int (pa_cons pe_int pa_nil)))) pa_nil))) (pa_cons (pv 8) (pa_cons (pe_call G__law_poly (hr.mono (by decide)) (by rfl) T.m__law_poly T.F__law_poly.kp T.b__law_poly .nil pass0 (pa_cons (pv 0) (pa_cons pe_int (pa_cons pe_int pa_nil)))) (pa_cons (pe_slice (k_sl (K := K) rfl) (pv 3) (po_some pe_int) po_none) (pa_cons (Cr.pe_tup pa_nil) pa_nil)))))))))
      (pss_cons (ps_set (i := 9) sc__law_polys.nd rfl (Or.inl rfl) (pe_op (k_addU (K := K) rfl) (pv 9) (pe_lst (pa_cons (pe_op (k_addU (K := K) rfl) (pv 3) (Cr.pe_tup (pa_cons pe_int pa_nil))) (pa_cons (pe_call G__law_trim (hr.mono (by decide)) (by rfl) T.m__law_trim T.F__law_trim.kp T.b__law_trim .nil pass0 (pa_cons (pe_lc (own := [("part_here", 11)]) rfl sc__law_polys.nd (k_piTup (K := K) rfl (pv 3)) (blkOk_by (own := [("part_here", 11)]) (N := N__law_polys) (sc := defScope s__law_polys) (by decide +kernel)) (fun _ _ _ _ _ => (pg_name (i := 11) sc__law_polys.nd rfl (Or.inl rfl))) (fun _ _ _ _ _ => pts_nil) (fun _ _ _ _ _ => (pe_op (k_addU (K := K) rfl) (pv 11) pe_int))) pa_nil)) (pa_cons (Cr.pe_tup (pa_cons pe_int (pa_cons pe_int pa_nil))) (pa_cons (Cr.pe_tup (pa_cons pe_int pa_nil)) (pa_cons (pe_op (k_addU (K := K) rfl) (pe_op (k_repTA (K := K) rfl) (Cr.pe_tup (pa_cons pe_int pa_nil)) (pe_callB (k_len (K := K) rfl) (by rfl) T.z_len (by decide +kernel) (pa_cons (pv 1) pa_nil))) (Cr.pe_tup (pa_cons pe_int pa_nil))) pa_nil))))))))
      (pss_one (ps_ret (pe_op (k_addU (K := K) rfl) (pv 9) (pe_lst (pa_cons (pe_op (k_addU (K := K) rfl) (pe_op (k_repTA (K := K) rfl) (Cr.pe_tup (pa_cons pe_int pa_nil)) (pe_callB (call_maxQ rfl) (by rfl) T.z_max (by decide +kernel) (pa_cons pe_int (pa_cons (pe_op op_sub (pe_callB (k_len (K := K) rfl) (by rfl) T.z_len (by decide +kernel) (pa_cons (pv 1) pa_nil)) pe_int) pa_nil)))) (Cr.pe_tup (pa_cons pe_int pa_nil))) (pa_cons (pe_op (k_addU (K := K) rfl) (pe_op (k_repTA (K := K) rfl) (Cr.pe_tup (pa_cons pe_int pa_nil)) (pe_op (k_addU (K := K) rfl) (pe_callB (k_len (K := K) rfl) (by rfl) T.z_len (by decide +kernel) (pa_cons (pv 1) pa_nil)) pe_int)) (Cr.pe_tup (pa_cons pe_int pa_nil))) pa_nil)))))))))))), fun q sls n c Φ A0 σ Q hR hA fin => ?_⟩
  obtain ⟨rfl, p, s, l, rfl, hs1, hs2, hsb, hl, hK, rfl, rfl⟩ := hR
  refine q_asgE (i := 3) (d := pol [1]) (e_is (e_tup (ds := [.int 1]) (ae_cons e_int ae_nil)) rfl) hA fun σ1 Hk1 H1 g1 a1 => ?_
  refine q_for (n := n + 200) (c := 0) (ie_tup (e_is (e_slT (ds := pd l) (e_var rfl) to_none (to_some e_int)) (by rw [show (12 : Int) = ((12 : Nat) : Int) from rfl, cutD_to, List.take_of_length_le (by rw [pd_len]; omega)]))) a1 fun items HkW H2 e g2 a2 => ?_
  subst e
  refine ⟨fun i σ' Hk' H' => Same HkW Hk' ∧ i ≤ l.length ∧ ∃ f : List Int, (Pl f ∧ f ≠ [] ∧ CB (1 + 70 * i) f ∧ f.length ≤ 1 + i) ∧ At (some p) (n + 200) [.adr p, .dat (pol s), .dat (led l), .dat (pol f), .any, .any, .any, .any, .any, .any, .any, .any] A0 B0 σ' Hk' H', ⟨Same.refl _, Nat.zero_le _, [1], ⟨by simp [Pl], by simp, fun x hx => by rw [List.mem_singleton.mp hx]; decide, by simp⟩, a2⟩, fun i σ' Hk' H' h => ⟨h.1, by obtain ⟨_, _, f, _, st⟩ := h; exact st.ok.a⟩, ?_, ?_⟩
  · rintro i d σ' Hk' H' ed ⟨h2, _, f, ⟨hP, hne, hC, hfl⟩, st⟩ v Hk3 H3 g3 dv
    unfold pd at ed
    rw [List.getElem?_map] at ed
    obtain ⟨x, er, rfl⟩ := Option.map_eq_some_iff.mp ed
    have hi : i < l.length := (List.getElem?_eq_some_iff.mp er).1
    have hx := hK x (List.mem_of_getElem? er)
    refine gb_tup2 (d1 := .int x.1) (d2 := .int x.2) (vs := [4, 5]) (by simp) (by simp) σ' Hk3 H3 v (st.sg.mono g3.k) g3.a dv _ fun σ2 sg2 _ _ => ?_
    have st2 : At (some p) (n + 200) _ A0 B0 σ2 Hk3 H3 := ⟨st.ok.go g3, sg2, st.gr.trans g3.none_to⟩
    have hg : Pl [0 - x.1, 1] := by simp [Pl]
    have hgC : CB 53 [0 - x.1, 1] := fun a ha => by
      simp only [List.mem_cons, List.not_mem_nil, or_false] at ha
      rcases ha with e | e
      · rw [e, Int.zero_sub, Int.natAbs_neg]; exact lt_pow hx.1 (by omega)
      · rw [e]; decide
    refine s_asgE (i := 3) (d := pol (convP f [0 - x.1, 1])) (j_call (R := R__law_by) (c := 0) (ae_cons (e_var rfl) (ae_cons (e_is (e_tup (ds := [.int (0 - x.1), .int 1]) (ae_cons (e_subI e_int (e_var rfl)) (ae_cons e_int ae_nil))) (d1 := pol [0 - x.1, 1]) rfl) ae_nil)) fun sls e => ⟨rfl, f, [0 - x.1, 1], 9000, hP, hg, hC.mono (by omega), hgC.mono (by omega), by omega, by omega, by omega, by simp, e, rfl⟩) st2 fun σ4 Hk4 H4 g4 a4 => ⟨Hk4, (h2.trans g3.k).trans g4.k, by omega, convP f [0 - x.1, 1], ⟨convP_Pl hP hg, ?_, (convP_CB hC hgC ?_).mono (by omega), ?_⟩, (a4.forget 4).forget 5⟩
    · unfold convP
      rw [if_neg (fun h => h.elim hne (by simp))]
      intro e
      have z := conv_len f [0 - x.1, 1]
      rw [e] at z
      have := List.length_pos_iff.mpr hne
      simp only [List.length_cons, List.length_nil] at z
      omega
    · refine Nat.le_trans (Nat.mul_le_mul (show f.length ≤ 20 by omega) (show [0 - x.1, 1].length ≤ 2 by simp)) (by decide)
    · have z : (convP f [0 - x.1, 1]).length ≤ f.length + [0 - x.1, 1].length - 1 := by
        rw [← trim_conv hP hg]
        exact Nat.le_trans (trimL_len _) (by rw [conv_len]; exact Nat.le_refl _)
      simp only [List.length_cons, List.length_nil] at z
      omega
  · rintro σ' Hk' H' ⟨h2, _, f, ⟨hP, hne, hC, hfl⟩, st⟩
    rw [pd_len] at hC hfl
    have hC9 : CB 900 f := hC.mono (by omega)
    have hGf : GP f := ⟨hP, hC9.mono (by omega), by omega⟩
    refine s_seq (q_asgW2 (i := 6) (j := 7) (n := n + 200) (c := 0) (Ψ := fun a b => ∃ (size : Int) (now : List Int), (0 ≤ size ∧ size ≤ 6 ∧ now.length ≤ 8 ∧ CB 8200 now) ∧ a = .int size ∧ b = .list (now.map .int)) ((j_call (R := R__law_shortest) (c := 0) (c1 := 0) (ae_cons (e_takeI (n := 6) (e_var rfl) e_int rfl) ae_nil) fun sls e => ⟨rfl, s.take 6, by rw [List.length_take]; omega, hsb, e, rfl⟩).imp fun d ⟨size, now, h, e⟩ => ⟨_, _, ⟨size, now, h, rfl, rfl⟩, e⟩) st fun a b σ3 Hk3 H3 ⟨size, now, ⟨hz0, hz6, hnl, hnC⟩, ea, eb⟩ g3 a3 => ?_)
    subst ea; subst eb
    obtain ⟨z, ez⟩ : ∃ z : Nat, size = (z : Int) := ⟨size.toNat, by omega⟩
    subst ez
    obtain ⟨r, er⟩ : ∃ r : List Int, r = (List.range (z + 1)).map fun k => now.getD (z - k) 0 := ⟨_, rfl⟩
    have hrl : r.length = z + 1 := by rw [er, List.length_map, List.length_range]
    have hrC : CB 8200 r := fun a ha => by
      rw [er] at ha
      obtain ⟨k, _, rfl⟩ := List.mem_map.mp ha
      by_cases hk : z - k < now.length
      · exact hnC _ (Cr.getD_mem hk)
      · rw [List.getD_eq_getElem?_getD, List.getElem?_eq_none (by omega)]; exact Nat.pow_pos (by decide)
    refine q_asgE (i := 8) (d := pol (trimL r)) (j_call (R := R__law_trim) (c := 0) (ae_cons (e_is (e_lcR (i := 10) (m := z + 1) (e_addI (e_var rfl) e_int) (by omega) (by omega) (fun k => .int (now.getD (z - k) 0)) fun k hk => e_if (b := decide ((z : Int) - (0 + (k : Int)) < (now.length : Int))) (tb_test (e_ltI (e_subI (e_var rfl) (e_var rfl)) (e_is (e_lenL (e_var rfl)) (d1 := .int ((now.length : Nat) : Int)) (by rw [List.length_map])))) (fun hb => e_iL (ds := now.map .int) (i := ((z - k : Nat) : Int)) (e_var rfl) (e_is (e_subI (e_var rfl) (e_var rfl)) (by congr 1; omega)) (at_ints0 (by have := of_decide_eq_true hb; omega))) (fun hb => e_is e_int (by have := of_decide_eq_false hb; rw [List.getD_eq_getElem?_getD, List.getElem?_eq_none (by omega)]; rfl))) (d1 := .list (r.map .int)) (by rw [er, List.map_map]; rfl)) ae_nil) fun sls e => ⟨rfl, r, by omega, e, rfl⟩) a3 fun σ4 Hk4 H4 g4 a4 => ?_
    obtain ⟨G, eG⟩ : ∃ G, G = trimL r := ⟨_, rfl⟩
    rw [← eG] at a4
    have hGP : Pl G := by rw [eG]; exact trimL_Pl r
    have hGC : CB 8200 G := fun a ha => hrC a (by rw [eG] at ha; exact trimL_mem ha)
    have hGl : G.length ≤ 8 := by have := trimL_len r; rw [eG]; omega
    have jby : ∀ {δ : List Sl} {i : Nat} {F : List Int} {dg sz : Int} {E0 E1 : XK}, δ[0]? = some (.adr p) → δ[i]? = some (.dat (pol F)) → Pl F → CB 8200 F → F.length ≤ 20 → 1 ≤ dg → dg ≤ 24 → 1 ≤ sz → sz < 2 ^ 60 → J (some p) δ (tCall (spX R__law_by) [] E0 (tCons (tVar i) (tCons (tCall (spX R__law_kept) [] E1 (tCons (tVar 0) (tCons (tC (.int dg)) (tCons (tC (.int sz)) tNil)))) tNil))) 42 (fun d => ∃ f, GP f ∧ d = pol f) := fun {δ i F dg sz E0 E1} h0 hi hFP hFC hFl hd1 hd2 hz1 hz2 =>
      (j_callD (R := R__law_by) (c := 0) (c1 := 42) (Φa := fun sls => ∃ x, (Pl x ∧ x ≠ [] ∧ CB 130 x ∧ x.length ≤ 26) ∧ sls = [.dat (pol F), .dat (pol x)]) (aj_cons (c1 := 0) (c2 := 42) (Φ1 := fun d => d = pol F) (Φr := fun sls => ∃ x, (Pl x ∧ x ≠ [] ∧ CB 130 x ∧ x.length ≤ 26) ∧ sls = [.dat (pol x)]) (e_var hi) (aj_cons (c1 := 42) (c2 := 0) (Φ1 := fun d => ∃ x, (Pl x ∧ x ≠ [] ∧ CB 130 x ∧ x.length ≤ 26) ∧ d = pol x) (j_call (R := R__law_kept) (c := 42) (c1 := 0) (ae_adr h0 (ae_cons e_int (ae_cons e_int ae_nil))) fun sls e => ⟨rfl, p, dg, sz, rfl, hd1, hd2, hz1, hz2, e, rfl⟩) ae_nil fun d sls ⟨x, hx, e⟩ e2 => ⟨x, hx, by rw [e, e2]⟩) fun d sls e ⟨x, hx, e2⟩ => ⟨x, hx, by rw [e, e2]⟩) fun sls ⟨x, hx, e⟩ => ⟨_, ⟨rfl, F, x, 9000, hFP, hx.1, hFC.mono (by omega), hx.2.2.1.mono (by omega), by omega, by omega, by omega, by have := hx.2.2.2; omega, e, rfl⟩, fun d ed => ⟨convP F x, ⟨convP_Pl hFP hx.1, (convP_CB hFC hx.2.2.1 (Nat.le_trans (Nat.mul_le_mul hFl hx.2.2.2) (by decide))).mono (by omega), by
        have z : (convP F x).length ≤ F.length + x.length - 1 := by
          rw [← trim_conv hFP hx.1]
          exact Nat.le_trans (trimL_len _) (by rw [conv_len]; exact Nat.le_refl _)
        have := hx.2.2.2
        omega⟩, ed⟩⟩)
    refine q_asg (i := 9) (n := n) (c := 124) (Φ := fun d => ∃ fs : List (List Int), ((∀ f ∈ fs, GP f) ∧ fs.length = 7) ∧ d = .list (fs.map pol)) ((jp_lst (m := 7) (ajp_cons (c1 := 0) (c2 := 124) (E.gp (f := f) (e_var rfl) hGf) (ajp_cons (c1 := 42) (c2 := 82) (jby (i := 3) rfl rfl hP (hC9.mono (by omega)) (by omega) (by omega) (by omega) (by omega) (by omega)) (ajp_cons (c1 := 42) (c2 := 40) (jby (i := 8) rfl rfl hGP hGC (by omega) (by omega) (by omega) (by omega) (by omega)) (ajp_cons (c1 := 0) (c2 := 40) (E.gp (f := G) (e_var rfl) ⟨hGP, hGC.mono (by omega), by omega⟩) (ajp_cons (c1 := 40) (c2 := 0) ((j_call (R := R__law_poly) (c := 40) (c1 := 0) (ae_adr rfl (ae_cons e_int (ae_cons e_int ae_nil))) fun sls e => ⟨rfl, p, 24, 2, rfl, by omega, by omega, by omega, by omega, e, rfl⟩).imp fun d ⟨f, h1, h2, h3, e⟩ => ⟨f, ⟨h1, h2.mono (by omega), by omega⟩, e⟩) (ajp_cons (c1 := 0) (c2 := 0) (E.gp (f := f.drop 1) (e_dropI (n := 1) (e_var rfl) e_int rfl) ⟨Pl_tail hP, fun a ha => lt_pow (hC9 a (List.mem_of_mem_drop ha)) (by omega), by rw [List.length_drop]; omega⟩) (ajp_cons (c1 := 0) (c2 := 0) (E.gp (f := []) (e_is (e_tup (ds := []) ae_nil) rfl) ⟨Pl_nil, (by intro a ha; cases ha), by simp⟩) ajp_nil))))))) (by omega)).cost (by omega)) (a4.mono (by omega)) fun d σ5 Hk5 H5 ⟨fs, ⟨hfs, hfl7⟩, ed⟩ g5 a5 => ?_
    subst ed
    obtain ⟨f1, ef1⟩ : ∃ f1, f1 = f.map (· + 1) := ⟨_, rfl⟩
    have hf1l : f1.length = f.length := by rw [ef1, List.length_map]
    have hf1C : CB 901 f1 := fun a ha => by
      rw [ef1] at ha
      obtain ⟨x, hx, rfl⟩ := List.mem_map.mp ha
      exact add_bits (B := 900) (hC9 x hx) (lt_pow (a := 1) (by decide) (by omega))
    obtain ⟨F2, eF2⟩ : ∃ F2 : List (List Int), F2 = [f ++ [1], trimL f1, [0, 1], [1], List.replicate s.length 0 ++ [3]] := ⟨_, rfl⟩
    have repE : ∀ {δ : List Sl} {te tn : TE} {k : Nat} {a : Int}, E (some p) δ te (.int (k : Int)) → k ≤ 100 → E (some p) δ (tOp (rAddU K) (tOp (rRepTA K) (Cr.tTup (tCons (tC (.int 0)) tNil)) te) (Cr.tTup (tCons (tC (.int a)) tNil))) (pol (List.replicate k 0 ++ [a])) := fun {δ te tn k a} h hk => e_is (e_catT (ds := (List.replicate ((k : Int)).toNat [PyData.int 0]).flatten) (es := [.int a]) (e_repTA (ds := [.int 0]) (e_tup (ds := [.int 0]) (ae_cons e_int ae_nil)) h (by simp) (by omega) (by omega) (by simp)) (e_tup (ds := [.int a]) (ae_cons e_int ae_nil)) (by simp; omega)) (by rw [Int.toNat_natCast, rep_pol]; rfl)
    have hF2 : ∀ x ∈ F2, GP x := fun x hx => by
      rw [eF2] at hx
      simp only [List.mem_cons, List.not_mem_nil, or_false] at hx
      rcases hx with e | e | e | e | e <;> subst e
      · exact ⟨Pl_one f, fun a ha => by
          rcases List.mem_append.mp ha with h | h
          · exact lt_pow (hC9 a h) (by omega)
          · rw [List.mem_singleton.mp h]; exact lt_pow (a := 1) (by decide) (by omega), by simp; omega⟩
      · exact ⟨trimL_Pl f1, fun a ha => lt_pow (hf1C a (trimL_mem ha)) (by omega), by have := trimL_len f1; omega⟩
      · exact ⟨by simp [Pl], fun a ha => by simp at ha; rcases ha with e | e <;> subst e <;> exact lt_pow (a := 1) (by decide) (by omega), by simp⟩
      · exact ⟨by simp [Pl], fun a ha => by simp at ha; subst ha; exact lt_pow (a := 1) (by decide) (by omega), by simp⟩
      · exact ⟨Pl_end _ (by decide), fun a ha => by
          rcases List.mem_append.mp ha with h | h
          · rw [(List.mem_replicate.mp h).2]; exact Nat.pow_pos (by decide)
          · rw [List.mem_singleton.mp h]; exact lt_pow (a := 2) (by decide) (by omega), by simp; omega⟩
    have lenS : ∀ {δ : List Sl}, δ[1]? = some (.dat (pol s)) → E (some p) δ (tCB (rLenQ K) (tCons (tVar 1) tNil)) (.int ((s.length : Nat) : Int)) := fun h => e_is (e_lenT (e_var h)) (by rw [pol_len])
    refine q_asgE (i := 9) (d := .list ((fs ++ F2).map pol)) (e_is (e_catL (ds := fs.map pol) (es := F2.map pol) (e_var rfl) (e_is (e_lst (ds := [pol (f ++ [1]), pol (trimL f1), pol [0, 1], pol [1], pol (List.replicate s.length 0 ++ [3])]) (ae_cons (e_is (e_catT (ds := f.map .int) (es := [.int 1]) (e_var rfl) (e_tup (ds := [.int 1]) (ae_cons e_int ae_nil)) (by simp; omega)) (d1 := pol (f ++ [1])) (by unfold pol; rw [List.map_append]; rfl)) (ae_cons (j_call (R := R__law_trim) (c := 0) (Φ := fun d => d = pol (trimL f1)) (ae_cons (e_is (e_lc1 (vs := [11]) (emb := PyData.int) (xs := f) (ie_tup (e_var rfl)) (fun x => .int (x + 1)) (by omega) fun x hx => ⟨_, gb_name (by simp), e_addI (e_var rfl) e_int⟩) (d1 := .list (f1.map .int)) (by rw [ef1, List.map_map]; rfl)) ae_nil) fun sls e => ⟨rfl, f1, by omega, e, rfl⟩) (ae_cons (e_is (e_tup (ds := [.int 0, .int 1]) (ae_cons e_int (ae_cons e_int ae_nil))) (d1 := pol [0, 1]) rfl) (ae_cons (e_is (e_tup (ds := [.int 1]) (ae_cons e_int ae_nil)) (d1 := pol [1]) rfl) (ae_cons (repE (tn := tC .non) (lenS rfl) (by omega)) ae_nil)))))) (by rw [eF2]; rfl)) (by rw [List.length_map, List.length_map, eF2]; simp; omega)) (by rw [List.map_append])) a5 fun σ6 Hk6 H6 g6 a6 => ?_
    obtain ⟨F3, eF3⟩ : ∃ F3 : List (List Int), F3 = [List.replicate (s.length - 1) 0 ++ [1], List.replicate (s.length + 1) 0 ++ [1]] := ⟨_, rfl⟩
    have hF3 : ∀ x ∈ F3, GP x := fun x hx => by
      rw [eF3] at hx
      simp only [List.mem_cons, List.not_mem_nil, or_false] at hx
      rcases hx with e | e <;> subst e <;> exact ⟨Pl_end _ (by decide), fun a ha => by
          rcases List.mem_append.mp ha with h | h
          · rw [(List.mem_replicate.mp h).2]; exact Nat.pow_pos (by decide)
          · rw [List.mem_singleton.mp h]; exact lt_pow (a := 1) (by decide) (by omega), by simp; omega⟩
    refine s_retE (d := .list ((fs ++ F2 ++ F3).map pol)) (e_is (e_catL (ds := (fs ++ F2).map pol) (es := F3.map pol) (e_var rfl) (e_is (e_lst (ds := [pol (List.replicate (s.length - 1) 0 ++ [1]), pol (List.replicate (s.length + 1) 0 ++ [1])]) (ae_cons (repE (tn := tC .non) (e_is (e_max e_int (e_subI (lenS rfl) e_int)) (by split <;> congr 1 <;> omega)) (by omega)) (ae_cons (repE (tn := tC .non) (e_is (e_addI (lenS rfl) e_int) (by congr 1)) (by omega)) ae_nil))) (by rw [eF3]; rfl)) (by rw [List.length_map, List.length_map, List.length_append, eF2, eF3]; simp; omega)) (by rw [← List.map_append])) a6 (by omega) fin ⟨fs ++ F2 ++ F3, ⟨fun x hx => ?_, ?_⟩, rfl⟩
    · rcases List.mem_append.mp hx with h | h
      · rcases List.mem_append.mp h with h | h
        · exact hfs x h
        · exact hF2 x h
      · exact hF3 x h
    · rw [List.length_append, List.length_append, hfl7, eF2, eF3]; simp
/-! ### law -/

def SP (f : List Int) : Prop := 1 ≤ f.length ∧ f.length ≤ 24 ∧ CB 9000 f ∧ CB 500 (f.take 6)
theorem ok_law (T : Tx K mg) : FnOk P w K mg base CX0 8 T.a_law T.fd_law P_law (spLaw K) := by
  have G__law_jar := ok__law_jar (P := P) (w := w) (base := base) T
  have G__law_ledger := ok__law_ledger (P := P) (w := w) (base := base) T
  have G__law_pick := ok__law_pick (P := P) (w := w) (base := base) T
  have G__law_polys := ok__law_polys (P := P) (w := w) (base := base) T
  have G__law_right := ok__law_right (P := P) (w := w) (base := base) T
  have G__law_some_sums := ok__law_some_sums (P := P) (w := w) (base := base) T
  have G__law_sums := ok__law_sums (P := P) (w := w) (base := base) T
  have G_is_rule := ok_is_rule (P := P) (w := w) (base := base) T
  refine T.F_law.ok sc_law (fun vs H Q Ew h => by obtain ⟨a, ns, rfl, _⟩ := h; rfl) (fun cdv A outer s H vs Q Ew hr h => ?_)
  obtain ⟨a, ns, rfl, hS, hlen, k⟩ := h
  refine ⟨_, (pss_cons (ps_for PassesOwn.never rfl (pi_range1 rfl T.z_range (pa_cons (pe_callB (call_maxQ rfl) (by rfl) T.z_max (by decide +kernel) (pa_cons pe_int (pa_cons (pe_callB (call_minQ rfl) (by rfl) T.z_min (by decide +kernel) (pa_cons pe_int (pa_cons (pe_callB (k_len (K := K) rfl) (by rfl) T.z_len (by decide +kernel) (pa_cons (pv 0) pa_nil)) pa_nil))) pa_nil))) pa_nil)) (pg_name (i := 1) sc_law.nd rfl (Or.inl rfl)) (pss_cons (ps_set (i := 2) sc_law.nd rfl (Or.inl rfl) (pe_call G__law_jar (hr.mono (by decide)) (by rfl) T.m__law_jar T.F__law_jar.kp T.b__law_jar .nil pass0 (pa_cons (pv 0) (pa_cons (pv 1) pa_nil))))
      (pss_cons (ps_set (i := 3) sc_law.nd rfl (Or.inl rfl) (pe_call G__law_ledger (hr.mono (by decide)) (by rfl) T.m__law_ledger T.F__law_ledger.kp T.b__law_ledger .nil pass0 (pa_cons (pv 2) (pa_cons pe_int pa_nil))))
      (pss_one (ps_for PassesOwn.never rfl (k_piTup (K := K) rfl (Cr.pe_tup (pa_cons (pe_call G__law_some_sums (hr.mono (by decide)) (by rfl) T.m__law_some_sums T.F__law_some_sums.kp T.b__law_some_sums .nil pass0 (pa_cons (pv 2) pa_nil)) (pa_cons (pe_call G__law_some_sums (hr.mono (by decide)) (by rfl) T.m__law_some_sums T.F__law_some_sums.kp T.b__law_some_sums .nil pass0 (pa_cons (pv 2) pa_nil)) (pa_cons (pe_call G__law_sums (hr.mono (by decide)) (by rfl) T.m__law_sums T.F__law_sums.kp T.b__law_sums .nil pass0 (pa_cons (pv 3) (pa_cons (pe_op (k_addU (K := K) rfl) pe_int (pe_call G__law_pick (hr.mono (by decide)) (by rfl) T.m__law_pick T.F__law_pick.kp T.b__law_pick .nil pass0 (pa_cons (pv 2) (pa_cons pe_int pa_nil)))) pa_nil))) pa_nil))))) (pg_name (i := 4) sc_law.nd rfl (Or.inl rfl)) (pss_one (ps_for PassesOwn.never rfl (k_piList (K := K) rfl (pe_call G__law_polys (hr.mono (by decide)) (by rfl) T.m__law_polys T.F__law_polys.kp T.b__law_polys .nil pass0 (pa_cons (pv 2) (pa_cons (pe_slice (k_sl (K := K) rfl) (pv 4) po_none (po_some pe_int)) (pa_cons (pv 3) pa_nil))))) (pg_name (i := 5) sc_law.nd rfl (Or.inl rfl)) (pss_one (ps_if (PW.pt (pw_and (pt_cmpR op_lt (pe_callB (k_len (K := K) rfl) (by rfl) T.z_len (by decide +kernel) (pa_cons (pv 5) pa_nil)) pe_int (nomark _)) (pw_and1 (pt_not (pt_val (pe_call G__law_right (hr.mono (by decide)) (by rfl) T.m__law_right T.F__law_right.kp T.b__law_right .nil pass0 (pa_cons (pe_slice (k_sl (K := K) rfl) (pv 4) po_none (po_some pe_int)) (pa_cons (pv 5) pa_nil)))))))) (pss_one (ps_ret pe_bl)) pss_nil)))))))))
      (pss_one (ps_ret (pe_and (pe_cmpR op_isNQ (pe_call G_is_rule (hr.mono (by decide)) (by rfl) T.m_is_rule T.F_is_rule.kp T.b_is_rule .nil pass0 (pa_cons (Cr.pe_tup (pa_cons pe_int (pa_cons pe_int pa_nil))) (pa_cons (Cr.pe_tup (pa_cons pe_int pa_nil)) pa_nil))) pe_bl (nomark _)) (pe_and (pe_cmpR op_isNQ (pe_call G_is_rule (hr.mono (by decide)) (by rfl) T.m_is_rule T.F_is_rule.kp T.b_is_rule .nil pass0 (pa_cons (Cr.pe_tup (pa_cons pe_int (pa_cons pe_int pa_nil))) (pa_cons (Cr.pe_tup (pa_cons pe_int pa_nil)) pa_nil))) pe_bl (nomark _)) (pe_one (pe_cmpR op_isNQ (pe_call G_is_rule (hr.mono (by decide)) (by rfl) T.m_is_rule T.F_is_rule.kp T.b_is_rule .nil pass0 (pa_cons (Cr.pe_tup (pa_cons pe_int pa_nil)) (pa_cons (Cr.pe_tup (pa_cons pe_int (pa_cons pe_int pa_nil))) pa_nil))) pe_bl (nomark _)))))))), ?_⟩
  have hA : At none 0 [.scr K ns, .any, .any, .any, .any, .any] H H (L2.start N_law [.ref a]) H H := ⟨⟨Same.refl _, fun p e => (by cases e), fun p e => (by cases e)⟩, start_sg (N := N_law) (VS.cons (s := .scr K ns) ⟨a, rfl, hS⟩ VS.nil) (by show 1 ≤ 6; decide), Gr.refl (Same.refl _)⟩
  refine q_for (n := 0) (c := 0) (e_ats rfl (by omega) (by omega)) hA fun items HkW H1 ⟨m, hm, ei⟩ g1 a1 => ?_
  subst ei
  refine ⟨fun i σ' Hk' H' => Same HkW Hk' ∧ At none 0 [.scr K ns, .any, .any, .any, .any, .any] Hk' H' σ' Hk' H', ⟨Same.refl _, a1.reset⟩, fun i σ' Hk' H' h => ⟨h.1, h.2.ok.a⟩, ?_, ?_⟩
  · rintro i d σ' Hk' H' ed ⟨h2, st⟩ v Hk2 H3 g3 dv
    obtain ⟨hi, rfl⟩ := rng_get' ed
    refine gb_name (vs := [1]) (by simp) σ' Hk2 H3 v (st.sg.mono g3.k) g3.a dv _ fun σ2 sg2 _ _ => ?_
    have st2 : At none 0 [.scr K ns, .dat (.int (0 + (i : Int))), .any, .any, .any, .any] Hk2 H3 σ2 Hk2 H3 := ⟨st.ok.go g3, sg2, Gr.refl g3.a⟩
    refine q_mkJar st2 rfl rfl (by omega) (by omega) fun p σ3 H4 sm st3 => ?_
    refine q_asg (i := 3) (n := 100000) (c := 300) (Φ := fun d => ∃ l, Led l ∧ (l.length : Int) ≤ 6 ∧ Kb 52 60 l ∧ d = led l) (j_ledger rfl e_int (by omega) (by omega)) (st3.mono (by omega)) fun d σ4 Hk4 H5 ⟨l, hL, hl, hK, ed⟩ g4 a4 => ?_
    subst ed
    have jS : ∀ {E0 : XK}, J (some p) [.scr K ns, .dat (.int (0 + (i : Int))), .adr p, .dat (led l), .any, .any] (tCall (spX R__law_some_sums) [] E0 (tCons (tVar 2) tNil)) 1000 (fun d => ∃ f, SP f ∧ d = pol f) := fun {E0} => (j_call (R := R__law_some_sums) (c := 1000) (c1 := 0) (ae_adr rfl ae_nil) fun sls e => ⟨rfl, p, rfl, e, rfl⟩).imp fun d ⟨f, hf, e⟩ => ⟨f, hf, e⟩
    refine s_for (n := 1000) (c := 2001) (Ψ := fun items => ∃ ss : List (List Int), ((∀ f ∈ ss, SP f) ∧ ss.length = 3) ∧ items = ss.map pol) (ij_tup ((j_tup (c := 2001) (Ψ := fun ds => ∃ ss : List (List Int), ((∀ f ∈ ss, SP f) ∧ ss.length = 3) ∧ ds = ss.map pol) ?_).imp fun d ⟨ds, h, e⟩ => ⟨ds, h, e⟩)) (a4.mono (by omega)) fun items HkR H6 ⟨ss, ⟨hss, hs3⟩, ei⟩ g6 a6 => ?_
    · refine (aj_cons (c1 := 1000) (c2 := 1001) (Φ' := fun sls => ∃ f1 f2 f3, SP f1 ∧ SP f2 ∧ SP f3 ∧ sls = [.dat (pol f1), .dat (pol f2), .dat (pol f3)]) (Φr := fun sls => ∃ f2 f3, SP f2 ∧ SP f3 ∧ sls = [.dat (pol f2), .dat (pol f3)]) jS (aj_cons (c1 := 1000) (c2 := 1) (Φ' := fun sls => ∃ f2 f3, SP f2 ∧ SP f3 ∧ sls = [.dat (pol f2), .dat (pol f3)]) (Φr := fun sls => ∃ f3, SP f3 ∧ sls = [.dat (pol f3)]) jS (aj_cons (c1 := 1) (c2 := 0) (Φ1 := fun d => ∃ f, SP f ∧ d = pol f) (Φ' := fun sls => ∃ f3, SP f3 ∧ sls = [.dat (pol f3)]) ((j_callD (R := R__law_sums) (c := 0) (c1 := 1) (Φa := fun sls => ∃ m : Int, (1 ≤ m ∧ m ≤ 24) ∧ sls = [.dat (led l), .dat (.int m)]) (aj_cons (c1 := 0) (c2 := 1) (Φ1 := fun d => d = led l) (Φr := fun sls => ∃ m : Int, (1 ≤ m ∧ m ≤ 24) ∧ sls = [.dat (.int m)]) (e_var rfl) (aj_int (c1 := 1) (c2 := 0) (P := fun m => 1 ≤ m ∧ m ≤ 24) (Φr := fun sls => sls = []) ((j_addI (c1 := 0) (c2 := 1) e_int.intP (j_pick rfl e_int (by omega) (by omega)) fun i j hi hj => ⟨i + j, by omega, rfl⟩).cost (by omega)) ae_nil fun i sls hi e => ⟨i, hi, by rw [e]⟩) fun d sls e ⟨m, hm, e2⟩ => ⟨m, hm, by rw [e, e2]⟩) fun sls ⟨m, hm, e⟩ => ⟨_, ⟨rfl, l, m, 52, 60, hK, by omega, by omega, by omega, by omega, by omega, by omega, by omega, e, rfl⟩, fun d ed => ⟨psums l m.toNat, ⟨by rw [psums_len]; omega, by rw [psums_len]; omega, (psums_CB (N := 4) hK (by omega)).mono (by omega), (psums_CBt (N := 4) hK (by omega)).mono (by omega)⟩, ed⟩⟩).cost (by omega)) ae_nil fun d sls ⟨f, hf, e⟩ e2 => ⟨f, hf, by rw [e, e2]⟩) fun d sls ⟨f, hf, e⟩ ⟨f3, h3, e2⟩ => ⟨f, f3, hf, h3, by rw [e, e2]⟩) fun d sls ⟨f, hf, e⟩ ⟨f2, f3, h2, h3, e2⟩ => ⟨f, f2, f3, hf, h2, h3, by rw [e, e2]⟩).imp fun sls ⟨f1, f2, f3, h1, h2, h3, e⟩ => ⟨[pol f1, pol f2, pol f3], e, by simp, [f1, f2, f3], ⟨fun x hx => ?_, rfl⟩, rfl⟩
      simp only [List.mem_cons, List.not_mem_nil, or_false] at hx
      rcases hx with e | e | e <;> subst e <;> assumption
    subst ei
    refine ⟨fun j σ'' Hk'' H'' => Same HkR Hk'' ∧ ∃ fu : Nat, fu + 200 * j = 1000 ∧ At (some p) fu [.scr K ns, .any, .adr p, .dat (led l), .any, .any] Hk2 H4 σ'' Hk'' H'', ⟨Same.refl _, 1000, by omega, a6.forget 1⟩, fun j σ'' Hk'' H'' h => ⟨h.1, by obtain ⟨_, fu, _, st⟩ := h; exact st.ok.a⟩, ?_, ?_⟩
    · rintro j d σ'' Hk'' H'' ed ⟨h7, fu, hfu, st7⟩ w Hk7 H7 g7 dw
      rw [List.getElem?_map] at ed
      obtain ⟨x, er, rfl⟩ := Option.map_eq_some_iff.mp ed
      have hj : j < 3 := by have := (List.getElem?_eq_some_iff.mp er).1; omega
      obtain ⟨hx1, hx2, hx3, hx4⟩ := hss x (List.mem_of_getElem? er)
      refine gb_name (vs := [4]) (by simp) σ'' Hk7 H7 w (st7.sg.mono g7.k) g7.a dw _ fun σ8 sg8 _ _ => ?_
      obtain ⟨F, hF⟩ : ∃ F, fu = F + 200 := ⟨fu - 200, by omega⟩
      have st8 : At (some p) (F + 200) [.scr K ns, .any, .adr p, .dat (led l), .dat (pol x), .any] Hk2 H4 σ8 Hk7 H7 := by rw [← hF]; exact ⟨st7.ok.go g7, sg8, st7.gr.trans g7.none_to⟩
      have e24 : ∀ {δ : List Sl}, δ[4]? = some (.dat (pol x)) → E (some p) δ (tSl (rSlU K) (tVar 4) tNoPart (tPart (tC (.int 24)))) (pol x) := fun h => e_is (e_takeI (n := 24) (e_var h) e_int rfl) (by rw [List.take_of_length_le hx2])
      refine s_for (n := F) (c := 200) (Ψ := fun items => ∃ fs : List (List Int), (∀ f ∈ fs, GP f) ∧ items = fs.map pol) (ij_lst ((j_call (R := R__law_polys) (c := 200) (c1 := 0) (ae_adr rfl (ae_cons (e24 rfl) (ae_cons (e_var rfl) ae_nil))) fun sls e => ⟨rfl, p, x, l, rfl, hx1, hx2, hx4, by omega, hK, e, rfl⟩).imp fun d ⟨fs, h, e⟩ => ⟨_, ⟨fs, h.1, rfl⟩, e⟩)) st8 fun items HkV H9 ⟨fs, hfs, ei⟩ g9 a9 => ?_
      subst ei
      refine ⟨fun t σ''' Hk''' H''' => Same HkV Hk''' ∧ At (some p) F [.scr K ns, .any, .adr p, .dat (led l), .dat (pol x), .any] Hk2 H4 σ''' Hk''' H''', ⟨Same.refl _, a9⟩, fun t σ''' Hk''' H''' h => ⟨h.1, h.2.ok.a⟩, ?_, ?_⟩
      · rintro t d σ''' Hk''' H''' ed ⟨h10, st10⟩ w Hk10 H10 g10 dw
        rw [List.getElem?_map] at ed
        obtain ⟨f, er, rfl⟩ := Option.map_eq_some_iff.mp ed
        obtain ⟨hf1, hf2, hf3⟩ := hfs f (List.mem_of_getElem? er)
        refine gb_name (vs := [5]) (by simp) σ''' Hk10 H10 w (st10.sg.mono g10.k) g10.a dw _ fun σ11 sg11 _ _ => ?_
        have st11 : At (some p) F [.scr K ns, .any, .adr p, .dat (led l), .dat (pol x), .dat (pol f)] Hk2 H4 σ11 Hk10 H10 := ⟨st10.ok.go g10, sg11, st10.gr.trans g10.none_to⟩
        refine s_ifNo (tb_is (tb_and (a := decide ((f.length : Int) < 26)) (b := false) (tb_test (e_ltI (e_is (e_lenT (e_var rfl)) (d1 := .int ((f.length : Nat) : Int)) (by rw [pol_len])) e_int)) fun _ => tb_is (tb_not (tb_B (j_call (R := R__law_right) (c := 0) (Φ := fun d => d = .bool true) (ae_cons (e24 rfl) (ae_cons (e_var rfl) ae_nil)) fun sls e => ⟨rfl, x, f, List.length_pos_iff.mp (by omega), hf1, hx3, hf2, by omega, by omega, e, rfl⟩))) rfl) (by simp)) st11 fun Hk12 H12 g12 a12 => ⟨Hk12, (h10.trans g10.k).trans g12.k, a12.forget 5⟩
      · rintro σ''' Hk''' H''' ⟨h10, st10⟩
        exact ⟨Hk''', ((h7.trans g7.k).trans g9.k).trans h10, F, by omega, st10.forget 4⟩
    · rintro σ'' Hk'' H'' ⟨h7, fu, hfu, st7⟩
      exact ⟨Hk'', (((h2.trans g3.k).trans g4.k).trans g6.k).trans h7, (((st7.mono (Nat.zero_le _)).reset.forget 2).forget 3)⟩
  · rintro σ' Hk' H' ⟨h2, st⟩
    have c0 : ∀ {B : Nat} (f : List Int), (∀ a ∈ f, 0 ≤ a ∧ a < 2) → 1 ≤ B → CB B f := fun f h hB a ha => by
      have := h a ha
      exact lt_pow (a := 1) (by omega) hB
    have rl : ∀ (s f : List Int) {ts tf : TE} {E0 : XK} {b : Bool}, s ≠ [] → Pl f → (∀ a ∈ s, 0 ≤ a ∧ a < 2) → (∀ a ∈ f, 0 ≤ a ∧ a < 2) → s.length ≤ 4 → f.length ≤ 4 → E none [.scr K ns, .any, .any, .any, .any, .any] ts (pol s) → E none [.scr K ns, .any, .any, .any, .any, .any] tf (pol f) → dueB s f = b → E none [.scr K ns, .any, .any, .any, .any, .any] (tCall (spX R_is_rule) [] E0 (tCons ts (tCons tf tNil))) (.bool b) := fun s f {ts tf E0 b} h1 h2 h3 h4 h5 h6 hs hf hb => j_call (R := R_is_rule) (c := 0) (ae_cons hs (ae_cons hf ae_nil)) fun sls e => ⟨rfl, s, f, h1, h2, c0 s h3 (by omega), c0 f h4 (by omega), by omega, by omega, e, by rw [hb]⟩
    refine s_retE (d := .bool true) (n := 0) (Φ1 := fun d => d = .bool true) ?_ st (Nat.le_refl _) (fun d v Hk2 H2 g o ed dv => ?_) rfl
    · refine e_is (e_andV (a := true) (b := true) (e_is (e_isB (rl [0, 0] [1] (b := true) (by simp) (by simp [Pl]) (by simp) (by simp) (by simp) (by simp) (e_is (e_tup (ds := [.int 0, .int 0]) (ae_cons e_int (ae_cons e_int ae_nil))) rfl) (e_is (e_tup (ds := [.int 1]) (ae_cons e_int ae_nil)) rfl) (by decide +kernel))) rfl) fun _ => e_is (e_andV (a := true) (b := true) (e_is (e_isB (rl [0, 1] [1] (b := false) (by simp) (by simp [Pl]) (by simp) (by simp) (by simp) (by simp) (e_is (e_tup (ds := [.int 0, .int 1]) (ae_cons e_int (ae_cons e_int ae_nil))) rfl) (e_is (e_tup (ds := [.int 1]) (ae_cons e_int ae_nil)) rfl) (by decide +kernel))) rfl) fun _ => e_is (e_isB (rl [1] [0, 1] (b := true) (by simp) (by simp [Pl]) (by simp) (by simp) (by simp) (by simp) (e_is (e_tup (ds := [.int 1]) (ae_cons e_int ae_nil)) rfl) (e_is (e_tup (ds := [.int 0, .int 1]) (ae_cons e_int (ae_cons e_int ae_nil))) rfl) (by decide +kernel))) rfl) rfl) rfl
    · subst ed
      have ev := dv.blOf
      subst ev
      exact k H2
end
/-! ### what the top has left -/
theorem all_mk {l : PySem.W.OpenLaw} {w : World} {K : PySem.W.Frag} {h : Heap} {mg : Str → Option Value} {fa : Addr} (X : K.In h) (G : h.Ns mainGlobals mg) (hfa : mg "law" = some (.ref fa))
    {f0 : Addr} {od0 an0 : Option Addr} {sl0 : Array (Option Value)} {oc0 kV0 dc0 pm0 cd0 ct0 : Value}
    (a0 : PySem.W.nsIn K mainGlobals "is_an_integer" = some (some (.ref f0))) (l0 : K.lookup f0 = some ⟨oc0, od0, .func (PySem.W.fnOf "is_an_integer" "is_an_integer" (defArgs s_is_an_integer) (defBody s_is_an_integer) (defScope s_is_an_integer) .none kV0 dc0 pm0 an0 cd0 ct0), sl0⟩)
    (c0 : PySem.W.codeIn K cd0 "is_an_integer" = true) (k0 : PySem.W.keepIn K (.ref f0) = true)
    {f1 : Addr} {od1 an1 : Option Addr} {sl1 : Array (Option Value)} {oc1 kV1 dc1 pm1 cd1 ct1 : Value}
    (a1 : PySem.W.nsIn K mainGlobals "is_polynomial" = some (some (.ref f1))) (l1 : K.lookup f1 = some ⟨oc1, od1, .func (PySem.W.fnOf "is_polynomial" "is_polynomial" (defArgs s_is_polynomial) (defBody s_is_polynomial) (defScope s_is_polynomial) .none kV1 dc1 pm1 an1 cd1 ct1), sl1⟩)
    (c1 : PySem.W.codeIn K cd1 "is_polynomial" = true) (k1 : PySem.W.keepIn K (.ref f1) = true)
    {f2 : Addr} {od2 an2 : Option Addr} {sl2 : Array (Option Value)} {oc2 kV2 dc2 pm2 cd2 ct2 : Value}
    (a2 : PySem.W.nsIn K mainGlobals "check_polynomial" = some (some (.ref f2))) (l2 : K.lookup f2 = some ⟨oc2, od2, .func (PySem.W.fnOf "check_polynomial" "check_polynomial" (defArgs s_check_polynomial) (defBody s_check_polynomial) (defScope s_check_polynomial) .none kV2 dc2 pm2 an2 cd2 ct2), sl2⟩)
    (c2 : PySem.W.codeIn K cd2 "check_polynomial" = true) (k2 : PySem.W.keepIn K (.ref f2) = true)
    {f3 : Addr} {od3 an3 : Option Addr} {sl3 : Array (Option Value)} {oc3 kV3 dc3 pm3 cd3 ct3 : Value}
    (a3 : PySem.W.nsIn K mainGlobals "is_sums" = some (some (.ref f3))) (l3 : K.lookup f3 = some ⟨oc3, od3, .func (PySem.W.fnOf "is_sums" "is_sums" (defArgs s_is_sums) (defBody s_is_sums) (defScope s_is_sums) .none kV3 dc3 pm3 an3 cd3 ct3), sl3⟩)
    (c3 : PySem.W.codeIn K cd3 "is_sums" = true) (k3 : PySem.W.keepIn K (.ref f3) = true)
    {f4 : Addr} {od4 an4 : Option Addr} {sl4 : Array (Option Value)} {oc4 kV4 dc4 pm4 cd4 ct4 : Value}
    (a4 : PySem.W.nsIn K mainGlobals "check_sums" = some (some (.ref f4))) (l4 : K.lookup f4 = some ⟨oc4, od4, .func (PySem.W.fnOf "check_sums" "check_sums" (defArgs s_check_sums) (defBody s_check_sums) (defScope s_check_sums) .none kV4 dc4 pm4 an4 cd4 ct4), sl4⟩)
    (c4 : PySem.W.codeIn K cd4 "check_sums" = true) (k4 : PySem.W.keepIn K (.ref f4) = true)
    {f5 : Addr} {od5 an5 : Option Addr} {sl5 : Array (Option Value)} {oc5 kV5 dc5 pm5 cd5 ct5 : Value}
    (a5 : PySem.W.nsIn K mainGlobals "in_row" = some (some (.ref f5))) (l5 : K.lookup f5 = some ⟨oc5, od5, .func (PySem.W.fnOf "in_row" "in_row" (defArgs s_in_row) (defBody s_in_row) (defScope s_in_row) .none kV5 dc5 pm5 an5 cd5 ct5), sl5⟩)
    (c5 : PySem.W.codeIn K cd5 "in_row" = true) (k5 : PySem.W.keepIn K (.ref f5) = true)
    {f6 : Addr} {od6 an6 : Option Addr} {sl6 : Array (Option Value)} {oc6 kV6 dc6 pm6 cd6 ct6 : Value}
    (a6 : PySem.W.nsIn K mainGlobals "first_fault" = some (some (.ref f6))) (l6 : K.lookup f6 = some ⟨oc6, od6, .func (PySem.W.fnOf "first_fault" "first_fault" (defArgs s_first_fault) (defBody s_first_fault) (defScope s_first_fault) .none kV6 dc6 pm6 an6 cd6 ct6), sl6⟩)
    (c6 : PySem.W.codeIn K cd6 "first_fault" = true) (k6 : PySem.W.keepIn K (.ref f6) = true)
    {f7 : Addr} {od7 an7 : Option Addr} {sl7 : Array (Option Value)} {oc7 kV7 dc7 pm7 cd7 ct7 : Value}
    (a7 : PySem.W.nsIn K mainGlobals "is_rule" = some (some (.ref f7))) (l7 : K.lookup f7 = some ⟨oc7, od7, .func (PySem.W.fnOf "is_rule" "is_rule" (defArgs s_is_rule) (defBody s_is_rule) (defScope s_is_rule) .none kV7 dc7 pm7 an7 cd7 ct7), sl7⟩)
    (c7 : PySem.W.codeIn K cd7 "is_rule" = true) (k7 : PySem.W.keepIn K (.ref f7) = true)
    {f8 : Addr} {od8 an8 : Option Addr} {sl8 : Array (Option Value)} {oc8 kV8 dc8 pm8 cd8 ct8 : Value}
    (a8 : PySem.W.nsIn K mainGlobals "_law_jar" = some (some (.ref f8))) (l8 : K.lookup f8 = some ⟨oc8, od8, .func (PySem.W.fnOf "_law_jar" "_law_jar" (defArgs s__law_jar) (defBody s__law_jar) (defScope s__law_jar) .none kV8 dc8 pm8 an8 cd8 ct8), sl8⟩)
    (c8 : PySem.W.codeIn K cd8 "_law_jar" = true) (k8 : PySem.W.keepIn K (.ref f8) = true)
    {f9 : Addr} {od9 an9 : Option Addr} {sl9 : Array (Option Value)} {oc9 kV9 dc9 pm9 cd9 ct9 : Value}
    (a9 : PySem.W.nsIn K mainGlobals "_law_pick" = some (some (.ref f9))) (l9 : K.lookup f9 = some ⟨oc9, od9, .func (PySem.W.fnOf "_law_pick" "_law_pick" (defArgs s__law_pick) (defBody s__law_pick) (defScope s__law_pick) .none kV9 dc9 pm9 an9 cd9 ct9), sl9⟩)
    (c9 : PySem.W.codeIn K cd9 "_law_pick" = true) (k9 : PySem.W.keepIn K (.ref f9) = true)
    {f10 : Addr} {od10 an10 : Option Addr} {sl10 : Array (Option Value)} {oc10 kV10 dc10 pm10 cd10 ct10 : Value}
    (a10 : PySem.W.nsIn K mainGlobals "_law_same" = some (some (.ref f10))) (l10 : K.lookup f10 = some ⟨oc10, od10, .func (PySem.W.fnOf "_law_same" "_law_same" (defArgs s__law_same) (defBody s__law_same) (defScope s__law_same) .none kV10 dc10 pm10 an10 cd10 ct10), sl10⟩)
    (c10 : PySem.W.codeIn K cd10 "_law_same" = true) (k10 : PySem.W.keepIn K (.ref f10) = true)
    {f11 : Addr} {od11 an11 : Option Addr} {sl11 : Array (Option Value)} {oc11 kV11 dc11 pm11 cd11 ct11 : Value}
    (a11 : PySem.W.nsIn K mainGlobals "_law_gather" = some (some (.ref f11))) (l11 : K.lookup f11 = some ⟨oc11, od11, .func (PySem.W.fnOf "_law_gather" "_law_gather" (defArgs s__law_gather) (defBody s__law_gather) (defScope s__law_gather) .none kV11 dc11 pm11 an11 cd11 ct11), sl11⟩)
    (c11 : PySem.W.codeIn K cd11 "_law_gather" = true) (k11 : PySem.W.keepIn K (.ref f11) = true)
    {f12 : Addr} {od12 an12 : Option Addr} {sl12 : Array (Option Value)} {oc12 kV12 dc12 pm12 cd12 ct12 : Value}
    (a12 : PySem.W.nsIn K mainGlobals "_law_amount" = some (some (.ref f12))) (l12 : K.lookup f12 = some ⟨oc12, od12, .func (PySem.W.fnOf "_law_amount" "_law_amount" (defArgs s__law_amount) (defBody s__law_amount) (defScope s__law_amount) .none kV12 dc12 pm12 an12 cd12 ct12), sl12⟩)
    (c12 : PySem.W.codeIn K cd12 "_law_amount" = true) (k12 : PySem.W.keepIn K (.ref f12) = true)
    {f13 : Addr} {od13 an13 : Option Addr} {sl13 : Array (Option Value)} {oc13 kV13 dc13 pm13 cd13 ct13 : Value}
    (a13 : PySem.W.nsIn K mainGlobals "_law_sums" = some (some (.ref f13))) (l13 : K.lookup f13 = some ⟨oc13, od13, .func (PySem.W.fnOf "_law_sums" "_law_sums" (defArgs s__law_sums) (defBody s__law_sums) (defScope s__law_sums) .none kV13 dc13 pm13 an13 cd13 ct13), sl13⟩)
    (c13 : PySem.W.codeIn K cd13 "_law_sums" = true) (k13 : PySem.W.keepIn K (.ref f13) = true)
    {f14 : Addr} {od14 an14 : Option Addr} {sl14 : Array (Option Value)} {oc14 kV14 dc14 pm14 cd14 ct14 : Value}
    (a14 : PySem.W.nsIn K mainGlobals "_law_wide" = some (some (.ref f14))) (l14 : K.lookup f14 = some ⟨oc14, od14, .func (PySem.W.fnOf "_law_wide" "_law_wide" (defArgs s__law_wide) (defBody s__law_wide) (defScope s__law_wide) .none kV14 dc14 pm14 an14 cd14 ct14), sl14⟩)
    (c14 : PySem.W.codeIn K cd14 "_law_wide" = true) (k14 : PySem.W.keepIn K (.ref f14) = true)
    {f15 : Addr} {od15 an15 : Option Addr} {sl15 : Array (Option Value)} {oc15 kV15 dc15 pm15 cd15 ct15 : Value}
    (a15 : PySem.W.nsIn K mainGlobals "_law_trim" = some (some (.ref f15))) (l15 : K.lookup f15 = some ⟨oc15, od15, .func (PySem.W.fnOf "_law_trim" "_law_trim" (defArgs s__law_trim) (defBody s__law_trim) (defScope s__law_trim) .none kV15 dc15 pm15 an15 cd15 ct15), sl15⟩)
    (c15 : PySem.W.codeIn K cd15 "_law_trim" = true) (k15 : PySem.W.keepIn K (.ref f15) = true)
    {f16 : Addr} {od16 an16 : Option Addr} {sl16 : Array (Option Value)} {oc16 kV16 dc16 pm16 cd16 ct16 : Value}
    (a16 : PySem.W.nsIn K mainGlobals "_law_by" = some (some (.ref f16))) (l16 : K.lookup f16 = some ⟨oc16, od16, .func (PySem.W.fnOf "_law_by" "_law_by" (defArgs s__law_by) (defBody s__law_by) (defScope s__law_by) .none kV16 dc16 pm16 an16 cd16 ct16), sl16⟩)
    (c16 : PySem.W.codeIn K cd16 "_law_by" = true) (k16 : PySem.W.keepIn K (.ref f16) = true)
    {f17 : Addr} {od17 an17 : Option Addr} {sl17 : Array (Option Value)} {oc17 kV17 dc17 pm17 cd17 ct17 : Value}
    (a17 : PySem.W.nsIn K mainGlobals "_law_gcd" = some (some (.ref f17))) (l17 : K.lookup f17 = some ⟨oc17, od17, .func (PySem.W.fnOf "_law_gcd" "_law_gcd" (defArgs s__law_gcd) (defBody s__law_gcd) (defScope s__law_gcd) .none kV17 dc17 pm17 an17 cd17 ct17), sl17⟩)
    (c17 : PySem.W.codeIn K cd17 "_law_gcd" = true) (k17 : PySem.W.keepIn K (.ref f17) = true)
    {f18 : Addr} {od18 an18 : Option Addr} {sl18 : Array (Option Value)} {oc18 kV18 dc18 pm18 cd18 ct18 : Value}
    (a18 : PySem.W.nsIn K mainGlobals "_law_poly" = some (some (.ref f18))) (l18 : K.lookup f18 = some ⟨oc18, od18, .func (PySem.W.fnOf "_law_poly" "_law_poly" (defArgs s__law_poly) (defBody s__law_poly) (defScope s__law_poly) .none kV18 dc18 pm18 an18 cd18 ct18), sl18⟩)
    (c18 : PySem.W.codeIn K cd18 "_law_poly" = true) (k18 : PySem.W.keepIn K (.ref f18) = true)
    {f19 : Addr} {od19 an19 : Option Addr} {sl19 : Array (Option Value)} {oc19 kV19 dc19 pm19 cd19 ct19 : Value}
    (a19 : PySem.W.nsIn K mainGlobals "_law_kept" = some (some (.ref f19))) (l19 : K.lookup f19 = some ⟨oc19, od19, .func (PySem.W.fnOf "_law_kept" "_law_kept" (defArgs s__law_kept) (defBody s__law_kept) (defScope s__law_kept) .none kV19 dc19 pm19 an19 cd19 ct19), sl19⟩)
    (c19 : PySem.W.codeIn K cd19 "_law_kept" = true) (k19 : PySem.W.keepIn K (.ref f19) = true)
    {f20 : Addr} {od20 an20 : Option Addr} {sl20 : Array (Option Value)} {oc20 kV20 dc20 pm20 cd20 ct20 : Value}
    (a20 : PySem.W.nsIn K mainGlobals "_law_multiplied" = some (some (.ref f20))) (l20 : K.lookup f20 = some ⟨oc20, od20, .func (PySem.W.fnOf "_law_multiplied" "_law_multiplied" (defArgs s__law_multiplied) (defBody s__law_multiplied) (defScope s__law_multiplied) .none kV20 dc20 pm20 an20 cd20 ct20), sl20⟩)
    (c20 : PySem.W.codeIn K cd20 "_law_multiplied" = true) (k20 : PySem.W.keepIn K (.ref f20) = true)
    {f21 : Addr} {od21 an21 : Option Addr} {sl21 : Array (Option Value)} {oc21 kV21 dc21 pm21 cd21 ct21 : Value}
    (a21 : PySem.W.nsIn K mainGlobals "_law_ledger" = some (some (.ref f21))) (l21 : K.lookup f21 = some ⟨oc21, od21, .func (PySem.W.fnOf "_law_ledger" "_law_ledger" (defArgs s__law_ledger) (defBody s__law_ledger) (defScope s__law_ledger) .none kV21 dc21 pm21 an21 cd21 ct21), sl21⟩)
    (c21 : PySem.W.codeIn K cd21 "_law_ledger" = true) (k21 : PySem.W.keepIn K (.ref f21) = true)
    {f22 : Addr} {od22 an22 : Option Addr} {sl22 : Array (Option Value)} {oc22 kV22 dc22 pm22 cd22 ct22 : Value}
    (a22 : PySem.W.nsIn K mainGlobals "_law_slim" = some (some (.ref f22))) (l22 : K.lookup f22 = some ⟨oc22, od22, .func (PySem.W.fnOf "_law_slim" "_law_slim" (defArgs s__law_slim) (defBody s__law_slim) (defScope s__law_slim) .none kV22 dc22 pm22 an22 cd22 ct22), sl22⟩)
    (c22 : PySem.W.codeIn K cd22 "_law_slim" = true) (k22 : PySem.W.keepIn K (.ref f22) = true)
    {f23 : Addr} {od23 an23 : Option Addr} {sl23 : Array (Option Value)} {oc23 kV23 dc23 pm23 cd23 ct23 : Value}
    (a23 : PySem.W.nsIn K mainGlobals "_law_shortest" = some (some (.ref f23))) (l23 : K.lookup f23 = some ⟨oc23, od23, .func (PySem.W.fnOf "_law_shortest" "_law_shortest" (defArgs s__law_shortest) (defBody s__law_shortest) (defScope s__law_shortest) .none kV23 dc23 pm23 an23 cd23 ct23), sl23⟩)
    (c23 : PySem.W.codeIn K cd23 "_law_shortest" = true) (k23 : PySem.W.keepIn K (.ref f23) = true)
    {f24 : Addr} {od24 an24 : Option Addr} {sl24 : Array (Option Value)} {oc24 kV24 dc24 pm24 cd24 ct24 : Value}
    (a24 : PySem.W.nsIn K mainGlobals "_law_split" = some (some (.ref f24))) (l24 : K.lookup f24 = some ⟨oc24, od24, .func (PySem.W.fnOf "_law_split" "_law_split" (defArgs s__law_split) (defBody s__law_split) (defScope s__law_split) .none kV24 dc24 pm24 an24 cd24 ct24), sl24⟩)
    (c24 : PySem.W.codeIn K cd24 "_law_split" = true) (k24 : PySem.W.keepIn K (.ref f24) = true)
    {f25 : Addr} {od25 an25 : Option Addr} {sl25 : Array (Option Value)} {oc25 kV25 dc25 pm25 cd25 ct25 : Value}
    (a25 : PySem.W.nsIn K mainGlobals "_law_grown" = some (some (.ref f25))) (l25 : K.lookup f25 = some ⟨oc25, od25, .func (PySem.W.fnOf "_law_grown" "_law_grown" (defArgs s__law_grown) (defBody s__law_grown) (defScope s__law_grown) .none kV25 dc25 pm25 an25 cd25 ct25), sl25⟩)
    (c25 : PySem.W.codeIn K cd25 "_law_grown" = true) (k25 : PySem.W.keepIn K (.ref f25) = true)
    {f26 : Addr} {od26 an26 : Option Addr} {sl26 : Array (Option Value)} {oc26 kV26 dc26 pm26 cd26 ct26 : Value}
    (a26 : PySem.W.nsIn K mainGlobals "_law_some_sums" = some (some (.ref f26))) (l26 : K.lookup f26 = some ⟨oc26, od26, .func (PySem.W.fnOf "_law_some_sums" "_law_some_sums" (defArgs s__law_some_sums) (defBody s__law_some_sums) (defScope s__law_some_sums) .none kV26 dc26 pm26 an26 cd26 ct26), sl26⟩)
    (c26 : PySem.W.codeIn K cd26 "_law_some_sums" = true) (k26 : PySem.W.keepIn K (.ref f26) = true)
    {f27 : Addr} {od27 an27 : Option Addr} {sl27 : Array (Option Value)} {oc27 kV27 dc27 pm27 cd27 ct27 : Value}
    (a27 : PySem.W.nsIn K mainGlobals "_law_due" = some (some (.ref f27))) (l27 : K.lookup f27 = some ⟨oc27, od27, .func (PySem.W.fnOf "_law_due" "_law_due" (defArgs s__law_due) (defBody s__law_due) (defScope s__law_due) .none kV27 dc27 pm27 an27 cd27 ct27), sl27⟩)
    (c27 : PySem.W.codeIn K cd27 "_law_due" = true) (k27 : PySem.W.keepIn K (.ref f27) = true)
    {f28 : Addr} {od28 an28 : Option Addr} {sl28 : Array (Option Value)} {oc28 kV28 dc28 pm28 cd28 ct28 : Value}
    (a28 : PySem.W.nsIn K mainGlobals "_law_right" = some (some (.ref f28))) (l28 : K.lookup f28 = some ⟨oc28, od28, .func (PySem.W.fnOf "_law_right" "_law_right" (defArgs s__law_right) (defBody s__law_right) (defScope s__law_right) .none kV28 dc28 pm28 an28 cd28 ct28), sl28⟩)
    (c28 : PySem.W.codeIn K cd28 "_law_right" = true) (k28 : PySem.W.keepIn K (.ref f28) = true)
    {f29 : Addr} {od29 an29 : Option Addr} {sl29 : Array (Option Value)} {oc29 kV29 dc29 pm29 cd29 ct29 : Value}
    (a29 : PySem.W.nsIn K mainGlobals "_law_polys" = some (some (.ref f29))) (l29 : K.lookup f29 = some ⟨oc29, od29, .func (PySem.W.fnOf "_law_polys" "_law_polys" (defArgs s__law_polys) (defBody s__law_polys) (defScope s__law_polys) .none kV29 dc29 pm29 an29 cd29 ct29), sl29⟩)
    (c29 : PySem.W.codeIn K cd29 "_law_polys" = true) (k29 : PySem.W.keepIn K (.ref f29) = true)
    {f30 : Addr} {od30 an30 : Option Addr} {sl30 : Array (Option Value)} {oc30 kV30 dc30 pm30 cd30 ct30 : Value}
    (a30 : PySem.W.nsIn K mainGlobals "law" = some (some (.ref f30))) (l30 : K.lookup f30 = some ⟨oc30, od30, .func (PySem.W.fnOf "law" "law" (defArgs s_law) (defBody s_law) (defScope s_law) .none kV30 dc30 pm30 an30 cd30 ct30), sl30⟩)
    (c30 : PySem.W.codeIn K cd30 "law" = true) (k30 : PySem.W.keepIn K (.ref f30) = true)
    (z_abs : PySem.W.nsIn K mainGlobals "abs" = some none)
    (z_all : PySem.W.nsIn K mainGlobals "all" = some none)
    (z_bool : PySem.W.nsIn K mainGlobals "bool" = some none)
    (z_int : PySem.W.nsIn K mainGlobals "int" = some none)
    (z_isinstance : PySem.W.nsIn K mainGlobals "isinstance" = some none)
    (z_len : PySem.W.nsIn K mainGlobals "len" = some none)
    (z_list : PySem.W.nsIn K mainGlobals "list" = some none)
    (z_max : PySem.W.nsIn K mainGlobals "max" = some none)
    (z_min : PySem.W.nsIn K mainGlobals "min" = some none)
    (z_range : PySem.W.nsIn K mainGlobals "range" = some none)
    (z_sorted : PySem.W.nsIn K mainGlobals "sorted" = some none)
    (z_sum : PySem.W.nsIn K mainGlobals "sum" = some none)
    (z_tuple : PySem.W.nsIn K mainGlobals "tuple" = some none)
    (z_zip : PySem.W.nsIn K mainGlobals "zip" = some none) :
    ∃ fd : FuncData, (∀ (s : Shared) (v : Value), BindsTo s fd ⟨[v], []⟩ [("script", v)]) ∧ ∀ base : Heap, K.In base → base.Ns mainGlobals mg → FnOk l.prog w K mg base CX0 8 fa fd P_law (spLaw K) := by
  have e := hfa.symm.trans (PySem.W.mg_of X G a30)
  cases e
  exact ⟨_, fun s v => .of_eq rfl, fun base _ _ => ok_law (T := {
    a_is_an_integer := f0, fd_is_an_integer := _, F_is_an_integer := fun_mk (st := s_is_an_integer) l0 c0 k0, b_is_an_integer := (fun_mk (st := s_is_an_integer) l0 c0 k0).binds (ps := P_is_an_integer) fun _ _ _ _ _ _ us hl => match us, hl with | [_], _ => rfl, m_is_an_integer := PySem.W.mg_of X G a0,
    a_is_polynomial := f1, fd_is_polynomial := _, F_is_polynomial := fun_mk (st := s_is_polynomial) l1 c1 k1, b_is_polynomial := (fun_mk (st := s_is_polynomial) l1 c1 k1).binds (ps := P_is_polynomial) fun _ _ _ _ _ _ us hl => match us, hl with | [_], _ => rfl, m_is_polynomial := PySem.W.mg_of X G a1,
    a_check_polynomial := f2, fd_check_polynomial := _, F_check_polynomial := fun_mk (st := s_check_polynomial) l2 c2 k2, b_check_polynomial := (fun_mk (st := s_check_polynomial) l2 c2 k2).binds (ps := P_check_polynomial) fun _ _ _ _ _ _ us hl => match us, hl with | [_], _ => rfl, m_check_polynomial := PySem.W.mg_of X G a2,
    a_is_sums := f3, fd_is_sums := _, F_is_sums := fun_mk (st := s_is_sums) l3 c3 k3, b_is_sums := (fun_mk (st := s_is_sums) l3 c3 k3).binds (ps := P_is_sums) fun _ _ _ _ _ _ us hl => match us, hl with | [_], _ => rfl, m_is_sums := PySem.W.mg_of X G a3,
    a_check_sums := f4, fd_check_sums := _, F_check_sums := fun_mk (st := s_check_sums) l4 c4 k4, b_check_sums := (fun_mk (st := s_check_sums) l4 c4 k4).binds (ps := P_check_sums) fun _ _ _ _ _ _ us hl => match us, hl with | [_], _ => rfl, m_check_sums := PySem.W.mg_of X G a4,
    a_in_row := f5, fd_in_row := _, F_in_row := fun_mk (st := s_in_row) l5 c5 k5, b_in_row := (fun_mk (st := s_in_row) l5 c5 k5).binds (ps := P_in_row) fun _ _ _ _ _ _ us hl => match us, hl with | [_, _, _], _ => rfl, m_in_row := PySem.W.mg_of X G a5,
    a_first_fault := f6, fd_first_fault := _, F_first_fault := fun_mk (st := s_first_fault) l6 c6 k6, b_first_fault := (fun_mk (st := s_first_fault) l6 c6 k6).binds (ps := P_first_fault) fun _ _ _ _ _ _ us hl => match us, hl with | [_, _, _], _ => rfl, m_first_fault := PySem.W.mg_of X G a6,
    a_is_rule := f7, fd_is_rule := _, F_is_rule := fun_mk (st := s_is_rule) l7 c7 k7, b_is_rule := (fun_mk (st := s_is_rule) l7 c7 k7).binds (ps := P_is_rule) fun _ _ _ _ _ _ us hl => match us, hl with | [_, _], _ => rfl, m_is_rule := PySem.W.mg_of X G a7,
    a__law_jar := f8, fd__law_jar := _, F__law_jar := fun_mk (st := s__law_jar) l8 c8 k8, b__law_jar := (fun_mk (st := s__law_jar) l8 c8 k8).binds (ps := P__law_jar) fun _ _ _ _ _ _ us hl => match us, hl with | [_, _], _ => rfl, m__law_jar := PySem.W.mg_of X G a8,
    a__law_pick := f9, fd__law_pick := _, F__law_pick := fun_mk (st := s__law_pick) l9 c9 k9, b__law_pick := (fun_mk (st := s__law_pick) l9 c9 k9).binds (ps := P__law_pick) fun _ _ _ _ _ _ us hl => match us, hl with | [_, _], _ => rfl, m__law_pick := PySem.W.mg_of X G a9,
    a__law_same := f10, fd__law_same := _, F__law_same := fun_mk (st := s__law_same) l10 c10 k10, b__law_same := (fun_mk (st := s__law_same) l10 c10 k10).binds (ps := P__law_same) fun _ _ _ _ _ _ us hl => match us, hl with | [_, _], _ => rfl, m__law_same := PySem.W.mg_of X G a10,
    a__law_gather := f11, fd__law_gather := _, F__law_gather := fun_mk (st := s__law_gather) l11 c11 k11, b__law_gather := (fun_mk (st := s__law_gather) l11 c11 k11).binds (ps := P__law_gather) fun _ _ _ _ _ _ us hl => match us, hl with | [_], _ => rfl, m__law_gather := PySem.W.mg_of X G a11,
    a__law_amount := f12, fd__law_amount := _, F__law_amount := fun_mk (st := s__law_amount) l12 c12 k12, b__law_amount := (fun_mk (st := s__law_amount) l12 c12 k12).binds (ps := P__law_amount) fun _ _ _ _ _ _ us hl => match us, hl with | [_, _], _ => rfl, m__law_amount := PySem.W.mg_of X G a12,
    a__law_sums := f13, fd__law_sums := _, F__law_sums := fun_mk (st := s__law_sums) l13 c13 k13, b__law_sums := (fun_mk (st := s__law_sums) l13 c13 k13).binds (ps := P__law_sums) fun _ _ _ _ _ _ us hl => match us, hl with | [_, _], _ => rfl, m__law_sums := PySem.W.mg_of X G a13,
    a__law_wide := f14, fd__law_wide := _, F__law_wide := fun_mk (st := s__law_wide) l14 c14 k14, b__law_wide := (fun_mk (st := s__law_wide) l14 c14 k14).binds (ps := P__law_wide) fun _ _ _ _ _ _ us hl => match us, hl with | [_, _], _ => rfl, m__law_wide := PySem.W.mg_of X G a14,
    a__law_trim := f15, fd__law_trim := _, F__law_trim := fun_mk (st := s__law_trim) l15 c15 k15, b__law_trim := (fun_mk (st := s__law_trim) l15 c15 k15).binds (ps := P__law_trim) fun _ _ _ _ _ _ us hl => match us, hl with | [_], _ => rfl, m__law_trim := PySem.W.mg_of X G a15,
    a__law_by := f16, fd__law_by := _, F__law_by := fun_mk (st := s__law_by) l16 c16 k16, b__law_by := (fun_mk (st := s__law_by) l16 c16 k16).binds (ps := P__law_by) fun _ _ _ _ _ _ us hl => match us, hl with | [_, _], _ => rfl, m__law_by := PySem.W.mg_of X G a16,
    a__law_gcd := f17, fd__law_gcd := _, F__law_gcd := fun_mk (st := s__law_gcd) l17 c17 k17, b__law_gcd := (fun_mk (st := s__law_gcd) l17 c17 k17).binds (ps := P__law_gcd) fun _ _ _ _ _ _ us hl => match us, hl with | [_, _], _ => rfl, m__law_gcd := PySem.W.mg_of X G a17,
    a__law_poly := f18, fd__law_poly := _, F__law_poly := fun_mk (st := s__law_poly) l18 c18 k18, b__law_poly := (fun_mk (st := s__law_poly) l18 c18 k18).binds (ps := P__law_poly) fun _ _ _ _ _ _ us hl => match us, hl with | [_, _, _], _ => rfl, m__law_poly := PySem.W.mg_of X G a18,
    a__law_kept := f19, fd__law_kept := _, F__law_kept := fun_mk (st := s__law_kept) l19 c19 k19, b__law_kept := (fun_mk (st := s__law_kept) l19 c19 k19).binds (ps := P__law_kept) fun _ _ _ _ _ _ us hl => match us, hl with | [_, _, _], _ => rfl, m__law_kept := PySem.W.mg_of X G a19,
    a__law_multiplied := f20, fd__law_multiplied := _, F__law_multiplied := fun_mk (st := s__law_multiplied) l20 c20 k20, b__law_multiplied := (fun_mk (st := s__law_multiplied) l20 c20 k20).binds (ps := P__law_multiplied) fun _ _ _ _ _ _ us hl => match us, hl with | [_], _ => rfl, m__law_multiplied := PySem.W.mg_of X G a20,
    a__law_ledger := f21, fd__law_ledger := _, F__law_ledger := fun_mk (st := s__law_ledger) l21 c21 k21, b__law_ledger := (fun_mk (st := s__law_ledger) l21 c21 k21).binds (ps := P__law_ledger) fun _ _ _ _ _ _ us hl => match us, hl with | [_, _], _ => rfl, m__law_ledger := PySem.W.mg_of X G a21,
    a__law_slim := f22, fd__law_slim := _, F__law_slim := fun_mk (st := s__law_slim) l22 c22 k22, b__law_slim := (fun_mk (st := s__law_slim) l22 c22 k22).binds (ps := P__law_slim) fun _ _ _ _ _ _ us hl => match us, hl with | [_], _ => rfl, m__law_slim := PySem.W.mg_of X G a22,
    a__law_shortest := f23, fd__law_shortest := _, F__law_shortest := fun_mk (st := s__law_shortest) l23 c23 k23, b__law_shortest := (fun_mk (st := s__law_shortest) l23 c23 k23).binds (ps := P__law_shortest) fun _ _ _ _ _ _ us hl => match us, hl with | [_], _ => rfl, m__law_shortest := PySem.W.mg_of X G a23,
    a__law_split := f24, fd__law_split := _, F__law_split := fun_mk (st := s__law_split) l24 c24 k24, b__law_split := (fun_mk (st := s__law_split) l24 c24 k24).binds (ps := P__law_split) fun _ _ _ _ _ _ us hl => match us, hl with | [_], _ => rfl, m__law_split := PySem.W.mg_of X G a24,
    a__law_grown := f25, fd__law_grown := _, F__law_grown := fun_mk (st := s__law_grown) l25 c25 k25, b__law_grown := (fun_mk (st := s__law_grown) l25 c25 k25).binds (ps := P__law_grown) fun _ _ _ _ _ _ us hl => match us, hl with | [_, _], _ => rfl, m__law_grown := PySem.W.mg_of X G a25,
    a__law_some_sums := f26, fd__law_some_sums := _, F__law_some_sums := fun_mk (st := s__law_some_sums) l26 c26 k26, b__law_some_sums := (fun_mk (st := s__law_some_sums) l26 c26 k26).binds (ps := P__law_some_sums) fun _ _ _ _ _ _ us hl => match us, hl with | [_], _ => rfl, m__law_some_sums := PySem.W.mg_of X G a26,
    a__law_due := f27, fd__law_due := _, F__law_due := fun_mk (st := s__law_due) l27 c27 k27, b__law_due := (fun_mk (st := s__law_due) l27 c27 k27).binds (ps := P__law_due) fun _ _ _ _ _ _ us hl => match us, hl with | [_, _], _ => rfl, m__law_due := PySem.W.mg_of X G a27,
    a__law_right := f28, fd__law_right := _, F__law_right := fun_mk (st := s__law_right) l28 c28 k28, b__law_right := (fun_mk (st := s__law_right) l28 c28 k28).binds (ps := P__law_right) fun _ _ _ _ _ _ us hl => match us, hl with | [_, _], _ => rfl, m__law_right := PySem.W.mg_of X G a28,
    a__law_polys := f29, fd__law_polys := _, F__law_polys := fun_mk (st := s__law_polys) l29 c29 k29, b__law_polys := (fun_mk (st := s__law_polys) l29 c29 k29).binds (ps := P__law_polys) fun _ _ _ _ _ _ us hl => match us, hl with | [_, _, _], _ => rfl, m__law_polys := PySem.W.mg_of X G a29,
    a_law := fa, fd_law := _, F_law := fun_mk (st := s_law) l30 c30 k30, b_law := (fun_mk (st := s_law) l30 c30 k30).binds (ps := P_law) fun _ _ _ _ _ _ us hl => match us, hl with | [_], _ => rfl, m_law := PySem.W.mg_of X G a30,
    z_abs := PySem.W.mg_none_of X G z_abs,
    z_all := PySem.W.mg_none_of X G z_all,
    z_bool := PySem.W.mg_none_of X G z_bool,
    z_int := PySem.W.mg_none_of X G z_int,
    z_isinstance := PySem.W.mg_none_of X G z_isinstance,
    z_len := PySem.W.mg_none_of X G z_len,
    z_list := PySem.W.mg_none_of X G z_list,
    z_max := PySem.W.mg_none_of X G z_max,
    z_min := PySem.W.mg_none_of X G z_min,
    z_range := PySem.W.mg_none_of X G z_range,
    z_sorted := PySem.W.mg_none_of X G z_sorted,
    z_sum := PySem.W.mg_none_of X G z_sum,
    z_tuple := PySem.W.mg_none_of X G z_tuple,
    z_zip := PySem.W.mg_none_of X G z_zip })⟩
end Lw
open PySem PySem.W PyProof.Rows
set_option maxHeartbeats 0 in
theorem PySem.Challenge.cw_changesums_k34_rules_judged_holds : PySem.Challenge.rw_changesums_k34_rules_judged.Holds := by
  w_on; o_law; k_head; (case hw => w_witness2)
  k_fill
  refine L2.walk_of (l := PySem.Challenge.rw_changesums_k34_rules_judged) (n := 63) (k := 8) (x := "script") (CX := fun _ => L2.CX0) (sp := fun w => Cr.spLaw _) rfl (by decide) rfl ⟨rfl, by decide, by decide⟩ (fun w h Y => PySem.W.kIn_of Y) ?F (fun _ _ a ns hl _ hS => ⟨a, ns, rfl, hS, hl, fun _ => rfl⟩) (fun _ _ _ _ _ h => h)
  case F =>
    intro w mg fa h KX G hmg
    refine' Lw.all_mk KX G hmg ?a0 ?l0 ?c0 ?k0 ?a1 ?l1 ?c1 ?k1 ?a2 ?l2 ?c2 ?k2 ?a3 ?l3 ?c3 ?k3 ?a4 ?l4 ?c4 ?k4 ?a5 ?l5 ?c5 ?k5 ?a6 ?l6 ?c6 ?k6 ?a7 ?l7 ?c7 ?k7 ?a8 ?l8 ?c8 ?k8 ?a9 ?l9 ?c9 ?k9 ?a10 ?l10 ?c10 ?k10 ?a11 ?l11 ?c11 ?k11 ?a12 ?l12 ?c12 ?k12 ?a13 ?l13 ?c13 ?k13 ?a14 ?l14 ?c14 ?k14 ?a15 ?l15 ?c15 ?k15 ?a16 ?l16 ?c16 ?k16 ?a17 ?l17 ?c17 ?k17 ?a18 ?l18 ?c18 ?k18 ?a19 ?l19 ?c19 ?k19 ?a20 ?l20 ?c20 ?k20 ?a21 ?l21 ?c21 ?k21 ?a22 ?l22 ?c22 ?k22 ?a23 ?l23 ?c23 ?k23 ?a24 ?l24 ?c24 ?k24 ?a25 ?l25 ?c25 ?k25 ?a26 ?l26 ?c26 ?k26 ?a27 ?l27 ?c27 ?k27 ?a28 ?l28 ?c28 ?k28 ?a29 ?l29 ?c29 ?k29 ?a30 ?l30 ?c30 ?k30 ?z_abs ?z_all ?z_bool ?z_int ?z_isinstance ?z_len ?z_list ?z_max ?z_min ?z_range ?z_sorted ?z_sum ?z_tuple ?z_zip
    (case a0 => k_is); (case l0 => k_is); (case c0 => k_is); (case k0 => k_is); (case a1 => k_is); (case l1 => k_is); (case c1 => k_is); (case k1 => k_is); (case a2 => k_is); (case l2 => k_is); (case c2 => k_is); (case k2 => k_is); (case a3 => k_is); (case l3 => k_is); (case c3 => k_is); (case k3 => k_is); (case a4 => k_is); (case l4 => k_is); (case c4 => k_is); (case k4 => k_is); (case a5 => k_is); (case l5 => k_is); (case c5 => k_is); (case k5 => k_is); (case a6 => k_is); (case l6 => k_is); (case c6 => k_is); (case k6 => k_is); (case a7 => k_is); (case l7 => k_is); (case c7 => k_is); (case k7 => k_is); (case a8 => k_is); (case l8 => k_is); (case c8 => k_is); (case k8 => k_is); (case a9 => k_is); (case l9 => k_is); (case c9 => k_is); (case k9 => k_is); (case a10 => k_is); (case l10 => k_is); (case c10 => k_is); (case k10 => k_is); (case a11 => k_is); (case l11 => k_is); (case c11 => k_is); (case k11 => k_is); (case a12 => k_is); (case l12 => k_is); (case c12 => k_is); (case k12 => k_is); (case a13 => k_is); (case l13 => k_is); (case c13 => k_is); (case k13 => k_is); (case a14 => k_is); (case l14 => k_is); (case c14 => k_is); (case k14 => k_is); (case a15 => k_is); (case l15 => k_is); (case c15 => k_is); (case k15 => k_is); (case a16 => k_is); (case l16 => k_is); (case c16 => k_is); (case k16 => k_is); (case a17 => k_is); (case l17 => k_is); (case c17 => k_is); (case k17 => k_is); (case a18 => k_is); (case l18 => k_is); (case c18 => k_is); (case k18 => k_is); (case a19 => k_is); (case l19 => k_is); (case c19 => k_is); (case k19 => k_is); (case a20 => k_is); (case l20 => k_is); (case c20 => k_is); (case k20 => k_is); (case a21 => k_is); (case l21 => k_is); (case c21 => k_is); (case k21 => k_is); (case a22 => k_is); (case l22 => k_is); (case c22 => k_is); (case k22 => k_is); (case a23 => k_is); (case l23 => k_is); (case c23 => k_is); (case k23 => k_is); (case a24 => k_is); (case l24 => k_is); (case c24 => k_is); (case k24 => k_is); (case a25 => k_is); (case l25 => k_is); (case c25 => k_is); (case k25 => k_is); (case a26 => k_is); (case l26 => k_is); (case c26 => k_is); (case k26 => k_is); (case a27 => k_is); (case l27 => k_is); (case c27 => k_is); (case k27 => k_is); (case a28 => k_is); (case l28 => k_is); (case c28 => k_is); (case k28 => k_is); (case a29 => k_is); (case l29 => k_is); (case c29 => k_is); (case k29 => k_is); (case a30 => k_is); (case l30 => k_is); (case c30 => k_is); (case k30 => k_is); (case z_abs => k_is); (case z_all => k_is); (case z_bool => k_is); (case z_int => k_is); (case z_isinstance => k_is); (case z_len => k_is); (case z_list => k_is); (case z_max => k_is); (case z_min => k_is); (case z_range => k_is); (case z_sorted => k_is); (case z_sum => k_is); (case z_tuple => k_is); (case z_zip => k_is)