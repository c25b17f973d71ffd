import PyProof.Rows.All
import PyProof.ReprReads
import HandS.ForMost
import HandS.IsInst
import HandS.Wide
import HandS.Zip
import HandS.SortInts
import HandS.More
import HandS.TupAny
import HandS.Defaults
import HandS.Star
import HandS.Conv
import PyProof.Rows.RuleB_pow
import HandS.Steps
import PyProof.ReprLen
import PyProof.Rows.ReprR
import HandS.Ends
import KE.GoesEnum
import HandS.Iter
import HandS.Style
import KE.KMathGC
import HandS.Gcd
import HandS.SetFor
import HandS.Strs
import HandS.TupMul
import HandS.WordsDict
import KE.KDictPairs
import HandS.ListItems
import HandS.Small
import KE.DataMinMax
import KE.SortData
import PyProof.Rows.RowBridgeK
import PySem.Challenge.RW_changesums_k01_ledgers_judged
set_option Elab.async false
set_option linter.all false
set_option maxRecDepth 100000
set_option maxHeartbeats 800000
set_option Elab.async false
set_option linter.all false
set_option maxRecDepth 100000
set_option maxHeartbeats 4000000
namespace Cr
open PySem PySem.Spec PyProof.Rows L2 L2

/-! ### data in the heap -/
def notPair : PyData → Bool
  | .tuple [.int _, .int _] => false
  | _ => true
/-- no ledger: its first item is no pair of ints -/
def lax : List PyData → Bool
  | [] => true
  | d :: _ => notPair d
/-- a tuple at a: its object is known to have no dict of its own, but where no ledger is told -/
def Tp (H : Hp) (a : Addr) (xs : List V) (ds : List PyData) : Prop := (∃ o : Obj, o.dict = none ∧ H a = some (.frz o (.tup xs))) ∨ (lax ds = true ∧ H a = some (.tup xs))
theorem Tp.rd {H : Hp} {a : Addr} {xs : List V} {ds : List PyData} (h : Tp H a xs ds) : Rd H a (.tup xs) := by
  rcases h with ⟨o, _, e⟩ | ⟨_, e⟩
  · exact .inr ⟨o, e⟩
  · exact .inl e
theorem Tp.mono {H H' : Hp} {a : Addr} {xs : List V} {ds : List PyData} (s : Same H H') (h : Tp H a xs ds) : Tp H' a xs ds := by
  rcases h with ⟨o, d, e⟩ | ⟨d, e⟩
  · exact .inl ⟨o, d, s _ _ e⟩
  · exact .inr ⟨d, s _ _ e⟩
theorem Tp.new {H : Hp} {a : Addr} {xs : List V} {ds : List PyData} {o : Obj} (h : o.dict = none) : Tp (upd H a (.frz o (.tup xs))) a xs ds := .inl ⟨o, h, upd_same⟩
/-- a tuple of written items -/
def tTup (t : TA) : TE := fun σ H Q => t σ H fun xs H1 => xs.length ≤ sizeLine ∧ ∀ (p : Addr) (o : Obj), o.dict = none → H1 p = none → Q (.ref p) (upd H1 p (.frz o (.tup xs)))
theorem pe_tup {X : Cx} {es : List Expr} {t : TA} {k : Nat} {pos : Pos} (h : PA X es t) : PE X (.Tuple es k pos) (tTup t) := by
  constructor
  intro pins s σ H Q I hq
  refine wpAny_Tuple_spliced (thn (h.run pos pins s σ H _ I hq) fun us t1 ⟨xs, G, I1, r, z, q⟩ => ⟨by rw [← r.length]; exact z, ?_⟩)
  have nf : G t1.heap.objs.size = none := I1.hok.fresh (Nat.le_refl _)
  have eq : (t1.heap.push { cls := .type "tuple", data := .seq us.toArray }).get? t1.heap.objs.size = some { cls := .type "tuple", data := .seq us.toArray } := Heap.get?_push_size _ rfl
  refine ⟨.ref t1.heap.objs.size, _, I1.laid (t' := t1.toks) (o := .frz { cls := .type "tuple", data := .seq us.toArray } (.tup xs)) (fun b u e => Heap.get?_push_of_some _ e) (Nat.le_refl _) ?_, rfl, q _ _ rfl nf⟩
  exact ⟨eq, z, us, r, _, eq, rfl, _, rfl⟩
mutual
inductive Dq (H : Hp) : V → PyData → Prop
  | non : Dq H .non .none
  | bl (b : Bool) : Dq H (.bl b) (.bool b)
  | int (i : Int) : Dq H (.int i) (.int i)
  | str (x : Str) : Dq H (.str x) (.str x)
  | lst {a : Addr} {xs : List V} {ds : List PyData} : H a = some (.lst xs) → DqAll H xs ds → Dq H (.ref a) (.list ds)
  | tup {a : Addr} {xs : List V} {ds : List PyData} : Tp H a xs ds → DqAll H xs ds → Dq H (.ref a) (.tuple ds)
  | dic {a : Addr} : H a = some (.dK []) → Dq H (.ref a) (.dict [])
inductive DqAll (H : Hp) : List V → List PyData → Prop
  | nil : DqAll H [] []
  | cons {v : V} {vs : List V} {d : PyData} {ds : List PyData} : Dq H v d → DqAll H vs ds → DqAll H (v :: vs) (d :: ds)
end
section
variable {K : PySem.W.Frag} {H H' : Hp}
mutual
theorem Dq.mono (e : Same H H') : ∀ (d : PyData) (v : V), Dq H v d → Dq H' v d
  | .none, _, h => by cases h; exact .non
  | .bool b, _, h => by cases h; exact .bl b
  | .int i, _, h => by cases h; exact .int i
  | .str x, _, h => by cases h; exact .str x
  | .list ds, _, h => by
    cases h with
    | lst hs ha => exact .lst (e _ _ hs) (DqAll.mono e ds _ ha)
  | .tuple ds, _, h => by
    cases h with
    | tup hs ha => exact .tup (hs.mono e) (DqAll.mono e ds _ ha)
  | .dict _, _, h => by
    cases h with
    | dic hs => exact .dic (e _ _ hs)
theorem DqAll.mono (e : Same H H') : ∀ (ds : List PyData) (vs : List V), DqAll H vs ds → DqAll H' vs ds
  | [], _, h => by cases h; exact .nil
  | d :: ds, _, h => by
    cases h with
    | cons h1 h2 => exact .cons (Dq.mono e d _ h1) (DqAll.mono e ds _ h2)
end
mutual
theorem Dq.dp (K : PySem.W.Frag) : ∀ (d : PyData) (v : V), d.hasDict = false → Dq H v d → Dp K H v d
  | .none, _, _, h => by cases h; exact .non
  | .bool b, _, _, h => by cases h; exact .bl b
  | .int i, _, _, h => by cases h; exact .int i
  | .str x, _, _, h => by cases h; exact .str x
  | .list ds, _, n, h => by
    cases h with
    | lst hs ha => exact .lst (.inl (.inl hs)) (DqAll.dp K ds _ (by simpa [PyData.hasDict] using n) ha)
  | .tuple ds, _, n, h => by
    cases h with
    | tup hs ha => exact .tup (.inl hs.rd) (DqAll.dp K ds _ (by simpa [PyData.hasDict] using n) ha)
  | .dict _, _, n, h => by simp [PyData.hasDict] at n
theorem DqAll.dp (K : PySem.W.Frag) : ∀ (ds : List PyData) (vs : List V), PyData.hasDictAll ds = false → DqAll H vs ds → DpAll K H vs ds
  | [], _, _, h => by cases h; exact .nil
  | d :: ds, _, n, h => by
    cases h with
    | cons h1 h2 =>
      simp only [PyData.hasDictAll, Bool.or_eq_false_iff] at n
      exact .cons (Dq.dp K d _ n.1 h1) (DqAll.dp K ds _ n.2 h2)
end
theorem no_dict {d : PyData} (s : SeqAt.shaped d = true) : d.hasDict = false := PyData.hasDict_of_canLay d (by unfold SeqAt.shaped at s; rw [Bool.and_eq_true] at s; exact s.1)
theorem DqAll.length : ∀ {vs : List V} {ds : List PyData}, DqAll H vs ds → vs.length = ds.length
  | [], _, h => by cases h; rfl
  | v :: vs, _, h => by
    cases h with
    | cons h1 h2 => exact congrArg (· + 1) (DqAll.length h2)
theorem DqAll.get : ∀ {vs : List V} {ds : List PyData} {i : Nat} {d : PyData}, DqAll H vs ds → ds[i]? = some d → ∃ v, vs[i]? = some v ∧ Dq H v d
  | [], _, i, d, h, e => by cases h; simp at e
  | v :: vs, _, 0, d, h, e => by
    cases h with
    | cons h1 h2 => simp at e; subst e; exact ⟨v, rfl, h1⟩
  | v :: vs, _, i + 1, d, h, e => by
    cases h with
    | cons h1 h2 => obtain ⟨w, a, b⟩ := DqAll.get (i := i) h2 (by simpa using e); exact ⟨w, by simpa using a, b⟩
theorem DqAll.get' : ∀ {vs : List V} {ds : List PyData} {i : Nat} {v : V}, DqAll H vs ds → vs[i]? = some v → ∃ d, ds[i]? = some d ∧ Dq H v d
  | [], _, i, d, h, e => by cases h; simp at e
  | v :: vs, _, 0, d, h, e => by
    cases h with
    | cons h1 h2 => simp at e; subst e; exact ⟨_, rfl, h1⟩
  | v :: vs, _, i + 1, d, h, e => by
    cases h with
    | cons h1 h2 => obtain ⟨w, a, b⟩ := DqAll.get' (i := i) h2 (by simpa using e); exact ⟨w, by simpa using a, b⟩
theorem DqAll.append : ∀ {vs : List V} {ds : List PyData} {ws : List V} {es : List PyData}, DqAll H vs ds → DqAll H ws es → DqAll H (vs ++ ws) (ds ++ es)
  | [], _, _, _, h, g => by cases h; exact g
  | v :: vs, _, _, _, h, g => by
    cases h with
    | cons h1 h2 => exact .cons h1 (DqAll.append h2 g)
theorem DqAll.drop : ∀ {vs : List V} {ds : List PyData} (n : Nat), DqAll H vs ds → DqAll H (vs.drop n) (ds.drop n)
  | _, _, 0, h => h
  | [], _, _ + 1, h => by cases h; exact .nil
  | v :: vs, _, n + 1, h => by
    cases h with
    | cons h1 h2 => exact DqAll.drop n h2
theorem DqAll.take : ∀ {vs : List V} {ds : List PyData} (n : Nat), DqAll H vs ds → DqAll H (vs.take n) (ds.take n)
  | _, _, 0, h => .nil
  | [], _, _ + 1, h => by cases h; exact .nil
  | v :: vs, _, n + 1, h => by
    cases h with
    | cons h1 h2 => exact .cons h1 (DqAll.take n h2)
theorem DqAll.ints : ∀ {vs : List V} {ns : List Int}, DqAll H vs (ns.map PyData.int) → vs = ns.map V.int
  | [], [], _ => rfl
  | [], _ :: _, h => by cases h
  | _ :: _, [], h => by cases h
  | v :: vs, n :: ns, h => by
    cases h with
    | cons h1 h2 => cases h1; rw [DqAll.ints h2]; rfl
theorem DqAll.bls : ∀ {vs : List V} {ns : List Bool}, DqAll H vs (ns.map PyData.bool) → vs = ns.map V.bl
  | [], [], _ => rfl
  | [], _ :: _, h => by cases h
  | _ :: _, [], h => by cases h
  | v :: vs, n :: ns, h => by
    cases h with
    | cons h1 h2 => cases h1; rw [DqAll.bls h2]; rfl
theorem DqAll.ofInts : ∀ ns : List Int, DqAll H (ns.map V.int) (ns.map PyData.int)
  | [] => .nil
  | n :: ns => .cons (.int n) (DqAll.ofInts ns)
theorem Dq.intOf {v : V} {i : Int} (h : Dq H v (.int i)) : v = .int i := by cases h; rfl
theorem Dq.blOf {v : V} {i : Bool} (h : Dq H v (.bool i)) : v = .bl i := by cases h; rfl
theorem Dq.tupOf {v : V} {ds : List PyData} (h : Dq H v (.tuple ds)) : ∃ a xs, v = .ref a ∧ Tp H a xs ds ∧ DqAll H xs ds := by
  cases h with
  | tup h1 h2 => exact ⟨_, _, rfl, h1, h2⟩
theorem Dq.lstOf {v : V} {ds : List PyData} (h : Dq H v (.list ds)) : ∃ a xs, v = .ref a ∧ H a = some (.lst xs) ∧ DqAll H xs ds := by
  cases h with
  | lst h1 h2 => exact ⟨_, _, rfl, h1, h2⟩
end

theorem same_upd {H : Hp} {p : Addr} {o : HO} (h : H p = none) : Same H (upd H p o) := fun b x e => by
  rw [upd_ne (ne_of_none e h)]
  exact e
theorem _root_.L2.Same.upd2 {H H' : Hp} {p : Addr} {o : HO} (e : Same H H') : Same (upd H p o) (upd H' p o) := fun b x q => by
  by_cases hb : b = p
  · subst hb; rw [upd_same] at q ⊢; exact q
  · rw [upd_ne hb] at q ⊢; exact e b x q
/-- an untracked place may change -/
theorem _root_.L2.Same.out {H H' : Hp} {p : Addr} {o : HO} (e : Same H H') (h : H p = none) : Same H (upd H' p o) := fun b x q => by
  rw [upd_ne (ne_of_none q h)]
  exact e b x q

/-! ### slots, the jar, the state -/
inductive Sl where
  | any
  | dat (d : PyData)
  | adr (p : Addr)
  | dic (m : List (Int × Int))
  | scr (K : PySem.W.Frag) (ns : List Int)
/-- a dict of ints -/
def mdict (m : List (Int × Int)) : List (Key × V) := m.map fun x => (Sum.inl x.1, V.int x.2)
def SlOk (H : Hp) : V → Sl → Prop
  | _, .any => True
  | v, .dat d => Dq H v d
  | v, .adr p => v = .ref p
  | v, .dic m => ∃ p, v = .ref p ∧ H p = some (.dK (mdict m))
  | v, .scr K ns => ∃ p, v = .ref p ∧ SqL K H p (ns.map V.int)
theorem SlOk.mono {H H' : Hp} (e : Same H H') : ∀ {v : V} {s : Sl}, SlOk H v s → SlOk H' v s
  | _, .any, _ => trivial
  | _, .dat d, h => Dq.mono e d _ h
  | _, .adr _, h => h
  | _, .dic _, h => by
    obtain ⟨p, a, b⟩ := h
    exact ⟨p, a, e _ _ b⟩
  | _, .scr K ns, h => by
    obtain ⟨p, a, b⟩ := h
    exact ⟨p, a, Same.seq e b⟩
def Sg (H : Hp) (σ : L2.St) (δ : List Sl) : Prop := σ.length = δ.length ∧ ∀ (i : Nat) (s : Sl), δ[i]? = some s → s ≠ .any → ∃ v, σ[i]? = some (some v) ∧ SlOk H v s
theorem Sg.mono {H H' : Hp} {σ : L2.St} {δ : List Sl} (e : Same H H') (h : Sg H σ δ) : Sg H' σ δ := ⟨h.1, fun i s a b => by
  obtain ⟨v, p, q⟩ := h.2 i s a b
  exact ⟨v, p, q.mono e⟩⟩
theorem Sg.set {H : Hp} {σ : L2.St} {δ : List Sl} {v : V} {s : Sl} (h : Sg H σ δ) (i : Nat) (r : SlOk H v s) : Sg H (σ.set i (some v)) (δ.set i s) := by
  refine ⟨by rw [List.length_set, List.length_set]; exact h.1, fun j t a b => ?_⟩
  by_cases hj : i = j
  · subst hj
    by_cases hl : i < δ.length
    · rw [List.getElem?_set_self hl] at a
      cases a
      exact ⟨v, by rw [List.getElem?_set_self (by rw [h.1]; exact hl)], r⟩
    · rw [List.getElem?_eq_none (by rw [List.length_set]; omega)] at a; cases a
  · rw [List.getElem?_set_ne hj] at a ⊢
    exact h.2 j t a b
theorem Sg.get {H : Hp} {σ : L2.St} {δ : List Sl} {i : Nat} {d : PyData} (h : Sg H σ δ) (e : δ[i]? = some (.dat d)) : ∃ v, σ[i]? = some (some v) ∧ Dq H v d := h.2 i _ e (fun z => by cases z)
theorem Sg.getA {H : Hp} {σ : L2.St} {δ : List Sl} {i : Nat} {p : Addr} (h : Sg H σ δ) (e : δ[i]? = some (.adr p)) : σ[i]? = some (some (.ref p)) := by
  obtain ⟨v, a, b⟩ := h.2 i _ e (fun z => by cases z)
  rw [a]; rw [show v = .ref p from b]
/-- less is known -/
theorem Sg.weak {H : Hp} {σ : L2.St} {δ δ' : List Sl} (h : Sg H σ δ) (hl : δ'.length = δ.length) (hw : ∀ (i : Nat) (s : Sl), δ'[i]? = some s → s = Sl.any ∨ δ[i]? = some s) : Sg H σ δ' := ⟨by rw [h.1, hl], fun i s a b => by
  rcases hw i s a with e | e
  · exact absurd e b
  · exact h.2 i s e b⟩

def Jar (n : Nat) (H : Hp) (p : Addr) : Prop := ∃ x y z : Int, H p = some (.lst [.int x, .int y, .int z]) ∧ 0 ≤ y ∧ y < 2 ^ 140 ∧ 0 ≤ z ∧ z + n ≤ 1000000000
theorem Jar.mono {n m : Nat} {H : Hp} {p : Addr} (h : Jar n H p) (l : m ≤ n) : Jar m H p := by
  obtain ⟨x, y, z, a, b, c, d, e⟩ := h
  exact ⟨x, y, z, a, b, c, d, by omega⟩
theorem Jar.ne {n : Nat} {H : Hp} {p : Addr} (h : Jar n H p) : H p ≠ none := by
  obtain ⟨x, y, z, a, _⟩ := h
  rw [a]; exact fun z => by cases z
theorem Jar.same {n : Nat} {H H' : Hp} {p : Addr} (h : Jar n H p) (e : ∀ o, H p = some o → H' p = some o) : Jar n H' p := by
  obtain ⟨x, y, z, a, r⟩ := h
  exact ⟨x, y, z, e _ a, r⟩

structure Gr (q : Option Addr) (H H1 Hk H2 : Hp) : Prop where
  k : Same H Hk
  a : Same Hk H2
  s : ∀ b o, q ≠ some b → H1 b = some o → H2 b = some o
  f : ∀ b, H b = none → H1 b ≠ none → Hk b = none
  t : ∀ b, H1 b ≠ none → H2 b ≠ none
theorem Gr.refl {q : Option Addr} {H H1 : Hp} (e : Same H H1) : Gr q H H1 H H1 := ⟨Same.refl H, e, fun _ _ _ h => h, fun _ h _ => h, fun _ h => h⟩
theorem Gr.trans {q : Option Addr} {H H1 Hk H2 Hk' H3 : Hp} (x : Gr q H H1 Hk H2) (y : Gr q Hk H2 Hk' H3) : Gr q H H1 Hk' H3 :=
  ⟨x.k.trans y.k, y.a, fun b o n h => y.s b o n (x.s b o n h), fun b h h1 => y.f b (x.f b h h1) (x.t b h1), fun b h => y.t b (x.t b h)⟩
theorem Gr.none_to {q : Option Addr} {H H1 Hk H2 : Hp} (x : Gr none H H1 Hk H2) : Gr q H H1 Hk H2 := ⟨x.k, x.a, fun b o _ h => x.s b o (fun z => by cases z) h, x.f, x.t⟩
/-- a new object, known at once -/
theorem Gr.new {q : Option Addr} {H H1 : Hp} {p : Addr} {o : HO} (e : Same H H1) (h : H1 p = none) : Gr q H H1 (upd H p o) (upd H1 p o) := by
  have hn : H p = none := e.free h
  refine ⟨same_upd hn, e.upd2, fun b u _ q => by rw [upd_ne (ne_of_none q h)]; exact q, fun b q z => ?_, fun b z => ?_⟩
  · rw [upd_ne (fun w => z (by rw [w]; exact h))]; exact q
  · rw [upd_ne (fun w => z (by rw [w]; exact h))]; exact z
/-- a new object, not known -/
theorem Gr.cell {q : Option Addr} {H H1 : Hp} {p : Addr} {o : HO} (e : Same H H1) (h : H1 p = none) : Gr q H H1 H (upd H1 p o) := by
  have hn : H p = none := e.free h
  refine ⟨Same.refl H, e.out hn, fun b u _ q => by rw [upd_ne (ne_of_none q h)]; exact q, fun b q z => q, fun b z => ?_⟩
  rw [upd_ne (fun w => z (by rw [w]; exact h))]; exact z
/-- a cell of ours changes -/
theorem Gr.put {q : Option Addr} {H H1 Hk H2 : Hp} {p : Addr} {o : HO} (x : Gr q H H1 Hk H2) (h : H1 p = none) (hk : Hk p = none) : Gr q H H1 Hk (upd H2 p o) := by
  refine ⟨x.k, x.a.out hk, fun b u n z => ?_, x.f, fun b z => ?_⟩
  · rw [upd_ne (ne_of_none z h)]; exact x.s b u n z
  · rw [upd_ne (fun w => z (by rw [w]; exact h))]; exact x.t b z
/-- a cell of ours becomes known -/
theorem Gr.freeze {q : Option Addr} {H H1 Hk H2 : Hp} {p : Addr} {o : HO} (x : Gr q H H1 Hk H2) (h : H1 p = none) (hk : Hk p = none) (e : H2 p = some o) : Gr q H H1 (upd Hk p o) H2 := by
  refine ⟨x.k.trans (same_upd hk), fun b u z => ?_, x.s, fun b z w => ?_, x.t⟩
  · by_cases hb : b = p
    · subst hb; rw [upd_same] at z; rw [← z]; exact e
    · rw [upd_ne hb] at z; exact x.a b u z
  · rw [upd_ne (fun v => w (by rw [v]; exact h))]; exact x.f b z w

structure Ok (q : Option Addr) (n : Nat) (H H1 : Hp) : Prop where
  a : Same H H1
  kf : ∀ p, q = some p → H p = none
  j : ∀ p, q = some p → Jar n H1 p
theorem Ok.mono {q : Option Addr} {n m : Nat} {H H1 : Hp} (h : Ok q n H H1) (l : m ≤ n) : Ok q m H H1 := ⟨h.a, h.kf, fun p e => (h.j p e).mono l⟩
/-- behind a step that leaves the jar -/
theorem Ok.go {q : Option Addr} {n : Nat} {H H1 Hk H2 : Hp} (h : Ok q n H H1) (g : Gr none H H1 Hk H2) : Ok q n Hk H2 :=
  ⟨g.a, fun p e => g.f p (h.kf p e) (h.j p e).ne, fun p e => (h.j p e).same fun o z => g.s p o (fun w => by cases w) z⟩
theorem Ok.cell {q : Option Addr} {n : Nat} {H H1 : Hp} {p : Addr} {o : HO} (h : Ok q n H H1) (hk : H p = none) (hq : q ≠ some p) : Ok q n H (upd H1 p o) :=
  ⟨h.a.out hk, h.kf, fun r e => (h.j r e).same fun u z => by rw [upd_ne (fun w => hq (by rw [← w]; exact e))]; exact z⟩

/-- the state of a def that runs: from its entry (A0, B0) -/
structure At (q : Option Addr) (n : Nat) (δ : List Sl) (A0 B0 : Hp) (σ : L2.St) (Hk H1 : Hp) : Prop where
  ok : Ok q n Hk H1
  sg : Sg Hk σ δ
  gr : Gr q A0 B0 Hk H1
theorem At.go {q : Option Addr} {n m : Nat} {δ δ' : List Sl} {A0 B0 : Hp} {σ σ' : L2.St} {Hk H1 Hk' H2 : Hp} (s : At q n δ A0 B0 σ Hk H1) (g : Gr q Hk H1 Hk' H2) (o : Ok q m Hk' H2) (sg : Sg Hk' σ' δ') : At q m δ' A0 B0 σ' Hk' H2 := ⟨o, sg, s.gr.trans g⟩
theorem At.mono {q : Option Addr} {n m : Nat} {δ : List Sl} {A0 B0 : Hp} {σ : L2.St} {Hk H1 : Hp} (s : At q n δ A0 B0 σ Hk H1) (l : m ≤ n) : At q m δ A0 B0 σ Hk H1 := ⟨s.ok.mono l, s.sg, s.gr⟩
theorem At.weak {q : Option Addr} {n : Nat} {δ δ' : List Sl} {A0 B0 : Hp} {σ : L2.St} {Hk H1 : Hp} (s : At q n δ A0 B0 σ Hk H1) (hl : δ'.length = δ.length) (hw : ∀ (i : Nat) (s : Sl), δ'[i]? = some s → s = Sl.any ∨ δ[i]? = some s) : At q n δ' A0 B0 σ Hk H1 := ⟨s.ok, s.sg.weak hl hw, s.gr⟩

/-! ### judgements -/
def J (q : Option Addr) (δ : List Sl) (te : TE) (c : Nat) (Φ : PyData → Prop) : Prop :=
  ∀ (σ : L2.St) (H H1 : Hp) (n : Nat), Sg H σ δ → Ok q (n + c) H H1 → ∀ Q : VK, (∀ d v Hk H2, Gr q H H1 Hk H2 → Ok q n Hk H2 → Φ d → Dq Hk v d → Q v H2) → te σ H1 Q
abbrev E (q : Option Addr) (δ : List Sl) (te : TE) (d : PyData) : Prop := J q δ te 0 (fun x => x = d)
def TJ (q : Option Addr) (δ : List Sl) (tt : TT) (c : Nat) (Φ : Bool → Prop) : Prop :=
  ∀ (σ : L2.St) (H H1 : Hp) (n : Nat), Sg H σ δ → Ok q (n + c) H H1 → ∀ Q : Bool → Hp → Prop, (∀ b Hk H2, Gr q H H1 Hk H2 → Ok q n Hk H2 → Φ b → Q b H2) → tt σ H1 Q
abbrev TB (q : Option Addr) (δ : List Sl) (tt : TT) (b : Bool) : Prop := TJ q δ tt 0 (fun x => x = b)
def VS (H : Hp) (vs : List V) (sls : List Sl) : Prop := vs.length = sls.length ∧ ∀ (i : Nat) (s : Sl), sls[i]? = some s → ∃ v, vs[i]? = some v ∧ SlOk H v s
theorem VS.mono {H H' : Hp} {vs : List V} {sls : List Sl} (e : Same H H') (h : VS H vs sls) : VS H' vs sls := ⟨h.1, fun i s a => by
  obtain ⟨v, p, q⟩ := h.2 i s a
  exact ⟨v, p, q.mono e⟩⟩
theorem VS.nil {H : Hp} : VS H [] [] := ⟨rfl, fun i s e => by simp at e⟩
theorem VS.cons {H : Hp} {v : V} {vs : List V} {s : Sl} {sls : List Sl} (h : SlOk H v s) (t : VS H vs sls) : VS H (v :: vs) (s :: sls) := ⟨by rw [List.length_cons, List.length_cons, t.1], fun i u e => by
  cases i with
  | zero => simp at e; subst e; exact ⟨v, rfl, h⟩
  | succ i => obtain ⟨w, a, b⟩ := t.2 i u (by simpa using e); exact ⟨w, by simpa using a, b⟩⟩
theorem VS.dats {H : Hp} : ∀ {vs : List V} {ds : List PyData}, VS H vs (ds.map Sl.dat) → DqAll H vs ds
  | [], [], _ => .nil
  | [], _ :: _, h => by have := h.1; simp at this
  | _ :: _, [], h => by have := h.1; simp at this
  | v :: vs, d :: ds, h => by
    obtain ⟨w, a, b⟩ := h.2 0 (.dat d) rfl
    have e : v = w := by simpa using a
    subst e
    exact .cons b (VS.dats (ds := ds) ⟨by have := h.1; simpa using this, fun i s e => by
      obtain ⟨x, p, q⟩ := h.2 (i + 1) s (by simpa using e)
      exact ⟨x, by simpa using p, q⟩⟩)
def AJ (q : Option Addr) (δ : List Sl) (ta : TA) (c : Nat) (Φ : List Sl → Prop) : Prop :=
  ∀ (σ : L2.St) (H H1 : Hp) (n : Nat), Sg H σ δ → Ok q (n + c) H H1 → ∀ Q : List V → Hp → Prop, (∀ sls vs Hk H2, Gr q H H1 Hk H2 → Ok q n Hk H2 → Φ sls → VS Hk vs sls → Q vs H2) → ta σ H1 Q
abbrev AE (q : Option Addr) (δ : List Sl) (ta : TA) (sls : List Sl) : Prop := AJ q δ ta 0 (fun x => x = sls)

section
variable {K : PySem.W.Frag} {q : Option Addr} {δ : List Sl} {te ta tb tc : TE} {tt tu : TT} {c c1 c2 c3 : Nat} {Φ Φ1 Φ2 Φ3 : PyData → Prop} {d d1 d2 : PyData}

theorem J.imp (h : J q δ te c Φ) (i : ∀ d, Φ d → Φ1 d) : J q δ te c Φ1 := fun σ H H1 n sg o Q k => h σ H H1 n sg o Q fun d v Hk H2 g o' p r => k d v Hk H2 g o' (i d p) r
theorem J.cost (h : J q δ te c Φ) (l : c ≤ c1) : J q δ te c1 Φ := fun σ H H1 n sg o Q k => h σ H H1 n sg (o.mono (by omega)) Q k
theorem J.to (h : J q δ te c Φ) (l : c ≤ c1) (i : ∀ d, Φ d → Φ1 d) : J q δ te c1 Φ1 := (h.cost l).imp i
theorem TJ.imp {Φ Φ1 : Bool → Prop} (h : TJ q δ tt c Φ) (i : ∀ d, Φ d → Φ1 d) : TJ q δ tt c Φ1 := fun σ H H1 n sg o Q k => h σ H H1 n sg o Q fun d Hk H2 g o' p => k d Hk H2 g o' (i d p)
theorem TJ.cost {Φ : Bool → Prop} (h : TJ q δ tt c Φ) (l : c ≤ c1) : TJ q δ tt c1 Φ := fun σ H H1 n sg o Q k => h σ H H1 n sg (o.mono (by omega)) Q k
theorem AJ.cost {ta : TA} {Φ : List Sl → Prop} (h : AJ q δ ta c Φ) (l : c ≤ c1) : AJ q δ ta c1 Φ := fun σ H H1 n sg o Q k => h σ H H1 n sg (o.mono (by omega)) Q k
theorem AJ.imp {ta : TA} {Φ Φ1 : List Sl → Prop} (h : AJ q δ ta c Φ) (i : ∀ d, Φ d → Φ1 d) : AJ q δ ta c Φ1 := fun σ H H1 n sg o Q k => h σ H H1 n sg o Q fun d v Hk H2 g o' p r => k d v Hk H2 g o' (i d p) r
theorem e_is (h : E q δ te d) (e : d = d1) : E q δ te d1 := by rw [← e]; exact h
theorem tb_is {a b : Bool} (h : TB q δ tt a) (e : a = b) : TB q δ tt b := by rw [← e]; exact h

/-! names and constants -/
theorem e_var {i : Nat} (e : δ[i]? = some (.dat d)) : E q δ (tVar i) d := fun σ H H1 n sg o Q k => by
  obtain ⟨v, a, b⟩ := sg.get e
  exact ⟨v, a, k d v H H1 (Gr.refl o.a) o rfl b⟩
theorem e_c {v : V} (h : ∀ H, Dq H v d) : E q δ (tC v) d := fun σ H H1 n sg o Q k => k d v H H1 (Gr.refl o.a) o rfl (h H)
theorem e_int {i : Int} : E q δ (tC (.int i)) (.int i) := e_c fun _ => .int i
theorem e_bl {i : Bool} : E q δ (tC (.bl i)) (.bool i) := e_c fun _ => .bl i
theorem e_non : E q δ (tC .non) .none := e_c fun _ => .non
theorem e_str {x : Str} : E q δ (tC (.str x)) (.str x) := e_c fun _ => .str x

/-! operators -/
def RJ (r : R2) (a b : PyData) (Φ : PyData → Prop) : Prop := ∀ (x y : V) (H H1 : Hp), Dq H x a → Dq H y b → Same H H1 → ∀ Q : VK, (∀ d v Hk H2, Gr none H H1 Hk H2 → Φ d → Dq Hk v d → Q v H2) → r x y H1 Q
theorem j_op {r : R2} (ha : J q δ ta c1 Φ1) (hb : J q δ tb c2 Φ2) (hr : ∀ a b, Φ1 a → Φ2 b → RJ r a b Φ) : J q δ (tOp r ta tb) (c2 + c1) Φ := fun σ H H1 n sg o Q k =>
  ha σ H H1 (n + c2) sg (by rw [Nat.add_assoc]; exact o) _ fun a x Hk H2 g o1 pa da => hb σ Hk H2 n (sg.mono g.k) o1 _ fun b y Hk' H3 g' o2 pb db =>
    hr a b pa pb x y Hk' H3 (Dq.mono g'.k _ _ da) db g'.a _ fun d v Hk2 H4 g2 p r => k d v Hk2 H4 ((g.trans g').trans g2.none_to) (o2.go g2) p r
theorem e_op {r : R2} (ha : E q δ ta d1) (hb : E q δ tb d2) (hr : RJ r d1 d2 Φ) : J q δ (tOp r ta tb) 0 Φ := j_op ha hb fun a b pa pb => by subst pa; subst pb; exact hr
/-- scalars -/
def vd : V → PyData
  | .bl b => .bool b
  | .int i => .int i
  | .str x => .str x
  | _ => .none
def sc : V → Bool
  | .bl _ => true
  | .int _ => true
  | .str _ => true
  | .non => true
  | _ => false
theorem sc_dq {H : Hp} : ∀ {v : V}, sc v = true → Dq H v (vd v)
  | .bl b, _ => .bl b
  | .int i, _ => .int i
  | .str x, _ => .str x
  | .non, _ => .non
  | .byt _, h => nomatch h
  | .flt _, h => nomatch h
  | .ref _, h => nomatch h
  | .ty _, h => nomatch h
theorem rj_I0 {g : Int → Int → V} {i j : Int} (hs : sc (g i j) = true) (hp : Φ (vd (g i j))) : RJ (rI0 g) (.int i) (.int j) Φ := fun x y H H1 hx hy e Q k => by
  rw [hx.intOf, hy.intOf]
  exact ⟨i, j, rfl, rfl, k _ _ H H1 (Gr.refl e) hp (sc_dq hs)⟩
theorem rj_I {C : Int → Int → Prop} {g : Int → Int → V} {i j : Int} (hc : C i j) (hs : sc (g i j) = true) (hp : Φ (vd (g i j))) : RJ (rI C g) (.int i) (.int j) Φ := fun x y H H1 hx hy e Q k => by
  rw [hx.intOf, hy.intOf]
  exact ⟨i, j, rfl, rfl, hc, k _ _ H H1 (Gr.refl e) hp (sc_dq hs)⟩
theorem e_I0 {g : Int → Int → V} {i j : Int} (ha : E q δ ta (.int i)) (hb : E q δ tb (.int j)) (hs : sc (g i j) = true := by rfl) : E q δ (tOp (rI0 g) ta tb) (vd (g i j)) := e_op ha hb (rj_I0 hs rfl)
theorem e_I {C : Int → Int → Prop} {g : Int → Int → V} {i j : Int} (ha : E q δ ta (.int i)) (hb : E q δ tb (.int j)) (hc : C i j) (hs : sc (g i j) = true := by rfl) : E q δ (tOp (rI C g) ta tb) (vd (g i j)) := e_op ha hb (rj_I hc hs rfl)
/-- ints that are not told -/
abbrev IntP (P : Int → Prop) : PyData → Prop := fun d => ∃ i, P i ∧ d = .int i
theorem j_I0 {P1 P2 : Int → Prop} {g : Int → Int → V} (ha : J q δ ta c1 (IntP P1)) (hb : J q δ tb c2 (IntP P2)) (hp : ∀ i j, P1 i → P2 j → Φ (vd (g i j))) (hs : ∀ i j, sc (g i j) = true := by intro _ _; rfl) : J q δ (tOp (rI0 g) ta tb) (c2 + c1) Φ :=
  j_op ha hb fun a b ⟨i, pi, ea⟩ ⟨j, pj, eb⟩ => by subst ea; subst eb; exact rj_I0 (hs i j) (hp i j pi pj)
theorem E.intP {i : Int} (h : E q δ te (.int i)) : J q δ te 0 (IntP (fun x => x = i)) := h.imp fun d e => ⟨i, rfl, e⟩
/-- == and != of data -/
theorem e_eqD (ha : E q δ ta d1) (hb : E q δ tb d2) (s1 : SeqAt.shaped d1 = true) (s2 : SeqAt.shaped d2 = true) : E q δ (tOp (rEqD K) ta tb) (.bool (PyData.eqv d1 d2)) := e_op ha hb fun x y H H1 hx hy e Q k =>
  ⟨d1, d2, Dq.dp K _ _ (no_dict s1) (Dq.mono e _ _ hx), Dq.dp K _ _ (no_dict s2) (Dq.mono e _ _ hy), s1, s2, k _ _ H H1 (Gr.refl e) rfl (.bl _)⟩
theorem e_neD (ha : E q δ ta d1) (hb : E q δ tb d2) (s1 : SeqAt.shaped d1 = true) (s2 : SeqAt.shaped d2 = true) : E q δ (tOp (rNeD K) ta tb) (.bool (!PyData.eqv d1 d2)) := e_op ha hb fun x y H H1 hx hy e Q k =>
  ⟨d1, d2, Dq.dp K _ _ (no_dict s1) (Dq.mono e _ _ hx), Dq.dp K _ _ (no_dict s2) (Dq.mono e _ _ hy), s1, s2, k _ _ H H1 (Gr.refl e) rfl (.bl _)⟩
/-- items -/
theorem dq_atI {H : Hp} {vs : List V} {ds : List PyData} {i : Int} {d : PyData} (h : DqAll H vs ds) (e : atI ds i = some d) : ∃ v, atI vs i = some v ∧ Dq H v d := by
  unfold atI at e ⊢
  rw [h.length]
  cases hx : ixN ds.length i with
  | none => rw [hx] at e; cases e
  | some j =>
    rw [hx] at e
    obtain ⟨v, a, b⟩ := h.get (i := j) (d := d) e
    exact ⟨v, a, b⟩
theorem rj_ixT {ds : List PyData} {i : Int} (e : atI ds i = some d) (hp : Φ d) : RJ (rIxT K) (.tuple ds) (.int i) Φ := fun x y H H1 hx hy e1 Q k => by
  obtain ⟨a, xs, rfl, h1, h2⟩ := hx.tupOf
  obtain ⟨v, hv, dv⟩ := dq_atI h2 e
  rw [hy.intOf]
  exact ⟨a, xs, i, v, rfl, rfl, .inl (h1.mono e1).rd, hv, k d v H H1 (Gr.refl e1) hp dv⟩
theorem rj_ixL {ds : List PyData} {i : Int} (e : atI ds i = some d) (hp : Φ d) : RJ (rIxL K) (.list ds) (.int i) Φ := fun x y H H1 hx hy e1 Q k => by
  obtain ⟨a, xs, rfl, h1, h2⟩ := hx.lstOf
  obtain ⟨v, hv, dv⟩ := dq_atI h2 e
  rw [hy.intOf]
  exact ⟨a, xs, i, v, rfl, rfl, .inl (.inl (e1 _ _ h1)), hv, k d v H H1 (Gr.refl e1) hp dv⟩
/-- a + b of lists -/
theorem rj_cat {ds es : List PyData} (hl : ds.length + es.length ≤ 1000000) (hp : Φ (.list (ds ++ es))) : RJ rCat (.list ds) (.list es) Φ := fun x y H H1 hx hy e1 Q k => by
  obtain ⟨a, xs, rfl, h1, h2⟩ := hx.lstOf
  obtain ⟨b, ys, rfl, g1, g2⟩ := hy.lstOf
  refine ⟨a, b, xs, ys, rfl, rfl, e1 _ _ h1, e1 _ _ g1, Nat.le_trans (by rw [h2.length, g2.length]; exact hl) (by rw [sizeLine_eq]; decide), fun p hn => ?_⟩
  have g := Gr.new (q := none) (o := .lst (xs ++ ys)) e1 hn
  exact k _ _ _ _ g hp (.lst upd_same (DqAll.mono g.k _ _ (h2.append g2)))
/-! tests -/
abbrev BoolP (P : Bool → Prop) : PyData → Prop := fun d => ∃ b, P b ∧ d = .bool b
theorem tj_test {Φ : Bool → Prop} (h : J q δ te c (BoolP Φ)) : TJ q δ (tTest te) c Φ := fun σ H H1 n sg o Q k => h σ H H1 n sg o _ fun d v Hk H2 g o1 ⟨b, pb, e⟩ dv => by
  subst e
  exact ⟨b, dv.blOf, k b Hk H2 g o1 pb⟩
theorem tj_B {Φ : Bool → Prop} (h : J q δ te c (BoolP Φ)) : TJ q δ (tB te) c Φ := fun σ H H1 n sg o Q k => h σ H H1 n sg o _ fun d v Hk H2 g o1 ⟨b, pb, e⟩ dv => by
  subst e
  exact ⟨b, dv.blOf, k b Hk H2 g o1 pb⟩
theorem E.boolP {b : Bool} (h : E q δ te (.bool b)) : J q δ te 0 (BoolP (fun x => x = b)) := h.imp fun d e => ⟨b, rfl, e⟩
theorem tb_test {b : Bool} (h : E q δ te (.bool b)) : TB q δ (tTest te) b := tj_test h.boolP
theorem tb_B {b : Bool} (h : E q δ te (.bool b)) : TB q δ (tB te) b := tj_B h.boolP
theorem tb_and {a b : Bool} (h1 : TB q δ tt a) (h2 : a = true → TB q δ tu b) : TB q δ (tAnd tt tu) (a && b) := fun σ H H1 n sg o Q k => h1 σ H H1 n sg o _ fun x Hk H2 g o1 e => by
  subst e
  cases x with
  | true => exact iteT (h2 rfl σ Hk H2 n (sg.mono g.k) o1 _ fun b Hk' H3 g' o2 e => k _ Hk' H3 (g.trans g') o2 (by rw [e, Bool.true_and]))
  | false => exact iteF (k _ Hk H2 g o1 (by rw [Bool.false_and]))
theorem tb_or {a b : Bool} (h1 : TB q δ tt a) (h2 : a = false → TB q δ tu b) : TB q δ (tOr tt tu) (a || b) := fun σ H H1 n sg o Q k => h1 σ H H1 n sg o _ fun x Hk H2 g o1 e => by
  subst e
  cases x with
  | true => exact iteT (k _ Hk H2 g o1 (by rw [Bool.true_or]))
  | false => exact iteF (h2 rfl σ Hk H2 n (sg.mono g.k) o1 _ fun b Hk' H3 g' o2 e => k _ Hk' H3 (g.trans g') o2 (by rw [e, Bool.false_or]))
theorem tb_not {a : Bool} (h1 : TB q δ tt a) : TB q δ (tNot tt) (!a) := fun σ H H1 n sg o Q k => h1 σ H H1 n sg o _ fun x Hk H2 g o1 e => k _ Hk H2 g o1 (by rw [e])
theorem tb_yes : TB q δ tYes true := fun σ H H1 n sg o Q k => k true H H1 (Gr.refl o.a) o rfl
theorem e_andV {a b : Bool} (h1 : E q δ ta (.bool a)) (h2 : a = true → E q δ tb (.bool b)) : E q δ (tAndV ta tb) (.bool (a && b)) := fun σ H H1 n sg o Q k => h1 σ H H1 n sg o _ fun x v Hk H2 g o1 e dv => by
  subst e
  refine ⟨a, dv.blOf, ?_⟩
  cases a with
  | true => exact iteT (h2 rfl σ Hk H2 n (sg.mono g.k) o1 _ fun b Hv Hk' H3 g' o2 e dv' => k _ Hv Hk' H3 (g.trans g') o2 (by rw [e, Bool.true_and]) dv')
  | false => exact iteF (k (.bool false) _ Hk H2 g o1 (by rw [Bool.false_and]) (.bl false))
theorem e_notV {a : Bool} (h1 : E q δ ta (.bool a)) : E q δ (tNotV ta) (.bool (!a)) := fun σ H H1 n sg o Q k => h1 σ H H1 n sg o _ fun x v Hk H2 g o1 e dv => by
  subst e
  exact ⟨a, dv.blOf, k (.bool (!a)) _ Hk H2 g o1 rfl (.bl _)⟩
theorem e_if {b : Bool} (h : TB q δ tt b) (h1 : b = true → E q δ ta d) (h2 : b = false → E q δ tb d) : E q δ (tIf tt ta tb) d := fun σ H H1 n sg o Q k => h σ H H1 n sg o _ fun x Hk H2 g o1 e => by
  subst e
  cases x with
  | true => exact iteT (h1 rfl σ Hk H2 n (sg.mono g.k) o1 _ fun b Hv Hk' H3 g' o2 e dv' => k _ Hv Hk' H3 (g.trans g') o2 e dv')
  | false => exact iteF (h2 rfl σ Hk H2 n (sg.mono g.k) o1 _ fun b Hv Hk' H3 g' o2 e dv' => k _ Hv Hk' H3 (g.trans g') o2 e dv')
theorem j_if {P : Bool → Prop} (h : TJ q δ tt c P) (h1 : P true → J q δ ta c1 Φ) (h2 : P false → J q δ tb c1 Φ) : J q δ (tIf tt ta tb) (c1 + c) Φ := fun σ H H1 n sg o Q k => h σ H H1 (n + c1) sg (by rw [Nat.add_assoc]; exact o) _ fun x Hk H2 g o1 e => by
  cases x with
  | true => exact iteT (h1 e σ Hk H2 n (sg.mono g.k) o1 _ fun b Hv Hk' H3 g' o2 e dv' => k _ Hv Hk' H3 (g.trans g') o2 e dv')
  | false => exact iteF (h2 e σ Hk H2 n (sg.mono g.k) o1 _ fun b Hv Hk' H3 g' o2 e dv' => k _ Hv Hk' H3 (g.trans g') o2 e dv')

/-! arguments, displays -/
theorem ae_nil : AE q δ tNil [] := fun σ H H1 n sg o Q k => k [] [] H H1 (Gr.refl o.a) o rfl VS.nil
theorem aj_cons {tr : TA} {Φr Φ' : List Sl → Prop} (h : J q δ te c1 Φ1) (hr : AJ q δ tr c2 Φr) (hp : ∀ d sls, Φ1 d → Φr sls → Φ' (.dat d :: sls)) : AJ q δ (tCons te tr) (c2 + c1) Φ' := fun σ H H1 n sg o Q k =>
  h σ H H1 (n + c2) sg (by rw [Nat.add_assoc]; exact o) _ fun d v Hk H2 g o1 p dv => hr σ Hk H2 n (sg.mono g.k) o1 _ fun sls vs Hk' H3 g' o2 pr hv => k _ _ Hk' H3 (g.trans g') o2 (hp d sls p pr) (VS.cons (Dq.mono g'.k _ _ dv) hv)
theorem ae_cons {tr : TA} {sls : List Sl} (h : E q δ te d) (hr : AE q δ tr sls) : AE q δ (tCons te tr) (.dat d :: sls) := aj_cons h hr fun _ _ a b => by rw [a, b]
/-- an address handed on -/
theorem aj_adr {tr : TA} {Φr Φ' : List Sl → Prop} {i : Nat} {p : Addr} (e : δ[i]? = some (.adr p)) (hr : AJ q δ tr c2 Φr) (hp : ∀ sls, Φr sls → Φ' (.adr p :: sls)) : AJ q δ (tCons (tVar i) tr) c2 Φ' := fun σ H H1 n sg o Q k =>
  ⟨.ref p, sg.getA e, hr σ H H1 n sg o _ fun sls vs Hk' H3 g' o2 pr hv => k _ _ Hk' H3 g' o2 (hp sls pr) (VS.cons rfl hv)⟩
theorem ae_adr {tr : TA} {sls : List Sl} {i : Nat} {p : Addr} (e : δ[i]? = some (.adr p)) (hr : AE q δ tr sls) : AE q δ (tCons (tVar i) tr) (.adr p :: sls) := aj_adr e hr fun _ b => by rw [b]
theorem AE.to {ta : TA} {sls : List Sl} {Φ : List Sl → Prop} (h : AE q δ ta sls) (p : Φ sls) : AJ q δ ta 0 Φ := h.imp fun _ e => by rw [e]; exact p
theorem j_tup {ta : TA} {Ψ : List PyData → Prop} (h : AJ q δ ta c (fun sls => ∃ ds : List PyData, sls = ds.map Sl.dat ∧ ds.length ≤ 1000000 ∧ Ψ ds)) : J q δ (tTup ta) c (fun d => ∃ ds, Ψ ds ∧ d = .tuple ds) := fun σ H H1 n sg o Q k =>
  h σ H H1 n sg o _ fun sls vs Hk H2 g o1 ⟨ds, e, hl, p⟩ hv => by
    subst e
    have hd := hv.dats
    refine ⟨Nat.le_trans (by rw [hd.length]; exact hl) (by rw [sizeLine_eq]; decide), fun a ob od hn => ?_⟩
    have g1 := Gr.new (q := none) (o := .frz ob (.tup vs)) g.a hn
    exact k _ _ _ _ (g.trans g1.none_to) (o1.go g1) ⟨ds, p, rfl⟩ (.tup (Tp.new od) (DqAll.mono g1.k _ _ hd))
theorem j_lst {ta : TA} {Ψ : List PyData → Prop} (h : AJ q δ ta c (fun sls => ∃ ds : List PyData, sls = ds.map Sl.dat ∧ ds.length ≤ 1000000 ∧ Ψ ds)) : J q δ (tLst ta) c (fun d => ∃ ds, Ψ ds ∧ d = .list ds) := fun σ H H1 n sg o Q k =>
  h σ H H1 n sg o _ fun sls vs Hk H2 g o1 ⟨ds, e, hl, p⟩ hv => by
    subst e
    have hd := hv.dats
    refine ⟨Nat.le_trans (by rw [hd.length]; exact hl) (by rw [sizeLine_eq]; decide), fun a hn => ?_⟩
    have g1 := Gr.new (q := none) (o := .lst vs) g.a hn
    exact k _ _ _ _ (g.trans g1.none_to) (o1.go g1) ⟨ds, p, rfl⟩ (.lst upd_same (DqAll.mono g1.k _ _ hd))
theorem e_tup {ta : TA} {ds : List PyData} (h : AE q δ ta (ds.map Sl.dat)) (hl : ds.length ≤ 1000000 := by simp) : E q δ (tTup ta) (.tuple ds) := (j_tup (Ψ := fun x => x = ds) (h.to ⟨ds, rfl, hl, rfl⟩)).imp fun d ⟨x, a, b⟩ => by rw [b, a]
theorem e_lst {ta : TA} {ds : List PyData} (h : AE q δ ta (ds.map Sl.dat)) (hl : ds.length ≤ 1000000 := by simp) : E q δ (tLst ta) (.list ds) := (j_lst (Ψ := fun x => x = ds) (h.to ⟨ds, rfl, hl, rfl⟩)).imp fun d ⟨x, a, b⟩ => by rw [b, a]

/-! calls of defs -/
abbrev RelX := Option Addr → List Sl → Nat → (PyData → Prop) → Prop
def spX (R : RelX) : Sp := fun vs H Q _ => ∃ (q : Option Addr) (Hk : Hp) (sls : List Sl) (n c : Nat) (Φ : PyData → Prop), Ok q (n + c) Hk H ∧ VS Hk vs sls ∧ R q sls c Φ ∧
  ∀ d v Hk' H2, Gr q Hk H Hk' H2 → Ok q n Hk' H2 → Φ d → Dq Hk' v d → Q v H2
theorem j_call {R : RelX} {E : XK} {ta : TA} {Φa : List Sl → Prop} (ha : AJ q δ ta c1 Φa) (hr : ∀ sls, Φa sls → R q sls c Φ) : J q δ (tCall (spX R) [] E ta) (c + c1) Φ := fun σ H H1 n sg o Q k =>
  ha σ H H1 (n + c) sg (by rw [Nat.add_assoc]; exact o) _ fun sls vs Hk H2 g o1 p hv => by
    show spX R (vs ++ []) H2 Q E
    rw [List.append_nil]
    exact ⟨q, Hk, sls, n, c, Φ, o1, hv, hr sls p, fun d v Hk' H3 g' o2 pd dv => k d v Hk' H3 (g.trans g') o2 pd dv⟩
theorem j_callD {R : RelX} {E : XK} {ta : TA} {Φa : List Sl → Prop} (ha : AJ q δ ta c1 Φa) (hr : ∀ sls, Φa sls → ∃ Φ', R q sls c Φ' ∧ ∀ d, Φ' d → Φ d) : J q δ (tCall (spX R) [] E ta) (c + c1) Φ := fun σ H H1 n sg o Q k =>
  ha σ H H1 (n + c) sg (by rw [Nat.add_assoc]; exact o) _ fun sls vs Hk H2 g o1 p hv => by
    show spX R (vs ++ []) H2 Q E
    rw [List.append_nil]
    obtain ⟨Φ', r, i⟩ := hr sls p
    exact ⟨q, Hk, sls, n, c, Φ', o1, hv, r, fun d v Hk' H3 g' o2 pd dv => k d v Hk' H3 (g.trans g') o2 (i d pd) dv⟩
end
end Cr

set_option Elab.async false
set_option linter.all false
set_option maxRecDepth 100000
set_option maxHeartbeats 4000000
/-! ### rules that the layer lacks -/
namespace L2
open PySem PySem.Spec PyProof.Rows
section
variable {X : Cx}
def CPowW (i j : Int) : Prop := 0 ≤ j ∧ (Builtin.Int.intBits i : Int) * j ≤ 2 ^ 27
theorem op_powW : OpR X (binaryOp .Pow) (rI CPowW fun i j => .int (i ^ j.toNat)) := opI fun _ _ _ _ _ _ _ hc q => pow_int hc.1 hc.2 q
theorem pow_ok {i j : Int} {a : Nat} (ha : i.natAbs < 2 ^ a) (h0 : 0 < a) (hj : 0 ≤ j) (h : (a : Int) * j ≤ 2 ^ 27) : CPowW i j := by
  refine ⟨hj, ?_⟩
  have x := PySem.Flt.log2_lt_of h0 ha
  have b : (Builtin.Int.intBits i : Int) ≤ a := by
    unfold Builtin.Int.intBits
    split <;> omega
  exact Int.le_trans (Int.mul_le_mul_of_nonneg_right b hj) h
/-- f(k = v, ..) -/
theorem pe_callK0 {CX : CXT} {k : Nat} {f : Addr} {fd : FuncData} {ps ks : List Str} {sp : Sp} {E : XK} {x : Str} {p pos : Pos} {kws : List Keyword} {tk : TA} {g : List Value → List Value → List Value} {gV : List V → List V → List V}
    (F : FnOk X.prog X.w X.K X.mg X.base CX k f fd ps sp) (hr : Room k X.A) (hg : Gl X x) (hm : X.mg x = some (.ref f)) (hk : PySem.W.keepIn X.K (.ref f) = true) (hb : KBinds X.K fd ps ks g gV) (hx : Passes CX X E)
    (hkw : PK X kws tk) (hall : (backToKw pos (keywordEach kws X.env)).all (·.1.isSome) = true := by rfl) (hks : (backToKw pos (keywordEach kws X.env)).filterMap (·.1) = ks := by rfl)
    (hdb : (x == ("__debug__" : Str)) = false := by decide)
    (hpl : ((backTo pos (starEach [] X.env)).any (·.1) || (backToKw pos (keywordEach kws X.env)).any (·.1.isNone)) = false := by rfl) :
    PE X (.Call (.Name x p) [] kws pos) (tCallK sp gV E tNil tk) := by
  refine ⟨fun pins s σ H Q I h => ?_⟩
  refine wpAny_Call_Name_kw (ld_glob I hg hm ?_ hdb)
  refine PySem.W.callWith_KW0 (h₀ := X.base) I.ok.mod.kin hk hall (thn (hkw.run pos pins s σ H _ I h) fun ws s2 ⟨zs, H2, I2, rz, q2⟩ => ⟨I2.kIn, ?_⟩) hpl
  rw [hks]
  exact run_fnk F hr hb hx I2 .nil rz q2
end
end L2
namespace Cr
open PySem PySem.Spec PyProof.Rows L2
section
variable {X : Cx}
/-! tuples that are laid: known to have no dict of their own -/
def LaidT (H : Hp) (xs : List V) (Q : VK) : Prop := ∀ (p : Addr) (o : Obj), o.dict = none → H p = none → Q (.ref p) (upd H p (.frz o (.tup xs)))
theorem laidT {pins : List (Addr × Obj)} {σ : L2.St} {H : Hp} {s : Shared} {xs : List V} {us : List Value} {Q : VK} {k : Nat} (I : Inv X pins σ H s) (r : Vals xs us) (hz : xs.length ≤ sizeLine) (q : LaidT H xs Q) :
    EP X pins σ Q (.ref s.heap.objs.size) { s with heap := s.heap.push { cls := .type "tuple", data := .seq us.toArray k } } := by
  have eq : (s.heap.push { cls := .type "tuple", data := .seq us.toArray k }).get? s.heap.objs.size = some { cls := .type "tuple", data := .seq us.toArray k } := Heap.get?_push_size _ rfl
  refine ⟨.ref s.heap.objs.size, _, I.laid (t' := s.toks) (o := .frz { cls := .type "tuple", data := .seq us.toArray k } (.tup xs)) (fun b u e => Heap.get?_push_of_some _ e) (Nat.le_refl _) ?_, rfl, q _ _ rfl (I.hok.fresh (Nat.le_refl _))⟩
  exact ⟨eq, hz, us, r, _, eq, rfl, _, rfl⟩
def rCatA (K : PySem.W.Frag) : R2 := fun x y H Q => ∃ a b xs ys, x = .ref a ∧ y = .ref b ∧ SqT K H a xs ∧ SqT K H b ys ∧ xs.length + ys.length ≤ sizeLine ∧
  (xs = [] → Q (.ref b) H) ∧ (xs ≠ [] → ys = [] → Q (.ref a) H) ∧ (xs ≠ [] → ys ≠ [] → LaidT H (xs ++ ys) Q)
theorem op_catA : OpR X (binaryOp .Add) (rCatA X.K) := by
  intro pins s σ H x y v u Q I rx ry h
  obtain ⟨a, b, xs, ys, rfl, rfl, ha, hb, hz, q0, q1, q2⟩ := h
  cases rx
  cases ry
  obtain ⟨us, r1, p1, _⟩ := I.tuple ha
  obtain ⟨ws, r2, p2, _⟩ := I.tuple hb
  by_cases hx : xs = []
  · subst hx
    cases r1
    exact cat_tup0 p1 p2 ⟨.ref b, H, I, rfl, q0 rfl⟩
  · have le : us.length + ws.length ≤ sizeLine := by rw [← r1.length, ← r2.length]; exact hz
    refine HT.cat_tup p1 p2 (fun z => hx (r1.nil_iff.mp z)) (fun z => ⟨.ref a, H, I, rfl, q1 hx (r2.nil_iff.mp z)⟩) (fun z => ?_) le
    exact laidT I (r1.append r2) (by rw [List.length_append]; exact hz) (q2 hx fun w => z (r2.nil_iff.mpr w))
def rSlA (K : PySem.W.Frag) : V → Option Int → Option Int → Hp → VK → Prop := fun x lo hi H Q => ∃ a xs, x = .ref a ∧ SqT K H a xs ∧
  (HT.sIx xs.length 0 lo = 0 ∧ HT.sIx xs.length xs.length hi = xs.length → Q (.ref a) H) ∧ (¬ (HT.sIx xs.length 0 lo = 0 ∧ HT.sIx xs.length xs.length hi = xs.length) → LaidT H (cutV xs lo hi) Q)
theorem sl_tupA : SlR X (rSlA X.K) := by
  intro pins s σ H x v vl vu lo hi sl Q I rx hs pl pu h
  obtain ⟨a, xs, rfl, hx, q1, q2⟩ := h
  cases rx
  obtain ⟨us, r, ht, hz⟩ := I.tuple hx
  have le : us.toArray.size = xs.length := by rw [List.size_toArray]; exact r.length.symm
  refine ⟨"tuple", _, PyProof.Rows.slot_tuple_getitem.lookup, ht.typeIs, ?_⟩
  by_cases hw : HT.sIx xs.length 0 lo = 0 ∧ HT.sIx xs.length xs.length hi = xs.length
  · exact getItem_tuple_whole ht hs pl pu (by rw [le]; exact hw) ⟨.ref a, H, I, rfl, q1 hw⟩
  · refine HT.getItem_tuple_cut ht hs pl pu (by rw [le]; exact hw) ?_ (by rw [le]; exact hz)
    rw [le]
    exact laidT I ((r.drop (HT.sIx xs.length 0 lo)).take (HT.sIx xs.length xs.length hi - HT.sIx xs.length 0 lo)) (Nat.le_trans (cutV_length xs lo hi) hz) (q2 hw)
/-- tuple(xs) -/
def rTupQ (K : PySem.W.Frag) : List V → Hp → VK → Prop := fun xs H Q => ∃ p ys, xs = [.ref p] ∧ ((SqL K H p ys ∧ LaidT H ys Q) ∨ (SqT K H p ys ∧ Q (.ref p) H))
theorem call_tupQ : CallR X (.type "tuple") (rTupQ X.K) := by
  intro pins s σ H xs us Q I r h
  obtain ⟨p, ys, rfl, h⟩ := h
  obtain ⟨u, rfl, rx⟩ := vals1 r
  cases rx
  rcases h with ⟨hq, q⟩ | ⟨hq, q⟩
  · obtain ⟨ws, r', pl, hz⟩ := I.list hq
    have le := r'.length
    refine call_tuple_list pl.isList (fun h' kp => ?_) (by simp only [List.size_toArray] <;> omega)
    have I1 : Inv X pins σ H { s with heap := h' } := I.kept (t' := s.toks) kp
    exact laidT I1 r' hz q
  · obtain ⟨ws, r', pl, hz⟩ := I.tuple hq
    exact call_tuple_same pl ⟨.ref p, H, I, rfl, q⟩
end
end Cr
namespace L2
open PySem PySem.Spec PyProof.Rows
section
variable {X : Cx}
/-- + of ints, lists, tuples -/
def rAddU (K : PySem.W.Frag) : R2 := fun x y H Q => rI0 (fun i j => .int (i + j)) x y H Q ∨ rCat x y H Q ∨ Cr.rCatA K x y H Q
theorem op_addU : OpR X (binaryOp .Add) (rAddU X.K) := by
  intro pins s σ H x y v u Q I rx ry h
  rcases h with h | h | h
  · exact op_add pins s σ H x y v u Q I rx ry h
  · exact op_cat pins s σ H x y v u Q I rx ry h
  · exact Cr.op_catA pins s σ H x y v u Q I rx ry h
/-- * of ints (great ones), a list times an int -/
def rMulU : R2 := fun x y H Q => rI CMulW (fun i j => .int (i * j)) x y H Q ∨ rRep x y H Q
theorem op_mulU : OpR X (binaryOp .Mult) rMulU := by
  intro pins s σ H x y v u Q I rx ry h
  rcases h with h | h
  · exact op_mulW pins s σ H x y v u Q I rx ry h
  · exact op_rep pins s σ H x y v u Q I rx ry h
/-- slices of lists and tuples -/
def rSlU (K : PySem.W.Frag) : V → Option Int → Option Int → Hp → VK → Prop := fun x lo hi H Q => rSlL K x lo hi H Q ∨ Cr.rSlA K x lo hi H Q
theorem sl_U : SlR X (rSlU X.K) := by
  intro pins s σ H x v vl vu lo hi sl Q I rx hs pl pu h
  rcases h with h | h
  · exact sl_list pins s σ H x v vl vu lo hi sl Q I rx hs pl pu h
  · exact Cr.sl_tupA pins s σ H x v vl vu lo hi sl Q I rx hs pl pu h
/-- isinstance, both kinds -/
def rIsiU (K : PySem.W.Frag) : List V → Hp → VK → Prop := fun xs H Q => rIsi K xs H Q ∨ rIsiT K xs H Q
theorem call_isiU : CallR X (.builtin "isinstance") (rIsiU X.K) := by
  intro pins s σ H xs us Q I r h
  rcases h with h | h
  · exact call_isi pins s σ H xs us Q I r h
  · exact call_isiT pins s σ H xs us Q I r h
/-- sorted(d), the keys ints, any number of them; sorted(xs) of ints -/
def rSrtDI : List V → Hp → VK → Prop := fun xs H Q => ∃ (a : Addr) (kvs : List (Key × V)) (ks : List Int), xs = [.ref a] ∧ Rd H a (.dK kvs) ∧ kvs.map (·.1) = ks.map Sum.inl ∧
    ∀ (ys : List Int) (p : Addr), ys.Perm ks → ys.Pairwise (· ≤ ·) → H p = none → Q (.ref p) (upd H p (.lst (ys.map V.int)))
/-- the keys that the dict hands out, as ints -/
theorem srt_keys {ks : List Int} {kvs : List (Key × Value)} {out : Array Value} (hk : kvs.map Prod.fst = ks.map Sum.inl) (hn : out.size = kvs.length)
    (hg : ∀ (j : Nat) (v : Value), out[j]? = some v → ∃ (k : Key) (x : Value), kvs[j]? = some (k, x) ∧ keyIs k v = true) : IntsAre out.toList ks := by
  have n1 : kvs.length = ks.length := by simpa using congrArg List.length hk
  refine ints_each (by simp [hn, n1]) ?_
  intro j v hv
  obtain ⟨k, x, h1, h2⟩ := hg j v (by simpa using hv)
  have h3 : (ks.map Sum.inl : List Key)[j]? = some k := by rw [← hk]; simp [h1]
  rw [List.getElem?_map] at h3
  obtain ⟨y, h4, rfl⟩ := Option.map_eq_some_iff.mp h3
  obtain ⟨t, rfl⟩ := Value.isInt_shape (show Value.isInt y v = true from h2)
  exact ⟨y, t, h4, rfl⟩
set_option maxHeartbeats 8000000 in
theorem call_sortedDIa (hcalm : X.calm = true) : CallR X (.builtin "sorted") rSrtDI := by
  rintro pins s σ H _ us Q I r ⟨a, kvs, ks, rfl, hd, hks, q⟩
  obtain ⟨_, rfl, ⟨⟩⟩ := vals1 r
  obtain ⟨z, lo, vs, rel, ⟨ep, hat⟩⟩ : kvs.length ≤ sizeLine ∧ (a == sysModules) = false ∧ ∃ vs, KV kvs vs ∧ ∃ ep, s.heap.DictAt (mixKind X.prog X.w) a vs ep :=
    let ⟨z, lo, vs, rel, dd⟩ := dk_rd I.hok hd; ⟨z, lo, vs, rel, dd.dictAt⟩
  have hm : vs.map Prod.fst = ks.map Sum.inl := Eq.trans (Eq.symm rel.keys) hks
  have hn : vs.length = ks.length := by simpa using congrArg List.length hm
  have hsz : vs.length ≤ sizeLine := by have e := Paired.length rel; omega
  refine Calls.call_function_entry kind_sorted plain_sorted entry_sorted (args_sorted1 _) (show wpAny _ _ (Builtin.«sorted» _) _ _ _ from ?_)
  rw [Builtin.«sorted»]
  refine wpAny_bind (wpAny_pure (wpAny_bind (PySem.W.kdu_collect (PySem.W.kdl_dict lo) (I.ok.hd hcalm) hat hsz ?_)))
  rintro h1 t1 out keep ⟨g1, g2⟩
  have hI : IntsAre out.toList ks := srt_keys hm g1 fun j v e => let ⟨k, x, p1, p2⟩ := g2 j v e; ⟨k, x, p1, p2⟩
  have ho : out.toList.length ≤ sizeLine := by simp [g1]; exact hsz
  have J1 : Inv X pins σ H { s with heap := h1, toks := t1 } := I.kept keep
  have new : (h1.push (seqObj "list" out.toList.toArray 0)).get? h1.objs.size = some (seqObj "list" out.toList.toArray 0) := Heap.get?_push_size _ rfl
  refine wpAny_bind (wpAny_newList (show wpAny _ _ _ _ _ { s with heap := h1.push (seqObj "list" out.toList.toArray 0), toks := t1 } from ?_) ho)
  refine wpAny_bind (wpAny_holding (wpAny_call_entry slot_list_sort ⟨_, new, rfl⟩ entry_list_sort ?_ (args_list_sort _)))
  refine SrtO.list_sort_ord SrtO.swo_int new ho (fun h => SrtO.ints_sortable hI h) fun o2 a1 a2 => ⟨_, rfl, ?_⟩
  obtain ⟨b1, b2, b3⟩ := SrtO.ints_out hI a1 a2
  obtain ⟨e2, he2⟩ := sortedHeap_at (out := o2.toArray) new
  have hl : ((o2.map SrtO.iv).map V.int).length ≤ sizeLine := by rw [List.length_map, b2.length_eq]; omega
  have laid : ObjOk X.prog X.w (upd H h1.objs.size (.lst ((o2.map SrtO.iv).map V.int))) (sortedHeap (h1.push (seqObj "list" out.toList.toArray 0)) h1.objs.size out.toList o2.toArray) h1.objs.size (.lst ((o2.map SrtO.iv).map V.int)) :=
    ⟨hl, o2, e2, vals_of_ints b1, he2⟩
  refine wpAny_pure ⟨_, rfl, .ref h1.objs.size, _, J1.laid (t' := t1) ?_ (Nat.le_refl _) laid, rfl, q _ _ b2 b3 (J1.hok.fresh (Nat.le_refl _))⟩
  intro b u hb
  have lt : b < h1.objs.size := Heap.lt_size hb
  exact (sortedHeap_old (Nat.ne_of_lt lt) (Nat.lt_trans lt (by rw [size_push']; exact Nat.lt_succ_self _))).trans (Heap.get?_push_of_some _ hb)
end
end L2

set_option Elab.async false
set_option linter.all false
set_option maxRecDepth 100000
set_option maxHeartbeats 4000000
namespace Cr
open PySem PySem.Spec PyProof.Rows L2

section
variable {K : PySem.W.Frag} {q : Option Addr} {δ δ' : List Sl} {te ta tb tc : TE} {tt tu : TT} {c c1 c2 c3 : Nat} {Φ Φ1 Φ2 Φ3 : PyData → Prop} {d d1 d2 : PyData}

/-! ### the wide operators -/
theorem RJ.to {r r' : R2} {a b : PyData} (h : RJ r a b Φ) (e : ∀ x y H Q, r x y H Q → r' x y H Q) : RJ r' a b Φ := fun x y H H1 hx hy s Q k => e _ _ _ _ (h x y H H1 hx hy s Q k)
theorem rj_addI {i j : Int} (hp : Φ (.int (i + j))) : RJ (rAddU K) (.int i) (.int j) Φ := (rj_I0 (g := fun i j => .int (i + j)) rfl hp).to fun _ _ _ _ h => .inl h
theorem e_addI {i j : Int} (ha : E q δ ta (.int i)) (hb : E q δ tb (.int j)) : E q δ (tOp (rAddU K) ta tb) (.int (i + j)) := e_op ha hb (rj_addI rfl)
theorem e_catL {ds es : List PyData} (ha : E q δ ta (.list ds)) (hb : E q δ tb (.list es)) (hl : ds.length + es.length ≤ 1000000) : E q δ (tOp (rAddU K) ta tb) (.list (ds ++ es)) := e_op ha hb (RJ.to (rj_cat (Φ := fun x => x = .list (ds ++ es)) hl rfl) fun _ _ _ _ h => .inr (.inl h))
theorem rj_catT {ds es : List PyData} (hl : ds.length + es.length ≤ 1000000) (hp : Φ (.tuple (ds ++ es))) : RJ (rCatA K) (.tuple ds) (.tuple es) Φ := fun x y H H1 hx hy e1 Q k => by
  obtain ⟨a, xs, rfl, h1, h2⟩ := hx.tupOf
  obtain ⟨b, ys, rfl, g1, g2⟩ := hy.tupOf
  refine ⟨a, b, xs, ys, rfl, rfl, .inl (h1.mono e1).rd, .inl (g1.mono e1).rd, Nat.le_trans (by rw [h2.length, g2.length]; exact hl) (by rw [sizeLine_eq]; decide), fun e => ?_, fun _ e => ?_, fun _ _ p ob od hn => ?_⟩
  · subst e
    have e2 : ds = [] := List.length_eq_zero_iff.mp h2.length.symm
    subst e2
    exact k _ _ H H1 (Gr.refl e1) hp hy
  · subst e
    have e2 : es = [] := List.length_eq_zero_iff.mp g2.length.symm
    subst e2
    rw [List.append_nil] at hp
    exact k _ _ H H1 (Gr.refl e1) hp hx
  · have g := Gr.new (q := none) (o := .frz ob (.tup (xs ++ ys))) e1 hn
    exact k _ _ _ _ g hp (.tup (Tp.new od) (DqAll.mono g.k _ _ (h2.append g2)))
theorem e_catT {ds es : List PyData} (ha : E q δ ta (.tuple ds)) (hb : E q δ tb (.tuple es)) (hl : ds.length + es.length ≤ 1000000) : E q δ (tOp (rAddU K) ta tb) (.tuple (ds ++ es)) := e_op ha hb (RJ.to (rj_catT (Φ := fun x => x = .tuple (ds ++ es)) hl rfl) fun _ _ _ _ h => .inr (.inr h))
theorem rj_mulI {i j : Int} (hc : CMulW i j) (hp : Φ (.int (i * j))) : RJ rMulU (.int i) (.int j) Φ := (rj_I (g := fun i j => .int (i * j)) hc rfl hp).to fun _ _ _ _ h => .inl h
theorem e_mulI {i j : Int} (ha : E q δ ta (.int i)) (hb : E q δ tb (.int j)) (hc : CMulW i j) : E q δ (tOp rMulU ta tb) (.int (i * j)) := e_op ha hb (rj_mulI hc rfl)
theorem e_subI {i j : Int} (ha : E q δ ta (.int i)) (hb : E q δ tb (.int j)) : E q δ (tOp (rI0 fun i j => .int (i - j)) ta tb) (.int (i - j)) := e_I0 ha hb
theorem j_subI {P1 P2 : Int → Prop} (ha : J q δ ta c1 (IntP P1)) (hb : J q δ tb c2 (IntP P2)) (hp : ∀ i j, P1 i → P2 j → Φ (.int (i - j))) : J q δ (tOp (rI0 fun i j => .int (i - j)) ta tb) (c2 + c1) Φ := j_I0 ha hb hp
theorem e_ltI {i j : Int} (ha : E q δ ta (.int i)) (hb : E q δ tb (.int j)) : E q δ (tOp (rI0 fun i j => .bl (decide (i < j))) ta tb) (.bool (decide (i < j))) := e_I0 ha hb
theorem e_gtI {i j : Int} (ha : E q δ ta (.int i)) (hb : E q δ tb (.int j)) : E q δ (tOp (rI0 fun i j => .bl (decide (j < i))) ta tb) (.bool (decide (j < i))) := e_I0 ha hb
theorem e_geI {i j : Int} (ha : E q δ ta (.int i)) (hb : E q δ tb (.int j)) : E q δ (tOp (rI0 fun i j => .bl (decide (j ≤ i))) ta tb) (.bool (decide (j ≤ i))) := e_I0 ha hb
theorem e_mod {i j : Int} (ha : E q δ ta (.int i)) (hb : E q δ tb (.int j)) (hc : j ≠ 0) : E q δ (tOp (rI (fun _ j => j ≠ 0) fun i j => .int (i.fmod j)) ta tb) (.int (i.fmod j)) := e_I ha hb hc
theorem e_fdiv {i j : Int} (ha : E q δ ta (.int i)) (hb : E q δ tb (.int j)) (hc : CDivW i j) : E q δ (tOp (rI CDivW fun i j => .int (i / j)) ta tb) (.int (i / j)) := e_I ha hb hc
theorem e_pow {i j : Int} (ha : E q δ ta (.int i)) (hb : E q δ tb (.int j)) (hc : CPowW i j) : E q δ (tOp (rI CPowW fun i j => .int (i ^ j.toNat)) ta tb) (.int (i ^ j.toNat)) := e_I ha hb hc
theorem e_eqDI {i j : Int} (ha : E q δ ta (.int i)) (hb : E q δ tb (.int j)) : E q δ (tOp (rEqD K) ta tb) (.bool (i == j)) := e_eqD ha hb rfl rfl
theorem e_neDI {i j : Int} (ha : E q δ ta (.int i)) (hb : E q δ tb (.int j)) : E q δ (tOp (rNeD K) ta tb) (.bool (!(i == j))) := e_neD ha hb rfl rfl
theorem e_eqDB {i j : Bool} (ha : E q δ ta (.bool i)) (hb : E q δ tb (.bool j)) : E q δ (tOp (rEqD K) ta tb) (.bool (i == j)) := e_eqD ha hb rfl rfl
theorem e_neDB {i j : Bool} (ha : E q δ ta (.bool i)) (hb : E q δ tb (.bool j)) : E q δ (tOp (rNeD K) ta tb) (.bool (!(i == j))) := e_neD ha hb rfl rfl
/-- subscripts -/
theorem e_iT {ds : List PyData} {i : Int} (ha : E q δ ta (.tuple ds)) (hb : E q δ tb (.int i)) (e : atI ds i = some d) : E q δ (tOp (rIx K) ta tb) d := e_op ha hb (RJ.to (rj_ixT (Φ := fun x => x = d) e rfl) fun _ _ _ _ h => .inr (.inl h))
theorem e_iL {ds : List PyData} {i : Int} (ha : E q δ ta (.list ds)) (hb : E q δ tb (.int i)) (e : atI ds i = some d) : E q δ (tOp (rIx K) ta tb) d := e_op ha hb (RJ.to (rj_ixL (Φ := fun x => x = d) e rfl) fun _ _ _ _ h => .inl h)
theorem j_iL {P : Int → Prop} {Ψ : List PyData → Prop} (ha : J q δ ta c1 (fun d => ∃ ds, Ψ ds ∧ d = .list ds)) (hb : J q δ tb c2 (IntP P)) (e : ∀ ds i, Ψ ds → P i → ∃ d, atI ds i = some d ∧ Φ d) : J q δ (tOp (rIx K) ta tb) (c2 + c1) Φ :=
  j_op ha hb fun a b ⟨ds, pi, ea⟩ ⟨j, pj, eb⟩ => by
    subst ea; subst eb
    obtain ⟨d, h1, h2⟩ := e ds j pi pj
    exact (rj_ixL h1 h2).to fun _ _ _ _ h => .inl h
/-! ### built-in calls -/
def RCJ (r : List V → Hp → VK → Prop) (ds : List PyData) (Φ : PyData → Prop) : Prop := ∀ (vs : List V) (H H1 : Hp), DqAll H vs ds → Same H H1 → ∀ Q : VK, (∀ d v Hk H2, Gr none H H1 Hk H2 → Φ d → Dq Hk v d → Q v H2) → r vs H1 Q
theorem j_cb {r : List V → Hp → VK → Prop} {ta : TA} {Ψ : List PyData → Prop} (h : AJ q δ ta c (fun sls => ∃ ds : List PyData, sls = ds.map Sl.dat ∧ Ψ ds)) (hr : ∀ ds, Ψ ds → RCJ r ds Φ) : J q δ (tCB r ta) c Φ := fun σ H H1 n sg o Q k =>
  h σ H H1 n sg o _ fun sls vs Hk H2 g o1 ⟨ds, e, p⟩ hv => by
    subst e
    exact hr ds p vs Hk H2 hv.dats g.a Q fun d v Hk' H3 g' pd dv => k d v Hk' H3 (g.trans g'.none_to) (o1.go g') pd dv
theorem e_cb {r : List V → Hp → VK → Prop} {ta : TA} {ds : List PyData} (h : AE q δ ta (ds.map Sl.dat)) (hr : RCJ r ds (fun x => x = d)) : E q δ (tCB r ta) d := j_cb (Ψ := fun x => x = ds) (h.to ⟨ds, rfl, rfl⟩) fun _ e => by rw [e]; exact hr
theorem e_cb1 {r : List V → Hp → VK → Prop} {te : TE} (h : E q δ te d1) (hr : RCJ r [d1] (fun x => x = d)) : E q δ (tCB r (tCons te tNil)) d := e_cb (ds := [d1]) (ae_cons h ae_nil) hr
theorem DqAll.one {H : Hp} {vs : List V} {d : PyData} (h : DqAll H vs [d]) : ∃ v, vs = [v] ∧ Dq H v d := by
  cases h with
  | cons h1 h2 => cases h2; exact ⟨_, rfl, h1⟩
theorem DqAll.two {H : Hp} {vs : List V} {d e : PyData} (h : DqAll H vs [d, e]) : ∃ v w, vs = [v, w] ∧ Dq H v d ∧ Dq H w e := by
  cases h with
  | cons h1 h2 =>
    obtain ⟨w, rfl, h3⟩ := h2.one
    exact ⟨_, w, rfl, h1, h3⟩
/-- len -/
def rLenQ (K : PySem.W.Frag) : List V → Hp → VK → Prop := fun xs H Q => ∃ p ys, xs = [.ref p] ∧ (SqL K H p ys ∨ SqT K H p ys) ∧ Q (.int ys.length) H
theorem call_lenQ {X : Cx} : CallR X (.builtin "len") (rLenQ X.K) := call_len_seq
theorem rc_lenL {ds : List PyData} (hp : Φ (.int ds.length)) : RCJ (rLenQ K) [.list ds] Φ := fun vs H H1 h e Q k => by
  obtain ⟨v, rfl, h1⟩ := h.one
  obtain ⟨a, xs, rfl, h2, h3⟩ := h1.lstOf
  refine ⟨a, xs, rfl, .inl (.inl (.inl (e _ _ h2))), ?_⟩
  rw [h3.length]
  exact k _ _ H H1 (Gr.refl e) hp (.int _)
theorem rc_lenT {ds : List PyData} (hp : Φ (.int ds.length)) : RCJ (rLenQ K) [.tuple ds] Φ := fun vs H H1 h e Q k => by
  obtain ⟨v, rfl, h1⟩ := h.one
  obtain ⟨a, xs, rfl, h2, h3⟩ := h1.tupOf
  refine ⟨a, xs, rfl, .inr (.inl (h2.mono e).rd), ?_⟩
  rw [h3.length]
  exact k _ _ H H1 (Gr.refl e) hp (.int _)
theorem e_lenL {ds : List PyData} (h : E q δ te (.list ds)) : E q δ (tCB (rLenQ K) (tCons te tNil)) (.int ds.length) := e_cb1 h (rc_lenL rfl)
theorem e_lenT {ds : List PyData} (h : E q δ te (.tuple ds)) : E q δ (tCB (rLenQ K) (tCons te tNil)) (.int ds.length) := e_cb1 h (rc_lenT rfl)
theorem rc_all {bs : List Bool} (hp : Φ (.bool (bs.all id))) : RCJ (rAll K) [.list (bs.map .bool)] Φ := fun vs H H1 h e Q k => by
  obtain ⟨v, rfl, h1⟩ := h.one
  obtain ⟨a, xs, rfl, h2, h3⟩ := h1.lstOf
  have e2 := DqAll.bls h3
  subst e2
  exact ⟨a, bs, rfl, .inl (.inl (e _ _ h2)), k _ _ H H1 (Gr.refl e) hp (.bl _)⟩
theorem e_all {bs : List Bool} (h : E q δ te (.list (bs.map .bool))) : E q δ (tCB (rAll K) (tCons te tNil)) (.bool (bs.all id)) := e_cb1 h (rc_all rfl)
/-- abs, max, min, int -/
def rAbsQ : List V → Hp → VK → Prop := fun xs H Q => ∃ i, xs = [.int i] ∧ Q (.int (if i < 0 then -i else i)) H
theorem call_absQ {X : Cx} : CallR X (.builtin "abs") rAbsQ := call_abs
def rMaxQ : List V → Hp → VK → Prop := fun xs H Q => ∃ i j, xs = [.int i, .int j] ∧ Q (.int (if j > i then j else i)) H
theorem call_maxQ {X : Cx} (hc : X.calm = true) : CallR X (.builtin "max") rMaxQ := call_max2 hc
def rMinQ : List V → Hp → VK → Prop := fun xs H Q => ∃ i j, xs = [.int i, .int j] ∧ Q (.int (if j < i then j else i)) H
theorem call_minQ {X : Cx} (hc : X.calm = true) : CallR X (.builtin "min") rMinQ := call_min2 hc
def rIntQ : List V → Hp → VK → Prop := fun xs H Q => (∃ i, xs = [.int i] ∧ Q (.int i) H) ∨ ∃ k, xs = [.bl k] ∧ Q (.int (if k then 1 else 0)) H
theorem call_intQ {X : Cx} : CallR X (.type "int") rIntQ := call_int1
theorem rc_abs {i : Int} (hp : Φ (.int (if i < 0 then -i else i))) : RCJ rAbsQ [.int i] Φ := fun vs H H1 h e Q k => by
  obtain ⟨v, rfl, h1⟩ := h.one
  rw [h1.intOf]
  exact ⟨i, rfl, k _ _ H H1 (Gr.refl e) hp (.int _)⟩
theorem e_abs {i : Int} (h : E q δ te (.int i)) : E q δ (tCB rAbsQ (tCons te tNil)) (.int (if i < 0 then -i else i)) := e_cb1 h (rc_abs rfl)
theorem rc_int {i : Int} (hp : Φ (.int i)) : RCJ rIntQ [.int i] Φ := fun vs H H1 h e Q k => by
  obtain ⟨v, rfl, h1⟩ := h.one
  rw [h1.intOf]
  exact .inl ⟨i, rfl, k _ _ H H1 (Gr.refl e) hp (.int _)⟩
theorem e_intI {i : Int} (h : E q δ te (.int i)) : E q δ (tCB rIntQ (tCons te tNil)) (.int i) := e_cb1 h (rc_int rfl)
theorem e_max {i j : Int} (h : E q δ ta (.int i)) (h2 : E q δ tb (.int j)) : E q δ (tCB rMaxQ (tCons ta (tCons tb tNil))) (.int (if j > i then j else i)) := e_cb (ds := [.int i, .int j]) (ae_cons h (ae_cons h2 ae_nil)) fun vs H H1 h e Q k => by
  obtain ⟨v, w, rfl, h1, h2⟩ := h.two
  rw [h1.intOf, h2.intOf]
  exact ⟨i, j, rfl, k _ _ H H1 (Gr.refl e) rfl (.int _)⟩
theorem e_min {i j : Int} (h : E q δ ta (.int i)) (h2 : E q δ tb (.int j)) : E q δ (tCB rMinQ (tCons ta (tCons tb tNil))) (.int (if j < i then j else i)) := e_cb (ds := [.int i, .int j]) (ae_cons h (ae_cons h2 ae_nil)) fun vs H H1 h e Q k => by
  obtain ⟨v, w, rfl, h1, h2⟩ := h.two
  rw [h1.intOf, h2.intOf]
  exact ⟨i, j, rfl, k _ _ H H1 (Gr.refl e) rfl (.int _)⟩
/-- tuple(xs), list(xs) -/
def rLstQ (K : PySem.W.Frag) : List V → Hp → VK → Prop := fun xs H Q => ∃ p ys, xs = [.ref p] ∧ (SqL K H p ys ∨ SqT K H p ys) ∧ ∀ l, H l = none → Q (.ref l) (upd H l (.lst ys))
theorem call_lstQ {X : Cx} : CallR X (.type "list") (rLstQ X.K) := call_list_of
theorem rc_tupL {ds : List PyData} (hp : Φ (.tuple ds)) : RCJ (rTupQ K) [.list ds] Φ := fun vs H H1 h e Q k => by
  obtain ⟨v, rfl, h1⟩ := h.one
  obtain ⟨a, xs, rfl, h2, h3⟩ := h1.lstOf
  refine ⟨a, xs, rfl, .inl ⟨.inl (.inl (e _ _ h2)), fun l ob od hn => ?_⟩⟩
  have g := Gr.new (q := none) (o := .frz ob (.tup xs)) e hn
  exact k _ _ _ _ g hp (.tup (Tp.new od) (DqAll.mono g.k _ _ h3))
theorem e_tupL {ds : List PyData} (h : E q δ te (.list ds)) : E q δ (tCB (rTupQ K) (tCons te tNil)) (.tuple ds) := e_cb1 h (rc_tupL rfl)
theorem rc_lstT {ds : List PyData} (hp : Φ (.list ds)) : RCJ (rLstQ K) [.tuple ds] Φ := fun vs H H1 h e Q k => by
  obtain ⟨v, rfl, h1⟩ := h.one
  obtain ⟨a, xs, rfl, h2, h3⟩ := h1.tupOf
  refine ⟨a, xs, rfl, .inr (.inl (h2.mono e).rd), fun l hn => ?_⟩
  have g := Gr.new (q := none) (o := .lst xs) e hn
  exact k _ _ _ _ g hp (.lst upd_same (DqAll.mono g.k _ _ h3))
theorem e_lstT {ds : List PyData} (h : E q δ te (.tuple ds)) : E q δ (tCB (rLstQ K) (tCons te tNil)) (.list ds) := e_cb1 h (rc_lstT rfl)
/-! ### isinstance -/
def tyN : PyData → String
  | .none => "NoneType"
  | .bool _ => "bool"
  | .int _ => "int"
  | .str _ => "str"
  | .list _ => "list"
  | .tuple _ => "tuple"
  | .dict _ => "dict"
theorem dq_ty {H : Hp} : ∀ {d : PyData} {v : V}, Dq H v d → TyX K H v (.type (tyN d))
  | .none, _, h => by cases h; exact .base .non
  | .bool b, _, h => by cases h; exact .base (.bl b)
  | .int i, _, h => by cases h; exact .base (.int i)
  | .str x, _, h => by cases h; exact .base (.str x)
  | .list _, _, h => by
    cases h with
    | lst h1 _ => exact .base (.lst h1)
  | .tuple _, _, h => by
    cases h with
    | tup h1 _ =>
      rcases h1 with ⟨o, _, h1⟩ | ⟨_, h1⟩
      · exact .fTuple h1
      · exact .base (.tup h1)
  | .dict _, _, h => by
    cases h with
    | dic h1 => exact .base (.dK h1)
theorem e_isi {n : String} {r : Bool} (h : E q δ te d) (hk : kitB (tyN d) n = some r) : E q δ (tCB (rIsiU K) (tCons te (tCons (tC (.ty n)) tNil))) (.bool r) := fun σ H H1 m sg o Q k =>
  h σ H H1 m sg o _ fun x v Hk H2 g o1 e dv => by
    subst e
    exact .inl ⟨v, .ty n, .type (tyN x), .type n, r, rfl, .ty n, dq_ty (Dq.mono g.a _ _ dv), kit_ty hk, k _ _ Hk H2 g o1 rfl (.bl r)⟩
theorem e_isi2 {n m : String} {r1 r2 : Bool} (h : E q δ te d) (h1 : kitB (tyN d) n = some r1) (h2 : kitB (tyN d) m = some r2) : E q δ (tCB (rIsiU K) (tCons te (tCons (L2.tTup (tCons (tC (.ty n)) (tCons (tC (.ty m)) tNil))) tNil))) (.bool (r1 || r2)) := fun σ H H1 mm sg o Q k =>
  h σ H H1 mm sg o _ fun x v Hk H2 g o1 e dv => by
    subst e
    refine ⟨by show 2 ≤ sizeLine; rw [sizeLine_eq]; decide, fun p hp => ?_⟩
    have g1 := Gr.cell (q := none) (o := .tup [.ty n, .ty m]) g.a hp
    refine .inr ⟨v, p, [.ty n, .ty m], .type (tyN x), [.type n, .type m], r1 || r2, rfl, upd_same, .cons (.ty n) (.cons (.ty m) .nil), dq_ty (Dq.mono g1.a _ _ dv), ?_, k _ _ Hk _ (g.trans g1.none_to) (o1.go g1) rfl (.bl _)⟩
    refine kitAny_cons (b := r1) (kit_ty h1) (fun e => ?_) (fun e => by rw [e, Bool.true_or])
    rw [e, Bool.false_or]
    refine kitAny_cons (b := r2) (kit_ty h2) (fun e => ?_) (fun e => e)
    rw [e]
    exact kitAny_nil

/-! ### slices -/
def TOj (δ : List Sl) (q : Option Addr) (to : TO) (o : Option Int) : Prop := ∀ (σ : L2.St) (H H1 : Hp) (n : Nat), Sg H σ δ → Ok q n H H1 → ∀ Q : Option Int → Hp → Prop, (∀ Hk H2, Gr q H H1 Hk H2 → Ok q n Hk H2 → Q o H2) → to σ H1 Q
theorem to_none : TOj δ q tNoPart none := fun σ H H1 n sg o Q k => k H H1 (Gr.refl o.a) o
theorem to_some {i : Int} (h : E q δ te (.int i)) : TOj δ q (tPart te) (some i) := fun σ H H1 n sg o Q k => h σ H H1 n sg o _ fun d v Hk H2 g o1 e dv => by
  subst e
  exact ⟨i, dv.intOf, k Hk H2 g o1⟩
def cutD (xs : List PyData) (lo hi : Option Int) : List PyData := (xs.drop (HT.sIx xs.length 0 lo)).take (HT.sIx xs.length xs.length hi - HT.sIx xs.length 0 lo)
theorem e_slT {tl th : TO} {lo hi : Option Int} {ds : List PyData} (h : E q δ te (.tuple ds)) (h1 : TOj δ q tl lo) (h2 : TOj δ q th hi) : E q δ (tSl (rSlU K) te tl th) (.tuple (cutD ds lo hi)) := fun σ H H1 n sg o Q k =>
  h σ H H1 n sg o _ fun d v Hk H2 g o1 e dv => h1 σ Hk H2 n (sg.mono g.k) o1 _ fun Hk2 H3 g2 o2 => h2 σ Hk2 H3 n (sg.mono (g.k.trans g2.k)) o2 _ fun Hk3 H4 g3 o3 => by
    subst e
    have dv' := Dq.mono (g2.k.trans g3.k) _ _ dv
    obtain ⟨a, xs, rfl, e1, e2⟩ := dv'.tupOf
    have hl := e2.length
    refine .inr ⟨a, xs, rfl, .inl (e1.mono g3.a).rd, fun hw => ?_, fun hw p ob od hn => ?_⟩
    · have ec : cutD ds lo hi = ds := by
        unfold cutD
        rw [← hl, hw.1, hw.2, List.drop_zero, Nat.sub_zero, hl, List.take_length]
      rw [ec] at k
      exact k _ _ _ _ ((g.trans g2).trans g3) o3 rfl dv'
    · have g4 := Gr.new (q := none) (o := .frz ob (.tup (cutV xs lo hi))) g3.a hn
      refine k _ _ _ _ (((g.trans g2).trans g3).trans g4.none_to) (o3.go g4) rfl (.tup (Tp.new od) (DqAll.mono g4.k _ _ ?_))
      unfold cutV
      rw [hl]
      exact (e2.drop _).take _

/-! ### keyword calls -/
theorem j_callK {R : RelX} {E : XK} {ta tk : TA} {gV : List V → List V → List V} {gS : List Sl → List Sl → List Sl} {Φa Φk : List Sl → Prop} (ha : AJ q δ ta c1 Φa) (hk : AJ q δ tk c2 Φk)
    (hg : ∀ (H : Hp) (vs zs : List V) (ss us : List Sl), VS H vs ss → VS H zs us → Φa ss → Φk us → VS H (gV vs zs) (gS ss us)) (hr : ∀ ss us, Φa ss → Φk us → R q (gS ss us) c Φ) : J q δ (tCallK (spX R) gV E ta tk) (c + c2 + c1) Φ := fun σ H H1 n sg o Q k =>
  ha σ H H1 (n + (c + c2)) sg (by rw [Nat.add_assoc]; exact o) _ fun sls vs Hk H2 g o1 p hv => hk σ Hk H2 (n + c) (sg.mono g.k) (by rw [Nat.add_assoc]; exact o1) _ fun us zs Hk' H3 g' o2 pk hz =>
    ⟨q, Hk', gS sls us, n, c, Φ, o2, hg Hk' vs zs sls us (hv.mono g'.k) hz p pk, hr sls us p pk, fun d v Hk2 H4 g2 o3 pd dv => k d v Hk2 H4 ((g.trans g').trans g2) o3 pd dv⟩
end
end Cr

namespace L2
open PySem PySem.Spec PyProof.Rows L2
/-! ### the rules with the written part named (within a comprehension's block it is the def's) -/
section
variable {X : Cx} {K : PySem.W.Frag}
theorem k_addU (h : X.K = K) : OpR X (binaryOp .Add) (rAddU K) := h ▸ op_addU
theorem k_eqD (h : X.K = K) (hu : X.A.units + 64 < cLine) : OpR X (compareOp .Eq) (rEqD K) := h ▸ op_eqD hu
theorem k_neD (h : X.K = K) (hu : X.A.units + 64 < cLine) : OpR X (compareOp .NotEq) (rNeD K) := h ▸ op_neD hu
theorem k_ix (h : X.K = K) : IxR X (rIx K) := h ▸ ix_seq
theorem k_sl (h : X.K = K) : SlR X (rSlU K) := h ▸ sl_U
theorem k_isi (h : X.K = K) : CallR X (.builtin "isinstance") (rIsiU K) := h ▸ call_isiU
theorem k_len (h : X.K = K) : CallR X (.builtin "len") (Cr.rLenQ K) := h ▸ Cr.call_lenQ
theorem k_all (h : X.K = K) (hc : X.calm = true) : CallR X (.builtin "all") (rAll K) := h ▸ cr_all hc
theorem k_tup (h : X.K = K) : CallR X (.type "tuple") (Cr.rTupQ K) := h ▸ Cr.call_tupQ
theorem k_lst (h : X.K = K) : CallR X (.type "list") (Cr.rLstQ K) := h ▸ Cr.call_lstQ
theorem k_pgTup {es : List Expr} {k : Nat} {pos : Pos} {t : TGs} {n : Nat} (h : X.K = K) (hc : X.calm = true) (hg : PGs X es t) (hn : (assignEach es X.env).length = n := by rfl) (hst : (assignEach es X.env).findIdx? (·.1) = none := by rfl) :
    PG X (.Tuple es k pos) (gTup K n t) := h ▸ pg_tup hc hg hn hst
theorem k_piList {tg l : Expr} {tl : TE} (h : X.K = K) (hl : PE X l tl) : PI X tg l (iList K tl) := h ▸ pi_list hl
theorem k_piTup {tg l : Expr} {tl : TE} (h : X.K = K) (hl : PE X l tl) : PI X tg l (iTup K tl) := h ▸ pi_tup hl
end
end L2

set_option Elab.async false
set_option linter.all false
set_option maxRecDepth 100000
set_option maxHeartbeats 4000000
namespace Cr
open PySem PySem.Spec PyProof.Rows L2

/-! ### what is walked -/
def WalkD (Jt : It) (items : List PyData) (HkW : Hp) : Prop := ∀ (i : Nat) (Hk H : Hp), Same HkW Hk → Same Hk H →
  (i < items.length → Jt.go i H ∧ ∀ v H', Jt.yld i H v H' → ∃ Hk', Gr none Hk H Hk' H' ∧ ∃ d, items[i]? = some d ∧ Dq Hk' v d) ∧ (items.length ≤ i → Jt.stop i H)
def IJ (q : Option Addr) (δ : List Sl) (wi : TI) (c : Nat) (Φ : List PyData → Prop) : Prop :=
  ∀ (σ : L2.St) (H H1 : Hp) (n : Nat), Sg H σ δ → Ok q (n + c) H H1 → ∀ R : It → Hp → Prop, (∀ items Jt Hk H2, Gr q H H1 Hk H2 → Ok q n Hk H2 → Φ items → WalkD Jt items Hk → R Jt H2) → wi σ H1 R
abbrev IE (q : Option Addr) (δ : List Sl) (wi : TI) (items : List PyData) : Prop := IJ q δ wi 0 (fun x => x = items)
section
variable {K : PySem.W.Frag} {q : Option Addr} {δ δ' : List Sl} {te ta tb tc : TE} {tt tu : TT} {c c1 c2 c3 : Nat} {Φ Φ1 Φ2 Φ3 : PyData → Prop} {d d1 d2 : PyData} {wi : TI}
theorem SqL.of1 {H : Hp} {a : Addr} {xs : List V} (h : H a = some (.lst xs)) : SqL K H a xs := .inl (.inl h)
theorem walk_lst {H : Hp} {a : Addr} {xs : List V} {ds : List PyData} (h : H a = some (.lst xs)) (hd : DqAll H xs ds) : WalkD (Itl K a) ds H := fun i Hk H' s1 s2 => by
  have e := s2 _ _ (s1 _ _ h)
  refine ⟨fun hi => ⟨?_, fun v H2 y => ?_⟩, fun hi => ⟨xs, SqL.of1 e, by rw [hd.length]; exact hi⟩⟩
  · exact ⟨xs, xs[i]'(by rw [hd.length]; exact hi), SqL.of1 e, List.getElem?_eq_getElem _⟩
  · obtain ⟨rfl, y2⟩ := y
    have e2 := y2 xs (SqL.of1 e)
    obtain ⟨d, g1, g2⟩ := hd.get' e2
    exact ⟨Hk, Gr.refl s2, d, g1, Dq.mono s1 _ _ g2⟩
theorem walk_tup {H : Hp} {a : Addr} {xs : List V} {ds es : List PyData} (h : Tp H a xs es) (hd : DqAll H xs ds) : WalkD (Itt K a) ds H := fun i Hk H' s1 s2 => by
  have e := ((h.mono s1).mono s2).rd
  refine ⟨fun hi => ⟨?_, fun v H2 y => ?_⟩, fun hi => ⟨xs, .inl e, by rw [hd.length]; exact hi⟩⟩
  · exact ⟨xs, xs[i]'(by rw [hd.length]; exact hi), .inl e, List.getElem?_eq_getElem _⟩
  · obtain ⟨rfl, y2⟩ := y
    have e2 := y2 xs (.inl e)
    obtain ⟨d, g1, g2⟩ := hd.get' e2
    exact ⟨Hk, Gr.refl s2, d, g1, Dq.mono s1 _ _ g2⟩
def rng (lo : Int) (n : Nat) : List PyData := (List.range n).map fun i => .int (lo + (i : Nat))
theorem rng_len (lo : Int) (n : Nat) : (rng lo n).length = n := by unfold rng; rw [List.length_map, List.length_range]
theorem rng_get {lo : Int} {n i : Nat} (h : i < n) : (rng lo n)[i]? = some (.int (lo + (i : Nat))) := by
  unfold rng
  rw [List.getElem?_map, List.getElem?_range h]; rfl
theorem rng_get' {lo : Int} {n i : Nat} {d : PyData} (h : (rng lo n)[i]? = some d) : i < n ∧ d = .int (lo + (i : Nat)) := by
  have hl : i < n := by
    have := (List.getElem?_eq_some_iff.mp h).1
    rw [rng_len] at this; exact this
  rw [rng_get hl] at h
  exact ⟨hl, (Option.some.inj h).symm⟩
theorem walk_rng {H : Hp} {lo : Int} {n : Nat} : WalkD (Itr lo n) (rng lo n) H := fun i Hk H' s1 s2 => by
  rw [rng_len]
  refine ⟨fun hi => ⟨hi, fun v H2 y => ?_⟩, fun hi => hi⟩
  obtain ⟨rfl, rfl⟩ := y
  exact ⟨Hk, Gr.refl s2, _, rng_get hi, .int _⟩
def zipD : List PyData → List PyData → List PyData
  | a :: as, b :: bs => .tuple [a, b] :: zipD as bs
  | _, _ => []
theorem zipD_get : ∀ (as bs : List PyData) (i : Nat) (a b : PyData), as[i]? = some a → bs[i]? = some b → (zipD as bs)[i]? = some (.tuple [a, b])
  | [], _, _, _, _, h, _ => by simp at h
  | _ :: _, [], _, _, _, _, h => by simp at h
  | a :: as, b :: bs, 0, x, y, h1, h2 => by simp at h1 h2; subst h1; subst h2; rfl
  | a :: as, b :: bs, i + 1, x, y, h1, h2 => zipD_get as bs i x y (by simpa using h1) (by simpa using h2)
theorem zipD_len : ∀ (as bs : List PyData), (zipD as bs).length = min as.length bs.length
  | [], bs => by simp [zipD]
  | _ :: _, [] => by simp [zipD]
  | a :: as, b :: bs => by
    show (zipD as bs).length + 1 = _
    rw [zipD_len as bs, List.length_cons, List.length_cons]; omega
theorem ij_lst {Ψ : List PyData → Prop} (h : J q δ te c (fun d => ∃ ds, Ψ ds ∧ d = .list ds)) : IJ q δ (iList K te) c Ψ := fun σ H H1 n sg o R k =>
  h σ H H1 n sg o _ fun d v Hk H2 g o1 ⟨ds, p, e⟩ dv => by
    subst e
    obtain ⟨a, xs, rfl, h1, h2⟩ := dv.lstOf
    exact ⟨a, rfl, ⟨xs, SqL.of1 (g.a _ _ h1)⟩, k ds _ Hk H2 g o1 p (walk_lst h1 h2)⟩
theorem ij_tup {Ψ : List PyData → Prop} (h : J q δ te c (fun d => ∃ ds, Ψ ds ∧ d = .tuple ds)) : IJ q δ (iTup K te) c Ψ := fun σ H H1 n sg o R k =>
  h σ H H1 n sg o _ fun d v Hk H2 g o1 ⟨ds, p, e⟩ dv => by
    subst e
    obtain ⟨a, xs, rfl, h1, h2⟩ := dv.tupOf
    exact ⟨a, rfl, ⟨xs, .inl (h1.mono g.a).rd⟩, k ds _ Hk H2 g o1 p (walk_tup h1 h2)⟩
theorem ie_lst {ds : List PyData} (h : E q δ te (.list ds)) : IE q δ (iList K te) ds := ij_lst (h.imp fun d e => ⟨ds, rfl, e⟩)
theorem ie_tup {ds : List PyData} (h : E q δ te (.tuple ds)) : IE q δ (iTup K te) ds := ij_tup (h.imp fun d e => ⟨ds, rfl, e⟩)
theorem ij_rng1 {P : Int → Prop} {Ψ : List PyData → Prop} (h : J q δ te c (IntP P)) (hp : ∀ j, P j → (-(2 ^ 62) ≤ j ∧ j < 2 ^ 62) ∧ Ψ (rng 0 j.toNat)) : IJ q δ (iRng1 (tCons te tNil)) c Ψ := fun σ H H1 n sg o R k =>
  h σ H H1 n sg o _ fun d v Hk H2 g o1 ⟨j, p, e⟩ dv => by
    subst e
    rw [dv.intOf]
    exact ⟨j, rfl, (hp j p).1.1, (hp j p).1.2, k _ _ Hk H2 g o1 (hp j p).2 walk_rng⟩
theorem ie_rng1 {j : Int} (h : E q δ te (.int j)) (h1 : -(2 ^ 62) ≤ j) (h2 : j < 2 ^ 62) : IE q δ (iRng1 (tCons te tNil)) (rng 0 j.toNat) := ij_rng1 h.intP fun i e => by subst e; exact ⟨⟨h1, h2⟩, rfl⟩
/-! ### targets -/
def GB (δ : List Sl) (g : TG) (d : PyData) (δ' : List Sl) (vs : List Nat) : Prop := ∀ (σ : L2.St) (H H1 : Hp) (v : V), Sg H σ δ → Same H H1 → Dq H v d → ∀ Q : L2.St → Hp → Prop, (∀ σ', Sg H σ' δ' → σ'.length = σ.length → (∀ k, k ∉ vs → σ'[k]? = σ[k]?) → Q σ' H1) → g v σ H1 Q
theorem gb_name {i : Nat} {vs : List Nat} (h : i ∈ vs) : GB δ (gName i) d (δ.set i (.dat d)) vs := fun σ H H1 v sg s dv Q k =>
  k _ (sg.set i (s := .dat d) dv) (List.length_set ..) fun j hj => List.getElem?_set_ne (fun e => hj (by rw [← e]; exact h))
theorem gb_tup2 {i j : Nat} {vs : List Nat} (h : i ∈ vs) (h' : j ∈ vs) : GB δ (gTup K 2 (gCons (gName i) (gCons (gName j) gNil))) (.tuple [d1, d2]) ((δ.set i (.dat d1)).set j (.dat d2)) vs := fun σ H H1 v sg s dv Q k => by
  obtain ⟨a, xs, rfl, h1, h2⟩ := dv.tupOf
  obtain ⟨x, y, rfl, dx, dy⟩ := h2.two
  refine ⟨a, [x, y], rfl, .inl (h1.mono s).rd, rfl, x, [y], rfl, y, [], rfl, rfl, k _ ((sg.set i (s := .dat d1) dx).set j (s := .dat d2) dy) (by rw [List.length_set, List.length_set]) fun l hl => ?_⟩
  rw [List.getElem?_set_ne (fun e => hl (by rw [← e]; exact h')), List.getElem?_set_ne (fun e => hl (by rw [← e]; exact h))]

/-! ### comprehensions -/
def wipeD (δ : List Sl) : List Nat → List Sl
  | [] => δ
  | v :: vs => (wipeD δ vs).set v .any
theorem Sg.wipe {H : Hp} {σ : L2.St} {δ : List Sl} (h : Sg H σ δ) : ∀ vs : List Nat, Sg H (wipe σ vs) (wipeD δ vs)
  | [] => h
  | v :: vs => by
    have ih := Sg.wipe h vs
    refine ⟨by show ((L2.wipe σ vs).set v none).length = ((wipeD δ vs).set v .any).length; rw [List.length_set, List.length_set]; exact ih.1, fun i s a b => ?_⟩
    change ((wipeD δ vs).set v .any)[i]? = some s at a
    change ∃ x, ((L2.wipe σ vs).set v none)[i]? = some (some x) ∧ SlOk H x s
    by_cases hi : v = i
    · subst hi
      by_cases hl : v < (wipeD δ vs).length
      · rw [List.getElem?_set_self hl] at a
        exact absurd (Option.some.inj a).symm b
      · rw [List.getElem?_eq_none (by rw [List.length_set]; omega)] at a; cases a
    · rw [List.getElem?_set_ne hi] at a ⊢
      exact ih.2 i s a b
theorem wipe_get (σ : L2.St) : ∀ (vs : List Nat) (i : Nat), (wipe σ vs)[i]? = if i ∈ vs then (if i < σ.length then some none else none) else σ[i]?
  | [], i => by simp [wipe]
  | v :: vs, i => by
    show ((L2.wipe σ vs).set v none)[i]? = _
    have ih := wipe_get σ vs i
    by_cases hi : v = i
    · subst hi
      rw [if_pos (by simp)]
      by_cases hl : v < σ.length
      · rw [List.getElem?_set_self (by rw [wipe_length]; exact hl), if_pos hl]
      · rw [List.getElem?_eq_none (by rw [List.length_set, wipe_length]; omega), if_neg hl]
    · rw [List.getElem?_set_ne hi, ih]
      have e : (i ∈ v :: vs) ↔ i ∈ vs := by simp [Ne.symm hi]
      by_cases hm : i ∈ vs
      · rw [if_pos hm, if_pos (e.mpr hm)]
      · rw [if_neg hm, if_neg (fun z => hm (e.mp z))]
theorem wipe_eq {σ σ' : L2.St} {vs : List Nat} (hl : σ'.length = σ.length) (h : ∀ k, k ∉ vs → σ'[k]? = (wipe σ vs)[k]?) : wipe σ' vs = wipe σ vs := by
  refine List.ext_getElem? fun i => ?_
  rw [wipe_get, wipe_get]
  by_cases hm : i ∈ vs
  · rw [if_pos hm, if_pos hm, hl]
  · rw [if_neg hm, if_neg hm, h i hm, wipe_get, if_neg hm]
/-- pure elements: b tells which are taken, f what they give; the items told by a list of one's own -/
theorem j_lc {α : Type} {emb : α → PyData} {wi : TI} {g : TG} {vs : List Nat} {Ψ : List α → Prop} (hw : IJ q δ wi c (fun items => ∃ xs, Ψ xs ∧ items = xs.map emb)) (b : α → Bool) (f : α → PyData)
    (hz : ∀ xs, Ψ xs → xs.length ≤ 1000000) (he : ∀ xs, Ψ xs → ∀ x ∈ xs, ∃ δ', GB (wipeD δ vs) g (emb x) δ' vs ∧ TB q δ' tt (b x) ∧ (b x = true → E q δ' te (f x))) :
    J q δ (tLc wi g tt te vs) c (fun r => ∃ xs, Ψ xs ∧ r = .list ((xs.filter b).map f)) := fun σ H H1 n sg o Q k =>
  hw σ H H1 n sg o _ fun items Jt HkW H2 g0 o0 pi wk D hD => by
    obtain ⟨xs, pi, ei⟩ := pi
    have hlen : items.length = xs.length := by rw [ei, List.length_map]
    have hDk : HkW D = none := g0.a.free hD
    have hDq : q ≠ some D := fun e => (o0.j D e).ne hD
    have g1 : Gr q HkW H2 HkW (upd H2 D (.lst [])) := Gr.cell g0.a hD
    refine ⟨fun i m H' => m = items.length - i ∧ i ≤ items.length ∧ ∃ Hk' vs, Gr q HkW H2 Hk' H' ∧ Ok q n Hk' H' ∧ Hk' D = none ∧ H' D = some (.lst vs) ∧ DqAll Hk' vs (((xs.take i).filter b).map f),
      ⟨items.length, by simp, Nat.zero_le _, HkW, [], g1, o0.cell hDk hDq, hDk, upd_same, .nil⟩, ?_⟩
    rintro i m H' ⟨rfl, hi, Hk', ys, gr, ok, hDn, hl, hd⟩
    by_cases hlt : i < items.length
    · obtain ⟨go, yl⟩ := (wk i Hk' H' gr.k ok.a).1 hlt
      refine .inr ⟨go, fun H'' => ∃ Hk3 ys', Gr q HkW H2 Hk3 H'' ∧ Ok q n Hk3 H'' ∧ Hk3 D = none ∧ H'' D = some (.lst ys') ∧ DqAll Hk3 ys' (((xs.take (i + 1)).filter b).map f), fun H'' p => ⟨items.length - (i + 1), by omega, rfl, hlt, p⟩, fun v H'' y => ?_⟩
      obtain ⟨Hk2, g2, d, ed, dx⟩ := yl v H'' y
      obtain ⟨x, ex, rfl⟩ : ∃ x, xs[i]? = some x ∧ emb x = d := by
        rw [ei, List.getElem?_map] at ed
        exact Option.map_eq_some_iff.mp ed
      obtain ⟨δ', hgb, htb, hte⟩ := he xs pi x (List.mem_of_getElem? ex)
      have ok2 := ok.go g2
      have sgw : Sg Hk2 (wipe σ vs) (wipeD δ vs) := ((sg.mono g0.k).mono (gr.k.trans g2.k)).wipe vs
      have hD2 : Hk2 D = none := g2.f D hDn (by rw [hl]; exact fun z => by cases z)
      have hl2 : H'' D = some (.lst ys) := g2.s D _ (fun z => by cases z) hl
      have hd2 := DqAll.mono g2.k _ _ hd
      have gr2 := gr.trans g2.none_to
      have hx : xs.take (i + 1) = xs.take i ++ [x] := by
        rw [List.take_add_one, ex]; rfl
      refine hgb (wipe σ vs) Hk2 H'' v sgw g2.a dx _ fun σ' sg' hl' hk' => ⟨wipe_eq (by rw [hl', wipe_length]) hk', ?_⟩
      · refine htb σ' Hk2 H'' n sg' ok2 _ fun b' Hk3 H3 g3 o3 eb => ?_
        have hD3 : Hk3 D = none := g3.f D hD2 (by rw [hl2]; exact fun z => by cases z)
        have hl3 : H3 D = some (.lst ys) := g3.s D _ hDq hl2
        have hd3 := DqAll.mono g3.k _ _ hd2
        have gr3 := gr2.trans g3
        cases hb : b x with
        | true =>
          rw [hb] at eb
          subst eb
          refine iteT (hte hb σ' Hk3 H3 n (sg'.mono g3.k) o3 _ fun y w Hk4 H4 g4 o4 ey dw => ?_)
          subst ey
          have hD4 : Hk4 D = none := g4.f D hD3 (by rw [hl3]; exact fun z => by cases z)
          have hl4 : H4 D = some (.lst ys) := g4.s D _ hDq hl3
          have hd4 := DqAll.mono g4.k _ _ hd3
          refine ⟨ys, hl4, ?_, Hk4, ys ++ [w], (gr3.trans g4).put hD hD4, o4.cell hD4 hDq, hD4, upd_same, ?_⟩
          · rw [hd4.length, List.length_map]
            have z1 := List.length_filter_le b (xs.take i)
            rw [List.length_take] at z1
            have z2 := hz xs pi
            rw [sizeLine_eq]; omega
          · rw [hx, List.filter_append, List.map_append, List.filter_cons, if_pos hb]
            exact hd4.append (.cons dw .nil)
        | false =>
          rw [hb] at eb
          subst eb
          refine iteF ⟨Hk3, ys, gr3, o3, hD3, hl3, ?_⟩
          rw [hx, List.filter_append, List.map_append, List.filter_cons, if_neg (by rw [hb]; exact Bool.false_ne_true)]
          show DqAll Hk3 ys (_ ++ [])
          rw [List.append_nil]
          exact hd3
    · have e : i = items.length := by omega
      subst e
      refine .inl ⟨(wk _ Hk' H' gr.k ok.a).2 (Nat.le_refl _), ?_⟩
      rw [hlen, List.take_length] at hd
      have gf := gr.freeze hD hDn hl
      refine k _ _ _ _ (g0.trans gf) ⟨gf.a, fun p e => ?_, ok.j⟩ ⟨xs, pi, rfl⟩ (.lst upd_same (DqAll.mono (same_upd hDn) _ _ hd))
      rw [upd_ne (fun z => hDq (by rw [← z]; exact e))]
      exact ok.kf p e
theorem e_lc {α : Type} {emb : α → PyData} {wi : TI} {g : TG} {vs : List Nat} {xs : List α} (hw : IE q δ wi (xs.map emb)) (b : α → Bool) (f : α → PyData) (hz : xs.length ≤ 1000000)
    (he : ∀ x ∈ xs, ∃ δ', GB (wipeD δ vs) g (emb x) δ' vs ∧ TB q δ' tt (b x) ∧ (b x = true → E q δ' te (f x))) : E q δ (tLc wi g tt te vs) (.list ((xs.filter b).map f)) :=
  (j_lc (Ψ := fun ys => ys = xs) (fun σ H H1 n sg o R k => hw σ H H1 n sg o R fun items Jt Hk H2 g o' e w => k items Jt Hk H2 g o' ⟨xs, rfl, e⟩ w) b f (fun ys e => by rw [e]; exact hz) (fun ys e => by rw [e]; exact he)).imp fun d ⟨ys, e, r⟩ => by rw [r, e]
theorem e_lc1 {α : Type} {emb : α → PyData} {wi : TI} {g : TG} {vs : List Nat} {xs : List α} (hw : IE q δ wi (xs.map emb)) (f : α → PyData) (hz : xs.length ≤ 1000000)
    (he : ∀ x ∈ xs, ∃ δ', GB (wipeD δ vs) g (emb x) δ' vs ∧ E q δ' te (f x)) : E q δ (tLc wi g tYes te vs) (.list (xs.map f)) := by
  have h := e_lc (tt := tYes) hw (fun _ => true) f hz fun x hx => by
    obtain ⟨δ', a, b⟩ := he x hx
    exact ⟨δ', a, tb_yes, fun _ => b⟩
  rw [show xs.filter (fun _ => true) = xs from List.filter_eq_self.mpr fun _ _ => rfl] at h
  exact h
end
end Cr

set_option Elab.async false
set_option linter.all false
set_option maxRecDepth 100000
set_option maxHeartbeats 4000000
namespace Cr
open PySem PySem.Spec PyProof.Rows L2
section
variable {K : PySem.W.Frag} {q : Option Addr} {n : Nat} {δ δ' : List Sl} {te ta tb tc : TE} {tt tu : TT} {c c1 c2 c3 : Nat} {Φ Φ1 Φ2 Φ3 : PyData → Prop} {d d1 d2 : PyData} {wi : TI} {A0 B0 Hk H1 : Hp} {σ : L2.St} {D : Ends} {ts tz : TS} {g : TG}

/-! ### statements -/
theorem s_asg {i : Nat} (h : J q δ te c Φ) (s : At q (n + c) δ A0 B0 σ Hk H1) (k : ∀ d σ' Hk' H2, Φ d → Gr q Hk H1 Hk' H2 → At q n (δ.set i (.dat d)) A0 B0 σ' Hk' H2 → D.nx σ' H2) : tAsg te (gName i) D σ H1 :=
  h σ Hk H1 n s.sg s.ok _ fun d v Hk' H2 g o p dv => k d _ Hk' H2 p g ⟨o, (s.sg.mono g.k).set i (s := .dat d) dv, s.gr.trans g⟩
theorem s_asgE {i : Nat} (h : E q δ te d) (s : At q n δ A0 B0 σ Hk H1) (k : ∀ σ' Hk' H2, Gr q Hk H1 Hk' H2 → At q n (δ.set i (.dat d)) A0 B0 σ' Hk' H2 → D.nx σ' H2) : tAsg te (gName i) D σ H1 :=
  s_asg (c := 0) h s fun d' σ' Hk' H2 e g a => by subst e; exact k σ' Hk' H2 g a
theorem s_drop (h : J q δ te c Φ) (s : At q (n + c) δ A0 B0 σ Hk H1) (k : ∀ Hk' H2, Gr q Hk H1 Hk' H2 → At q n δ A0 B0 σ Hk' H2 → D.nx σ H2) : tDrop te D σ H1 :=
  h σ Hk H1 n s.sg s.ok _ fun d v Hk' H2 g o p dv => k Hk' H2 g ⟨o, s.sg.mono g.k, s.gr.trans g⟩
/-- what the promise asks of the end -/
abbrev Fin (q : Option Addr) (n : Nat) (A0 B0 : Hp) (Φ : PyData → Prop) (Q : VK) : Prop := ∀ d v Hk' H2, Gr q A0 B0 Hk' H2 → Ok q n Hk' H2 → Φ d → Dq Hk' v d → Q v H2
theorem s_ret {m : Nat} (h : J q δ te c Φ) (s : At q m δ A0 B0 σ Hk H1) (hm : n + c ≤ m) (f : Fin q n A0 B0 Φ1 D.rt) (i : ∀ d, Φ d → Φ1 d) : tRet te D σ H1 :=
  h σ Hk H1 n s.sg (s.ok.mono hm) _ fun d v Hk' H2 g o p dv => f d v Hk' H2 (s.gr.trans g) o (i d p) dv
theorem s_retE {m : Nat} (h : E q δ te d) (s : At q m δ A0 B0 σ Hk H1) (hm : n ≤ m) (f : Fin q n A0 B0 Φ1 D.rt) (i : Φ1 d) : tRet te D σ H1 := s_ret (c := 0) h s hm f fun _ e => by rw [e]; exact i
/-- the end without a return -/
theorem s_end {m : Nat} {Q : VK} (s : At q m δ A0 B0 σ Hk H1) (hm : n ≤ m) (f : Fin q n A0 B0 Φ1 Q) (i : Φ1 .none) : Q .non H1 := f _ _ Hk H1 s.gr (s.ok.mono hm) i .non
theorem s_if {P : Bool → Prop} {t1 t2 : TS} (h : TJ q δ tt c P) (s : At q (n + c) δ A0 B0 σ Hk H1) (k1 : P true → ∀ Hk' H2, Gr q Hk H1 Hk' H2 → At q n δ A0 B0 σ Hk' H2 → t1 D σ H2) (k2 : P false → ∀ Hk' H2, Gr q Hk H1 Hk' H2 → At q n δ A0 B0 σ Hk' H2 → t2 D σ H2) : tIfS tt t1 t2 D σ H1 :=
  h σ Hk H1 n s.sg s.ok _ fun b Hk' H2 g o p => by
    cases b with
    | true => exact iteT (k1 p Hk' H2 g ⟨o, s.sg.mono g.k, s.gr.trans g⟩)
    | false => exact iteF (k2 p Hk' H2 g ⟨o, s.sg.mono g.k, s.gr.trans g⟩)
theorem s_ifB {b : Bool} {t1 t2 : TS} (h : TB q δ tt b) (s : At q n δ A0 B0 σ Hk H1) (k1 : b = true → ∀ Hk' H2, Gr q Hk H1 Hk' H2 → At q n δ A0 B0 σ Hk' H2 → t1 D σ H2) (k2 : b = false → ∀ Hk' H2, Gr q Hk H1 Hk' H2 → At q n δ A0 B0 σ Hk' H2 → t2 D σ H2) : tIfS tt t1 t2 D σ H1 :=
  s_if (c := 0) h s (fun e => k1 e.symm) (fun e => k2 e.symm)
/-- if it does not hold, nothing happens (a raise that is never reached) -/
theorem s_ifNo {t1 : TS} (h : TB q δ tt false) (s : At q n δ A0 B0 σ Hk H1) (k2 : ∀ Hk' H2, Gr q Hk H1 Hk' H2 → At q n δ A0 B0 σ Hk' H2 → D.nx σ H2) : tIfS tt t1 tNext D σ H1 :=
  s_ifB h s (fun e => by cases e) (fun _ Hk' H2 g a => k2 Hk' H2 g a)
/-! ### loops -/
theorem s_for {tb : TS} {Ψ : List PyData → Prop} (hw : IJ q δ wi c Ψ) (s : At q (n + c) δ A0 B0 σ Hk H1)
    (k : ∀ items HkW H2, Ψ items → Gr q Hk H1 HkW H2 → At q n δ A0 B0 σ HkW H2 → ∃ P : Nat → L2.St → Hp → Hp → Prop, P 0 σ HkW H2 ∧ (∀ i σ' Hk' H', P i σ' Hk' H' → Same HkW Hk' ∧ Same Hk' H') ∧
      (∀ i d σ' Hk' H', items[i]? = some d → P i σ' Hk' H' → ∀ v Hk2 H2', Gr none Hk' H' Hk2 H2' → Dq Hk2 v d → g v σ' H2' fun σ2 H3 => tb { D with nx := fun σ3 H4 => ∃ Hk3, P (i + 1) σ3 Hk3 H4, ct := fun σ3 H4 => ∃ Hk3, P (i + 1) σ3 Hk3 H4, bk := D.nx } σ2 H3) ∧
      (∀ σ' Hk' H', P items.length σ' Hk' H' → D.nx σ' H')) : tFor wi g tb D σ H1 :=
  hw σ Hk H1 n s.sg s.ok _ fun items Jt HkW H2 g0 o0 pi wk => by
    obtain ⟨P, p0, ps, pt, pe⟩ := k items HkW H2 pi g0 ⟨o0, s.sg.mono g0.k, s.gr.trans g0⟩
    refine ⟨fun i m σ' H' => m = items.length - i ∧ i ≤ items.length ∧ ∃ Hk', P i σ' Hk' H', ⟨items.length, by simp, Nat.zero_le _, HkW, p0⟩, ?_⟩
    rintro i m σ' H' ⟨rfl, hi, Hk', p⟩
    obtain ⟨s1, s2⟩ := ps i σ' Hk' H' p
    by_cases hlt : i < items.length
    · obtain ⟨go, yl⟩ := (wk i Hk' H' s1 s2).1 hlt
      refine .inr ⟨go, fun σ3 H4 => ∃ Hk3, P (i + 1) σ3 Hk3 H4, fun σ3 H4 p => ⟨items.length - (i + 1), by omega, rfl, hlt, p⟩, fun v H'' y => ?_⟩
      obtain ⟨Hk2, g2, d, ed, dv⟩ := yl v H'' y
      exact pt i d σ' Hk' H' ed p v Hk2 H'' g2 dv
    · have e : i = items.length := by omega
      subst e
      exact .inl ⟨(wk _ Hk' H' s1 s2).2 (Nat.le_refl _), pe σ' Hk' H' p⟩
end

/-! ### the same with something behind -/
section
variable {K : PySem.W.Frag} {q : Option Addr} {n : Nat} {δ δ' : List Sl} {te ta tb tc : TE} {tt tu : TT} {c c1 c2 c3 : Nat} {Φ Φ1 Φ2 Φ3 : PyData → Prop} {d d1 d2 : PyData} {wi : TI} {A0 B0 Hk H1 : Hp} {σ : L2.St} {D : Ends} {ts tz : TS} {g : TG}
theorem q_asg {i : Nat} (h : J q δ te c Φ) (s : At q (n + c) δ A0 B0 σ Hk H1) (k : ∀ d σ' Hk' H2, Φ d → Gr q Hk H1 Hk' H2 → At q n (δ.set i (.dat d)) A0 B0 σ' Hk' H2 → tz D σ' H2) : tSeq (tAsg te (gName i)) tz D σ H1 := s_asg (D := { D with nx := tz D }) h s k
theorem q_asgE {i : Nat} (h : E q δ te d) (s : At q n δ A0 B0 σ Hk H1) (k : ∀ σ' Hk' H2, Gr q Hk H1 Hk' H2 → At q n (δ.set i (.dat d)) A0 B0 σ' Hk' H2 → tz D σ' H2) : tSeq (tAsg te (gName i)) tz D σ H1 := s_asgE (D := { D with nx := tz D }) h s k
theorem q_asgX {i : Nat} (h : E q δ te d) (s : At q n δ A0 B0 σ Hk H1) (k : ∀ v Hk' H2, Gr q Hk H1 Hk' H2 → At q n (δ.set i (.dat d)) A0 B0 (σ.set i (some v)) Hk' H2 → Dq Hk' v d → tz D (σ.set i (some v)) H2) : tSeq (tAsg te (gName i)) tz D σ H1 :=
  h σ Hk H1 n s.sg s.ok _ fun d' v Hk' H2 g o p dv => by
    subst p
    exact k v Hk' H2 g ⟨o, (s.sg.mono g.k).set i (s := .dat d') dv, s.gr.trans g⟩ dv
theorem q_drop (h : J q δ te c Φ) (s : At q (n + c) δ A0 B0 σ Hk H1) (k : ∀ Hk' H2, Gr q Hk H1 Hk' H2 → At q n δ A0 B0 σ Hk' H2 → tz D σ H2) : tSeq (tDrop te) tz D σ H1 := s_drop (D := { D with nx := tz D }) h s k
theorem q_whenB {b : Bool} {t1 : TS} (h : TB q δ tt b) (s : At q n δ A0 B0 σ Hk H1) (k1 : b = true → ∀ Hk' H2, Gr q Hk H1 Hk' H2 → At q n δ A0 B0 σ Hk' H2 → t1 { D with nx := tz D } σ H2) (k2 : b = false → ∀ Hk' H2, Gr q Hk H1 Hk' H2 → At q n δ A0 B0 σ Hk' H2 → tz D σ H2) : tSeq (tIfS tt t1 tNext) tz D σ H1 := s_ifB (D := { D with nx := tz D }) h s k1 k2
theorem q_ifNo {t1 : TS} (h : TB q δ tt false) (s : At q n δ A0 B0 σ Hk H1) (k2 : ∀ Hk' H2, Gr q Hk H1 Hk' H2 → At q n δ A0 B0 σ Hk' H2 → tz D σ H2) : tSeq (tIfS tt t1 tNext) tz D σ H1 := s_ifNo (D := { D with nx := tz D }) h s k2
theorem q_for {tb : TS} {Ψ : List PyData → Prop} (hw : IJ q δ wi c Ψ) (s : At q (n + c) δ A0 B0 σ Hk H1)
    (k : ∀ items HkW H2, Ψ items → Gr q Hk H1 HkW H2 → At q n δ A0 B0 σ HkW H2 → ∃ P : Nat → L2.St → Hp → Hp → Prop, P 0 σ HkW H2 ∧ (∀ i σ' Hk' H', P i σ' Hk' H' → Same HkW Hk' ∧ Same Hk' H') ∧
      (∀ i d σ' Hk' H', items[i]? = some d → P i σ' Hk' H' → ∀ v Hk2 H2', Gr none Hk' H' Hk2 H2' → Dq Hk2 v d → g v σ' H2' fun σ2 H3 => tb { D with nx := fun σ3 H4 => ∃ Hk3, P (i + 1) σ3 Hk3 H4, ct := fun σ3 H4 => ∃ Hk3, P (i + 1) σ3 Hk3 H4, bk := tz D } σ2 H3) ∧
      (∀ σ' Hk' H', P items.length σ' Hk' H' → tz D σ' H')) : tSeq (tFor wi g tb) tz D σ H1 := s_for (D := { D with nx := tz D }) hw s k
end

/-! ### a def -/
theorem start_sg {H : Hp} {N : List Str} {vs : List V} {sls : List Sl} (h : VS H vs sls) (hl : vs.length ≤ N.length) : Sg H (L2.start N vs) (sls ++ List.replicate (N.length - sls.length) .any) := by
  have hl1 := h.1
  refine ⟨by unfold L2.start; simp [hl1], fun i s e ne => ?_⟩
  by_cases hi : i < sls.length
  · rw [List.getElem?_append_left hi] at e
    obtain ⟨v, a, b⟩ := h.2 i s e
    refine ⟨v, ?_, b⟩
    unfold L2.start
    rw [List.getElem?_append_left (by rw [List.length_map]; omega), List.getElem?_map, a]; rfl
  · rw [List.getElem?_append_right (by omega)] at e
    have := List.eq_of_mem_replicate (List.mem_of_getElem? e)
    exact absurd this ne
section
variable {P : Program} {w : World} {K : PySem.W.Frag} {mg : Str → Option Value} {base : Heap}
theorem fn_ok {x qual : Str} {st : Stmt} {f : Addr} {fd : FuncData} {N ps : List Str} {k : Nat} {R : RelX} (F : Fun K x qual st f fd) (S : FnScope N ps (defScope st)) (hN : ps.length ≤ N.length) (len : ∀ q sls c Φ, R q sls c Φ → sls.length = ps.length)
    (body : ∀ (cdv : Value) (A : Around) (outer : List Env) (s : Shared) (B0 : Hp) (E : XK), Room k (A.deeper (envOfC qual (defScope st) s.heap.objs.size f cdv)) →
      ∃ t, PSs (cxOf CX0 P w K mg base N qual (defScope st) f cdv A outer s B0 E).nox (defBody st) t ∧
        ∀ (q : Option Addr) (sls : List Sl) (n c : Nat) (Φ : PyData → Prop) (A0 : Hp) (σ : L2.St) (Q : VK), R q sls c Φ → At q (n + c) (sls ++ List.replicate (N.length - sls.length) .any) A0 B0 σ A0 B0 → Fin q n A0 B0 Φ Q → t { nx := fun _ H' => Q .non H', rt := Q } σ B0) :
    FnOk P w K mg base CX0 (k + 1) f fd ps (spX R) := by
  refine F.ok S (fun vs H Q E h => ?_) (fun cdv A outer s H vs Q E hr h => ?_)
  · obtain ⟨q, Hk, sls, n, c, Φ, o, hv, r, _⟩ := h
    rw [hv.1]; exact len q sls c Φ r
  · obtain ⟨q, Hk, sls, n, c, Φ, o, hv, r, fin⟩ := h
    obtain ⟨t, ht, hq⟩ := body cdv A outer s H E hr
    refine ⟨t, ht, hq q sls n c Φ Hk (L2.start N vs) Q r ⟨o, start_sg hv (by rw [hv.1, len q sls c Φ r]; exact hN), Gr.refl o.a⟩ fin⟩
end
end Cr

set_option linter.all false
set_option maxHeartbeats 4000000
namespace Cr
open PySem PySem.Spec PyProof.Rows L2
def isIntD : PyData → Bool
  | .int _ => true
  | _ => false
def isiInt : PyData → Bool
  | .int _ => true
  | .bool _ => true
  | _ => false
def isiBool : PyData → Bool
  | .bool _ => true
  | _ => false
def isiTup : PyData → Bool
  | .tuple _ => true
  | _ => false
def isiLst : PyData → Bool
  | .list _ => true
  | _ => false
theorem kit_int (d : PyData) : kitB (tyN d) "int" = some (isiInt d) := by
  cases d with
  | none => exact (by decide +kernel : kitB "NoneType" "int" = some false)
  | bool _ => exact (by decide +kernel : kitB "bool" "int" = some true)
  | int _ => exact (by decide +kernel : kitB "int" "int" = some true)
  | str _ => exact (by decide +kernel : kitB "str" "int" = some false)
  | list _ => exact (by decide +kernel : kitB "list" "int" = some false)
  | tuple _ => exact (by decide +kernel : kitB "tuple" "int" = some false)
  | dict _ => exact (by decide +kernel : kitB "dict" "int" = some false)

theorem kit_bool (d : PyData) : kitB (tyN d) "bool" = some (isiBool d) := by
  cases d with
  | none => exact (by decide +kernel : kitB "NoneType" "bool" = some false)
  | bool _ => exact (by decide +kernel : kitB "bool" "bool" = some true)
  | int _ => exact (by decide +kernel : kitB "int" "bool" = some false)
  | str _ => exact (by decide +kernel : kitB "str" "bool" = some false)
  | list _ => exact (by decide +kernel : kitB "list" "bool" = some false)
  | tuple _ => exact (by decide +kernel : kitB "tuple" "bool" = some false)
  | dict _ => exact (by decide +kernel : kitB "dict" "bool" = some false)

theorem kit_tuple (d : PyData) : kitB (tyN d) "tuple" = some (isiTup d) := by
  cases d with
  | none => exact (by decide +kernel : kitB "NoneType" "tuple" = some false)
  | bool _ => exact (by decide +kernel : kitB "bool" "tuple" = some false)
  | int _ => exact (by decide +kernel : kitB "int" "tuple" = some false)
  | str _ => exact (by decide +kernel : kitB "str" "tuple" = some false)
  | list _ => exact (by decide +kernel : kitB "list" "tuple" = some false)
  | tuple _ => exact (by decide +kernel : kitB "tuple" "tuple" = some true)
  | dict _ => exact (by decide +kernel : kitB "dict" "tuple" = some false)

theorem kit_list (d : PyData) : kitB (tyN d) "list" = some (isiLst d) := by
  cases d with
  | none => exact (by decide +kernel : kitB "NoneType" "list" = some false)
  | bool _ => exact (by decide +kernel : kitB "bool" "list" = some false)
  | int _ => exact (by decide +kernel : kitB "int" "list" = some false)
  | str _ => exact (by decide +kernel : kitB "str" "list" = some false)
  | list _ => exact (by decide +kernel : kitB "list" "list" = some true)
  | tuple _ => exact (by decide +kernel : kitB "tuple" "list" = some false)
  | dict _ => exact (by decide +kernel : kitB "dict" "list" = some false)

theorem isInt_eq (d : PyData) : (isiInt d && !isiBool d) = isIntD d := by cases d <;> rfl

/-! ### ledgers -/
def pr (x : Int × Int) : PyData := .tuple [.int x.1, .int x.2]
def pd (l : List (Int × Int)) : List PyData := l.map pr
def led (l : List (Int × Int)) : PyData := .tuple (pd l)
def Led (l : List (Int × Int)) : Prop := l.Pairwise (fun a b => a.1 < b.1) ∧ ∀ x ∈ l, x.2 ≠ 0
theorem pd_len (l : List (Int × Int)) : (pd l).length = l.length := List.length_map ..
def tot : List (Int × Int) → Int → Int
  | [], _ => 0
  | x :: r, k => (if x.1 = k then x.2 else 0) + tot r k
theorem tot_append (a b : List (Int × Int)) (k : Int) : tot (a ++ b) k = tot a k + tot b k := by
  induction a with
  | nil => show tot b k = 0 + tot b k; omega
  | cons x r ih => show (if x.1 = k then x.2 else 0) + tot (r ++ b) k = ((if x.1 = k then x.2 else 0) + tot r k) + tot b k; rw [ih]; omega
theorem tot_no {l : List (Int × Int)} {k : Int} (h : k ∉ l.map (·.1)) : tot l k = 0 := by
  induction l with
  | nil => rfl
  | cons x r ih =>
    rw [List.map_cons, List.mem_cons, not_or] at h
    show (if x.1 = k then x.2 else 0) + tot r k = 0
    rw [if_neg (fun e => h.1 e.symm), ih h.2]; rfl
theorem tot_mem {l : List (Int × Int)} {k : Int} (h : tot l k ≠ 0) : k ∈ l.map (·.1) := by
  by_cases hk : k ∈ l.map (·.1)
  · exact hk
  · exact absurd (tot_no hk) h
/-- sorted, each once -/
def insK (k : Int) : List Int → List Int
  | [] => [k]
  | a :: r => if k < a then k :: a :: r else if k = a then a :: r else a :: insK k r
def usort (l : List Int) : List Int := l.foldr insK []
theorem insK_mem (k x : Int) : ∀ l : List Int, x ∈ insK k l ↔ x = k ∨ x ∈ l
  | [] => by simp [insK]
  | a :: r => by
    unfold insK
    split
    · simp
    · split
      · rename_i h1 h2; subst h2; simp
      · rw [List.mem_cons, insK_mem k x r, List.mem_cons]
        constructor
        · rintro (h | h | h) <;> simp [h]
        · rintro (h | h | h) <;> simp [h]
theorem insK_sorted (k : Int) : ∀ {l : List Int}, l.Pairwise (· < ·) → (insK k l).Pairwise (· < ·)
  | [], _ => by simp [insK]
  | a :: r, h => by
    unfold insK
    obtain ⟨h1, h2⟩ := List.pairwise_cons.mp h
    split
    · rename_i hk
      refine List.pairwise_cons.mpr ⟨fun b hb => ?_, h⟩
      rcases List.mem_cons.mp hb with e | hb
      · rw [e]; exact hk
      · exact Int.lt_trans hk (h1 b hb)
    · split
      · exact h
      · rename_i h3 h4
        refine List.pairwise_cons.mpr ⟨fun b hb => ?_, insK_sorted k h2⟩
        rcases (insK_mem k b r).mp hb with e | hb
        · subst e; omega
        · exact h1 b hb
theorem usort_mem (x : Int) : ∀ l : List Int, x ∈ usort l ↔ x ∈ l
  | [] => by simp [usort]
  | a :: r => by
    show x ∈ insK a (usort r) ↔ _
    rw [insK_mem, usort_mem x r, List.mem_cons]
theorem usort_sorted : ∀ l : List Int, (usort l).Pairwise (· < ·)
  | [] => by simp [usort]
  | a :: r => insK_sorted a (usort_sorted r)
/-- two rising lists with the same members are one -/
theorem rising_eq {α : Type} {f : α → Int} : ∀ {l m : List α}, l.Pairwise (fun a b => f a < f b) → m.Pairwise (fun a b => f a < f b) → (∀ x, x ∈ l ↔ x ∈ m) → l = m
  | [], [], _, _, _ => rfl
  | [], b :: m, _, _, h => by have := (h b).mpr List.mem_cons_self; cases this
  | a :: l, [], _, _, h => by have := (h a).mp List.mem_cons_self; cases this
  | a :: l, b :: m, h1, h2, h => by
    obtain ⟨p1, p2⟩ := List.pairwise_cons.mp h1
    obtain ⟨q1, q2⟩ := List.pairwise_cons.mp h2
    have e : a = b := by
      rcases List.mem_cons.mp ((h a).mp List.mem_cons_self) with e | ha
      · exact e
      · rcases List.mem_cons.mp ((h b).mpr List.mem_cons_self) with e | hb
        · exact e.symm
        · have := q1 a ha; have := p1 b hb; omega
    subst e
    refine congrArg (a :: ·) (rising_eq p2 q2 fun x => ⟨fun hx => ?_, fun hx => ?_⟩)
    · rcases List.mem_cons.mp ((h x).mp (List.mem_cons_of_mem _ hx)) with e | hx'
      · subst e; have := p1 x hx; omega
      · exact hx'
    · rcases List.mem_cons.mp ((h x).mpr (List.mem_cons_of_mem _ hx)) with e | hx'
      · subst e; have := q1 x hx; omega
      · exact hx'
def gather (cs : List (Int × Int)) : List (Int × Int) := ((usort (cs.map (·.1))).filter (fun k => tot cs k != 0)).map (fun k => (k, tot cs k))
theorem gather_mem (cs : List (Int × Int)) (x : Int × Int) : x ∈ gather cs ↔ x.2 = tot cs x.1 ∧ x.2 ≠ 0 := by
  unfold gather
  rw [List.mem_map]
  constructor
  · rintro ⟨k, hk, rfl⟩
    have := (List.mem_filter.mp hk).2
    exact ⟨rfl, by simpa using this⟩
  · rintro ⟨h1, h2⟩
    refine ⟨x.1, List.mem_filter.mpr ⟨(usort_mem _ _).mpr (tot_mem (by rw [← h1]; exact h2)), ?_⟩, by rw [← h1]⟩
    rw [← h1]; simpa using h2
theorem gather_rising (cs : List (Int × Int)) : (gather cs).Pairwise (fun a b => a.1 < b.1) := by
  unfold gather
  rw [List.pairwise_map]
  exact (usort_sorted _).filter _
theorem gather_led (cs : List (Int × Int)) : Led (gather cs) := ⟨gather_rising cs, fun x hx => ((gather_mem cs x).mp hx).2⟩
theorem tot_led {l : List (Int × Int)} (h : l.Pairwise (fun a b => a.1 < b.1)) : ∀ x ∈ l, tot l x.1 = x.2 := by
  induction l with
  | nil => intro x hx; cases hx
  | cons a r ih =>
    obtain ⟨h1, h2⟩ := List.pairwise_cons.mp h
    intro x hx
    show (if a.1 = x.1 then a.2 else 0) + tot r x.1 = x.2
    rcases List.mem_cons.mp hx with e | hx
    · subst e
      rw [if_pos rfl, tot_no]
      · omega
      · intro hm
        obtain ⟨y, hy, ey⟩ := List.mem_map.mp hm
        have := h1 y hy; omega
    · rw [if_neg (by have := h1 x hx; omega), ih h2 x hx]; omega
theorem gather_ext {cs ds : List (Int × Int)} (h : ∀ k, tot cs k = tot ds k) : gather cs = gather ds := rising_eq (f := (·.1)) (gather_rising _) (gather_rising _) fun x => by rw [gather_mem, gather_mem, h]
theorem tot_gather (cs : List (Int × Int)) (k : Int) : tot (gather cs) k = tot cs k := by
  by_cases hk : tot cs k = 0
  · rw [hk]
    refine tot_no fun hm => ?_
    obtain ⟨y, hy, ey⟩ := List.mem_map.mp hm
    have := (gather_mem cs y).mp hy
    rw [ey] at this
    exact this.2 (by rw [this.1, hk])
  · have hm : (k, tot cs k) ∈ gather cs := (gather_mem cs _).mpr ⟨rfl, hk⟩
    exact tot_led (gather_rising cs) _ hm
theorem gather_len (cs : List (Int × Int)) : (gather cs).length ≤ cs.length := by
  have h1 : ∀ l : List Int, (usort l).length ≤ l.length := fun l => by
    induction l with
    | nil => simp [usort]
    | cons a r ih =>
      have h2 : ∀ (k : Int) (m : List Int), (insK k m).length ≤ m.length + 1 := fun k m => by
        induction m with
        | nil => simp [insK]
        | cons b m ih2 =>
          unfold insK
          split
          · simp
          · split
            · simp
            · simp; exact ih2
      have := h2 a (usort r)
      show (insK a (usort r)).length ≤ r.length + 1
      omega
  unfold gather
  rw [List.length_map]
  exact Nat.le_trans (List.length_filter_le ..) (by have := h1 (cs.map (·.1)); rw [List.length_map] at this; exact this)
/-! ### the dict that is filled -/
def getI (m : List (Int × Int)) (k : Int) : Option Int := (m.find? fun x => decide (x.1 = k)).map (·.2)
def putI (m : List (Int × Int)) (k v : Int) : List (Int × Int) := if (m.any fun x => decide (x.1 = k)) = true then m.map (fun x => if x.1 = k then (x.1, v) else x) else m ++ [(k, v)]
def addI (m : List (Int × Int)) (x : Int × Int) : List (Int × Int) := putI m x.1 ((getI m x.1).getD 0 + x.2)
theorem inl_dec (a b : Int) : decide ((Sum.inl a : Key) = Sum.inl b) = decide (a = b) := by
  by_cases h : a = b
  · subst h; simp
  · rw [decide_eq_false h, decide_eq_false (fun e => h (Sum.inl.inj e))]
theorem mdict_val (m : List (Int × Int)) (k : Int) : valV (mdict m) (Sum.inl k) = (getI m k).map V.int := by
  unfold valV getI mdict
  rw [List.find?_map]
  have : (fun kv : Key × V => decide (kv.1 = Sum.inl k)) ∘ (fun x : Int × Int => ((Sum.inl x.1 : Key), V.int x.2)) = fun x => decide (x.1 = k) := by
    funext x; exact inl_dec x.1 k
  rw [this]
  cases m.find? (fun x => decide (x.1 = k)) <;> rfl
theorem mdict_put (m : List (Int × Int)) (k v : Int) : putK (mdict m) (Sum.inl k) (.int v) = mdict (putI m k v) := by
  unfold putK putI mdict
  rw [List.any_map]
  have : (fun kv : Key × V => decide (kv.1 = Sum.inl k)) ∘ (fun x : Int × Int => ((Sum.inl x.1 : Key), V.int x.2)) = fun x => decide (x.1 = k) := by
    funext x; exact inl_dec x.1 k
  rw [this]
  by_cases h : (m.any fun x => decide (x.1 = k)) = true
  · rw [if_pos h, if_pos h, List.map_map, List.map_map]
    refine List.map_congr_left fun x _ => ?_
    show (if (Sum.inl x.1 : Key) = Sum.inl k then _ else _) = _
    by_cases e : x.1 = k
    · rw [if_pos (by rw [e])]; show _ = ((Sum.inl (if x.1 = k then (x.1, v) else x).1 : Key), V.int (if x.1 = k then (x.1, v) else x).2); rw [if_pos e]
    · rw [if_neg (fun z => e (Sum.inl.inj z))]; show _ = ((Sum.inl (if x.1 = k then (x.1, v) else x).1 : Key), V.int (if x.1 = k then (x.1, v) else x).2); rw [if_neg e]
  · rw [if_neg h, if_neg h, List.map_append]; rfl
theorem getI_none {m : List (Int × Int)} {k : Int} : getI m k = none ↔ k ∉ m.map (·.1) := by
  unfold getI
  rw [Option.map_eq_none_iff, List.find?_eq_none]
  constructor
  · intro h hm
    obtain ⟨y, hy, e⟩ := List.mem_map.mp hm
    exact h y hy (decide_eq_true e)
  · intro h x hx e
    exact h (List.mem_map.mpr ⟨x, hx, of_decide_eq_true e⟩)
theorem any_mem {m : List (Int × Int)} {k : Int} : (m.any fun x => decide (x.1 = k)) = true ↔ k ∈ m.map (·.1) := by simp
theorem putI_keys (m : List (Int × Int)) (k v : Int) : (putI m k v).map (·.1) = if k ∈ m.map (·.1) then m.map (·.1) else m.map (·.1) ++ [k] := by
  unfold putI
  by_cases h : k ∈ m.map (·.1)
  · rw [if_pos (any_mem.mpr h), if_pos h, List.map_map]
    refine List.map_congr_left fun x _ => ?_
    show (if x.1 = k then (x.1, v) else x).1 = x.1
    split <;> rfl
  · rw [if_neg (fun z => h (any_mem.mp z)), if_neg h, List.map_append]; rfl
theorem putI_get (m : List (Int × Int)) (k v j : Int) : getI (putI m k v) j = if j = k then some v else getI m j := by
  have h := valV_put (mdict m) (Sum.inl k : Key) (Sum.inl j) (.int v)
  rw [mdict_put, mdict_val] at h
  have inj : ∀ a b : Option Int, a.map V.int = b.map V.int → a = b := fun a b e => by
    cases a <;> cases b <;> first | rfl | (simp at e; done) | (simp at e; exact congrArg some e)
  refine inj _ _ (h.trans ?_)
  by_cases e : j = k
  · rw [if_pos e, if_pos (by rw [e])]; rfl
  · rw [if_neg e, if_neg (fun z => e (Sum.inl.inj z)), mdict_val]
structure DictOf (p : List (Int × Int)) (m : List (Int × Int)) : Prop where
  nd : (m.map (·.1)).Nodup
  mem : ∀ k, k ∈ m.map (·.1) ↔ k ∈ p.map (·.1)
  get : ∀ k, k ∈ p.map (·.1) → getI m k = some (tot p k)
  len : m.length ≤ p.length
theorem DictOf.nil : DictOf [] [] := ⟨by simp, by simp, by simp, by simp⟩
theorem DictOf.add {p m : List (Int × Int)} (h : DictOf p m) (x : Int × Int) : DictOf (p ++ [x]) (addI m x) := by
  have key : ∀ k, k ∈ (p ++ [x]).map (·.1) ↔ k ∈ p.map (·.1) ∨ k = x.1 := fun k => by simp
  have tt : ∀ k, tot (p ++ [x]) k = tot p k + if x.1 = k then x.2 else 0 := fun k => by
    rw [tot_append]; show _ + ((if x.1 = k then x.2 else 0) + 0) = _; omega
  have gv : (getI m x.1).getD 0 = tot p x.1 := by
    by_cases hx : x.1 ∈ p.map (·.1)
    · rw [h.get _ hx]; rfl
    · rw [getI_none.mpr (fun z => hx ((h.mem _).mp z)), tot_no hx]; rfl
  unfold addI
  refine ⟨?_, fun k => ?_, fun k hk => ?_, ?_⟩
  · rw [putI_keys]
    split
    · exact h.nd
    · rename_i hn
      exact List.nodup_append.mpr ⟨h.nd, by simp, fun a ha b hb => by simp at hb; subst hb; exact fun e => hn (e ▸ ha)⟩
  · rw [putI_keys, key]
    split
    · rename_i hm
      rw [h.mem]
      exact ⟨.inl, fun z => z.elim id fun e => by rw [e]; exact (h.mem _).mp hm⟩
    · rw [List.mem_append, h.mem]; simp
  · rw [putI_get, tt, gv]
    by_cases e : k = x.1
    · rw [if_pos e, if_pos e.symm, e]
    · rw [if_neg e, if_neg (fun z => e z.symm), h.get k (((key k).mp hk).resolve_right e)]
      simp
  · have e := congrArg List.length (putI_keys m x.1 ((getI m x.1).getD 0 + x.2))
    rw [List.length_map] at e
    rw [e, List.length_append]
    have := h.len
    split
    · rw [List.length_map]; simp; omega
    · rw [List.length_append, List.length_map]; simp; omega
theorem sorted_keys {p m : List (Int × Int)} (h : DictOf p m) {ks : List Int} (hp : ks.Perm (m.map (·.1))) (hs : ks.Pairwise (· ≤ ·)) : ks = usort (p.map (·.1)) := by
  have nd : ks.Nodup := hp.nodup_iff.mpr h.nd
  have st : ks.Pairwise (· < ·) := (hs.and nd).imp fun {a b} z => by have := z.1; have := z.2; omega
  refine rising_eq (f := id) st (usort_sorted _) fun x => ?_
  rw [hp.mem_iff, usort_mem, h.mem]
end Cr

set_option Elab.async false
set_option linter.all false
set_option maxRecDepth 100000
set_option maxHeartbeats 4000000
namespace Cr
open PySem PySem.Spec PyProof.Rows L2
section
variable {K : PySem.W.Frag} {q : Option Addr} {n : Nat} {δ δ' : List Sl} {te ta tb tc tk : TE} {tt tu : TT} {c c1 c2 c3 : Nat} {Φ Φ1 Φ2 Φ3 : PyData → Prop} {d d1 d2 : PyData} {wi : TI} {A0 B0 Hk H1 : Hp} {σ : L2.St} {D : Ends} {ts tz : TS} {g : TG}
/-! ### dicts of ints -/
theorem e_dget {i : Nat} {m : List (Int × Int)} {k v : Int} (hi : δ[i]? = some (.dic m)) (hk : E q δ tk (.int k)) (hv : getI m k = some v) : E q δ (tDGet (tVar i) tk) (.int v) := fun σ H H1 n sg o Q kk => by
  obtain ⟨x, a, p, rfl, hp⟩ := sg.2 i _ hi (fun z => by cases z)
  refine ⟨.ref p, a, hk σ H H1 n sg o _ fun d w Hk H2 g o1 e dv => ?_⟩
  subst e
  rw [dv.intOf]
  refine ⟨p, .int v, rfl, ?_, kk _ _ Hk H2 g o1 rfl (.int v)⟩
  have h := DGet.k (H := H2) (a := p) (k := (Sum.inl k : Key)) (g.a _ _ (g.k _ _ hp))
  rw [mdict_val, hv] at h
  exact h
theorem e_sortedD {i : Nat} {m p : List (Int × Int)} (hi : δ[i]? = some (.dic m)) (hd : DictOf p m) : E q δ (tCB rSrtDI (tCons (tVar i) tNil)) (.list ((usort (p.map (·.1))).map .int)) := fun σ H H1 n sg o Q kk => by
  obtain ⟨x, a, b, rfl, hp⟩ := sg.2 i _ hi (fun z => by cases z)
  refine ⟨.ref b, a, b, mdict m, m.map (·.1), rfl, .inl (o.a _ _ hp), by unfold mdict; rw [List.map_map, List.map_map]; rfl, fun ys l hy hs hl => ?_⟩
  have e := sorted_keys hd hy hs
  subst e
  have g1 := Gr.new (q := q) (o := .lst ((usort (p.map (·.1))).map V.int)) o.a hl
  exact kk _ _ _ _ g1 (o.go ⟨g1.k, g1.a, fun b' o' _ h => by rw [upd_ne (ne_of_none h hl)]; exact h, g1.f, g1.t⟩) rfl (.lst upd_same (DqAll.ofInts _))
theorem s_addI {i ik ib : Nat} {p : Addr} {m : List (Int × Int)} {k v : Int} (s : At q n δ A0 B0 σ Hk H1) (hi : δ[i]? = some (.adr p)) (hk : δ[ik]? = some (.dat (.int k))) (hb : δ[ib]? = some (.dat (.int v)))
    (hm : H1 p = some (.dK (mdict m))) (nk : Hk p = none) (nq : q ≠ some p) (nb : B0 p = none) (hl : m.length < 1000000)
    (kont : At q n δ A0 B0 σ Hk (upd H1 p (.dK (mdict (addI m (k, v))))) → D.nx σ (upd H1 p (.dK (mdict (addI m (k, v)))))) :
    sDPut (tVar i) (tVar ik) (tOp (rAddU K) (tDGet2 (tVar i) (tVar ik) (tC (.int 0))) (tVar ib)) D σ H1 := by
  have a1 := s.sg.getA hi
  obtain ⟨w, a2, d2⟩ := s.sg.get hk
  obtain ⟨x, a3, d3⟩ := s.sg.get hb
  have e2 := d2.intOf
  have e3 := d3.intOf
  subst e2; subst e3
  have hg := DGet.k (H := H1) (a := p) (k := (Sum.inl k : Key)) hm
  rw [mdict_val] at hg
  have hv : ((getI m k).map V.int).getD (.int 0) = .int ((getI m k).getD 0) := by cases getI m k <;> rfl
  refine ⟨.ref p, a1, p, rfl, .inl ⟨_, .inl hm⟩, .int k, a2, _, hg, ?_⟩
  refine ⟨.int v, a3, .inl ⟨(getI m k).getD 0, v, hv, rfl, .ref p, a1, .int k, a2, p, _, rfl, DPut.k (k := (Sum.inl k : Key)) hm ?_, ?_⟩⟩
  · unfold mdict; rw [List.length_map, sizeLine_eq]; omega
  · rw [mdict_put]
    exact kont ⟨s.ok.cell nk nq, s.sg, s.gr.put nb nk⟩
/-- the defs that gather changes -/
theorem read_summed {Q : VK} {nx : L2.St → Hp → Prop} (cs : List (Int × Int)) (hl : cs.length ≤ 100000) (s : At q n [.dat (.list (pd cs)), .any, .any, .any] A0 B0 σ A0 B0) (fin : Fin q n A0 B0 (fun x => x = led (gather cs)) Q) :
    tSeq (tAsg tDNewK (gName 1)) (tSeq (tFor (iList K (tVar 0)) (gTup K 2 (gCons (gName 2) (gCons (gName 3) gNil))) (sDPut (tVar 1) (tVar 2) (tOp (rAddU K) (tDGet2 (tVar 1) (tVar 2) (tC (.int 0))) (tVar 3))))
      (tRet (tCB (rTupQ K) (tCons (tLc (iList K (tCB rSrtDI (tCons (tVar 1) tNil))) (gName 2) (tTest (tOp (rNeD K) (tDGet (tVar 1) (tVar 2)) (tC (.int 0)))) (tTup (tCons (tVar 2) (tCons (tDGet (tVar 1) (tVar 2)) tNil))) [2]) tNil)))) { nx := nx, rt := Q } σ B0 := by
  intro p hp
  have hk : A0 p = none := s.ok.a.free hp
  have nq : q ≠ some p := fun e => (s.ok.j p e).ne hp
  -- the new dict is ours
  have s1 : At q n [.dat (.list (pd cs)), .adr p, .any, .any] A0 B0 (σ.set 1 (some (.ref p))) A0 (upd B0 p (.dK (mdict []))) :=
    ⟨s.ok.cell hk nq, s.sg.set 1 (s := .adr p) rfl, Gr.cell s.ok.a hp⟩
  refine q_for (n := n) (c := 0) (ie_lst (e_var rfl)) s1 fun items HkW H2 e g0 s2 => ?_
  subst e
  have hkw : HkW p = none := g0.f p hk (by rw [upd_same]; exact fun z => by cases z)
  have hpw : H2 p = some (.dK (mdict [])) := g0.s p _ nq upd_same
  refine ⟨fun i σ' Hk' H' => Same HkW Hk' ∧ ∃ m, DictOf (cs.take i) m ∧ H' p = some (.dK (mdict m)) ∧ Hk' p = none ∧ At q n [.dat (.list (pd cs)), .adr p, .any, .any] A0 B0 σ' Hk' H', ⟨Same.refl _, [], DictOf.nil, hpw, hkw, s2⟩, ?_, ?_, ?_⟩
  · rintro i σ' Hk' H' ⟨h1, m, _, _, _, st⟩
    exact ⟨h1, st.ok.a⟩
  · rintro i d σ' Hk' H' ed ⟨h1, m, hd, hm, hn, st⟩ v Hk2 H3 g2 dv
    obtain ⟨x, ex, rfl⟩ : ∃ x, cs[i]? = some x ∧ pr x = d := by
      unfold pd at ed
      rw [List.getElem?_map] at ed
      exact Option.map_eq_some_iff.mp ed
    have hn2 : Hk2 p = none := g2.f p hn (by rw [hm]; exact fun z => by cases z)
    have hm2 : H3 p = some (.dK (mdict m)) := g2.s p _ (fun z => by cases z) hm
    refine gb_tup2 (vs := [2, 3]) (by simp) (by simp) σ' Hk2 H3 v (st.sg.mono g2.k) g2.a dv _ fun σ2 sg2 hl2 _ => ?_
    have st2 : At q n _ A0 B0 σ2 Hk2 H3 := ⟨st.ok.go g2, sg2, st.gr.trans g2.none_to⟩
    have hlm : m.length ≤ 100000 := by have h1 := hd.len; rw [List.length_take] at h1; omega
    refine s_addI (p := p) (k := x.1) (v := x.2) st2 rfl rfl rfl hm2 hn2 nq hp (by omega) fun st3 => ⟨Hk2, h1.trans g2.k, addI m x, ?_, upd_same, hn2, ?_⟩
    · rw [List.take_add_one, ex]
      exact hd.add x
    · exact st3.weak rfl fun i s e => by
        match i, e with
        | 0, e => exact .inr e
        | 1, e => exact .inr e
        | 2, e => exact .inl (Option.some.inj e).symm
        | 3, e => exact .inl (Option.some.inj e).symm
        | i + 4, e => exact absurd e (by simp)
  · rintro σ' Hk' H' ⟨h1, m, hd, hm, hn, st⟩
    have hlen : (pd cs).length = cs.length := pd_len cs
    rw [hlen, List.take_length] at hd
    -- the dict stands still from here
    have gf := st.gr.freeze hp hn hm
    have st4 : At q n [.dat (.list (pd cs)), .dic m, .any, .any] A0 B0 σ' (upd Hk' p (.dK (mdict m))) H' := by
      refine ⟨⟨gf.a, fun r e => ?_, st.ok.j⟩, ?_, gf⟩
      · rw [upd_ne (fun z => nq (by rw [← z]; exact e))]; exact st.ok.kf r e
      · have g1 := (st.sg.mono (same_upd (o := .dK (mdict m)) hn)).weak (δ' := [.dat (.list (pd cs)), .any, .any, .any]) rfl fun i s e => by
          match i, e with
          | 0, e => exact .inr e
          | 1, e => exact .inl (Option.some.inj e).symm
          | 2, e => exact .inr e
          | 3, e => exact .inr e
          | i + 4, e => exact absurd e (by simp)
        refine ⟨g1.1, fun i s e ne => ?_⟩
        by_cases hi : i = 1
        · subst hi
          have es : s = .dic m := (Option.some.inj e).symm
          subst es
          exact ⟨.ref p, st.sg.getA rfl, p, rfl, upd_same⟩
        · refine g1.2 i s ?_ ne
          match i, e, hi with
          | 0, e, _ => exact e
          | 2, e, _ => exact e
          | 3, e, _ => exact e
          | 1, _, hi => exact absurd rfl hi
          | i + 4, e, _ => exact absurd e (by simp)
    have hget : ∀ k ∈ usort (cs.map (·.1)), getI m k = some (tot cs k) := fun k hk => hd.get k ((usort_mem k _).mp hk)
    refine s_retE (n := n) (d := led (gather cs)) (Φ1 := fun x => x = led (gather cs)) ?_ st4 (Nat.le_refl _) fin rfl
    refine e_tupL (e_is (e_lc (vs := [2]) (emb := PyData.int) (xs := usort (cs.map (·.1))) (ie_lst (e_sortedD rfl hd)) (fun k => tot cs k != 0) (fun k => pr (k, tot cs k)) ?_ fun k hk => ⟨_, gb_name (by simp), tb_is (tb_test (e_neDI (e_dget (m := m) rfl (e_var rfl) (hget k hk)) e_int)) rfl, fun _ => ?_⟩) ?_)
    · have h1 : (usort (cs.map (·.1))).length ≤ cs.length := by
        have nd : (usort (cs.map (·.1))).Nodup := (usort_sorted _).imp fun {a b} h => by omega
        have e : (usort (cs.map (·.1))) = usort (cs.map (·.1)) := rfl
        have hp := hd.len
        have h2 : (usort (cs.map (·.1))).length ≤ (m.map (·.1)).length := nd.length_le_of_subset fun x hx => (hd.mem x).mpr ((usort_mem x _).mp hx)
        rw [List.length_map] at h2; omega
      omega
    · exact e_tup (ds := [.int k, .int (tot cs k)]) (ae_cons (e_var rfl) (ae_cons (e_dget (m := m) rfl (e_var rfl) (hget k hk)) ae_nil))
    · unfold pd gather
      rw [List.map_map]; rfl
end
end Cr

set_option Elab.async false
set_option linter.all false
set_option maxRecDepth 100000
set_option maxHeartbeats 4000000
namespace Cr
open PySem PySem.Spec PyProof.Rows L2
section
variable {q : Option Addr} {n : Nat} {δ : List Sl} {A0 B0 Hk H1 : Hp} {σ : L2.St}
theorem At.forget (s : At q n δ A0 B0 σ Hk H1) (i : Nat) : At q n (δ.set i .any) A0 B0 σ Hk H1 := s.weak (List.length_set ..) fun j t e => by
  by_cases h : i = j
  · subst h
    by_cases hl : i < δ.length
    · rw [List.getElem?_set_self hl] at e; exact .inl (Option.some.inj e).symm
    · rw [List.getElem?_eq_none (by rw [List.length_set]; omega)] at e; cases e
  · rw [List.getElem?_set_ne h] at e; exact .inr e
end
theorem e_andNo {q : Option Addr} {δ : List Sl} {ta tb : TE} (h : E q δ ta (.bool false)) : E q δ (tAndV ta tb) (.bool false) := e_is (e_andV (b := false) h (fun e => by cases e)) rfl
def Bd (B : Nat) (l : List (Int × Int)) : Prop := ∀ x ∈ l, x.1.natAbs < 2 ^ B ∧ x.2.natAbs < 2 ^ B
def isChangeD : PyData → Bool
  | .tuple [.int _, .int _] => true
  | _ => false
def unpr : PyData → Option (Int × Int)
  | .tuple [.int a, .int b] => some (a, b)
  | _ => none
theorem change_pr {d : PyData} (h : isChangeD d = true) : ∃ x, d = pr x := by
  match d, h with
  | .tuple [.int a, .int b], _ => exact ⟨(a, b), rfl⟩
theorem changes_pd : ∀ {ds : List PyData}, ds.all isChangeD = true → ∃ l, ds = pd l
  | [], _ => ⟨[], rfl⟩
  | d :: ds, h => by
    rw [List.all_cons, Bool.and_eq_true] at h
    obtain ⟨x, rfl⟩ := change_pr h.1
    obtain ⟨l, rfl⟩ := changes_pd h.2
    exact ⟨x :: l, rfl⟩
theorem pd_changes (l : List (Int × Int)) : (pd l).all isChangeD = true := by
  rw [List.all_eq_true]
  intro d hd
  obtain ⟨x, _, rfl⟩ := List.mem_map.mp hd
  rfl
def adj {α : Type} (l : List α) : List (α × α) := l.zip (l.drop 1)
def asc (l : List (Int × Int)) : Bool := (adj l).all fun p => decide (p.1.1 < p.2.1)
def nz (l : List (Int × Int)) : Bool := l.all fun x => !(x.2 == 0)
def isLedD : PyData → Bool
  | .tuple ds => ds.all isChangeD && (asc (ds.filterMap unpr) && nz (ds.filterMap unpr))
  | _ => false
theorem unpr_pd (l : List (Int × Int)) : (pd l).filterMap unpr = l := by
  unfold pd
  rw [List.filterMap_map]
  have : unpr ∘ pr = some := by funext x; rfl
  rw [this, List.filterMap_some]
theorem isLed_led (l : List (Int × Int)) : isLedD (led l) = (asc l && nz l) := by
  show ((pd l).all isChangeD && (asc ((pd l).filterMap unpr) && nz ((pd l).filterMap unpr))) = _
  rw [unpr_pd, pd_changes, Bool.true_and]
theorem adj_of {α : Type} {R : α → α → Prop} : ∀ {l : List α}, l.Pairwise R → ∀ p ∈ adj l, R p.1 p.2
  | [], _, p, h => by simp [adj] at h
  | [a], _, p, h => by simp [adj] at h
  | a :: b :: r, h, p, hp => by
    have e : adj (a :: b :: r) = (a, b) :: adj (b :: r) := rfl
    rw [e] at hp
    obtain ⟨h1, h2⟩ := List.pairwise_cons.mp h
    rcases List.mem_cons.mp hp with e | hp
    · subst e; exact h1 b List.mem_cons_self
    · exact adj_of h2 p hp
theorem led_isLed {l : List (Int × Int)} (h : Led l) : isLedD (led l) = true := by
  rw [isLed_led, Bool.and_eq_true]
  refine ⟨List.all_eq_true.mpr fun p hp => decide_eq_true (adj_of h.1 p hp), List.all_eq_true.mpr fun x hx => ?_⟩
  have := h.2 x hx
  simpa using this
theorem zip_adj (l : List (Int × Int)) : zipD (pd l) (cutD (pd l) (some 1) none) = (adj l).map fun p => .tuple [pr p.1, pr p.2] := by
  have h1 : cutD (pd l) (some 1) none = pd (l.drop 1) := by
    unfold cutD
    rw [show HT.sIx (pd l).length 0 (some 1) = min 1 (pd l).length from HT.sIx_nat _ 0 1, HT.sIx_none, pd_len]
    unfold pd
    rw [← List.map_drop, ← List.map_take]
    cases l with
    | nil => rfl
    | cons a r =>
      rw [show min 1 (a :: r).length = 1 by rw [List.length_cons]; omega]
      rw [List.take_of_length_le (by rw [List.length_drop]; omega)]
  rw [h1]
  have h2 : ∀ a b : List (Int × Int), zipD (pd a) (pd b) = (a.zip b).map fun p => .tuple [pr p.1, pr p.2] := fun a => by
    induction a with
    | nil => intro b; rfl
    | cons x r ih =>
      intro b
      cases b with
      | nil => rfl
      | cons y s => exact congrArg (PyData.tuple [pr x, pr y] :: ·) (ih s)
  exact h2 l (l.drop 1)
theorem bools_map {α : Type} (l : List α) (f : α → Bool) : l.map (fun x => PyData.bool (f x)) = (l.map f).map PyData.bool := by rw [List.map_map]; rfl
theorem all_id_map {α : Type} (l : List α) (f : α → Bool) : (l.map f).all id = l.all f := by rw [List.all_map]; rfl
end Cr

set_option Elab.async false
set_option linter.all false
set_option maxRecDepth 100000
set_option maxHeartbeats 4000000
namespace Cr
open PySem PySem.Spec PyProof.Rows L2
section
variable {K : PySem.W.Frag} {q : Option Addr} {n : Nat} {δ δ' : List Sl} {te ta tb tc tk : TE} {tt tu : TT} {c c1 c2 c3 : Nat} {Φ Φ1 Φ2 Φ3 : PyData → Prop} {d d1 d2 : PyData} {wi : TI} {A0 B0 Hk H1 : Hp} {σ : L2.St} {D : Ends} {ts tz : TS} {g : TG}
/-! ### the script -/
theorem e_lenS {i : Nat} {ns : List Int} (hi : δ[i]? = some (.scr K ns)) : E q δ (tCB (rLenQ K) (tCons (tVar i) tNil)) (.int ns.length) := fun σ H H1 n sg o Q k => by
  obtain ⟨v, a, p, rfl, h⟩ := sg.2 i _ hi (fun z => by cases z)
  refine ⟨.ref p, a, p, ns.map V.int, rfl, .inl (Same.seq o.a h), ?_⟩
  rw [List.length_map]
  exact k _ _ H H1 (Gr.refl o.a) o rfl (.int _)
theorem e_iS {i : Nat} {ns : List Int} {j v : Int} (hi : δ[i]? = some (.scr K ns)) (hb : E q δ tb (.int j)) (e : atI ns j = some v) : E q δ (tOp (rIx K) (tVar i) tb) (.int v) := fun σ H H1 n sg o Q k => by
  obtain ⟨x, a, p, rfl, h⟩ := sg.2 i _ hi (fun z => by cases z)
  refine ⟨.ref p, a, hb σ H H1 n sg o _ fun d w Hk H2 g o1 ed dw => ?_⟩
  subst ed
  rw [dw.intOf]
  refine .inl ⟨p, ns.map V.int, j, .int v, rfl, rfl, Same.seq (g.k.trans g.a) h, ?_, k _ _ Hk H2 g o1 rfl (.int v)⟩
  unfold atI at e ⊢
  rw [List.length_map]
  cases hx : ixN ns.length j with
  | none => rw [hx] at e; cases e
  | some m =>
    rw [hx] at e
    show (ns.map V.int)[m]? = some (.int v)
    rw [List.getElem?_map, show ns[m]? = some v from e]; rfl
/-! ### the jar: its three ints, drawn from in turn -/
def KJ (p : Addr) (L : List V) : Hp := fun b => if b = p then some (.lst L) else none
theorem KJ.at {p : Addr} {L : List V} : KJ p L p = some (.lst L) := if_pos rfl
theorem KJ.same {p : Addr} {L : List V} {H : Hp} (h : H p = some (.lst L)) : Same (KJ p L) H := fun b o e => by
  unfold KJ at e
  split at e
  · rename_i hb; subst hb; rw [h]; exact e
  · cases e
/-- the state seen from the jar alone -/
theorem at_jar {p : Addr} {x y z : Int} {b : PyData} {σ : L2.St} {H : Hp} (h : H p = some (.lst [.int x, .int y, .int z])) (h0 : σ[0]? = some (some (.ref p))) {δr : List Sl} (hs : ∀ H', Sg H' σ (.any :: δr)) :
    At none 0 (.dat (.list [.int x, .int y, .int z]) :: δr) (KJ p [.int x, .int y, .int z]) H σ (KJ p [.int x, .int y, .int z]) H := by
  refine ⟨⟨KJ.same h, fun r e => (by cases e), fun r e => (by cases e)⟩, ⟨(hs (KJ p [])).1, fun i s e ne => ?_⟩, Gr.refl (KJ.same h)⟩
  cases i with
  | zero =>
    have es : s = .dat (.list [.int x, .int y, .int z]) := (Option.some.inj e).symm
    subst es
    exact ⟨.ref p, h0, .lst KJ.at (.cons (.int x) (.cons (.int y) (.cons (.int z) .nil)))⟩
  | succ i => exact (hs _).2 (i + 1) s e ne
/-- xs[j] = e at a list that stands at p -/
theorem s_setAt {p : Addr} {xs : List V} {j : Nat} (h : E none δ te d) (s : At none 0 δ A0 B0 σ Hk H1) (h0 : σ[0]? = some (some (.ref p))) (hp : H1 p = some (.lst xs)) (hj : j < xs.length)
    (k : ∀ v Hk' H2, Dq Hk' v d → Same H1 H2 → (∀ b, H1 b ≠ none → H2 b ≠ none) → D.nx σ (upd H2 p (.lst (xs.set j v)))) : tAsg te (gSub (tVar 0) (tC (.int (j : Int))) rSetL) D σ H1 :=
  h σ Hk H1 0 s.sg s.ok _ fun d' v Hk' H2 g o e dv => by
    subst e
    have sm : Same H1 H2 := fun b o h => g.s b o (fun z => by cases z) h
    exact ⟨.ref p, h0, p, xs, (j : Int), j, rfl, rfl, sm _ _ hp, by unfold ixN; rw [if_pos (by omega), if_pos (by omega)]; simp, k v Hk' H2 dv sm g.t⟩
/-- what a draw leaves -/
structure Drawn1 (p : Addr) (H H2 : Hp) : Prop where
  s : ∀ b o, b ≠ p → H b = some o → H2 b = some o
  t : ∀ b, H b ≠ none → H2 b ≠ none
theorem Drawn1.refl {p : Addr} {H : Hp} : Drawn1 p H H := ⟨fun _ _ _ h => h, fun _ h => h⟩
theorem Drawn1.same {p : Addr} {H H1 H2 : Hp} (a : Drawn1 p H H1) (s : Same H1 H2) (t : ∀ b, H1 b ≠ none → H2 b ≠ none) : Drawn1 p H H2 := ⟨fun b o n h => s b o (a.s b o n h), fun b h => t b (a.t b h)⟩
theorem Drawn1.put {p : Addr} {H H1 : Hp} {o : HO} (a : Drawn1 p H H1) : Drawn1 p H (upd H1 p o) := ⟨fun b u n h => by rw [upd_ne n]; exact a.s b u n h, fun b h => by
  by_cases e : b = p
  · rw [e, upd_same]; exact fun z => by cases z
  · rw [upd_ne e]; exact a.t b h⟩
theorem Drawn1.end {p : Addr} {A0 B0 H2 : Hp} {m : Nat} {x y z : Int} (a : Drawn1 p B0 H2) (ok : Ok (some p) m A0 B0) (h2 : H2 p = some (.lst [.int x, .int y, .int z])) (hy : 0 ≤ y) (hy2 : y < 2 ^ 140) (hz : 0 ≤ z) (hn : z + n ≤ 1000000000) :
    Gr (some p) A0 B0 A0 H2 ∧ Ok (some p) n A0 H2 := by
  have nk := ok.kf p rfl
  have sm : Same A0 H2 := fun b o h => a.s b o (ne_of_none h nk) (ok.a b o h)
  refine ⟨⟨Same.refl _, sm, fun b o nb h => a.s b o (fun e => nb (by rw [e])) h, fun b h _ => h, a.t⟩, sm, ok.kf, fun r e => ?_⟩
  cases e
  exact ⟨x, y, z, h2, hy, hy2, hz, hn⟩
def R_pick : RelX := fun q sls c Φ => c = 1 ∧ ∃ p b, q = some p ∧ 0 < b ∧ b.natAbs < 2 ^ 400 ∧ sls = [.adr p, .dat (.int b)] ∧ Φ = fun d => ∃ i, (0 ≤ i ∧ i < b) ∧ d = .int i
theorem fmod_in {a b : Int} (h : 0 < b) : 0 ≤ a.fmod b ∧ a.fmod b < b := ⟨Int.fmod_nonneg_of_pos a h, Int.fmod_lt_of_pos a h⟩
/-- the text of a draw -/
abbrev tJ (K : PySem.W.Frag) (i : Int) : TE := tOp (rIx K) (tVar 0) (tC (.int i))
abbrev tBlend (K : PySem.W.Frag) (first : TE) (f e m a : Int) : TE := tOp (rI (fun _ j => j ≠ 0) fun i j => .int (i.fmod j)) (tOp (rI CPowW fun i j => .int (i ^ j.toNat)) (tCB rIntQ (tCons (tOp (rAddU K) first (tOp rMulU (tC (.int f)) (tJ K 2))) tNil)) (tC (.int e))) (tOp (rAddU K) (tOp (rI CPowW fun i j => .int (i ^ j.toNat)) (tC (.int 10)) (tC (.int m))) (tC (.int a)))
theorem read_pick {Q : VK} {nx : L2.St → Hp → Prop} {p : Addr} {b : Int} (hb : 0 < b) (hb2 : b.natAbs < 2 ^ 400) (s : At (some p) (n + 1) [.adr p, .dat (.int b), .any, .any] A0 B0 σ A0 B0) (fin : Fin (some p) n A0 B0 (fun d => ∃ i, (0 ≤ i ∧ i < b) ∧ d = .int i) Q) :
    tSeq (tIfS (tTest (tOp (rI0 fun i j => .bl (decide (j < i))) (tJ K 0) (tC (.int 0)))) (tSeq (tAsg (tOp (rI (fun _ j => j ≠ 0) fun i j => .int (i.fmod j)) (tCB rIntQ (tCons (tJ K 0) tNil)) (tVar 1)) (gName 2)) (tSeq (tAsg (tOp (rI CDivW fun i j => .int (i / j)) (tJ K 0) (tVar 1)) (gSub (tVar 0) (tC (.int 0)) rSetL)) (tRet (tVar 2)))) tNext)
      (tSeq (tAsg (tOp (rAddU K) (tJ K 2) (tC (.int 1))) (gSub (tVar 0) (tC (.int 2)) rSetL)) (tSeq (tAsg (tBlend K (tJ K 1) 90019 2 38 183) (gName 3)) (tSeq (tAsg (tBlend K (tVar 3) 1299827 3 39 187) (gName 3))
        (tRet (tOp (rI (fun _ j => j ≠ 0) fun i j => .int (i.fmod j)) (tOp (rI CDivW fun i j => .int (i / j)) (tVar 3) (tC (.int 65536))) (tVar 1)))))) { nx := nx, rt := Q } σ B0 := by
  obtain ⟨x, y, z, hj, hy, hy2, hz, hn⟩ := s.ok.j p rfl
  have h0 : σ[0]? = some (some (.ref p)) := s.sg.getA rfl
  obtain ⟨vb, h1, db⟩ := s.sg.get (i := 1) rfl
  have eb := db.intOf
  subst eb
  have hlen : σ.length = 4 := s.sg.1
  have hs : ∀ H', Sg H' σ [.any, .dat (.int b), .any, .any] := fun H' => ⟨hlen, fun i s e ne => by
    match i, e with
    | 0, e => exact absurd (Option.some.inj e).symm ne
    | 1, e => cases (Option.some.inj e); exact ⟨_, h1, .int b⟩
    | 2, e => exact absurd (Option.some.inj e).symm ne
    | 3, e => exact absurd (Option.some.inj e).symm ne
    | i + 4, e => exact absurd e (by simp)⟩
  have nb : b ≠ 0 := by omega
  have sJ := at_jar (b := .none) hj h0 hs
  refine q_whenB (b := decide (0 < x)) (tb_test (e_gtI (e_iL (e_var rfl) e_int rfl) e_int)) sJ (fun hx Hk1 H1 g1 a1 => ?_) (fun hx Hk1 H1 g1 a1 => ?_)
  · -- digit by digit
    refine q_asgX (e_mod (e_intI (e_iL (e_var rfl) e_int rfl)) (e_var rfl) nb) a1 fun v2 Hk2 H2 g2 a2 dv2 => ?_
    have ev2 := dv2.intOf
    subst ev2
    have j2 : H2 p = some (.lst [.int x, .int y, .int z]) := g2.s _ _ (fun z => by cases z) (g1.s _ _ (fun z => by cases z) hj)
    have d1 : Drawn1 p B0 H2 := (Drawn1.refl.same (fun b o h => g1.s b o (fun z => by cases z) h) g1.t).same (fun b o h => g2.s b o (fun z => by cases z) h) g2.t
    refine s_setAt (D := { nx := _, rt := Q }) (j := 0) (e_fdiv (e_iL (e_var rfl) e_int rfl) (e_var rfl) (wide_div hb hb2 (by omega) (by omega))) a2 (by rw [List.getElem?_set_ne (by omega)]; exact h0) j2 (by simp) fun v Hk3 H3 dv sm tm => ?_
    have ev := dv.intOf
    subst ev
    obtain ⟨ge, oe⟩ := ((d1.same sm tm).put (o := .lst [.int (x / b), .int y, .int z])).end (n := n) s.ok upd_same hy hy2 hz (by omega)
    exact ⟨_, List.getElem?_set_self (by omega), fin _ _ A0 _ ge oe ⟨_, fmod_in hb, rfl⟩ (.int _)⟩
  · -- by the blend
    have j1 : H1 p = some (.lst [.int x, .int y, .int z]) := g1.s _ _ (fun z => by cases z) hj
    have d1 : Drawn1 p B0 H1 := Drawn1.refl.same (fun b o h => g1.s b o (fun z => by cases z) h) g1.t
    refine s_setAt (D := { nx := _, rt := Q }) (j := 2) (e_addI (e_iL (e_var rfl) e_int rfl) e_int) a1 h0 j1 (by simp) fun v Hk2 H2 dv sm tm => ?_
    have ev := dv.intOf
    subst ev
    have d2 : Drawn1 p B0 (upd H2 p (.lst [.int x, .int y, .int (z + 1)])) := (d1.same sm tm).put
    obtain ⟨z1, ez⟩ : ∃ z1, z1 = z + 1 := ⟨_, rfl⟩
    rw [← ez] at d2
    show tSeq _ _ { nx := nx, rt := Q } σ (upd H2 p (.lst [.int x, .int y, .int (z + 1)]))
    rw [← ez]
    have sK := at_jar (p := p) (b := .none) (x := x) (y := y) (z := z1) (H := upd H2 p (.lst [.int x, .int y, .int z1])) upd_same h0 hs
    obtain ⟨m1, em1⟩ : ∃ m : Int, m = (10 : Int) ^ (38 : Int).toNat + 183 := ⟨_, rfl⟩
    obtain ⟨m2, em2⟩ : ∃ m : Int, m = (10 : Int) ^ (39 : Int).toNat + 187 := ⟨_, rfl⟩
    have hm1 : 0 < m1 ∧ m1 < 2 ^ 140 := by rw [em1]; exact ⟨by decide, by decide⟩
    have hm2 : 0 < m2 := by rw [em2]; decide
    refine q_asgX (e_mod (j := m1) (e_pow (i := y + 90019 * z1) (j := 2) (e_intI (e_addI (e_iL (e_var rfl) e_int rfl) (e_mulI e_int (e_iL (e_var rfl) e_int rfl) (wide_mul (a := 17) (b := 40) (by decide) (by omega) (by omega) (by omega) (by omega))))) e_int (pow_ok (a := 150) (by omega) (by omega) (by omega) (by omega))) (e_is (e_addI (e_pow e_int e_int (pow_ok (a := 4) (by decide) (by omega) (by omega) (by omega))) e_int) (by rw [em1])) (by omega)) sK fun v3 Hk3 H3 g3 a3 dv3 => ?_
    have b1 := fmod_in (a := (y + 90019 * z1) ^ (2 : Int).toNat) hm1.1
    obtain ⟨f1, ef1⟩ : ∃ f, f = ((y + 90019 * z1) ^ (2 : Int).toNat).fmod m1 := ⟨_, rfl⟩
    rw [← ef1] at a3 b1
    refine q_asgX (e_mod (j := m2) (e_pow (i := f1 + 1299827 * z1) (j := 3) (e_intI (e_addI (e_var rfl) (e_mulI e_int (e_iL (e_var rfl) e_int rfl) (wide_mul (a := 21) (b := 40) (by decide) (by omega) (by omega) (by omega) (by omega))))) e_int (pow_ok (a := 150) (by omega) (by omega) (by omega) (by omega))) (e_is (e_addI (e_pow e_int e_int (pow_ok (a := 4) (by decide) (by omega) (by omega) (by omega))) e_int) (by rw [em2])) (by omega)) a3 fun v4 Hk4 H4 g4 a4 dv4 => ?_
    obtain ⟨f2, ef2⟩ : ∃ f, f = ((f1 + 1299827 * z1) ^ (3 : Int).toNat).fmod m2 := ⟨_, rfl⟩
    rw [← ef2] at a4
    have d4 : Drawn1 p B0 H4 := (d2.same (fun b o h => g3.s b o (fun z => by cases z) h) g3.t).same (fun b o h => g4.s b o (fun z => by cases z) h) g4.t
    have j4 : H4 p = some (.lst [.int x, .int y, .int z1]) := g4.s _ _ (fun z => by cases z) (g3.s _ _ (fun z => by cases z) upd_same)
    refine e_mod (i := f2 / 65536) (j := b) (e_fdiv (e_var rfl) e_int (wide_div (b := 20) (by omega) (by decide) (by omega) (by omega))) (e_var rfl) nb _ Hk4 H4 0 a4.sg a4.ok _ fun d v Hk5 H5 g5 o5 ed dv5 => ?_
    subst ed
    have ev5 := dv5.intOf
    subst ev5
    have j5 : H5 p = some (.lst [.int x, .int y, .int z1]) := g5.s _ _ (fun z => by cases z) j4
    obtain ⟨ge, oe⟩ := (d4.same (fun b o h => g5.s b o (fun z => by cases z) h) g5.t).end (n := n) s.ok j5 hy hy2 (by omega) (by omega)
    exact fin _ _ A0 _ ge oe ⟨_, fmod_in hb, rfl⟩ (.int _)
end
end Cr

set_option Elab.async false
set_option linter.all false
set_option maxRecDepth 100000
set_option maxHeartbeats 4000000
namespace Cr
open PySem PySem.Spec PyProof.Rows L2
section
variable {K : PySem.W.Frag} {q : Option Addr} {n : Nat} {δ δ' : List Sl} {te ta tb tc tk : TE} {tt tu : TT} {c c1 c2 c3 : Nat} {Φ Φ1 Φ2 Φ3 : PyData → Prop} {d d1 d2 : PyData} {wi : TI} {A0 B0 Hk H1 H2 Hk' : Hp} {σ : L2.St} {D : Ends} {ts tz : TS} {g : TG} {p : Addr} {ds : List PyData}
/-! ### a list of our own that grows -/
structure Cell (q : Option Addr) (B0 Hk H1 : Hp) (p : Addr) (ds : List PyData) : Prop where
  nk : Hk p = none
  nq : q ≠ some p
  nb : B0 p = none
  ex : ∃ xs, H1 p = some (.lst xs) ∧ DqAll Hk xs ds
theorem Cell.go (x : Cell q B0 Hk H1 p ds) (g : Gr q Hk H1 Hk' H2) : Cell q B0 Hk' H2 p ds := by
  obtain ⟨xs, e, h⟩ := x.ex
  exact ⟨g.f p x.nk (by rw [e]; exact fun z => by cases z), x.nq, x.nb, xs, g.s p _ x.nq e, DqAll.mono g.k _ _ h⟩
theorem s_append {i : Nat} (h : J q δ te c Φ) (s : At q (n + c) δ A0 B0 σ Hk H1) (cl : Cell q B0 Hk H1 p ds) (hi : δ[i]? = some (.adr p)) (hl : ds.length < 1000000)
    (k : ∀ d Hk' H2, Φ d → Same Hk Hk' → At q n δ A0 B0 σ Hk' H2 → Cell q B0 Hk' H2 p (ds ++ [d]) → D.nx σ H2) : tDrop (tBM K "list" rAppend (tVar i) (tCons te tNil)) D σ H1 := by
  obtain ⟨xs, e, hd⟩ := cl.ex
  refine ⟨.ref p, s.sg.getA hi, .inl ⟨rfl, xs, .inl (.inl e)⟩, h σ Hk H1 n s.sg s.ok _ fun d v Hk' H2 g o pd dv => ?_⟩
  have cl2 := cl.go g
  have e2 := g.s p _ cl.nq e
  refine ⟨p, xs, v, rfl, rfl, e2, by rw [hd.length, sizeLine_eq]; omega, k d Hk' _ pd g.k ⟨o.cell cl2.nk cl.nq, s.sg.mono g.k, (s.gr.trans g).put cl.nb cl2.nk⟩ ⟨cl2.nk, cl.nq, cl.nb, xs ++ [v], upd_same, (DqAll.mono g.k _ _ hd).append (.cons dv .nil)⟩⟩
theorem q_append {i : Nat} (h : J q δ te c Φ) (s : At q (n + c) δ A0 B0 σ Hk H1) (cl : Cell q B0 Hk H1 p ds) (hi : δ[i]? = some (.adr p)) (hl : ds.length < 1000000)
    (k : ∀ d Hk' H2, Φ d → Same Hk Hk' → At q n δ A0 B0 σ Hk' H2 → Cell q B0 Hk' H2 p (ds ++ [d]) → tz D σ H2) : tSeq (tDrop (tBM K "list" rAppend (tVar i) (tCons te tNil))) tz D σ H1 := s_append (D := { D with nx := tz D }) h s cl hi hl k
/-- x, y = [], e -/
theorem q_parNew {i j : Nat} (h : J q δ te c Φ) (s : At q (n + c) δ A0 B0 σ Hk H1)
    (k : ∀ p d σ' Hk' H2, Φ d → At q n ((δ.set i (.adr p)).set j (.dat d)) A0 B0 σ' Hk' H2 → Cell q B0 Hk' H2 p [] → tz D σ' H2) : tSeq (tPar i j (tCons (tLst tNil) (tCons te tNil))) tz D σ H1 := by
  refine ⟨Nat.zero_le _, fun p hp => ?_⟩
  have hk : Hk p = none := s.ok.a.free hp
  have hb : B0 p = none := by
    cases e : B0 p with
    | none => rfl
    | some o => exact absurd hp (s.gr.t p (by rw [e]; exact fun z => by cases z))
  have nq : q ≠ some p := fun e => (s.ok.j p e).ne hp
  have s1 : At q (n + c) δ A0 B0 σ Hk (upd H1 p (.lst [])) := ⟨s.ok.cell hk nq, s.sg, s.gr.put hb hk⟩
  have c1 : Cell q B0 Hk (upd H1 p (.lst [])) p [] := ⟨hk, nq, hb, [], upd_same, .nil⟩
  refine h σ Hk _ n s1.sg s1.ok _ fun d v Hk' H2 g o pd dv => ?_
  exact ⟨.ref p, v, rfl, k p d _ Hk' H2 pd ⟨o, ((s1.sg.mono g.k).set i (s := .adr p) rfl).set j (s := .dat d) dv, s1.gr.trans g⟩ (c1.go g)⟩
/-- it stands still from here -/
theorem At.freeze {i : Nat} (s : At q n δ A0 B0 σ Hk H1) (cl : Cell q B0 Hk H1 p ds) (hi : δ[i]? = some (.adr p)) : ∃ Hk', Same Hk Hk' ∧ At q n (δ.set i (.dat (.list ds))) A0 B0 σ Hk' H1 := by
  obtain ⟨xs, e, hd⟩ := cl.ex
  have gf := s.gr.freeze cl.nb cl.nk e
  refine ⟨upd Hk p (.lst xs), same_upd cl.nk, ⟨gf.a, fun r er => ?_, s.ok.j⟩, ?_, gf⟩
  · rw [upd_ne (fun z => cl.nq (by rw [← z]; exact er))]; exact s.ok.kf r er
  · have sg := s.sg.mono (same_upd (o := .lst xs) cl.nk)
    refine ⟨by rw [List.length_set]; exact sg.1, fun j t ej ne => ?_⟩
    by_cases hj : i = j
    · subst hj
      have hl : i < δ.length := (List.getElem?_eq_some_iff.mp hi).1
      rw [List.getElem?_set_self hl] at ej
      cases ej
      exact ⟨.ref p, sg.getA hi, .lst upd_same (DqAll.mono (same_upd cl.nk) _ _ hd)⟩
    · rw [List.getElem?_set_ne hj] at ej
      exact sg.2 j t ej ne
/-- return [..] as a list of its own -/
theorem s_retLst {ta : TA} (h : AE q δ ta (ds.map Sl.dat)) (hl : ds.length ≤ 1000000) (s : At q n δ A0 B0 σ Hk H1) (k : ∀ p vs Hk2 H2, Gr q Hk H1 Hk2 H2 → H2 p = none → DqAll Hk2 vs ds → D.rt (.ref p) (upd H2 p (.lst vs))) : tRet (tLst ta) D σ H1 :=
  h σ Hk H1 n s.sg s.ok _ fun sls vs Hk2 H2 g o e hv => by
    subst e
    exact ⟨Nat.le_trans (by rw [hv.dats.length]; exact hl) (by rw [sizeLine_eq]; decide), fun p hp => k p vs Hk2 H2 g hp hv.dats⟩
/-! ### draws -/
theorem j_pick {i : Nat} {b : Int} {E0 : XK} (hi : δ[i]? = some (.adr p)) (h : E (some p) δ te (.int b)) (hb : 0 < b) (hb2 : b.natAbs < 2 ^ 400) : J (some p) δ (tCall (spX R_pick) [] E0 (tCons (tVar i) (tCons te tNil))) 1 (IntP fun x => 0 ≤ x ∧ x < b) :=
  (j_call (R := R_pick) (c := 1) (ae_adr hi (ae_cons h ae_nil)) fun sls e => ⟨rfl, p, b, rfl, hb, hb2, e, rfl⟩).cost (by omega)
end
/-! ### bounds -/
def Amt (M : Int) (l : List (Int × Int)) : Prop := ∀ x ∈ l, -M ≤ x.2 ∧ x.2 ≤ M
theorem tot_bound {M : Int} (hM : 0 ≤ M) : ∀ {l : List (Int × Int)}, Amt M l → ∀ k, -(M * l.length) ≤ tot l k ∧ tot l k ≤ M * l.length
  | [], _, k => by show -(M * 0) ≤ 0 ∧ 0 ≤ M * 0; rw [Int.mul_zero]; omega
  | x :: r, h, k => by
    have ih := tot_bound hM (l := r) (fun y hy => h y (List.mem_cons_of_mem _ hy)) k
    have hx := h x List.mem_cons_self
    have e : M * ((x :: r).length : Int) = M * r.length + M := by rw [List.length_cons, Int.natCast_add, Int.mul_add]; omega
    rw [e]
    show -(M * r.length + M) ≤ (if x.1 = k then x.2 else 0) + tot r k ∧ (if x.1 = k then x.2 else 0) + tot r k ≤ M * r.length + M
    split <;> omega
theorem gather_keys {cs : List (Int × Int)} {P : Int → Prop} (h : ∀ x ∈ cs, P x.1) : ∀ x ∈ gather cs, P x.1 := fun x hx => by
  have h1 := (gather_mem cs x).mp hx
  have h2 := tot_mem (l := cs) (k := x.1) (by rw [← h1.1]; exact h1.2)
  obtain ⟨y, hy, e⟩ := List.mem_map.mp h2
  rw [← e]; exact h y hy
/-! ### what the law holds for one and the same -/
def okS : Nat → PyData → Bool
  | 0, _ => false
  | k + 1, .list ds => decide (ds.length ≤ 100000) && ds.all (okS k)
  | k + 1, .tuple ds => decide (ds.length ≤ 100000) && ds.all (okS k)
  | _ + 1, .dict _ => false
  | _ + 1, .str x => PyData.strOk x
  | _ + 1, _ => true
def R_same (k : Nat) : RelX := fun _ sls c Φ => c = 0 ∧ ∃ d, okS k d = true ∧ sls = [.dat d, .dat d] ∧ Φ = fun x => x = .bool true
/-- a new jar -/
def spMk (K : PySem.W.Frag) : Sp := fun vs H Q _ => ∃ (a : Addr) (ns : List Int) (t : Int), vs = [.ref a, .int t] ∧ SqL K H a (ns.map V.int) ∧ 0 ≤ t ∧ t ≤ 1000 ∧
  ∀ p H2, Same H H2 → H p = none → Jar 999999999 H2 p → Q (.ref p) H2
end Cr

set_option Elab.async false
set_option linter.all false
set_option maxRecDepth 100000
set_option maxHeartbeats 800000
namespace Cr
open PySem PySem.Spec PyProof.Rows L2
/-! ### shaped data -/
theorem canAll_of : ∀ {ds : List PyData}, (∀ d ∈ ds, d.canLay0 = true) → PyData.canLayAll0 ds = true
  | [], _ => by simp [PyData.canLayAll0]
  | d :: ds, h => by
    rw [PyData.canLayAll0, Bool.and_eq_true]
    exact ⟨h d List.mem_cons_self, canAll_of fun x hx => h x (List.mem_cons_of_mem _ hx)⟩
theorem depthAll_le {k : Nat} : ∀ {ds : List PyData}, (∀ d ∈ ds, d.depth ≤ k) → PyData.depthAll ds ≤ k
  | [], _ => by simp [PyData.depthAll]
  | d :: ds, h => by
    rw [PyData.depthAll]
    exact Nat.max_le.mpr ⟨h d List.mem_cons_self, depthAll_le fun x hx => h x (List.mem_cons_of_mem _ hx)⟩
theorem pr_shape (x : Int × Int) : (pr x).canLay0 = true ∧ (pr x).depth ≤ 2 := by
  unfold pr
  constructor
  · simp [PyData.canLay0, PyData.canLayAll0]
  · simp [PyData.depth, PyData.depthAll]
theorem led_shape (l : List (Int × Int)) : (led l).canLay0 = true ∧ (led l).depth ≤ 3 := by
  unfold led
  constructor
  · rw [PyData.canLay0]
    exact canAll_of fun d hd => by obtain ⟨x, _, rfl⟩ := List.mem_map.mp hd; exact (pr_shape x).1
  · rw [PyData.depth]
    have : PyData.depthAll (pd l) ≤ 2 := depthAll_le fun d hd => by obtain ⟨x, _, rfl⟩ := List.mem_map.mp hd; exact (pr_shape x).2
    omega
theorem shaped_led (l : List (Int × Int)) : SeqAt.shaped (led l) = true := by
  unfold SeqAt.shaped
  rw [Bool.and_eq_true]
  exact ⟨(led_shape l).1, decide_eq_true (by have := (led_shape l).2; omega)⟩
theorem eqv_led_nil (l : List (Int × Int)) : PyData.eqv (led l) (.tuple []) = l.isEmpty := by
  cases l <;> simp [led, pd, PyData.eqv, PyData.eqvAll]
section
variable {K : PySem.W.Frag} {q : Option Addr} {n : Nat} {δ δ' : List Sl} {te ta tb tc tk ti : TE} {tt tu : TT} {c c1 c2 c3 ci : Nat} {Φ Φ1 Φ2 Φ3 : PyData → Prop} {d d1 d2 : PyData} {wi : TI} {A0 B0 Hk H1 H2 Hk' : Hp} {σ : L2.St} {D : Ends} {ts tz : TS} {g : TG} {p : Addr} {ds : List PyData} {P P1 P2 : Int → Prop} {N : Nat}
/-! ### menus: [a, b, ..][draw] -/
def AJI (q : Option Addr) (δ : List Sl) (ta : TA) (c N : Nat) (P : Int → Prop) : Prop := AJ q δ ta c (fun sls => ∃ ns : List Int, sls = (ns.map PyData.int).map Sl.dat ∧ ns.length = N ∧ ∀ x ∈ ns, P x)
theorem aji_nil : AJI q δ tNil 0 0 P := AJ.imp ae_nil fun _ e => ⟨[], e, rfl, by simp⟩
theorem aji_cons {tr : TA} (h : J q δ te c1 (IntP P)) (t : AJI q δ tr c2 N P) : AJI q δ (tCons te tr) (c2 + c1) (N + 1) P := aj_cons h t fun d sls ⟨i, pi, e⟩ ⟨ns, e2, hl, hp⟩ => ⟨i :: ns, by rw [e, e2]; rfl, by rw [List.length_cons, hl], fun x hx => by
  rcases List.mem_cons.mp hx with h | h
  · rw [h]; exact pi
  · exact hp x h⟩
theorem j_menu {tl : TA} (h : AJI q δ tl c N P) (hN : N ≤ 1000000) (hi : J q δ ti ci (IntP fun i => 0 ≤ i ∧ i < N)) : J q δ (tOp (rIx K) (tLst tl) ti) (ci + c) (IntP P) := by
  refine j_iL (Ψ := fun ds => ∃ ns : List Int, ds = ns.map PyData.int ∧ ns.length = N ∧ ∀ x ∈ ns, P x) (j_lst (AJ.imp h fun sls ⟨ns, e, hl, hp⟩ => ⟨ns.map PyData.int, e, by rw [List.length_map]; omega, ns, rfl, hl, hp⟩)) hi fun ds i ⟨ns, e, hl, hp⟩ hi => ?_
  subst e
  have hlt : i.toNat < ns.length := by omega
  refine ⟨.int ns[i.toNat], ?_, ns[i.toNat], hp _ (List.getElem_mem hlt), rfl⟩
  have h3 := atI_nat (xs := ns.map PyData.int) (j := i.toNat) (v := .int ns[i.toNat]) (by rw [List.getElem?_map, List.getElem?_eq_getElem hlt]; rfl)
  rw [Int.toNat_of_nonneg hi.1] at h3
  exact h3
theorem E.is {i : Int} (h : E q δ te (.int i)) (hp : P i) : J q δ te 0 (IntP P) := h.imp fun d e => ⟨i, hp, e⟩
theorem aj_int {tr : TA} {Φr Φ' : List Sl → Prop} (h : J q δ te c1 (IntP P)) (hr : AJ q δ tr c2 Φr) (hp : ∀ i sls, P i → Φr sls → Φ' (.dat (.int i) :: sls)) : AJ q δ (tCons te tr) (c2 + c1) Φ' := aj_cons h hr fun d sls ⟨i, pi, e⟩ s => by subst e; exact hp i sls pi s
/-! ### comprehensions over a ledger's pairs -/
theorem e_pr {a b : TE} {x y : Int} (h1 : E q δ a (.int x)) (h2 : E q δ b (.int y)) : E q δ (tTup (tCons a (tCons b tNil))) (pr (x, y)) := e_tup (ds := [.int x, .int y]) (ae_cons h1 (ae_cons h2 ae_nil))
/-! ### the same twice -/
/-! ### keyword calls, told -/
theorem e_callK {R : RelX} {E0 : XK} {ta tk : TA} {gV : List V → List V → List V} {ss us rs : List Sl} (ha : AE q δ ta ss) (hk : AE q δ tk us) (hg : ∀ (H : Hp) (vs zs : List V), VS H vs ss → VS H zs us → VS H (gV vs zs) rs) (hr : R q rs 0 (fun x => x = d)) : E q δ (tCallK (spX R) gV E0 ta tk) d :=
  j_callK (R := R) (gS := fun _ _ => rs) ha hk (fun H vs zs s u h1 h2 e1 e2 => by subst e1; subst e2; exact hg H vs zs h1 h2) fun _ _ _ _ => hr
theorem VS.inv0 {H : Hp} {vs : List V} (h : VS H vs []) : vs = [] := List.length_eq_zero_iff.mp h.1
theorem VS.inv1 {H : Hp} {vs : List V} {s : Sl} {r : List Sl} (h : VS H vs (s :: r)) : ∃ v t, vs = v :: t ∧ SlOk H v s ∧ VS H t r := by
  cases vs with
  | nil => have := h.1; simp at this
  | cons v t =>
    obtain ⟨w, a, b⟩ := h.2 0 s rfl
    have e : v = w := by simpa using a
    subst e
    exact ⟨v, t, rfl, b, by have := h.1; simpa using this, fun i u e => by
      obtain ⟨x, p, q⟩ := h.2 (i + 1) u (by simpa using e)
      exact ⟨x, by simpa using p, q⟩⟩
/-! ### the law's own level -/
theorem At.reset (s : At q n δ A0 B0 σ Hk H1) : At none 0 δ Hk H1 σ Hk H1 := ⟨⟨s.ok.a, fun p e => (by cases e), fun p e => (by cases e)⟩, s.sg, Gr.refl s.ok.a⟩
theorem At.reset2 (s : At q n δ A0 B0 σ Hk H1) : At q n δ Hk H1 σ Hk H1 := ⟨s.ok, s.sg, Gr.refl s.ok.a⟩
theorem q_mkJar {i j k : Nat} {E0 : XK} {ns : List Int} {t : Int} (s : At none 0 δ A0 B0 σ Hk H1) (hi : δ[i]? = some (.scr K ns)) (hj : δ[j]? = some (.dat (.int t))) (h0 : 0 ≤ t) (h1 : t ≤ 1000)
    (kont : ∀ p σ' H2, Same H1 H2 → At (some p) 999999999 (δ.set k (.adr p)) Hk H2 σ' Hk H2 → tz D σ' H2) : tSeq (tAsg (tCall (spMk K) [] E0 (tCons (tVar i) (tCons (tVar j) tNil))) (gName k)) tz D σ H1 := by
  obtain ⟨v, a, b, rfl, hS⟩ := s.sg.2 i _ hi (fun z => by cases z)
  obtain ⟨w, e, dw⟩ := s.sg.get hj
  have ew := dw.intOf
  subst ew
  refine ⟨.ref b, a, .int t, e, ?_⟩
  refine ⟨b, ns, t, rfl, Same.seq s.ok.a hS, h0, h1, fun p H2 sm hp hJ => ?_⟩
  have hk : Hk p = none := s.ok.a.free hp
  refine kont p _ H2 sm ⟨⟨s.ok.a.trans sm, fun r er => by cases er; exact hk, fun r er => by cases er; exact hJ⟩, s.sg.set k (s := .adr p) rfl, Gr.refl (s.ok.a.trans sm)⟩
def spLaw (K : PySem.W.Frag) : Sp := fun vs H Q _ => ∃ (a : Addr) (ns : List Int), vs = [.ref a] ∧ SqL K H a (ns.map V.int) ∧ ns.length ≤ 63 ∧ ∀ H', Q (.bl true) H'
/-- for at in range(max(1, min(m, len(script)))) -/
theorem e_ats {m : Int} {i : Nat} {ns : List Int} (hi : δ[i]? = some (.scr K ns)) (hm : 1 ≤ m) (hm2 : m ≤ 100) : IJ q δ (iRng1 (tCons (tCB rMaxQ (tCons (tC (.int 1)) (tCons (tCB rMinQ (tCons (tC (.int m)) (tCons (tCB (rLenQ K) (tCons (tVar i) tNil)) tNil))) tNil))) tNil)) 0 (fun items => ∃ k : Nat, k ≤ 100 ∧ items = rng 0 k) :=
  ij_rng1 (E.intP (e_max e_int (e_min e_int (e_lenS hi)))) fun j e => by
    have h1 : 0 ≤ j ∧ j ≤ 100 := by
      rw [e]
      have : (0 : Int) ≤ (ns.length : Int) := Int.natCast_nonneg _
      split <;> split <;> omega
    exact ⟨by omega, j.toNat, by omega, rfl⟩
end
end Cr

set_option Elab.async false
set_option linter.all false
set_option maxRecDepth 100000
set_option maxHeartbeats 4000000
namespace Cr
open PySem PySem.Spec PyProof.Rows L2
/-! ### def f( *v ): all arguments become one tuple -/
section
variable {P : Program} {w : World} {K : PySem.W.Frag} {mg : Str → Option Value} {base : Heap}
end
section
variable {X : Cx} {CX : CXT} {k : Nat} {f : Addr} {sp : Sp} {E : XK} {x : Str} {e : Expr} {es : List Expr} {t : TA} {p pos : Pos}
end
section
variable {K : PySem.W.Frag} {q : Option Addr} {n : Nat} {δ δ' : List Sl} {te ta tb tc tk ti : TE} {tt tu : TT} {c c1 c2 c3 ci : Nat} {Φ Φ1 Φ2 Φ3 : PyData → Prop} {d d1 d2 : PyData} {A0 B0 Hk H1 H2 Hk' : Hp} {σ : L2.St} {D : Ends} {ts tz : TS} {g : TG} {p : Addr} {ds : List PyData} {P P1 P2 : Int → Prop} {N : Nat}
/-! ### [e for a in x for b in y] -/
/-! ### a list that still changes, read within an expression -/
mutual
def plain : PyData → Bool
  | .list _ => false
  | .dict _ => false
  | .tuple ds => plainAll ds
  | _ => true
def plainAll : List PyData → Bool
  | [] => true
  | d :: ds => plain d && plainAll ds
end
section
variable {Ha Hb : Hp}
/-- a tuple, known or not -/
def isT : HO → Prop
  | .tup _ => True
  | .frz _ (.tup _) => True
  | _ => False
mutual
theorem Dq.keep (e : ∀ b u, isT u → Ha b = some u → Hb b = some u) : ∀ (d : PyData) (v : V), plain d = true → Dq Ha v d → Dq Hb v d
  | .none, _, _, h => by cases h; exact .non
  | .bool b, _, _, h => by cases h; exact .bl b
  | .int i, _, _, h => by cases h; exact .int i
  | .str x, _, _, h => by cases h; exact .str x
  | .list ds, _, z, h => Bool.noConfusion (show false = true from z)
  | .tuple ds, _, z, h => by
    cases h with
    | tup hs ha =>
      refine .tup ?_ (DqAll.keep e ds _ z ha)
      rcases hs with ⟨o, d, q⟩ | ⟨d, q⟩
      · exact .inl ⟨o, d, e _ _ trivial q⟩
      · exact .inr ⟨d, e _ _ trivial q⟩
  | .dict _, _, z, h => by simp [plain] at z
theorem DqAll.keep (e : ∀ b u, isT u → Ha b = some u → Hb b = some u) : ∀ (ds : List PyData) (vs : List V), plainAll ds = true → DqAll Ha vs ds → DqAll Hb vs ds
  | [], _, _, h => by cases h; exact .nil
  | d :: ds, _, z, h => by
    have z' : (plain d && plainAll ds) = true := z
    rw [Bool.and_eq_true] at z'
    cases h with
    | cons h1 h2 => exact .cons (Dq.keep e d _ z'.1 h1) (DqAll.keep e ds _ z'.2 h2)
end
end
theorem DqAll.set {H : Hp} : ∀ {vs : List V} {ds : List PyData} {v : V} {d : PyData}, DqAll H vs ds → ∀ j : Nat, Dq H v d → DqAll H (vs.set j v) (ds.set j d)
  | [], _, _, _, h, j, dv => by cases h; exact .nil
  | x :: xs, _, _, _, h, 0, dv => by
    cases h with
    | cons h1 h2 => exact .cons dv h2
  | x :: xs, _, _, _, h, j + 1, dv => by
    cases h with
    | cons h1 h2 => exact .cons h1 (DqAll.set h2 j dv)
theorem AE.is {ta : TA} {a b : List Sl} (h : AE q δ ta a) (e : a = b) : AE q δ ta b := by rw [← e]; exact h
/-- same([..], [..]) -/
theorem e_sameX {E0 : XK} {t1 t2 : TE} {X : PyData} {k : Nat} (h1 : E q δ t1 X) (h2 : E q δ t2 X) (ok : okS k X = true) : E q δ (tCall (spX (R_same k)) [] E0 (tCons t1 (tCons t2 tNil))) (.bool true) :=
  j_call (R := R_same k) (ae_cons h1 (ae_cons h2 ae_nil)) fun sls e => ⟨rfl, X, ok, e, rfl⟩
end
end Cr

set_option Elab.async false
set_option linter.all false
set_option maxRecDepth 100000
set_option maxHeartbeats 800000
namespace Cr
open PySem PySem.Spec PyProof.Rows L2
theorem cutD_to (xs : List PyData) (n : Nat) : cutD xs none (some (n : Int)) = xs.take n := by
  unfold cutD
  have h0 : HT.sIx xs.length 0 none = 0 := rfl
  rw [h0, List.drop_zero, Nat.sub_zero]
  have h1 : HT.sIx xs.length xs.length (some (n : Int)) = min n xs.length := by
    simp [HT.sIx]
    try omega
  rw [h1]
  by_cases h : n ≤ xs.length
  · rw [Nat.min_eq_left h]
  · rw [Nat.min_eq_right (by omega), List.take_length, List.take_of_length_le (by omega)]
section
variable {K : PySem.W.Frag} {q : Option Addr} {n : Nat} {δ δ' : List Sl} {te ta tb tc tk ti : TE} {tt tu tt1 tt2 tt3 : TT} {c c1 c2 c3 ci : Nat} {Φ Φ1 Φ2 Φ3 : PyData → Prop} {d d1 d2 : PyData} {A0 B0 Hk H1 H2 Hk' : Hp} {σ : L2.St} {D : Ends} {ts tz : TS} {g : TG} {p : Addr} {ds : List PyData}
end
end Cr

set_option Elab.async false
set_option linter.all false
set_option maxRecDepth 100000
set_option maxHeartbeats 800000
namespace Cr
open PySem PySem.Spec PyProof.Rows L2
/-! ### products of ledgers -/
def prodL (a b : List (Int × Int)) : List (Int × Int) := a.flatMap fun x => b.map fun y => (x.1 + y.1, x.2 * y.2)
/-! ### sums with a weight -/
def wsum (φ : Int → Int) : List (Int × Int) → Int
  | [] => 0
  | x :: r => x.2 * φ x.1 + wsum φ r
def ksum (φ : Int → Int) (f : Int → Int) : List Int → Int
  | [] => 0
  | k :: r => f k * φ k + ksum φ f r
theorem ksum_add (φ f g : Int → Int) : ∀ S : List Int, ksum φ (fun k => f k + g k) S = ksum φ f S + ksum φ g S
  | [] => rfl
  | k :: S => by
    show (f k + g k) * φ k + ksum φ (fun k => f k + g k) S = (f k * φ k + ksum φ f S) + (g k * φ k + ksum φ g S)
    rw [ksum_add φ f g S, Int.add_mul]; omega
theorem ksum_no (φ : Int → Int) (x c : Int) : ∀ S : List Int, x ∉ S → ksum φ (fun k => if x = k then c else 0) S = 0
  | [], _ => rfl
  | k :: S, h => by
    show (if x = k then c else 0) * φ k + _ = 0
    rw [if_neg (fun e => h (by rw [e]; simp)), Int.zero_mul, ksum_no φ x c S fun z => h (by simp [z])]
    rfl
theorem ksum_at (φ : Int → Int) (x c : Int) : ∀ S : List Int, S.Pairwise (· < ·) → x ∈ S → ksum φ (fun k => if x = k then c else 0) S = c * φ x
  | [], _, h => by cases h
  | k :: S, hp, h => by
    have hp' := List.pairwise_cons.mp hp
    show (if x = k then c else 0) * φ k + ksum φ (fun k => if x = k then c else 0) S = c * φ x
    by_cases e : x = k
    · subst e
      rw [if_pos rfl, ksum_no φ x c S fun z => absurd (hp'.1 x z) (by omega), Int.add_zero]
    · rw [if_neg e, Int.zero_mul, Int.zero_add]
      exact ksum_at φ x c S hp'.2 (by
        rcases List.mem_cons.mp h with z | z
        · exact absurd z e
        · exact z)
theorem ksum_zero (φ : Int → Int) : ∀ S : List Int, ksum φ (fun _ => 0) S = 0
  | [] => rfl
  | k :: S => by
    show 0 * φ k + ksum φ (fun _ => 0) S = 0
    rw [ksum_zero φ S, Int.zero_mul]; rfl
theorem wsum_keys (φ : Int → Int) {S : List Int} (hp : S.Pairwise (· < ·)) : ∀ l : List (Int × Int), (∀ x ∈ l, x.1 ∈ S) → wsum φ l = ksum φ (tot l) S
  | [], _ => (ksum_zero φ S).symm
  | x :: l, h => by
    show x.2 * φ x.1 + wsum φ l = ksum φ (fun k => (if x.1 = k then x.2 else 0) + tot l k) S
    rw [ksum_add, ksum_at φ x.1 x.2 S hp (h x (by simp)), wsum_keys φ hp l fun y hy => h y (by simp [hy])]
theorem wsum_append (φ : Int → Int) (a b : List (Int × Int)) : wsum φ (a ++ b) = wsum φ a + wsum φ b := by
  induction a with
  | nil => show wsum φ b = 0 + wsum φ b; omega
  | cons x a ih =>
    show x.2 * φ x.1 + wsum φ (a ++ b) = (x.2 * φ x.1 + wsum φ a) + wsum φ b
    rw [ih]; omega
/-! ### how great amounts are -/
def Amb (B : Nat) (l : List (Int × Int)) : Prop := ∀ x ∈ l, x.2.natAbs < 2 ^ B
theorem Amb.mono {B C : Nat} {l : List (Int × Int)} (h : Amb B l) (hc : B ≤ C) : Amb C l := fun x hx => Nat.lt_of_lt_of_le (h x hx) (Nat.pow_le_pow_right (by decide) hc)
end Cr

set_option Elab.async false
set_option linter.all false
set_option maxRecDepth 100000
set_option maxHeartbeats 800000
namespace Cr
open PySem PySem.Spec PyProof.Rows L2
/-! ### one key's amount -/
end Cr

set_option Elab.async false
set_option linter.all false
set_option maxRecDepth 100000
set_option maxHeartbeats 800000
namespace Cr
open PySem PySem.Spec PyProof.Rows L2
/-! ### repr of a list or a tuple -/
section
variable {K : PySem.W.Frag} {q : Option Addr} {δ : List Sl} {te ta tb : TE} {d : PyData}
end
/-! ### a law that is entered at the caller itself: its guards are known -/
section
variable {P : Program} {w : World} {K : PySem.W.Frag} {mg mb : Str → Option Value} {base : Heap} {k : Nat}
end
section
variable {K : PySem.W.Frag} {q : Option Addr} {n : Nat} {δ : List Sl} {te : TE} {tt : TT} {c c1 : Nat} {Φ : PyData → Prop} {A0 B0 Hk H1 : Hp} {σ : L2.St} {D : Ends} {tz : TS}
end
end Cr

set_option Elab.async false
set_option linter.all false
set_option maxRecDepth 100000
set_option maxHeartbeats 800000
namespace Cr
open PySem PySem.Spec PyProof.Rows L2
section
variable {K : PySem.W.Frag} {q : Option Addr} {n : Nat} {δ δ' : List Sl} {te ta tb tn ti : TE} {tt : TT} {c c1 c2 : Nat} {Φ : PyData → Prop} {d : PyData} {A0 B0 Hk H1 : Hp} {σ : L2.St} {D : Ends} {tz tbody : TS} {g : TG} {p : Addr} {ds : List PyData}
end
end Cr

set_option Elab.async false
set_option linter.all false
set_option maxRecDepth 100000
set_option maxHeartbeats 1000000
namespace Cr
open PySem PySem.Spec PyProof.Rows L2
/-! ### enumerate(v) of a tuple -/
section
variable {K : PySem.W.Frag} {q : Option Addr} {δ : List Sl} {te : TE}
end
end Cr

set_option Elab.async false
set_option linter.all false
set_option maxRecDepth 100000
set_option maxHeartbeats 1000000
namespace Cr
open PySem PySem.Spec PyProof.Rows L2
/-! ### t[::-1] of a tuple -/
theorem revPlaces (n : Nat) : Builtin.Slice.slicePlaces ((n : Int) - 1) (-1) (-1) = n := by
  unfold Builtin.Slice.slicePlaces
  rw [if_neg (by omega)]
  by_cases h : n = 0
  · subst h; rfl
  · rw [if_pos (by omega)]
    have e : ((n : Int) - 1 - -1 - 1) / (- -1) = (n : Int) - 1 := by
      rw [show (- -1 : Int) = 1 from rfl, Int.ediv_one]; omega
    rw [e]; omega
theorem fm_congr {α β : Type} {f g : α → Option β} : ∀ {l : List α}, (∀ x ∈ l, f x = g x) → l.filterMap f = l.filterMap g
  | [], _ => rfl
  | x :: l, h => by
    rw [List.filterMap_cons, List.filterMap_cons, h x (by simp), fm_congr fun y hy => h y (by simp [hy])]
theorem fm_some {α β : Type} (g : α → β) : ∀ l : List α, l.filterMap (fun x => some (g x)) = l.map g
  | [] => rfl
  | x :: l => by rw [List.filterMap_cons, fm_some g l]; rfl
theorem revPick (xs : Array Value) : ((List.range xs.size).filterMap fun (m : Nat) => xs[((xs.size : Int) - 1 + (m : Int) * -1).toNat]?).toArray = xs.toList.reverse.toArray := by
  congr 1
  have h : ∀ m ∈ List.range xs.size, (fun (m : Nat) => xs[((xs.size : Int) - 1 + (m : Int) * -1).toNat]?) m = (fun m => some (xs.toList.reverse.getD m .none)) m := fun m hm => by
    have hm' := List.mem_range.mp hm
    have e : ((xs.size : Int) - 1 + (m : Int) * -1).toNat = xs.size - 1 - m := by omega
    show xs[((xs.size : Int) - 1 + (m : Int) * -1).toNat]? = some (xs.toList.reverse.getD m .none)
    rw [e, List.getD_eq_getElem?_getD, List.getElem?_reverse (by simpa using hm')]
    have hx : xs.size - 1 - m < xs.size := by omega
    simp [hx]
  rw [fm_congr h, fm_some]
  refine List.ext_getElem? fun i => ?_
  rw [List.getElem?_map]
  by_cases hi : i < xs.size
  · rw [List.getElem?_range hi]
    have z : i < xs.toList.reverse.length := by simpa using hi
    simp [List.getD_eq_getElem?_getD, z]
    rw [List.getElem?_eq_getElem z]; rfl
  · rw [List.getElem?_eq_none (by simpa using hi), List.getElem?_eq_none (by simpa using hi)]
    rfl
section
variable {prog : Program} {w : World} {A : Around} {E : Value → Shared → Prop} {s : Shared}
theorem revApplied {sl : Addr} {vl vu vs : Value} {n : Nat} {Q : Int × Int × Nat → Shared → Prop} (hs : s.heap.IsSliceOf sl vl vu vs) (pl : IsPart vl none) (pu : IsPart vu none) (ps : IsPart vs (some (-1)))
    (h : Q ((n : Int) - 1, -1, n) s) : wpAny (model prog w) A (Builtin.Slice.sliceApplied (.ref sl) (pure (n : Int))) Q E s := by
  obtain ⟨ob, ho, hc, hd⟩ := id hs
  unfold Builtin.Slice.sliceApplied Builtin.Slice.sliceFields
  refine wpAny_bind (wpAny_bind (wpAny_field ho hd (x := vl) rfl (wpAny_bind (wpAny_field ho hd (x := vu) rfl (wpAny_bind (wpAny_field ho hd (x := vs) rfl (wpAny_pure ?_)))))))
  refine wpAny_bind (HT.slicePart_ ps ?_)
  show wpAny _ _ (if ((-1 : Int) == 0) = true then _ else _) _ _ s
  rw [if_neg (by decide)]
  refine wpAny_bind (HT.slicePart_ pl (wpAny_bind (HT.slicePart_ pu (wpAny_bind (wpAny_pure ?_)))))
  show wpAny _ _ (pure ((n : Int) - 1, (-1 : Int), Builtin.Slice.slicePlaces ((n : Int) - 1) (-1) (-1))) _ _ s
  rw [revPlaces]
  exact wpAny_pure h
theorem getTupRev {t sl : Addr} {items : Array Value} {vl vu vs : Value} {Q : Value → Shared → Prop} (ht : IsTup s.heap t items) (hs : s.heap.IsSliceOf sl vl vu vs) (pl : IsPart vl none) (pu : IsPart vu none) (ps : IsPart vs (some (-1)))
    (h : Q (.ref s.heap.objs.size) { s with heap := s.heap.push { cls := .type "tuple", data := .seq items.toList.reverse.toArray } }) (hz : items.size ≤ sizeLine) : wpAny (model prog w) A (getItem (.ref t) (.ref sl)) Q E s := by
  have room : sizeOk (.seq items.toList.reverse.toArray) := by
    show items.toList.reverse.toArray.size ≤ sizeLine
    simpa using hz
  obtain ⟨ob, ho, hc, hd⟩ := id hs
  have isSl : s.TypeIs (.ref sl) "slice" := ⟨ob, ho, hc⟩
  unfold getItem
  try with_reducible refine wpAny_holding ?_
  first | refine wpAny_bind (wpAny_pure ?_) | skip
  refine wpAny_bind (wpAny_sequenceKey ht.typeIs (by decide) ?_)
  refine wpAny_bind (wpAny_callSpecial?_slot (name := Str.ofString "__getitem__") ht.typeIs PyProof.Rows.slot_tuple_getitem (wpAny_call_entry PyProof.Rows.slot_tuple_getitem ht.typeIs entry_tuple_getitem ?_ (args_tuple_getitem _ _)))
  show wpAny _ _ (Builtin.Tuple.tupleItemsOf (.ref t) >>= _) _ _ s
  refine wpAny_bind (PyProof.Rows.tupleItemsOf_ ht (wpAny_bind (wpAny_typeOf isSl ?_)))
  rw [if_pos (by decide)]
  refine wpAny_bind (revApplied hs pl pu ps ?_)
  have no : ¬ ((((items.size : Int) - 1) == 0 && (-1 : Int) == 1 && items.size == items.size) = true) := by
    intro z
    rw [Bool.and_eq_true, Bool.and_eq_true] at z
    exact absurd z.1.2 (by decide)
  show wpAny _ _ (if (((items.size : Int) - 1) == 0 && (-1 : Int) == 1 && items.size == items.size) = true then _ else _) _ _ s
  rw [if_neg no, revPick]
  first
    | exact wpAny_bind (m := Builtin.Tuple.tupleExact _) (wpAny_newObj_type (wpAny_pure ⟨_, rfl, wpAny_pure h⟩) room)
    | exact wpAny_bind (m := Builtin.Tuple.tupleExact _) (wpAny_newObj_type (wpAny_bind (wpAny_pure (wpAny_pure ⟨_, rfl, wpAny_pure h⟩))) room)
    | exact wpAny_bind (wpAny_bind (m := Builtin.Tuple.tupleExact _) (wpAny_newObj_type (wpAny_pure (wpAny_pure ⟨_, rfl, wpAny_pure h⟩)) room))
    | exact wpAny_bind (wpAny_bind (m := Builtin.Tuple.tupleExact _) (wpAny_newObj_type (wpAny_pure ⟨_, rfl, wpAny_pure h⟩) room))
end
def tRevT (K : PySem.W.Frag) (te : TE) : TE := fun σ H Q => te σ H fun x H1 => ∃ a xs, x = .ref a ∧ SqT K H1 a xs ∧ LaidT H1 xs.reverse Q
theorem pe_revT {X : Cx} {K : PySem.W.Frag} {e : Expr} {te : TE} {k : Nat} {p1 p2 p3 pos : Pos} (hK : X.K = K) (he : PE X e te) : PE X (.Subscript e (.Slice none none (some (.UnaryOp .USub (.Constant (.int 1) k p1) p2)) p3) pos) (tRevT K te) := by
  subst hK
  refine ⟨fun pins s σ H Q I h => Subscript_ (thn (he.run pins s σ H _ I h) fun v s1 ⟨x, H1, I1, r1, a, xs, ex, hx, q⟩ => ?_)⟩
  subst ex
  obtain rfl : v = Value.ref a := r1
  have step : PO X (some (.UnaryOp .USub (.Constant (.int 1) k p1) p2)) (tPart (tUn (rU fun i => .int (-i)) (tC (.int 1)))) := po_some (pe_un un_neg pe_int)
  refine wpAny_Slice (thn (po_none.run pins s1 σ H1 (fun o H2 => o = none ∧ H2 = H1) I1 ⟨rfl, rfl⟩) fun vl s2 ⟨l, H2, I2, pl, el, e2⟩ => ?_)
  subst el; subst e2
  refine thn (po_none.run pins s2 σ H2 (fun o H3 => o = none ∧ H3 = H2) I2 ⟨rfl, rfl⟩) fun vu s3 ⟨u, H3, I3, pu, eu, e3⟩ => ?_
  subst eu; subst e3
  refine thn (step.run pins s3 σ H3 (fun o H4 => o = some (-1) ∧ H4 = H3) I3 ⟨1, rfl, -1, rfl, rfl, rfl⟩) fun vs s4 ⟨o, H4, I4, ps, eo, e4⟩ => ?_
  subst eo; subst e4
  have I5 : Inv X pins σ H4 { s4 with heap := s4.heap.push { cls := .type "slice", data := .fields #[vl, vu, vs] } } := I4.kept (t' := s4.toks) fun b ob z => Heap.get?_push_of_some _ z
  obtain ⟨its, r, ht, hz⟩ := I5.tuple hx
  have hlen := r.length
  show wpAny (model X.prog X.w) X.A (subscriptTail e (.Slice none none (some (.UnaryOp .USub (.Constant (.int 1) k p1) p2)) p3) (.ref a) (.ref s4.heap.objs.size)) (EP X pins σ Q) X.xe { s4 with heap := s4.heap.push { cls := .type "slice", data := .fields #[vl, vu, vs] } }
  refine tail_any (ops := [.ref a, .ref s4.heap.objs.size]) ht.typeIs PyProof.Rows.slot_tuple_getitem.lookup (getTupRev ht (Heap.IsSliceOf.new _ vl vu vs) pl pu ps ?_ (by rw [List.size_toArray]; omega)) (by with_unfolding_all rfl)
  exact laidT I5 r.reverse (by rw [List.length_reverse]; exact hz) q
section
variable {K : PySem.W.Frag} {q : Option Addr} {δ : List Sl} {te : TE}
theorem DqAll.reverse {H : Hp} : ∀ {vs : List V} {ds : List PyData}, DqAll H vs ds → DqAll H vs.reverse ds.reverse
  | [], _, h => by cases h; exact .nil
  | v :: vs, _, h => by
    cases h with
    | cons h1 h2 => rw [List.reverse_cons, List.reverse_cons]; exact (DqAll.reverse h2).append (.cons h1 .nil)
theorem e_revT {ds : List PyData} (h : E q δ te (.tuple ds)) : E q δ (tRevT K te) (.tuple ds.reverse) := fun σ H H1 n sg o Q k =>
  h σ H H1 n sg o _ fun d v Hk H2 g o1 ed dv => by
    subst ed
    obtain ⟨a, xs, rfl, h1, h2⟩ := dv.tupOf
    refine ⟨a, xs, rfl, .inl (h1.mono g.a).rd, fun p ob od hp => ?_⟩
    have g1 := Gr.new (q := none) (o := .frz ob (.tup xs.reverse)) g.a hp
    exact k _ _ _ _ (g.trans g1.none_to) (o1.go g1) rfl (.tup (Tp.new od) (DqAll.mono g1.k _ _ h2.reverse))
end
end Cr

set_option Elab.async false
set_option linter.all false
set_option maxRecDepth 100000
set_option maxHeartbeats 800000
namespace Cr
open PySem PySem.Spec PyProof.Rows L2
/-! ### polynomials: coefficients by their indexes -/
def enF : Nat → List Int → List (Int × Int)
  | _, [] => []
  | k, a :: f => ((k : Int), a) :: enF (k + 1) f
abbrev en (f : List Int) : List (Int × Int) := enF 0 f
def evalP (f : List Int) (x : Int) : Int := f.foldr (fun a r => r * x + a) 0
def pw (x : Int) (k : Int) : Int := x ^ k.toNat
theorem enF_mem : ∀ {f : List Int} {k : Nat} {y : Int × Int}, y ∈ enF k f → (k : Int) ≤ y.1 ∧ y.1 < (k : Int) + f.length
  | [], _, _, h => by cases h
  | a :: f, k, y, h => by
    rcases List.mem_cons.mp h with e | e
    · subst e; simp; omega
    · have z := enF_mem e
      rw [List.length_cons]
      omega
theorem wsum_enF (x : Int) : ∀ (f : List Int) (k : Nat), wsum (pw x) (enF k f) = x ^ k * evalP f x
  | [], k => by show (0 : Int) = x ^ k * 0; rw [Int.mul_zero]
  | a :: f, k => by
    show a * pw x (k : Int) + wsum (pw x) (enF (k + 1) f) = x ^ k * (evalP f x * x + a)
    rw [wsum_enF x f (k + 1)]
    unfold pw
    rw [Int.toNat_natCast, Int.pow_succ, Int.mul_add, Int.mul_comm a, Int.mul_assoc, Int.mul_comm x (evalP f x)]
    omega
theorem tot_enF : ∀ (f : List Int) (k n : Nat), tot (enF k f) ((k + n : Nat) : Int) = f.getD n 0
  | [], k, n => by simp [enF, tot]
  | a :: f, k, 0 => by
    show (if (k : Int) = ((k + 0 : Nat) : Int) then a else 0) + tot (enF (k + 1) f) ((k + 0 : Nat) : Int) = a
    rw [if_pos (by omega), tot_no fun h => by
      obtain ⟨y, hy, e⟩ := List.mem_map.mp h
      have z := (enF_mem hy).1
      omega]
    omega
  | a :: f, k, n + 1 => by
    show (if (k : Int) = ((k + (n + 1) : Nat) : Int) then a else 0) + tot (enF (k + 1) f) ((k + (n + 1) : Nat) : Int) = f.getD n 0
    rw [if_neg (by omega), show k + (n + 1) = (k + 1) + n by omega, tot_enF f (k + 1) n]
    omega
theorem pw_add {x i j : Int} (hi : 0 ≤ i) (hj : 0 ≤ j) : pw x (i + j) = pw x i * pw x j := by
  unfold pw
  rw [show (i + j).toNat = i.toNat + j.toNat by omega, Int.pow_add]
/-- products, keys from 0 on -/
theorem wsum_prodN (x : Int) {a b : List (Int × Int)} (ha : ∀ y ∈ a, 0 ≤ y.1) (hb : ∀ y ∈ b, 0 ≤ y.1) : wsum (pw x) (prodL a b) = wsum (pw x) a * wsum (pw x) b := by
  have sh : ∀ (y : Int × Int), 0 ≤ y.1 → ∀ b : List (Int × Int), (∀ z ∈ b, 0 ≤ z.1) → wsum (pw x) (b.map fun z => (y.1 + z.1, y.2 * z.2)) = y.2 * pw x y.1 * wsum (pw x) b := fun y hy b => by
    induction b with
    | nil => intro _; show (0 : Int) = _ * 0; rw [Int.mul_zero]
    | cons z b ih =>
      intro hb
      show y.2 * z.2 * pw x (y.1 + z.1) + wsum (pw x) (b.map fun z => (y.1 + z.1, y.2 * z.2)) = y.2 * pw x y.1 * (z.2 * pw x z.1 + wsum (pw x) b)
      rw [ih fun w hw => hb w (by simp [hw]), pw_add hy (hb z (by simp)), Int.mul_add]
      congr 1
      rw [Int.mul_assoc, Int.mul_assoc, Int.mul_left_comm z.2]
  induction a with
  | nil => show (0 : Int) = 0 * _; rw [Int.zero_mul]
  | cons y a ih =>
    show wsum (pw x) ((b.map fun z => (y.1 + z.1, y.2 * z.2)) ++ prodL a b) = (y.2 * pw x y.1 + wsum (pw x) a) * wsum (pw x) b
    rw [wsum_append, ih fun w hw => ha w (by simp [hw]), Int.add_mul, sh y (ha y (by simp)) b hb]
/-- one step of both loops -/
def addAt (r : List Int) (k : Nat) (c : Int) : List Int := r.set k (r.getD k 0 + c)
def addOps : List Int → List (Nat × Int) → List Int
  | r, [] => r
  | r, o :: os => addOps (addAt r o.1 o.2) os
theorem addAt_len (r : List Int) (k : Nat) (c : Int) : (addAt r k c).length = r.length := List.length_set ..
theorem addOps_len : ∀ (os : List (Nat × Int)) (r : List Int), (addOps r os).length = r.length
  | [], _ => rfl
  | o :: os, r => by
    show (addOps (addAt r o.1 o.2) os).length = _
    rw [addOps_len os, addAt_len]
theorem addAt_get {r : List Int} {k : Nat} {c : Int} (hk : k < r.length) (n : Nat) : (addAt r k c).getD n 0 = r.getD n 0 + if (k : Int) = (n : Int) then c else 0 := by
  unfold addAt
  rw [List.getD_eq_getElem?_getD, List.getD_eq_getElem?_getD]
  by_cases h : k = n
  · subst h
    rw [List.getElem?_set_self hk, if_pos rfl]
    simp [List.getD_eq_getElem?_getD]
  · rw [List.getElem?_set_ne h, if_neg (by omega), Int.add_zero]
    simp [List.getD_eq_getElem?_getD]
theorem addOps_get : ∀ (os : List (Nat × Int)) {r : List Int}, (∀ o ∈ os, o.1 < r.length) → ∀ n : Nat, (addOps r os).getD n 0 = r.getD n 0 + tot (os.map fun o => ((o.1 : Int), o.2)) n
  | [], r, _, n => by show r.getD n 0 = r.getD n 0 + 0; omega
  | o :: os, r, h, n => by
    show (addOps (addAt r o.1 o.2) os).getD n 0 = r.getD n 0 + ((if (o.1 : Int) = (n : Int) then o.2 else 0) + tot (os.map fun o => ((o.1 : Int), o.2)) n)
    rw [addOps_get os (fun p hp => by rw [addAt_len]; exact h p (by simp [hp])) n, addAt_get (h o (by simp))]
    omega
theorem evalP_wsum (f : List Int) (x : Int) : evalP f x = wsum (pw x) (en f) := by
  rw [wsum_enF, Int.pow_zero, Int.one_mul]
def opsOf (f g : List Int) : List (Nat × Int) := (List.range f.length).flatMap fun i => (List.range g.length).map fun j => (i + j, f.getD i 0 * g.getD j 0)
/-- what both loops make -/
def conv (f g : List Int) : List Int := addOps (List.replicate (f.length + g.length - 1) 0) (opsOf f g)
theorem enF_range : ∀ (f : List Int) (k : Nat), enF k f = (List.range f.length).map fun i => (((k + i : Nat) : Int), f.getD i 0)
  | [], k => rfl
  | a :: f, k => by
    rw [List.length_cons, List.range_succ_eq_map, List.map_cons, List.map_map]
    show ((k : Int), a) :: enF (k + 1) f = (((k + 0 : Nat) : Int), a) :: _
    rw [enF_range f (k + 1)]
    congr 1
    exact List.map_congr_left fun i _ => by
      show (((k + 1 + i : Nat) : Int), f.getD i 0) = (((k + (i + 1) : Nat) : Int), f.getD i 0)
      rw [show k + 1 + i = k + (i + 1) by omega]
theorem ops_prod (f g : List Int) : (opsOf f g).map (fun o => ((o.1 : Int), o.2)) = prodL (en f) (en g) := by
  unfold opsOf prodL en
  rw [enF_range f 0, enF_range g 0, List.map_flatMap, List.flatMap_map]
  congr 1
  funext i
  rw [List.map_map, List.map_map]
  exact List.map_congr_left fun j _ => by
    show (((i + j : Nat) : Int), f.getD i 0 * g.getD j 0) = (((0 + i : Nat) : Int) + ((0 + j : Nat) : Int), f.getD i 0 * g.getD j 0)
    rw [show ((i + j : Nat) : Int) = ((0 + i : Nat) : Int) + ((0 + j : Nat) : Int) by omega]
theorem ops_lt (f g : List Int) : ∀ o ∈ opsOf f g, o.1 < f.length + g.length - 1 := fun o ho => by
  unfold opsOf at ho
  obtain ⟨i, hi, h⟩ := List.mem_flatMap.mp ho
  obtain ⟨j, hj, rfl⟩ := List.mem_map.mp h
  have h1 := List.mem_range.mp hi
  have h2 := List.mem_range.mp hj
  show i + j < _
  omega
theorem conv_len (f g : List Int) : (conv f g).length = f.length + g.length - 1 := by
  unfold conv
  rw [addOps_len, List.length_replicate]
theorem conv_get (f g : List Int) (n : Nat) : (conv f g).getD n 0 = tot (prodL (en f) (en g)) n := by
  unfold conv
  rw [addOps_get _ (fun o ho => by rw [List.length_replicate]; exact ops_lt f g o ho), ops_prod]
  have z : (List.replicate (f.length + g.length - 1) (0 : Int)).getD n 0 = 0 := by
    rw [List.getD_eq_getElem?_getD, List.getElem?_replicate]
    split <;> rfl
  rw [z]; omega
theorem ksum_congr (φ f g : Int → Int) : ∀ {S : List Int}, (∀ k ∈ S, f k = g k) → ksum φ f S = ksum φ g S
  | [], _ => rfl
  | k :: S, h => by
    show f k * φ k + ksum φ f S = g k * φ k + ksum φ g S
    rw [h k (by simp), ksum_congr φ f g fun j hj => h j (by simp [hj])]
theorem upto_sorted (N : Nat) : ((List.range N).map fun i => ((i : Nat) : Int)).Pairwise (· < ·) := by
  rw [List.pairwise_map]
  exact List.pairwise_lt_range.imp fun h => by omega
theorem upto_mem {N : Nat} {k : Int} (h0 : 0 ≤ k) (h1 : k < (N : Int)) : k ∈ (List.range N).map fun i => ((i : Nat) : Int) :=
  List.mem_map.mpr ⟨k.toNat, List.mem_range.mpr (by omega), by omega⟩
theorem conv_val (f g : List Int) (x : Int) : evalP (conv f g) x = evalP f x * evalP g x := by
  rw [evalP_wsum, evalP_wsum f, evalP_wsum g, ← wsum_prodN x (fun y hy => by have := (enF_mem hy).1; omega) (fun y hy => by have := (enF_mem hy).1; omega)]
  have hS := upto_sorted (f.length + g.length - 1)
  rw [wsum_keys (pw x) hS (en (conv f g)) fun y hy => ?_, wsum_keys (pw x) hS (prodL (en f) (en g)) fun y hy => ?_]
  · refine ksum_congr _ _ _ fun k hk => ?_
    obtain ⟨n, hn, rfl⟩ := List.mem_map.mp hk
    rw [← conv_get]
    have z := tot_enF (conv f g) 0 n
    rw [Nat.zero_add] at z
    exact z
  · rw [← ops_prod] at hy
    obtain ⟨o, ho, rfl⟩ := List.mem_map.mp hy
    have z := ops_lt f g o ho
    exact upto_mem (by show (0 : Int) ≤ (o.1 : Int); omega) (by show (o.1 : Int) < _; omega)
  · have z := enF_mem hy
    rw [conv_len] at z
    exact upto_mem (by omega) (by omega)
end Cr

set_option Elab.async false
set_option linter.all false
set_option maxRecDepth 100000
set_option maxHeartbeats 800000
namespace Cr
open PySem PySem.Spec PyProof.Rows L2
/-- a polynomial as data -/
def pol (f : List Int) : PyData := .tuple (f.map .int)
def Pl (f : List Int) : Prop := f.getLast? ≠ some 0
def CB (B : Nat) (f : List Int) : Prop := ∀ a ∈ f, a.natAbs < 2 ^ B
theorem pol_len (f : List Int) : (f.map PyData.int).length = f.length := List.length_map ..
theorem CB.mono {B C : Nat} {f : List Int} (h : CB B f) (hc : B ≤ C) : CB C f := fun a ha => Nat.lt_of_lt_of_le (h a ha) (Nat.pow_le_pow_right (by decide) hc)
end Cr

set_option Elab.async false
set_option linter.all false
set_option maxRecDepth 100000
set_option maxHeartbeats 800000
namespace Cr
open PySem PySem.Spec PyProof.Rows L2
def rowOps (f g : List Int) (i j : Nat) : List (Nat × Int) := (List.range j).map fun k => (i + k, f.getD i 0 * g.getD k 0)
def rowsOps (f g : List Int) (i : Nat) : List (Nat × Int) := (List.range i).flatMap fun k => rowOps f g k g.length
/-- behind i rows and j steps of the next one -/
def part (f g : List Int) (i j : Nat) : List Int := addOps (List.replicate (f.length + g.length - 1) 0) (rowsOps f g i ++ rowOps f g i j)
theorem getD_mem {f : List Int} {i : Nat} (hi : i < f.length) : f.getD i 0 ∈ f := by
  rw [List.getD_eq_getElem?_getD, List.getElem?_eq_getElem hi]
  exact List.getElem_mem hi
theorem evalP_snoc (x : Int) : ∀ (f : List Int) (a : Int), evalP (f ++ [a]) x = evalP f x + a * x ^ f.length
  | [], a => by show (0 : Int) * x + a = 0 + a * x ^ 0; rw [Int.pow_zero, Int.mul_one, Int.zero_mul]
  | b :: f, a => by
    show evalP (f ++ [a]) x * x + b = (evalP f x * x + b) + a * x ^ (f.length + 1)
    rw [evalP_snoc x f a, Int.add_mul, Int.pow_succ, Int.mul_assoc a]
    omega
section
variable {K : PySem.W.Frag} {q : Option Addr} {n : Nat} {δ δ' : List Sl} {te : TE} {d : PyData} {A0 B0 Hk H1 : Hp} {σ : L2.St} {D : Ends} {tz : TS} {g : TG} {vs : List Nat}
end
end Cr

set_option Elab.async false
set_option linter.all false
set_option maxRecDepth 100000
set_option maxHeartbeats 800000
namespace Cr
open PySem PySem.Spec PyProof.Rows L2
section
variable {K : PySem.W.Frag} {q : Option Addr} {n : Nat} {δ δ' : List Sl} {te te2 ta tb tc : TE} {tt tu : TT} {c c1 c2 c3 : Nat} {Φ Φ1 Φ2 Φ3 : PyData → Prop} {d d1 d2 : PyData} {A0 B0 Hk H1 : Hp} {σ : L2.St} {D : Ends} {tz t1 : TS} {p : Addr} {ds : List PyData}
end
end Cr
namespace Cr
open PySem PySem.Spec PyProof.Rows L2
section
variable {q : Option Addr} {δ : List Sl} {tt : TT} {c : Nat}
end
end Cr

set_option Elab.async false
set_option linter.all false
set_option maxRecDepth 100000
set_option maxHeartbeats 800000
namespace Cr
open PySem PySem.Spec PyProof.Rows L2
/-! ### sums of powers -/
def tms (l : List (Int × Int)) (j : Nat) : List Int := l.map fun x => x.2 * x.1 ^ j
def psum (l : List (Int × Int)) (j : Nat) : Int := (tms l j).sum
def Kb (A B : Nat) (l : List (Int × Int)) : Prop := ∀ x ∈ l, x.1.natAbs < 2 ^ A ∧ x.2.natAbs < 2 ^ B
theorem Kb.mono {A B A' B' : Nat} {l : List (Int × Int)} (h : Kb A B l) (ha : A ≤ A') (hb : B ≤ B') : Kb A' B' l := fun x hx => ⟨Nat.lt_of_lt_of_le (h x hx).1 (Nat.pow_le_pow_right (by decide) ha), Nat.lt_of_lt_of_le (h x hx).2 (Nat.pow_le_pow_right (by decide) hb)⟩
theorem psum_nil (j : Nat) : psum [] j = 0 := rfl
theorem psum_cons (x : Int × Int) (l : List (Int × Int)) (j : Nat) : psum (x :: l) j = x.2 * x.1 ^ j + psum l j := by
  unfold psum tms; rw [List.map_cons, List.sum_cons]
/-! ### math.comb -/
end Cr

set_option Elab.async false
set_option linter.all false
set_option maxRecDepth 100000
set_option maxHeartbeats 800000
namespace L2
open PySem PySem.Spec PyProof.Rows
section
variable {X : Cx}
end
end L2
namespace Cr
open PySem PySem.Spec PyProof.Rows L2
section
variable {K : PySem.W.Frag} {q : Option Addr} {n : Nat} {δ δ' : List Sl} {te ta tb tc tj : TE} {tt : TT} {c c1 c2 c3 : Nat} {Φ Φ1 Φ2 : PyData → Prop} {d : PyData} {wi : TI} {A0 B0 Hk H1 : Hp} {σ : L2.St} {D : Ends} {tz t1 : TS} {g : TG} {p : Addr} {P P1 P2 : Int → Prop}
theorem IE.is {wi : TI} {xs ys : List PyData} (h : IE q δ wi xs) (e : xs = ys) : IE q δ wi ys := by rw [← e]; exact h
end
/-! ### math of the changes -/
theorem Kb.one {A B : Nat} {k b : Int} (h : k.natAbs < 2 ^ A) (h2 : b.natAbs < 2 ^ B) : Kb A B [(k, b)] := fun x hx => by
  rw [List.mem_singleton.mp hx]; exact ⟨h, h2⟩
end Cr

set_option Elab.async false
set_option linter.all false
set_option maxRecDepth 100000
set_option maxHeartbeats 800000
namespace Cr
open PySem PySem.Spec PyProof.Rows L2
section
variable {K : PySem.W.Frag} {q : Option Addr} {δ : List Sl} {te ta tb : TE} {c : Nat} {P : Int → Prop}
theorem e_ten {k v : Int} (h0 : 0 ≤ k) (h1 : 4 * k ≤ 2 ^ 27) (e : (10 : Int) ^ k.toNat = v) : E q δ (tOp (rI CPowW fun i j => .int (i ^ j.toNat)) (tC (.int 10)) (tC (.int k))) (.int v) := e_is (e_pow e_int e_int (pow_ok (a := 4) (by decide) (by omega) h0 h1)) (by rw [e])
end
end Cr

set_option Elab.async false
set_option linter.all false
set_option maxRecDepth 100000
set_option maxHeartbeats 800000
namespace Cr
open PySem PySem.Spec PyProof.Rows L2
section
variable {K : PySem.W.Frag} {q : Option Addr} {n : Nat} {δ δ' : List Sl} {te ta tb : TE} {tt : TT} {c c1 c2 : Nat} {Φ : PyData → Prop} {d : PyData} {A0 B0 Hk H1 : Hp} {σ : L2.St} {D : Ends} {tz : TS} {P P1 P2 : Int → Prop}
end
/-! ### rows of integers -/
def zmul (f g : List Int) : List Int := (f.zip g).map fun x => x.1 * x.2
theorem Kb.take {A B : Nat} {l : List (Int × Int)} (h : Kb A B l) (n : Nat) : Kb A B (l.take n) := fun x hx => h x (List.mem_of_mem_take hx)
end Cr

set_option Elab.async false
set_option linter.all false
set_option maxRecDepth 100000
set_option maxHeartbeats 800000
namespace Cr
open PySem PySem.Spec PyProof.Rows L2
/-! ### numbers of ways -/
def chs : Nat → Nat → Nat
  | _, 0 => 1
  | 0, _ + 1 => 0
  | n + 1, k + 1 => chs n k + chs n (k + 1)
/-! ### sums over 0 .. n - 1 -/
def sm : Nat → (Nat → Int) → Int
  | 0, _ => 0
  | n + 1, F => sm n F + F n
theorem sm_congr {F G : Nat → Int} : ∀ {n : Nat}, (∀ i, i < n → F i = G i) → sm n F = sm n G
  | 0, _ => rfl
  | n + 1, h => by
    show sm n F + F n = sm n G + G n
    rw [sm_congr fun i hi => h i (by omega), h n (by omega)]
theorem sm_add (F G : Nat → Int) : ∀ n : Nat, sm n (fun i => F i + G i) = sm n F + sm n G
  | 0 => rfl
  | n + 1 => by
    show sm n _ + (F n + G n) = (sm n F + F n) + (sm n G + G n)
    rw [sm_add F G n]; omega
theorem sm_mul (c : Int) (F : Nat → Int) : ∀ n : Nat, sm n (fun i => c * F i) = c * sm n F
  | 0 => (Int.mul_zero c).symm
  | n + 1 => by
    show sm n _ + c * F n = c * (sm n F + F n)
    rw [sm_mul c F n, Int.mul_add]
theorem sm_zero : ∀ n : Nat, sm n (fun _ => 0) = 0
  | 0 => rfl
  | n + 1 => by show sm n _ + 0 = 0; rw [sm_zero n]; rfl
/-! ### the binomial theorem -/
/-! ### products of rows of sums -/
/-! ### rows of numbers of ways -/
end Cr

set_option Elab.async false
set_option linter.all false
set_option maxRecDepth 100000
set_option maxHeartbeats 800000
namespace Cr
open PySem PySem.Spec PyProof.Rows L2
theorem CB.getD {B : Nat} {f : List Int} (h : CB B f) (i : Nat) : (f.getD i 0).natAbs < 2 ^ B := by
  by_cases hi : i < f.length
  · exact h _ (Cr.getD_mem hi)
  · rw [List.getD_eq_getElem?_getD, List.getElem?_eq_none (by omega)]
    exact Nat.pos_of_ne_zero (by simp)
section
variable {K : PySem.W.Frag} {q : Option Addr} {n : Nat} {δ δ' : List Sl} {te te2 ta tb : TE} {tt : TT} {c c1 c2 : Nat} {d d2 : PyData} {A0 B0 Hk H1 : Hp} {σ : L2.St} {D : Ends} {tz : TS} {p : Addr} {ds : List PyData} {Ψ : List Int → Prop}
end
end Cr
namespace Cr
open PySem PySem.Spec PyProof.Rows L2
section
variable {K : PySem.W.Frag} {q : Option Addr} {n : Nat} {δ : List Sl} {tt : TT} {c : Nat} {A0 B0 Hk H1 : Hp} {σ : L2.St} {D : Ends} {tz : TS} {p : Addr} {ds : List PyData}
end
end Cr

set_option Elab.async false
set_option linter.all false
set_option maxRecDepth 100000
set_option maxHeartbeats 800000
namespace L2
open PySem PySem.Spec PyProof.Rows
def rIsNQ : R2 := fun x y H Q => (y = .non ∧ Q (.bl (decide (x = .non))) H) ∨ ∃ b, y = .bl b ∧ Q (.bl (decide (x = .bl b))) H
def rNotNQ : R2 := fun x y H Q => (y = .non ∧ Q (.bl (!decide (x = .non))) H) ∨ ∃ b, y = .bl b ∧ Q (.bl (!decide (x = .bl b))) H
theorem rel_bl {v : Value} {x : V} {b : Bool} (h : RelV x v) : v = .bool b ↔ x = .bl b := by
  constructor
  · intro e
    subst e
    cases x <;> first
      | (cases h; rfl)
      | (obtain ⟨t, h⟩ := h; cases h)
      | exact absurd h (by intro z; cases z)
  · intro e
    subst e
    exact h
theorem rel_plain {v : Value} {x : V} {b : Bool} (h : RelV x v) : plainIs v (.bool b) = true := by
  cases x <;> first
    | (cases h; rfl)
    | (obtain ⟨t, rfl⟩ := h; rfl)
section
variable {X : Cx}
theorem op_isBlA : OpR X (compareOp .Is) (fun x y H Q => ∃ b, y = .bl b ∧ Q (.bl (decide (x = .bl b))) H) := by
  intro pins s σ H x y v u Q I rx ry h
  obtain ⟨b, rfl, q⟩ := h
  cases (show u = Value.bool b from ry)
  by_cases e : x = .bl b
  · have e2 := (rel_bl rx).mpr e
    subst e2
    exact wpAny_is_self rfl ⟨.bl true, H, I, rfl, by simpa [e] using q⟩
  · exact wpAny_is_other (rel_plain rx) (fun z => e ((rel_bl rx).mp z)) ⟨.bl false, H, I, rfl, by simpa [e] using q⟩
theorem op_notBlA : OpR X (compareOp .IsNot) (fun x y H Q => ∃ b, y = .bl b ∧ Q (.bl (!decide (x = .bl b))) H) := by
  intro pins s σ H x y v u Q I rx ry h
  obtain ⟨b, rfl, q⟩ := h
  cases (show u = Value.bool b from ry)
  by_cases e : x = .bl b
  · have e2 := (rel_bl rx).mpr e
    subst e2
    exact wpAny_isNot_self rfl ⟨.bl false, H, I, rfl, by simpa [e] using q⟩
  · exact wpAny_isNot_other (rel_plain rx) (fun z => e ((rel_bl rx).mp z)) ⟨.bl true, H, I, rfl, by simpa [e] using q⟩
theorem op_isNQ : OpR X (compareOp .Is) rIsNQ := OpR.or op_isN op_isBlA
theorem op_notNQ : OpR X (compareOp .IsNot) rNotNQ := OpR.or op_notN op_notBlA
end
end L2
namespace Cr
open PySem PySem.Spec PyProof.Rows L2
def isBlD (b : Bool) : PyData → Bool
  | .bool c => decide (c = b)
  | _ => false
theorem dq_blD {H : Hp} {v : V} {d : PyData} {b : Bool} (h : Dq H v d) : decide (v = .bl b) = isBlD b d := by
  cases h with
  | bl c => show decide (V.bl c = .bl b) = decide (c = b); simp
  | _ => rfl
section
variable {K : PySem.W.Frag} {q : Option Addr} {n : Nat} {δ δ' : List Sl} {te te2 ta tb : TE} {tt : TT} {c c1 c2 : Nat} {Φ : PyData → Prop} {d d2 : PyData} {A0 B0 Hk H1 : Hp} {σ : L2.St} {D : Ends} {tz : TS} {p : Addr} {ds es : List PyData} {g : TG} {wi : TI}
theorem e_isB {b : Bool} (h : E q δ ta d) : E q δ (tOp rIsNQ ta (tC (.bl b))) (.bool (isBlD b d)) := e_op (d2 := .bool b) h e_bl fun x y H H1 hx hy e Q k =>
  Or.inr ⟨b, hy.blOf, by rw [dq_blD hx]; exact k (.bool (isBlD b d)) _ H H1 (Gr.refl e) rfl (.bl _)⟩
theorem e_notB {b : Bool} (h : E q δ ta d) : E q δ (tOp rNotNQ ta (tC (.bl b))) (.bool (!isBlD b d)) := e_op (d2 := .bool b) h e_bl fun x y H H1 hx hy e Q k =>
  Or.inr ⟨b, hy.blOf, by rw [dq_blD hx]; exact k (.bool (!isBlD b d)) _ H H1 (Gr.refl e) rfl (.bl _)⟩
/-- a new list, not yet known -/
def JN (q : Option Addr) (δ : List Sl) (te : TE) (es : List PyData) : Prop := ∀ (σ : L2.St) (H H1 : Hp) (n : Nat), Sg H σ δ → Ok q n H H1 → ∀ Q : VK, (∀ D xs Hk H2, Gr q H H1 Hk H2 → Ok q n Hk H2 → H1 D = none → Hk D = none → H2 D = some (.lst xs) → DqAll Hk xs es → Q (.ref D) H2) → te σ H1 Q
end
end Cr

set_option Elab.async false
set_option linter.all false
set_option maxRecDepth 100000
set_option maxHeartbeats 800000
namespace Cr
open PySem PySem.Spec PyProof.Rows L2
theorem getD_lt {f : List Int} {i : Nat} (h : i < f.length) : f[i]? = some (f.getD i 0) := by
  rw [List.getElem?_eq_getElem h]; simp [List.getD_eq_getElem?_getD, h]
end Cr

set_option Elab.async false
set_option linter.all false
set_option maxRecDepth 100000
set_option maxHeartbeats 800000
namespace Cr
open PySem PySem.Spec PyProof.Rows L2
section
variable {K : PySem.W.Frag} {q : Option Addr} {n : Nat} {δ δ' : List Sl} {te te2 ta tb : TE} {tl th : TO} {tt : TT} {c c1 c2 : Nat} {Φ : PyData → Prop} {d d2 : PyData} {lo hi : Option Int} {P1 P2 P : List Int → Prop}
theorem sIx_nat {l d : Nat} (n : Nat) : HT.sIx l d (some (n : Int)) = min n l := by
  unfold HT.sIx
  simp
  omega
theorem cutD_from (xs : List PyData) (n : Nat) : cutD xs (some (n : Int)) none = xs.drop n := by
  unfold cutD
  rw [sIx_nat]
  show (xs.drop (min n xs.length)).take (xs.length - min n xs.length) = _
  by_cases h : n ≤ xs.length
  · rw [Nat.min_eq_left h, List.take_of_length_le (by rw [List.length_drop]; omega)]
  · rw [Nat.min_eq_right (by omega), Nat.sub_self, List.take_zero, List.drop_eq_nil_of_le (by omega)]
end
end Cr
namespace Cr
open PySem PySem.Spec PyProof.Rows L2
section
variable {q : Option Addr} {δ : List Sl} {te : TE} {c : Nat} {P : Bool → Prop}
theorem _root_.Cr.J.boolAny (h : J q δ te c (BoolP P)) : J q δ te c (BoolP fun _ => True) := h.imp fun d ⟨b, _, e⟩ => ⟨b, trivial, e⟩
end
end Cr

set_option Elab.async false
set_option linter.all false
set_option maxRecDepth 100000
set_option maxHeartbeats 800000
namespace Cr
open PySem PySem.Spec PyProof.Rows L2
theorem evalP_take (f : List Int) (x : Int) : ∀ n : Nat, n ≤ f.length → evalP (f.take n) x = sm n (fun j => f.getD j 0 * x ^ j)
  | 0, _ => rfl
  | n + 1, h => by
    rw [List.take_add_one, getD_lt (by omega)]
    show evalP (f.take n ++ [f.getD n 0]) x = sm n _ + _
    rw [evalP_snoc, evalP_take f x n (by omega), List.length_take, Nat.min_eq_left (by omega)]
theorem evalP_sm (f : List Int) (x : Int) : evalP f x = sm f.length (fun j => f.getD j 0 * x ^ j) := by
  have z := evalP_take f x f.length (Nat.le_refl _)
  rwa [List.take_length] at z
/-- the sums of a polynomial's values -/
theorem wsum_dot (f : List Int) (l : List (Int × Int)) : wsum (evalP f) l = sm f.length (fun j => f.getD j 0 * psum l j) := by
  induction l with
  | nil =>
    show (0 : Int) = _
    rw [sm_congr (G := fun _ => 0) fun i _ => by rw [psum_nil, Int.mul_zero], sm_zero]
  | cons x l ih =>
    show x.2 * evalP f x.1 + wsum (evalP f) l = _
    rw [ih, evalP_sm, ← sm_mul, ← sm_add]
    exact sm_congr fun j _ => by rw [psum_cons, Int.mul_add, Int.mul_left_comm]
def chg : List (Int × Int) → Nat
  | x :: y :: r => (if x.2 * y.2 < 0 then 1 else 0) + chg (y :: r)
  | _ => 0
theorem chg_lt : ∀ {l : List (Int × Int)}, l ≠ [] → chg l < l.length
  | [], h => absurd rfl h
  | [x], _ => Nat.zero_lt_succ _
  | x :: y :: r, _ => by
    have ih := chg_lt (l := y :: r) (by simp)
    show (if _ then 1 else 0) + chg (y :: r) < (y :: r).length + 1
    split <;> omega
theorem pos_mul {a b : Int} (h : 0 < a) (h2 : 0 < b) : 0 < a * b := Int.mul_pos h h2
theorem chg_sign : ∀ {l : List (Int × Int)}, l.Pairwise (fun a b => a.1 < b.1) → (∀ x ∈ l, x.2 ≠ 0) → l ≠ [] →
    ∃ (f : List Int) (s : Int), f.length = chg l + 1 ∧ (∀ z ∈ l, 0 < s * (z.2 * evalP f z.1)) ∧ ∀ x, l.head? = some x → ∀ k : Int, k ≤ x.1 → 0 < s * (x.2 * evalP f k)
  | [], _, _, h => absurd rfl h
  | [x], _, hz, _ => by
    have h0 := hz x (by simp)
    have h1 : evalP [1] = fun k => (0 : Int) * k + 1 := rfl
    have hs : 0 < x.2 * (x.2 * 1) := by
      rw [Int.mul_one]
      by_cases h : 0 < x.2
      · exact pos_mul h h
      · have := pos_mul (a := -x.2) (b := -x.2) (by omega) (by omega)
        rwa [Int.neg_mul_neg] at this
    refine ⟨[1], x.2, rfl, fun z hz' => ?_, fun y hy k _ => ?_⟩
    · rw [List.mem_singleton.mp hz', h1]
      show 0 < x.2 * (x.2 * (0 * _ + 1))
      rw [Int.zero_mul, Int.zero_add]; exact hs
    · have e : x = y := by simpa using hy
      subst e
      rw [h1]
      show 0 < x.2 * (x.2 * (0 * _ + 1))
      rw [Int.zero_mul, Int.zero_add]; exact hs
  | x :: y :: r, hp, hz, _ => by
    have hp2 := List.pairwise_cons.mp hp
    obtain ⟨f, s, hl, ha, hb⟩ := chg_sign (l := y :: r) hp2.2 (fun z h => hz z (by simp [h])) (by simp)
    have hxy : x.1 < y.1 := hp2.1 y (by simp)
    have hy0 := hz y (by simp)
    have hx0 := hz x (by simp)
    have hyk : ∀ k : Int, k ≤ x.1 → 0 < s * (y.2 * evalP f k) := fun k hk => hb y rfl k (by omega)
    by_cases hc : x.2 * y.2 < 0
    · have ev : ∀ k : Int, evalP (conv f [-(2 * x.1 + 1), 2]) k = evalP f k * (2 * k - (2 * x.1 + 1)) := fun k => by
        rw [conv_val]
        congr 1
        show (0 * k + 2) * k + -(2 * x.1 + 1) = _
        rw [Int.zero_mul, Int.zero_add]; omega
      have fl : (conv f [-(2 * x.1 + 1), 2]).length = chg (x :: y :: r) + 1 := by
        rw [conv_len, hl]
        show chg (y :: r) + 1 + 2 - 1 = (if x.2 * y.2 < 0 then 1 else 0) + chg (y :: r) + 1
        rw [if_pos hc]; omega
      have hx : ∀ k : Int, k ≤ x.1 → 0 < s * (x.2 * evalP (conv f [-(2 * x.1 + 1), 2]) k) := fun k hk => by
        rw [ev]
        have h1 := hyk k hk
        have h2 : 0 < (2 * x.1 + 1) - 2 * k := by omega
        have h3 := pos_mul (pos_mul (a := -(x.2 * y.2)) (by omega) h1) h2
        have h4 : 0 < y.2 * y.2 := by
          by_cases h : 0 < y.2
          · exact pos_mul h h
          · have := pos_mul (a := -y.2) (b := -y.2) (by omega) (by omega)
            rwa [Int.neg_mul_neg] at this
        generalize evalP f k = w at h3 ⊢
        have e : -(x.2 * y.2) * (s * (y.2 * w)) * ((2 * x.1 + 1) - 2 * k) = (s * (x.2 * (w * (2 * k - (2 * x.1 + 1))))) * (y.2 * y.2) := by
          rw [show ((2 * x.1 + 1) - 2 * k : Int) = -(2 * k - (2 * x.1 + 1)) by omega]
          generalize (2 * k - (2 * x.1 + 1) : Int) = u
          rw [Int.neg_mul, Int.neg_mul_neg]
          simp only [Int.mul_comm, Int.mul_left_comm, Int.mul_assoc]
        rw [e] at h3
        by_cases hq : 0 < s * (x.2 * (w * (2 * k - (2 * x.1 + 1))))
        · exact hq
        · exfalso
          have := Int.mul_nonneg (a := -(s * (x.2 * (w * (2 * k - (2 * x.1 + 1)))))) (b := y.2 * y.2) (by omega) (Int.le_of_lt h4)
          rw [Int.neg_mul] at this
          omega
      refine ⟨conv f [-(2 * x.1 + 1), 2], s, fl, fun z hz' => ?_, fun w hw k hk => ?_⟩
      · rcases List.mem_cons.mp hz' with e | hm
        · rw [e]; exact hx x.1 (Int.le_refl _)
        · rw [ev]
          have h1 := ha z hm
          have h2 : 0 < 2 * z.1 - (2 * x.1 + 1) := by
            have := hp2.1 z hm
            omega
          have h3 := pos_mul h1 h2
          have e : s * (z.2 * evalP f z.1) * (2 * z.1 - (2 * x.1 + 1)) = s * (z.2 * (evalP f z.1 * (2 * z.1 - (2 * x.1 + 1)))) := by
            rw [Int.mul_assoc, Int.mul_assoc]
          rwa [e] at h3
      · have e : x = w := by simpa using hw
        subst e
        exact hx k hk
    · have hpos : 0 < x.2 * y.2 := by
        have : x.2 * y.2 ≠ 0 := Int.mul_ne_zero hx0 hy0
        omega
      have hx : ∀ k : Int, k ≤ x.1 → 0 < s * (x.2 * evalP f k) := fun k hk => by
        have h1 := hyk k hk
        have h3 := pos_mul hpos h1
        have h4 : 0 < y.2 * y.2 := by
          by_cases h : 0 < y.2
          · exact pos_mul h h
          · have := pos_mul (a := -y.2) (b := -y.2) (by omega) (by omega)
            rwa [Int.neg_mul_neg] at this
        generalize evalP f k = w at h3 ⊢
        have e : x.2 * y.2 * (s * (y.2 * w)) = (s * (x.2 * w)) * (y.2 * y.2) := by
          simp only [Int.mul_comm, Int.mul_left_comm, Int.mul_assoc]
        rw [e] at h3
        by_cases hq : 0 < s * (x.2 * w)
        · exact hq
        · exfalso
          have := Int.mul_nonneg (a := -(s * (x.2 * w))) (b := y.2 * y.2) (by omega) (Int.le_of_lt h4)
          rw [Int.neg_mul] at this
          omega
      refine ⟨f, s, ?_, fun z hz' => ?_, fun w hw k hk => ?_⟩
      · rw [hl]
        show _ = (if x.2 * y.2 < 0 then 1 else 0) + chg (y :: r) + 1
        rw [if_neg hc]; omega
      · rcases List.mem_cons.mp hz' with e | hm
        · rw [e]; exact hx x.1 (Int.le_refl _)
        · exact ha z hm
      · have e : x = w := by simpa using hw
        subst e
        exact hx k hk
theorem wsum_pos (φ : Int → Int) (s : Int) : ∀ {l : List (Int × Int)}, (∀ z ∈ l, 0 < s * (z.2 * φ z.1)) → l ≠ [] → 0 < s * wsum φ l
  | [], _, h => absurd rfl h
  | [x], h, _ => by
    show 0 < s * (x.2 * φ x.1 + 0)
    rw [Int.add_zero]; exact h x (by simp)
  | x :: y :: r, h, _ => by
    have ih := wsum_pos φ s (l := y :: r) (fun z hz => h z (by simp [hz])) (by simp)
    show 0 < s * (x.2 * φ x.1 + wsum φ (y :: r))
    rw [Int.mul_add]
    have := h x (by simp)
    omega
/-- a ledger has a sum other than 0 not behind its changes of sign -/
theorem apart {l : List (Int × Int)} (h : Led l) (hne : l ≠ []) : ∃ j, j ≤ chg l ∧ psum l j ≠ 0 := by
  obtain ⟨f, s, hl, ha, _⟩ := chg_sign h.1 h.2 hne
  have hp := wsum_pos (evalP f) s ha hne
  refine Classical.byContradiction fun hno => ?_
  have hz : ∀ j, j < f.length → psum l j = 0 := fun j hj => Classical.byContradiction fun hj0 => hno ⟨j, by omega, hj0⟩
  rw [wsum_dot, sm_congr (G := fun _ => 0) fun j hj => by rw [hz j hj, Int.mul_zero], sm_zero, Int.mul_zero] at hp
  exact absurd hp (by decide)
def IsBl (l : List (Int × Int)) (j : Nat) : Prop := psum l j ≠ 0 ∧ ∀ i, i < j → psum l i = 0
theorem isBl_of {l : List (Int × Int)} : ∀ {n : Nat}, psum l n ≠ 0 → ∃ j, j ≤ n ∧ IsBl l j := by
  intro n
  induction n using Nat.strongRecOn with
  | ind n ih =>
    intro h
    by_cases hs : ∃ i, i < n ∧ psum l i ≠ 0
    · obtain ⟨i, hi, h0⟩ := hs
      obtain ⟨j, hj, hb⟩ := ih i hi h0
      exact ⟨j, by omega, hb⟩
    · exact ⟨n, Nat.le_refl _, h, fun i hi => Classical.byContradiction fun h0 => hs ⟨i, hi, h0⟩⟩
theorem led_bl {l : List (Int × Int)} (h : Led l) (hne : l ≠ []) : ∃ j, j ≤ chg l ∧ IsBl l j := by
  obtain ⟨n, hn, h0⟩ := apart h hne
  obtain ⟨j, hj, hb⟩ := isBl_of h0
  exact ⟨j, by omega, hb⟩
theorem IsBl.uniq {l : List (Int × Int)} {i j : Nat} (h : IsBl l i) (h2 : IsBl l j) : i = j := by
  by_cases h3 : i < j
  · exact absurd (h2.2 i h3) h.1
  · by_cases h4 : j < i
    · exact absurd (h.2 j h4) h2.1
    · omega
open Classical in
noncomputable def blD (l : List (Int × Int)) : PyData := if h : ∃ j, IsBl l j then .int ((Classical.choose h : Nat) : Int) else .none
theorem blD_is {l : List (Int × Int)} {j : Nat} (h : IsBl l j) : blD l = .int (j : Int) := by
  unfold blD
  rw [dif_pos ⟨j, h⟩, (Classical.choose_spec (⟨j, h⟩ : ∃ j, IsBl l j)).uniq h]
theorem blD_nil : blD [] = .none := by
  unfold blD
  rw [dif_neg fun ⟨j, h⟩ => h.1 (psum_nil j)]
/-! ### changes of sign, told in two ways -/
/-! ### the least blind ledger -/
def sgz (z : Int) : Int := 1 - 2 * z.fmod 2
def turn (s : Nat) (f : Int) : List (Int × Int) := (List.range (s + 1)).map fun (k : Nat) => (f + (0 + (k : Int)), (chs s k : Int) * sgz ((s : Int) - (0 + (k : Int))))
end Cr
namespace Cr
open PySem PySem.Spec PyProof.Rows L2
section
variable {q : Option Addr} {δ : List Sl} {te : TE}
end
end Cr

set_option Elab.async false
set_option linter.all false
set_option maxRecDepth 100000
set_option maxHeartbeats 1000001
/-! zip of a tuple and a list -/
namespace Zm
open PySem PySem.Spec PyProof.Rows L2 RZ
section
variable {w : World} {prog : Program}
/-- what a step of an iterator needs and leaves -/
structure Nx (prog : Program) (w : World) (it l : Addr) (x : Value) (G G' : Heap → Prop) : Prop where
  run : ∀ (A : Around) (E : Value → Shared → Prop) (t : Shared) (Q : Value → Shared → Prop), G t.heap → (∀ g, G' g → Heap.SameBut it t.heap g → Q x { t with heap := g }) → wpAny (model prog w) A (Builtin.SmallTypes.nextOf (.ref it)) Q E t
  up : ∀ g g' : Heap, G g → (∀ o, g.get? it = some o → g'.get? it = some o) → (∀ o, g.get? l = some o → g'.get? l = some o) → G g'
  up' : ∀ g g' : Heap, G' g → (∀ o, g.get? it = some o → g'.get? it = some o) → G' g'
theorem nx_tup {it l : Addr} {k : Nat} {xs : Array Value} {x : Value} (hx : xs[k]? = some x) : Nx prog w it l x (fun g => g.IsTupleIter it l k ∧ g.IsTuple l xs) (fun g => g.IsTupleIter it l (k + 1)) where
  run := fun _ _ _ _ c q => nextOf_tuple_item c.1 c.2 hx q
  up := fun _ _ c u v => ⟨c.1.at fun o e => u o e, c.2.at fun o e => v o e⟩
  up' := fun _ _ c u => c.at fun o e => u o e
/-- .. and of one that is at its end -/
structure Nd (prog : Program) (w : World) (it l : Addr) (G : Heap → Prop) : Prop where
  run : ∀ (A : Around) (hh : A.handled = none) (E : Value → Shared → Prop) (t : Shared) (Q : Value → Shared → Prop), G t.heap → (∀ g e, Heap.ExtBut it t.heap g → (∃ o, g.get? e = some o ∧ o.cls = .type "StopIteration") → E (.ref e) { t with heap := g }) → wpAny (model prog w) A (Builtin.SmallTypes.nextOf (.ref it)) Q E t
  up : ∀ g g' : Heap, G g → (∀ o, g.get? it = some o → g'.get? it = some o) → (∀ o, g.get? l = some o → g'.get? l = some o) → G g'
theorem nd_tup {it l : Addr} {k : Nat} {xs : Array Value} (hx : xs[k]? = none) : Nd prog w it l (fun g => g.IsTupleIter it l k ∧ g.IsTuple l xs) where
  run := fun _ hh _ _ _ c q => nextOf_tuple_end hh c.1 c.2 hx q
  up := fun _ _ c u v => ⟨c.1.at fun o e => u o e, c.2.at fun o e => v o e⟩
end
section
variable {prog : Program} {w : World} {A : Around} {E : Value → Shared → Prop} {s : Shared} {z TI TO i1 i2 l1 l2 : Addr} {x y a b : Value} {G1 G1' G2 G2' : Heap → Prop}
theorem zip_step {Q : Value → Shared → Prop} (D : ZipApart z TI TO i1 i2 l1 l2) (kz : IsZip s.heap z TI TO .none) (kI : IsPair s.heap TI (.ref i1) (.ref i2)) (kO : IsPair s.heap TO a b)
    (n1 : Nx prog w i1 l1 x G1 G1') (n2 : Nx prog w i2 l2 y G2 G2') (c1 : G1 s.heap) (c2 : G2 s.heap)
    (kont : ∀ g, IsZip g z TI TO (rawInt s.heap.objs.size) → IsPair g TO x y → G1' g → G2' g → IsPair g s.heap.objs.size x y → (∀ c o, c ≠ z → c ≠ TO → c ≠ i1 → c ≠ i2 → s.heap.get? c = some o → g.get? c = some o) → Q (.ref s.heap.objs.size) { s with heap := g }) : wpAny (model prog w) A (Builtin.«zip.__next__» ⟨[.ref z], []⟩) (fun fin s' => ∃ v, fin = .done (.ret v) ∧ Q v s') E s := by
  show wpAny _ _ (field (.ref z) 2 >>= _) _ _ _; refine wpAny_bind (wpAny_field kz rfl (x := .bool false) rfl ?_); show wpAny _ _ (field (.ref z) 3 >>= _) _ _ _
  refine wpAny_bind (wpAny_field kz rfl (x := .ref TI) rfl ?_); refine wpAny_bind (wpAny_seqItems kI rfl ?_)
  show wpAny _ _ (Builtin.SmallTypes.ownedTupleIsFree (.ref z) >>= _) _ _ _; refine wpAny_bind ?_; unfold Builtin.SmallTypes.ownedTupleIsFree
  refine wpAny_bind (wpAny_field kz rfl (x := .none) rfl (wpAny_pure ?_)); simp only [if_true]; refine wpAny_bind (wpAny_rule ?_)
  refine wpAny_bind (wpAny_field kz rfl (x := .ref TO) rfl ?_); refine wpAny_bind (wpAny_setField_rec kz (by simp) fun g1 z1 r1 => ?_)
  have z1' : IsZip g1 z TI TO .ellipsis := z1
  refine wpAny_bind ?_; simp only [List.zipIdx_cons, List.zipIdx_nil, List.forIn_cons, List.forIn_nil]; refine wpAny_bind (wpAny_bind (wpAny_onRaise ?_))
  show wpAny _ _ (Builtin.SmallTypes.nextOf (.ref i1) >>= _) _ _ _; refine wpAny_bind (n1.run A _ _ _ (n1.up _ _ c1 (fun o e => r1.extBut _ _ D.i1z e) fun o e => r1.extBut _ _ D.l1z e) fun g2 d1 r2 => wpAny_pure ?_)
  have O2 : IsPair g2 TO a b := r2.extBut _ _ D.TOi1 (r1.extBut _ _ D.TOz kO)
  refine wpAny_bind (wpAny_seqItems O2 rfl ?_); refine wpAny_bind (wpAny_updateSeq_pair O2 fun g3 O3 r3 => ?_)
  have O3' : IsPair g3 TO x b := O3
  refine wpAny_bind (wpAny_letGo (wpAny_pure ?_)); refine wpAny_bind (wpAny_bind (wpAny_onRaise ?_)); show wpAny _ _ (Builtin.SmallTypes.nextOf (.ref i2) >>= _) _ _ _
  refine wpAny_bind (n2.run A _ _ _ (n2.up _ _ c2 (fun o e => r3.extBut _ _ D.TOi2.symm (r2.extBut _ _ D.i12.symm (r1.extBut _ _ D.i2z e))) fun o e => r3.extBut _ _ D.l2TO (r2.extBut _ _ D.l2i1 (r1.extBut _ _ D.l2z e))) fun g4 d2 r4 => wpAny_pure ?_)
  have O4 : IsPair g4 TO x b := r4.extBut _ _ D.TOi2 O3'
  refine wpAny_bind (wpAny_seqItems O4 rfl ?_); refine wpAny_bind (wpAny_updateSeq_pair O4 fun g5 O5 r5 => ?_)
  have O5' : IsPair g5 TO x y := O5
  refine wpAny_bind (wpAny_letGo (wpAny_pure (wpAny_pure ?_))); refine wpAny_bind (wpAny_seqItems O5' rfl ?_); refine wpAny_bind (wpAny_newTuple ?_)
  have sz : g5.objs.size = s.heap.objs.size := by rw [r5.1, r4.1, r3.1, r2.1, r1.1]
  have z5 : IsZip g5 z TI TO .ellipsis := r5.extBut _ _ D.TOz.symm (r4.extBut _ _ D.i2z.symm (r3.extBut _ _ D.TOz.symm (r2.extBut _ _ D.i1z.symm z1')))
  have k5 : ∀ c o, c ≠ z → c ≠ TO → c ≠ i1 → c ≠ i2 → s.heap.get? c = some o → g5.get? c = some o := fun c o p1 p2 p3 p4 e => r5.extBut _ _ p2 (r4.extBut _ _ p4 (r3.extBut _ _ p2 (r2.extBut _ _ p3 (r1.extBut _ _ p1 e))))
  have e1 : G1' g5 := n1.up' _ _ d1 fun o e => r5.extBut _ _ D.TOi1.symm (r4.extBut _ _ D.i12 (r3.extBut _ _ D.TOi1.symm e))
  have e2 : G2' g5 := n2.up' _ _ d2 fun o e => r5.extBut _ _ D.TOi2.symm e
  have lz : z < g5.objs.size := Heap.lt_size z5
  show wpAny _ _ (Builtin.SmallTypes.ownedTupleHandOut (.ref z) (.ref g5.objs.size) >>= _) _ _ _; refine wpAny_bind ?_; unfold Builtin.SmallTypes.ownedTupleHandOut
  have z6 : IsZip (g5.push { cls := .type "tuple", data := .seq #[x, y] }) z TI TO .ellipsis := Heap.get?_push_of_some _ z5
  refine wpAny_bind (wpAny_setField_rec z6 (by simp) fun g7 z7 r7 => ?_)
  have z7' : IsZip g7 z TI TO (rawInt g5.objs.size) := z7
  refine wpAny_setField_rec z7' (by simp) fun g8 z8 r8 => ?_
  have z8' : IsZip g8 z TI TO (rawInt g5.objs.size) := z8
  have to8 : ∀ c o, c ≠ z → g5.get? c = some o → g8.get? c = some o := fun c o p e => r8.extBut _ _ p (r7.extBut _ _ p (Heap.get?_push_of_some _ e))
  have T8 : IsPair g8 g5.objs.size x y := r8.extBut _ _ (Nat.ne_of_gt lz) (r7.extBut _ _ (Nat.ne_of_gt lz) (Heap.get?_push_size _ rfl))
  rw [sz] at z8' T8
  refine wpAny_pure ⟨_, rfl, ?_⟩; show Q (.ref g5.objs.size) _
  rw [sz]
  exact kont g8 z8' (to8 _ _ D.TOz O5') (n1.up' _ _ e1 fun o e => to8 _ o D.i1z e) (n2.up' _ _ e2 fun o e => to8 _ o D.i2z e) T8 fun c o p1 p2 p3 p4 e => to8 c o p1 (k5 c o p1 p2 p3 p4 e)
theorem zip_stop1 {Q : Fin → Shared → Prop} (hh : A.handled = none) (D : ZipApart z TI TO i1 i2 l1 l2) (kz : IsZip s.heap z TI TO .none) (kI : IsPair s.heap TI (.ref i1) (.ref i2)) (kO : IsPair s.heap TO a b) (n1 : Nd prog w i1 l1 G1) (c1 : G1 s.heap)
    (kont : ∀ g e, (∀ c o, c ≠ z → c ≠ TO → c ≠ i1 → c ≠ i2 → s.heap.get? c = some o → g.get? c = some o) → (∃ o, g.get? e = some o ∧ o.cls = .type "StopIteration") → E (.ref e) { s with heap := g }) : wpAny (model prog w) A (Builtin.«zip.__next__» ⟨[.ref z], []⟩) Q E s := by
  show wpAny _ _ (field (.ref z) 2 >>= _) _ _ _; refine wpAny_bind (wpAny_field kz rfl (x := .bool false) rfl ?_); show wpAny _ _ (field (.ref z) 3 >>= _) _ _ _
  refine wpAny_bind (wpAny_field kz rfl (x := .ref TI) rfl ?_); refine wpAny_bind (wpAny_seqItems kI rfl ?_)
  show wpAny _ _ (Builtin.SmallTypes.ownedTupleIsFree (.ref z) >>= _) _ _ _; refine wpAny_bind ?_; unfold Builtin.SmallTypes.ownedTupleIsFree
  refine wpAny_bind (wpAny_field kz rfl (x := .none) rfl (wpAny_pure ?_)); simp only [if_true]; refine wpAny_bind (wpAny_rule ?_)
  refine wpAny_bind (wpAny_field kz rfl (x := .ref TO) rfl ?_); refine wpAny_bind (wpAny_setField_rec kz (by simp) fun g1 z1 r1 => ?_)
  have z1' : IsZip g1 z TI TO .ellipsis := z1
  refine wpAny_bind ?_; simp only [List.zipIdx_cons, List.zipIdx_nil, List.forIn_cons, List.forIn_nil]; refine wpAny_bind (wpAny_bind (wpAny_onRaise ?_))
  show wpAny _ _ (Builtin.SmallTypes.nextOf (.ref i1) >>= _) _ _ _; refine wpAny_bind (n1.run A hh _ _ _ (n1.up _ _ c1 (fun o e => r1.extBut _ _ D.i1z e) fun o e => r1.extBut _ _ D.l1z e) fun g2 e r2 ⟨oe, he, ce⟩ => ?_)
  have z2 : IsZip g2 z TI TO .ellipsis := r2 _ _ D.i1z.symm z1'
  have ez : e ≠ z := fun q => by rw [q, z2] at he; cases he; simp at ce
  exact wpAny_setField_rec z2 (by simp) fun g3 _ r3 => kont g3 e (fun c o p1 _ p3 _ q => r3.extBut _ _ p1 (r2 _ _ p3 (r1.extBut _ _ p1 q))) ⟨oe, r3.extBut _ _ ez he, ce⟩
theorem zip_stop2 {Q : Fin → Shared → Prop} (hh : A.handled = none) (D : ZipApart z TI TO i1 i2 l1 l2) (kz : IsZip s.heap z TI TO .none) (kI : IsPair s.heap TI (.ref i1) (.ref i2)) (kO : IsPair s.heap TO a b) (n1 : Nx prog w i1 l1 x G1 G1') (n2 : Nd prog w i2 l2 G2) (c1 : G1 s.heap) (c2 : G2 s.heap)
    (kont : ∀ g e, (∀ c o, c ≠ z → c ≠ TO → c ≠ i1 → c ≠ i2 → s.heap.get? c = some o → g.get? c = some o) → (∃ o, g.get? e = some o ∧ o.cls = .type "StopIteration") → E (.ref e) { s with heap := g }) : wpAny (model prog w) A (Builtin.«zip.__next__» ⟨[.ref z], []⟩) Q E s := by
  show wpAny _ _ (field (.ref z) 2 >>= _) _ _ _; refine wpAny_bind (wpAny_field kz rfl (x := .bool false) rfl ?_); show wpAny _ _ (field (.ref z) 3 >>= _) _ _ _
  refine wpAny_bind (wpAny_field kz rfl (x := .ref TI) rfl ?_); refine wpAny_bind (wpAny_seqItems kI rfl ?_)
  show wpAny _ _ (Builtin.SmallTypes.ownedTupleIsFree (.ref z) >>= _) _ _ _; refine wpAny_bind ?_; unfold Builtin.SmallTypes.ownedTupleIsFree
  refine wpAny_bind (wpAny_field kz rfl (x := .none) rfl (wpAny_pure ?_)); simp only [if_true]; refine wpAny_bind (wpAny_rule ?_)
  refine wpAny_bind (wpAny_field kz rfl (x := .ref TO) rfl ?_); refine wpAny_bind (wpAny_setField_rec kz (by simp) fun g1 z1 r1 => ?_)
  have z1' : IsZip g1 z TI TO .ellipsis := z1
  refine wpAny_bind ?_; simp only [List.zipIdx_cons, List.zipIdx_nil, List.forIn_cons, List.forIn_nil]; refine wpAny_bind (wpAny_bind (wpAny_onRaise ?_))
  show wpAny _ _ (Builtin.SmallTypes.nextOf (.ref i1) >>= _) _ _ _; refine wpAny_bind (n1.run A _ _ _ (n1.up _ _ c1 (fun o e => r1.extBut _ _ D.i1z e) fun o e => r1.extBut _ _ D.l1z e) fun g2 d1 r2 => wpAny_pure ?_)
  have O2 : IsPair g2 TO a b := r2.extBut _ _ D.TOi1 (r1.extBut _ _ D.TOz kO)
  refine wpAny_bind (wpAny_seqItems O2 rfl ?_); refine wpAny_bind (wpAny_updateSeq_pair O2 fun g3 O3 r3 => ?_)
  refine wpAny_bind (wpAny_letGo (wpAny_pure ?_)); refine wpAny_bind (wpAny_bind (wpAny_onRaise ?_)); show wpAny _ _ (Builtin.SmallTypes.nextOf (.ref i2) >>= _) _ _ _
  refine wpAny_bind (n2.run A hh _ _ _ (n2.up _ _ c2 (fun o e => r3.extBut _ _ D.TOi2.symm (r2.extBut _ _ D.i12.symm (r1.extBut _ _ D.i2z e))) fun o e => r3.extBut _ _ D.l2TO (r2.extBut _ _ D.l2i1 (r1.extBut _ _ D.l2z e))) fun g4 e r4 ⟨oe, he, ce⟩ => ?_)
  have z4 : IsZip g4 z TI TO .ellipsis := r4 _ _ D.i2z.symm (r3.extBut _ _ D.TOz.symm (r2.extBut _ _ D.i1z.symm z1'))
  have ez : e ≠ z := fun q => by rw [q, z4] at he; cases he; simp at ce
  exact wpAny_setField_rec z4 (by simp) fun g5 _ r5 => kont g5 e (fun c o p1 p2 p3 p4 q => r5.extBut _ _ p1 (r4 _ _ p4 (r3.extBut _ _ p2 (r2.extBut _ _ p3 (r1.extBut _ _ p1 q))))) ⟨oe, r5.extBut _ _ ez he, ce⟩
theorem next_step {Q : Option Value → Shared → Prop} (D : ZipApart z TI TO i1 i2 l1 l2) (kz : IsZip s.heap z TI TO .none) (kI : IsPair s.heap TI (.ref i1) (.ref i2)) (kO : IsPair s.heap TO a b)
    (n1 : Nx prog w i1 l1 x G1 G1') (n2 : Nx prog w i2 l2 y G2 G2') (c1 : G1 s.heap) (c2 : G2 s.heap)
    (kont : ∀ g, IsZip g z TI TO (rawInt s.heap.objs.size) → IsPair g TO x y → G1' g → G2' g → IsPair g s.heap.objs.size x y → (∀ c o, c ≠ z → c ≠ TO → c ≠ i1 → c ≠ i2 → s.heap.get? c = some o → g.get? c = some o) → Q (some (.ref s.heap.objs.size)) { s with heap := g }) : wpAny (model prog w) A (pyNext (.ref z)) Q E s := by
  have ty : s.TypeIs (.ref z) "zip" := ⟨_, kz, rfl⟩
  unfold pyNext
  exact wpAny_bind (wpAny_attempt (wpAny_callSpecial?_slot (name := Str.ofString "__next__") ty F.slot_zip_next (wpAny_call_entry F.slot_zip_next ty F.entry_zip_next (zip_step D kz kI kO n1 n2 c1 c2 fun g p1 p2 p3 p4 p5 p6 => wpAny_pure (kont g p1 p2 p3 p4 p5 p6)) (F.args_zip_next_1 _))))
theorem next_stop {Q : Option Value → Shared → Prop} (kz : IsZip s.heap z TI TO .none)
    (run : ∀ (A' : Around) (E' : Value → Shared → Prop) (R : Fin → Shared → Prop), A'.handled = A.handled → (∀ g e, (∀ c o, c ≠ z → c ≠ TO → c ≠ i1 → c ≠ i2 → s.heap.get? c = some o → g.get? c = some o) → (∃ o, g.get? e = some o ∧ o.cls = .type "StopIteration") → E' (.ref e) { s with heap := g }) → wpAny (model prog w) A' (Builtin.«zip.__next__» ⟨[.ref z], []⟩) R E' s)
    (kont : ∀ g, (∀ c o, c ≠ z → c ≠ TO → c ≠ i1 → c ≠ i2 → s.heap.get? c = some o → g.get? c = some o) → Q none { s with heap := g }) : wpAny (model prog w) A (pyNext (.ref z)) Q E s := by
  have ty : s.TypeIs (.ref z) "zip" := ⟨_, kz, rfl⟩
  unfold pyNext
  refine wpAny_bind (wpAny_attempt (wpAny_callSpecial?_slot (name := Str.ofString "__next__") ty F.slot_zip_next (wpAny_call_entry F.slot_zip_next ty F.entry_zip_next (run _ _ _ rfl fun g e hk he => ?_) (F.args_zip_next_1 _))))
  obtain ⟨o, ho, hc⟩ := he
  exact wpAny_bind (wpAny_isInstance (T := "StopIteration") (b := true) ⟨o, ho, hc⟩ isSubtype_stop (wpAny_pure (kont _ hk)))
end
/-! ### zip(tuple, list) as it is walked -/
/-! ### the call -/
abbrev hp1 (h : Heap) (l1 : Addr) : Heap := h.push { cls := .type "tuple_iterator", data := .fields #[.ref l1, .int 0 0] }
abbrev hp2 (h : Heap) (l1 l2 : Addr) : Heap := (hp1 h l1).push { cls := .type "list_iterator", data := .fields #[.ref l2, .int 0 0] }
end Zm
namespace Cr
open PySem PySem.Spec PyProof.Rows L2 Zm
section
variable {K : PySem.W.Frag} {q : Option Addr} {δ : List Sl} {ta tb : TE}
end
end Cr

set_option Elab.async false
set_option linter.all false
set_option maxRecDepth 100000
set_option maxHeartbeats 1000001
namespace Zm
open PySem PySem.Spec PyProof.Rows L2 RZ
/-! ### zip(tuple, tuple), the items known to have no dict of their own -/
def ItzS (K : PySem.W.Frag) (a b : Addr) : It where
  go i H := ∃ (xs ys : List V) (x y : V), SqT K H a xs ∧ SqT K H b ys ∧ xs[i]? = some x ∧ ys[i]? = some y
  yld i H v H' := ∃ T x y, v = .ref T ∧ H T = none ∧ (∃ ob : Obj, ob.dict = none ∧ H' = upd H T (.frz ob (.tup [x, y]))) ∧ (∀ xs, SqT K H a xs → xs[i]? = some x) ∧ ∀ ys, SqT K H b ys → ys[i]? = some y
  stop i H := ∃ xs ys : List V, SqT K H a xs ∧ SqT K H b ys ∧ (xs.length ≤ i ∨ ys.length ≤ i)
theorem turn_zipS {P : Program} {w : World} {K : PySem.W.Frag} {elts : List Expr} {kk : Nat} {tpos : Pos} {a b z TI TO i1 i2 : Addr} (D : ZipApart z TI TO i1 i2 a b) :
    Turn P w K (.Tuple elts kk tpos) (ItzS K a b) [z, TI, TO, i1, i2] z (fun i h => IsZip h z TI TO .none ∧ IsPair h TI (.ref i1) (.ref i2) ∧ (∃ x y, IsPair h TO x y) ∧ h.IsTupleIter i1 a i ∧ h.IsTupleIter i2 b i) where
  mem := List.mem_cons_self ..
  obj := fun i h ⟨kz, kI, ⟨x, y, kO⟩, ⟨o1, e1, _, d1⟩, ⟨o2, e2, _, d2⟩⟩ c hc => by
    simp only [List.mem_cons, List.mem_nil_iff, or_false] at hc
    rcases hc with rfl | rfl | rfl | rfl | rfl
    · exact ⟨_, kz, fun v q => nomatch q⟩
    · exact ⟨_, kI, fun v q => nomatch q⟩
    · exact ⟨_, kO, fun v q => nomatch q⟩
    · exact ⟨o1, e1, fun v q => by rw [d1] at q; cases q⟩
    · exact ⟨o2, e2, fun v q => by rw [d2] at q; cases q⟩
  keep := fun i h h' ⟨kz, kI, ⟨x, y, kO⟩, k1, k2⟩ u => ⟨u z (by simp) _ kz, u TI (by simp) _ kI, ⟨x, y, u TO (by simp) _ kO⟩, k1.at fun o e => u i1 (by simp) o e, k2.at fun o e => u i2 (by simp) o e⟩
  item := by
    rintro X rfl rfl rfl hc i pins s σ H E I hf ⟨kz, kI, ⟨x0, y0, kO⟩, k1, k2⟩ ⟨xs, ys, x, y, qx, qy, hx, hy⟩
    obtain ⟨its, rv, p, _⟩ := I.tuple qx
    obtain ⟨its2, rv2, p2, _⟩ := I.tuple qy
    obtain ⟨u, hu, ru⟩ := rv.get hx; obtain ⟨u2, hu2, ru2⟩ := rv2.get hy
    have lz : z < s.heap.objs.size := Heap.lt_size kz
    refine next_step D kz kI kO (nx_tup (k := i) (xs := its.toArray) (x := u) (by simpa using hu)) (nx_tup (k := i) (xs := its2.toArray) (x := u2) (by simpa using hu2)) ⟨k1, p⟩ ⟨k2, p2⟩ fun g z' TO' k1' k2' hT hk => ?_
    refine ⟨_, rfl, wpAny_letOwnedTupleGo_zip (s := { s with heap := g }) z' fun g2 z2 sb => ?_⟩
    have T2 : g2.get? s.heap.objs.size = some { cls := .type "tuple", data := .seq #[u, u2] } := (sb.2 _ (Nat.ne_of_gt lz)).trans hT
    have nw : ObjOk X.prog X.w (upd H s.heap.objs.size (.frz { cls := .type "tuple", data := .seq #[u, u2] } (.tup [x, y]))) g2 s.heap.objs.size (.frz { cls := .type "tuple", data := .seq #[u, u2] } (.tup [x, y])) := ⟨T2, by show 2 ≤ sizeLine; decide, [u, u2], .cons ru (.cons ru2 .nil), ⟨_, T2, rfl, _, rfl⟩⟩
    have I1 : Inv X pins σ (upd H s.heap.objs.size (.frz { cls := .type "tuple", data := .seq #[u, u2] } (.tup [x, y]))) { s with heap := g2 } := I.turnedNew (t' := s.toks) (ch := [z, TI, TO, i1, i2]) (fun c o hb e => (sb.2 c fun e' => hb (by simp [e'])).trans (hk c o (fun e' => hb (by simp [e'])) (fun e' => hb (by simp [e'])) (fun e' => hb (by simp [e'])) (fun e' => hb (by simp [e'])) e)) hf (Nat.le_refl _) nw
    refine ⟨.ref s.heap.objs.size, _, I1, rfl, ⟨_, x, y, rfl, I.hok.fresh (Nat.le_refl _), ⟨_, rfl, rfl⟩, fun l hl => by rw [I.tuple_inj hl qx]; exact hx, fun l hl => by rw [I.tuple_inj hl qy]; exact hy⟩, ⟨z2, (sb.2 _ D.TIz).trans (hk _ _ D.TIz D.TITO D.TIi1 D.TIi2 kI), ⟨u, u2, (sb.2 _ D.TOz).trans TO'⟩, k1'.at fun o e => (sb.2 _ D.i1z).trans e, k2'.at fun o e => (sb.2 _ D.i2z).trans e⟩, fun c hcm => ?_⟩
    have hlt : c < s.heap.objs.size := by
      have hcm' := hcm
      simp only [List.mem_cons, List.mem_nil_iff, or_false] at hcm'
      rcases hcm' with rfl | rfl | rfl | rfl | rfl
      · exact lz
      · exact Heap.lt_size kI
      · exact Heap.lt_size kO
      · exact k1.elim fun _ e => Heap.lt_size e.1
      · exact k2.elim fun _ e => Heap.lt_size e.1
    rw [upd_ne (Nat.ne_of_lt hlt)]; exact (hf c hcm).1
  done := by
    rintro X rfl rfl rfl hc i pins s σ H E I hf ⟨kz, kI, ⟨x0, y0, kO⟩, k1, k2⟩ ⟨xs, ys, qx, qy, hend⟩
    obtain ⟨its, rv, p, _⟩ := I.tuple qx
    obtain ⟨its2, rv2, p2, _⟩ := I.tuple qy
    have m1 := rv.length
    have m2 := rv2.length
    have hh := I.ok.hd hc
    refine next_stop kz (i1 := i1) (i2 := i2) (fun A' E' R hA' kont => ?_) fun g hk => ⟨rfl, I.turnedL (t' := s.toks) (ch := [z, TI, TO, i1, i2]) (fun c o hb e => hk c o (fun e' => hb (by simp [e'])) (fun e' => hb (by simp [e'])) (fun e' => hb (by simp [e'])) (fun e' => hb (by simp [e'])) e) hf⟩
    by_cases h1 : xs.length ≤ i
    · exact zip_stop1 (hA'.trans hh) D kz kI kO (nd_tup (k := i) (xs := its.toArray) (by simp; omega)) ⟨k1, p⟩ kont
    · have h2 : ys.length ≤ i := by rcases hend with h | h; exact absurd h h1; exact h
      exact zip_stop2 (hA'.trans hh) D kz kI kO (nx_tup (k := i) (xs := its.toArray) (x := its[i]'(by omega)) (by first | (simp; done) | (simp; omega))) (nd_tup (k := i) (xs := its2.toArray) (by simp; omega)) ⟨k1, p⟩ ⟨k2, p2⟩ kont
  self := fun A i s Q E st q => wpAny_pyIter_zip st.1 q
/-! ### the call -/
abbrev hp2S (h : Heap) (l1 l2 : Addr) : Heap := (hp1 h l1).push { cls := .type "tuple_iterator", data := .fields #[.ref l2, .int 0 0] }
abbrev hp3S (h : Heap) (l1 l2 : Addr) : Heap := (hp2S h l1 l2).push { cls := .type "tuple", data := .seq #[.ref h.objs.size, .ref (hp1 h l1).objs.size] }
abbrev hp4S (h : Heap) (l1 l2 : Addr) : Heap := (hp3S h l1 l2).push { cls := .type "tuple", data := .seq #[.none, .none] }
abbrev hp5S (h : Heap) (l1 l2 : Addr) : Heap := (hp4S h l1 l2).push { cls := .type "zip", data := .fields #[.none, .bool false, .bool false, .ref (hp2S h l1 l2).objs.size, .ref (hp3S h l1 l2).objs.size] }
theorem meets_newS (l1 l2 : Addr) (xs ys : Array Value) : Meets (Builtin.«zip.__new__» ⟨[.type "zip", .ref l1, .ref l2], []⟩) (fun _ R s => s.heap.IsTuple l1 xs ∧ s.heap.IsTuple l2 ys ∧ R (.ok (.ret (.ref (hp4S s.heap l1 l2).objs.size))) { s with heap := hp5S s.heap l1 l2 }) :=
  .of_wp fun prog w A R s ⟨k1, k2, k⟩ => by
    obtain ⟨hp, g, d, tk, os⟩ := s; have hsub := sub_zip
    have a1 : Heap.IsTuple (Shared.heap ⟨hp, g, d, tk, os⟩) l1 xs := k1
    have a2 : Heap.IsTuple (Shared.heap ⟨hp.push { cls := .type "tuple_iterator", data := .fields #[.ref l1, .int 0 0] }, g, d, tk, os⟩) l2 ys := Heap.IsTuple.push k2 _
    wp_walk using wpAny_pyIter_tuple a1, wpAny_pyIter_tuple a2
    exact ⟨_, rfl, k⟩
theorem call_zipS {prog : Program} {w : World} {A : Around} {E : Value → Shared → Prop} {s : Shared} {l1 l2 : Addr} {xs ys : Array Value} {Q : Value → Shared → Prop} (k1 : s.heap.IsTuple l1 xs) (k2 : s.heap.IsTuple l2 ys)
    (kont : ∀ g n, n = s.heap.objs.size → IsZip g (n + 4) (n + 2) (n + 3) .none → IsPair g (n + 2) (.ref n) (.ref (n + 1)) → IsPair g (n + 3) .none .none → g.IsTupleIter n l1 0 → g.IsTupleIter (n + 1) l2 0 → (∀ c o, s.heap.get? c = some o → g.get? c = some o) → Q (.ref (n + 4)) { s with heap := g }) : wpAny (model prog w) A (call (.type "zip") [.ref l1, .ref l2]) Q E s := by
  refine callType_new F.called_zip (by decide) (F.typeCall_zip_2 _ _) (F.newCall_zip_2 _ _) (fun obj => F.args_object_init_3 obj _ _) F.entry_zip_new (meets_newS l1 l2 xs ys) ⟨k1, k2, ?_⟩
  have s1 : (hp1 s.heap l1).objs.size = s.heap.objs.size + 1 := Heap.size_push ..
  have s2 : (hp2S s.heap l1 l2).objs.size = s.heap.objs.size + 2 := (Heap.size_push ..).trans (by rw [s1])
  have s3 : (hp3S s.heap l1 l2).objs.size = s.heap.objs.size + 3 := (Heap.size_push ..).trans (by rw [s2])
  have s4 : (hp4S s.heap l1 l2).objs.size = s.heap.objs.size + 4 := (Heap.size_push ..).trans (by rw [s3])
  have q4 : (hp5S s.heap l1 l2).get? (hp4S s.heap l1 l2).objs.size = some _ := Heap.get?_push_size _ rfl
  have q3 : (hp5S s.heap l1 l2).get? (hp3S s.heap l1 l2).objs.size = some _ := Heap.get?_push_of_some _ (Heap.get?_push_size _ rfl)
  have q2 : (hp5S s.heap l1 l2).get? (hp2S s.heap l1 l2).objs.size = some _ := Heap.get?_push_of_some _ (Heap.get?_push_of_some _ (Heap.get?_push_size _ rfl))
  have q1 : (hp5S s.heap l1 l2).get? (hp1 s.heap l1).objs.size = some _ := Heap.get?_push_of_some _ (Heap.get?_push_of_some _ (Heap.get?_push_of_some _ (Heap.get?_push_size _ rfl)))
  have q0 : (hp5S s.heap l1 l2).get? s.heap.objs.size = some _ := Heap.get?_push_of_some _ (Heap.get?_push_of_some _ (Heap.get?_push_of_some _ (Heap.get?_push_of_some _ (Heap.get?_push_size _ rfl))))
  show _ ∧ _
  rw [s2, s3, s4] at q4; rw [s1, s2] at q2; rw [s3] at q3; rw [s1] at q1; rw [s4]
  exact ⟨⟨_, q4, rfl⟩, kont _ _ rfl q4 q2 q3 ⟨_, q0, rfl, rfl⟩ ⟨_, q1, rfl, rfl⟩ fun c o e => Heap.get?_push_of_some _ (Heap.get?_push_of_some _ (Heap.get?_push_of_some _ (Heap.get?_push_of_some _ (Heap.get?_push_of_some _ e))))⟩
def iZipS (K : PySem.W.Frag) (ta : TA) : TI := fun σ H R => ta σ H fun vs H1 => ∃ a b xs ys, vs = [.ref a, .ref b] ∧ SqT K H1 a xs ∧ SqT K H1 b ys ∧ R (ItzS K a b) H1
theorem pi_zipS {X : Cx} {K : PySem.W.Frag} {e e2 : Expr} {ta : TA} {p pos tpos : Pos} {elts : List Expr} {kk : Nat} (hK : X.K = K) (hg : Gl X "zip") (hm : X.mg "zip" = none) (ha : PA X [e, e2] ta) (hs : starEach [e, e2] X.env = (false, eval e X.env) :: starEach [e2] X.env := by rfl) (hpl : (backTo pos (starEach [e2] X.env)).any (·.1) = false := by rfl) :
    PI X (.Tuple elts kk tpos) (.Call (.Name "zip" p) [e, e2] [] pos) (iZipS K ta) := by
  subst hK
  refine ⟨fun pins s σ H R I h => Call_ (ld_blt I hg hm PyProof.Rows.boot_zip (PyProof.Rows.callWith_type1 (thn (ha.run pos pins s σ H _ I h) fun us s1 ⟨vs, H1, I1, r1, q1⟩ => ?_) hs hpl))⟩
  obtain ⟨a, b, xs, ys, rfl, qx, qy, q⟩ := q1
  obtain ⟨u1, u2, rfl, ra, rb⟩ : ∃ u1 u2, us = [u1, u2] ∧ RelV (.ref a) u1 ∧ RelV (.ref b) u2 := by
    cases r1 with
    | cons r rr => cases rr with
      | cons r' rr => cases rr; exact ⟨_, _, rfl, r, r'⟩
  cases ra; cases rb
  obtain ⟨its, rv, p1, _⟩ := I1.tuple qx
  obtain ⟨its2, rv2, p2, _⟩ := I1.tuple qy
  obtain ⟨o1, ho1, _⟩ := id p1
  refine call_zipS (show s1.heap.IsTuple a its.toArray from p1) p2 fun g n en kz kI kO k1 k2 hk => wpAny_pyIter_zip kz ?_
  have I2 : Inv X pins σ H1 { s1 with heap := g } := I1.kept (t' := s1.toks) hk
  subst en
  refine ⟨s1.heap.objs.size + 4, [s1.heap.objs.size + 4, s1.heap.objs.size + 2, s1.heap.objs.size + 3, s1.heap.objs.size, s1.heap.objs.size + 1], _, _, H1, rfl, I2, turn_zipS (PySem.W.ktu_apart s1.heap.objs.size a b (Heap.lt_size ho1) (by obtain ⟨o2, ho2, _⟩ := id p2; exact Heap.lt_size ho2)), ⟨kz, kI, ⟨_, _, kO⟩, k1, k2⟩, fun c hcm => ?_, q⟩
  have hd : c = s1.heap.objs.size + 4 ∨ c = s1.heap.objs.size + 2 ∨ c = s1.heap.objs.size + 3 ∨ c = s1.heap.objs.size + 0 ∨ c = s1.heap.objs.size + 1 := by simpa using hcm
  have hle : s1.heap.objs.size ≤ c := (by rcases hd with z | z | z | z | z <;> rw [z] <;> exact Nat.le_add_right _ _); exact I1.fpOk hle (I1.hok.fresh hle)
end Zm
namespace Cr
open PySem PySem.Spec PyProof.Rows L2 Zm
section
variable {K : PySem.W.Frag} {q : Option Addr} {δ : List Sl} {ta tb : TE}
theorem walk_zipS {H : Hp} {a b : Addr} {xs ys : List V} {ds es : List PyData} (h : Tp H a xs ds) (hd : DqAll H xs ds) (h2 : Tp H b ys es) (he : DqAll H ys es) : WalkD (Zm.ItzS K a b) (zipD ds es) H := fun i Hk H' s1 s2 => by
  have e := ((h.mono s1).mono s2).rd
  have e2 := ((h2.mono s1).mono s2).rd
  have hl1 := hd.length
  have hl2 := he.length
  rw [zipD_len]
  refine ⟨fun hi => ?_, fun hi => ⟨xs, ys, .inl e, .inl e2, by omega⟩⟩
  have g1 : xs[i]? = some (xs[i]'(by omega)) := List.getElem?_eq_getElem _
  have g2 : ys[i]? = some (ys[i]'(by omega)) := List.getElem?_eq_getElem _
  refine ⟨⟨xs, ys, _, _, .inl e, .inl e2, g1, g2⟩, fun v H2 y => ?_⟩
  obtain ⟨T, x, y, rfl, hT, ⟨ob, od, rfl⟩, f1, f2⟩ := y
  obtain ⟨d1, p1, p2⟩ := hd.get' (f1 xs (.inl e))
  obtain ⟨d2, p3, p4⟩ := he.get' (f2 ys (.inl e2))
  have g := Gr.new (q := none) (o := .frz ob (.tup [x, y])) s2 hT
  refine ⟨_, g, _, zipD_get ds es i d1 d2 p1 p3, .tup (Tp.new od) (.cons (Dq.mono (s1.trans g.k) _ _ p2) (.cons (Dq.mono (s1.trans g.k) _ _ p4) .nil))⟩
theorem ie_zipS {ds es : List PyData} (h : E q δ ta (.tuple ds)) (h2 : E q δ tb (.tuple es)) : IE q δ (Zm.iZipS K (tCons ta (tCons tb tNil))) (zipD ds es) := fun σ H H1 n sg o R k =>
  h σ H H1 n sg o _ fun d v Hk H2 g o1 e dv => h2 σ Hk H2 n (sg.mono g.k) o1 _ fun d' v' Hk' H3 g' o2 e' dv' => by
    subst e; subst e'
    obtain ⟨a, xs, rfl, p1, p2⟩ := (Dq.mono g'.k _ _ dv).tupOf
    obtain ⟨b, ys, rfl, p3, p4⟩ := dv'.tupOf
    exact ⟨a, b, xs, ys, rfl, .inl (p1.mono g'.a).rd, .inl (p3.mono g'.a).rd, k _ _ Hk' H3 (g.trans g') o2 rfl (walk_zipS p1 p2 p3 p4)⟩
end
end Cr

set_option Elab.async false
set_option linter.all false
set_option maxRecDepth 100000
set_option maxHeartbeats 800000
namespace Cr
open PySem PySem.Spec PyProof.Rows L2
/-! ### xs[-2::-1] of a list -/
section
variable {K : PySem.W.Frag} {q : Option Addr} {δ : List Sl} {te ta tb : TE}
/-! ### list(range(..)), tuple(range(..)) -/
end
end Cr

set_option Elab.async false
set_option linter.all false
set_option maxRecDepth 100000
set_option maxHeartbeats 800000
namespace Cr
open PySem PySem.Spec PyProof.Rows L2
/-! x - r times a polynomial, and back -/
def ml (c r : Int) : List Int → List Int
  | [] => [c]
  | a :: f => (c - r * a) :: ml a r f
def mlin (f : List Int) (r : Int) : List Int := ml 0 r f
/-! products over lists of keys -/
def lagr (l : List Int) : List Int := l.foldl mlin [1]
def others (l : List Int) (k : Int) : List Int := l.filter fun x => decide (x ≠ k)
def lag (l : List Int) (k : Int) : List Int := lagr (others l k)
/-! what is shared out, and the only ledger on keys -/
def dotI (f g : List Int) : Int := (zmul f g).sum
def share (keys nums : List Int) (k : Int) : Int × Int := (dotI (lag keys k) nums, evalP (lag keys k) k)
/-! bounds -/
/-! the loop of divided -/
end Cr
namespace L2
open PySem PySem.Spec PyProof.Rows
end L2
namespace Cr
open PySem PySem.Spec PyProof.Rows L2
section
variable {K : PySem.W.Frag} {q : Option Addr} {n : Nat} {δ : List Sl} {te : TE} {Φ : PyData → Prop} {d1 d2 d3 : PyData}
end
end Cr
namespace Cr
open PySem PySem.Spec PyProof.Rows L2
end Cr
namespace Cr
open PySem PySem.Spec PyProof.Rows L2
theorem CB.take {l : List Int} {B : Nat} (h : CB B l) (n : Nat) : CB B (l.take n) := fun a ha => h a (List.mem_of_mem_take ha)
theorem CB.drop {l : List Int} {B : Nat} (h : CB B l) (n : Nat) : CB B (l.drop n) := fun a ha => h a (List.mem_of_mem_drop ha)
section
variable {K : PySem.W.Frag} {q : Option Addr} {n : Nat} {δ : List Sl} {te : TE} {A0 B0 Hk H1 : Hp} {σ : L2.St} {D : Ends} {tz t : TS}
/-- what follows is shown once, from what a statement leaves -/
theorem q_cut {I : L2.St → Hp → Prop} (h1 : ∀ D' : Ends, (∀ σ' H', I σ' H' → D'.nx σ' H') → t D' σ H1) (h2 : ∀ σ' H', I σ' H' → tz D σ' H') : tSeq t tz D σ H1 := h1 _ h2
end
end Cr

set_option Elab.async false
set_option linter.all false
set_option maxRecDepth 100000
set_option maxHeartbeats 3200000
/-! sorted(set(list of integers)) -/
namespace Cr
open PySem PySem.Spec PyProof.Rows L2
section
variable {P : Program} {w : World} {A : Around} {E : Value → Shared → Prop} {s : Shared}
end
section
variable {K : PySem.W.Frag} {q : Option Addr} {δ : List Sl} {te : TE} {c : Nat} {P : List Int → Prop}
end
end Cr

set_option Elab.async false
set_option linter.all false
set_option maxRecDepth 100000
set_option maxHeartbeats 800000
namespace Cr
open PySem PySem.Spec PyProof.Rows L2
section
variable {K : PySem.W.Frag} {q : Option Addr} {n : Nat} {δ δ' : List Sl} {te ta tb tn ti : TE} {tt : TT} {c c1 c2 : Nat} {g : TG} {P : Bool → Prop}
end
end Cr

set_option Elab.async false
set_option linter.all false
set_option maxRecDepth 100000
set_option maxHeartbeats 800000
namespace Cr
open PySem PySem.Spec PyProof.Rows L2
/-! a ledger is found back on keys that hold its own -/
end Cr

set_option Elab.async false
set_option linter.all false
set_option maxRecDepth 100000
set_option maxHeartbeats 800000
namespace Cr
open PySem PySem.Spec PyProof.Rows L2
/-! enumerate over a list -/
section
variable {K : PySem.W.Frag} {q : Option Addr} {δ : List Sl} {te : TE}
end
end Cr
namespace Cr
open PySem PySem.Spec PyProof.Rows L2
end Cr

set_option Elab.async false
set_option linter.all false
set_option maxRecDepth 100000
set_option maxHeartbeats 800000
namespace Cr
open PySem PySem.Spec PyProof.Rows L2
section
variable {K : PySem.W.Frag} {q : Option Addr} {n : Nat} {δ δ' : List Sl} {te ta tb tn ti : TE} {tt : TT} {c c1 c2 : Nat} {g : TG} {P : Bool → Prop} {Φ : PyData → Prop}
end
end Cr

set_option Elab.async false
set_option linter.all false
set_option maxRecDepth 100000
set_option maxHeartbeats 800000
namespace Cr
open PySem PySem.Spec PyProof.Rows L2
section
variable {K : PySem.W.Frag} {q : Option Addr} {n : Nat} {δ δ' : List Sl} {te te2 ta tb tn ti : TE} {tt tu : TT} {c c1 c2 : Nat} {g : TG} {P : Bool → Prop} {Φ : PyData → Prop}
theorem Led.asc {l : List (Int × Int)} (h : Led l) : (l.map (·.1)).Pairwise (· < ·) := List.pairwise_map.mpr h.1
end
end Cr

set_option Elab.async false
set_option linter.all false
set_option maxRecDepth 100000
set_option maxHeartbeats 800000
namespace Cr
open PySem PySem.Spec PyProof.Rows L2
/-! ledgers whose first sums are 0; each ledger has a brief -/
/-! ### a window of keys is moved -/
end Cr

set_option Elab.async false
set_option linter.all false
set_option maxRecDepth 100000
set_option maxHeartbeats 800000
namespace Cr
open PySem PySem.Spec PyProof.Rows L2
section
variable {K : PySem.W.Frag} {q : Option Addr} {n : Nat} {δ δ' : List Sl} {te te2 ta tb tn ti : TE} {tt tu : TT} {c c1 c2 : Nat} {g : TG} {P : Bool → Prop} {Φ : PyData → Prop}
end
end Cr

set_option Elab.async false
set_option linter.all false
set_option maxRecDepth 100000
set_option maxHeartbeats 800000
namespace Cr
open PySem PySem.Spec PyProof.Rows L2
/-! residues -/
def Cg (p a b : Int) : Prop := p ∣ a - b
theorem Cg.refl (p a : Int) : Cg p a a := by unfold Cg; rw [Int.sub_self]; exact Int.dvd_zero p
theorem Cg.symm {p a b : Int} (h : Cg p a b) : Cg p b a := by
  obtain ⟨c, e⟩ := h
  exact ⟨-c, by rw [Int.mul_neg, ← e]; omega⟩
theorem Cg.trans {p a b c : Int} (h : Cg p a b) (h2 : Cg p b c) : Cg p a c := by
  obtain ⟨x, e⟩ := h
  obtain ⟨y, e2⟩ := h2
  exact ⟨x + y, by rw [Int.mul_add, ← e, ← e2]; omega⟩
theorem Cg.add {p a b c d : Int} (h : Cg p a b) (h2 : Cg p c d) : Cg p (a + c) (b + d) := by
  obtain ⟨x, e⟩ := h
  obtain ⟨y, e2⟩ := h2
  exact ⟨x + y, by rw [Int.mul_add, ← e, ← e2]; omega⟩
theorem Cg.mod {p a b : Int} (hp : 0 < p) (h : Cg p a b) : a.fmod p = b.fmod p := by
  rw [Int.fmod_eq_emod_of_nonneg _ (by omega), Int.fmod_eq_emod_of_nonneg _ (by omega)]
  exact Int.emod_eq_emod_iff_emod_sub_eq_zero.mpr (Int.emod_eq_zero_of_dvd h)
/-! primes -/
/-! rules -/
section
variable {K : PySem.W.Frag} {q : Option Addr} {n : Nat} {δ δ' : List Sl} {te te2 ta tb : TE} {tt : TT} {c c1 c2 : Nat} {Φ : PyData → Prop} {d d2 : PyData} {A0 B0 Hk H1 : Hp} {σ : L2.St} {D : Ends} {tz t1 : TS} {p : Addr} {ds es : List PyData}
end
end Cr
namespace Cr
open PySem PySem.Spec PyProof.Rows L2
section
variable {K : PySem.W.Frag} {q : Option Addr} {n : Nat} {δ δ' : List Sl} {te te2 ta tb : TE} {ds es : List PyData}
end
end Cr

set_option Elab.async false
set_option linter.all false
set_option maxRecDepth 100000
set_option maxHeartbeats 4000000
namespace L2
open PySem PySem.Spec PyProof.Rows
/-! tuple * int, for 0 and 1, too -/
end L2
namespace L2
open PySem PySem.Spec PyProof.Rows
section
variable {X : Cx}
end
end L2

set_option Elab.async false
set_option linter.all false
set_option maxRecDepth 100000
set_option maxHeartbeats 800000
namespace Cr
open PySem PySem.Spec PyProof.Rows L2
section
variable {K : PySem.W.Frag} {q : Option Addr} {n : Nat} {δ δ' : List Sl} {te te2 ta tb tk tv : TE} {tt : TT} {c c1 c2 : Nat} {P1 P2 : Int → Prop} {d d2 : PyData} {A0 B0 Hk H1 : Hp} {σ : L2.St} {D : Ends} {r : Addr} {ds es : List PyData}
end
/-- a dict that is set at a key -/
theorem DictOf.put {p m : List (Int × Int)} (h : DictOf p m) (k v : Int) : DictOf (p ++ [(k, v - tot p k)]) (putI m k v) := by
  have z := h.add (k, v - tot p k)
  have gv : (getI m k).getD 0 = tot p k := by
    by_cases hx : k ∈ p.map (·.1)
    · rw [h.get _ hx]; rfl
    · rw [getI_none.mpr (fun z => hx ((h.mem _).mp z)), tot_no hx]; rfl
  unfold addI at z
  rw [show (getI m (k, v - tot p k).1).getD 0 + (k, v - tot p k).2 = v by show (getI m k).getD 0 + (v - tot p k) = v; rw [gv]; omega] at z
  exact z
/-! ### all sums modulo a prime -/
end Cr
namespace Cr
open PySem PySem.Spec PyProof.Rows L2
section
variable {q : Option Addr} {n : Nat} {δ : List Sl} {A0 B0 Hk H : Hp} {σ : L2.St} {r : Addr}
end
end Cr

set_option Elab.async false
set_option linter.all false
set_option maxRecDepth 100000
set_option maxHeartbeats 800000
namespace Cr
open PySem PySem.Spec PyProof.Rows L2
/-! ### defs that tell a new list -/
section
variable {P : Program} {w : World} {K : PySem.W.Frag} {mg : Str → Option Value} {base : Heap}
end
section
variable {K : PySem.W.Frag} {q : Option Addr} {n : Nat} {δ δ' : List Sl} {te te2 ta tb : TE} {tt : TT} {c c1 c2 : Nat} {Φ : PyData → Prop} {d d2 : PyData} {A0 B0 Hk H1 : Hp} {σ : L2.St} {D : Ends} {tz : TS} {p : Addr} {ds es : List PyData} {g : TG} {wi : TI}
theorem JN.e (h : JN q δ te es) : E q δ te (.list es) := fun σ H H1 n sg o Q k =>
  h σ H H1 n sg o _ fun D xs Hk H2 g o1 h1 h2 h3 hd => by
    have nq : q ≠ some D := fun e => by
      have z := o.j D e
      exact z.ne h1
    have gf := g.freeze h1 h2 h3
    refine k _ _ _ _ gf ⟨gf.a, fun p e => ?_, fun p e => o1.j p e⟩ rfl (.lst upd_same (DqAll.mono (same_upd h2) _ _ hd))
    rw [upd_ne (fun z => nq (by rw [← z]; exact e))]
    exact o1.kf p e
theorem JN.is {es2 : List PyData} (h : JN q δ te es) (e : es = es2) : JN q δ te es2 := by rw [← e]; exact h
end
end Cr
namespace Cr
open PySem PySem.Spec PyProof.Rows L2
section
variable {q : Option Addr} {δ : List Sl} {es : List PyData}
end
end Cr
namespace Cr
open PySem PySem.Spec PyProof.Rows L2
section
variable {K : PySem.W.Frag} {q : Option Addr} {n : Nat} {δ δ' : List Sl} {te te2 te3 ta tb : TE} {tt : TT} {t1 : TS} {c c1 c2 : Nat} {Φ Φ1 Φ2 : PyData → Prop} {d d2 d3 : PyData} {A0 B0 Hk H1 : Hp} {σ : L2.St} {D : Ends} {tz : TS} {p : Addr} {ds es es2 : List PyData}
end
end Cr

set_option Elab.async false
set_option linter.all false
set_option maxRecDepth 100000
set_option maxHeartbeats 800000
namespace Cr
open PySem PySem.Spec PyProof.Rows L2
/-! ### sums along a log -/
section
variable {K : PySem.W.Frag} {q : Option Addr} {n : Nat} {δ δ' : List Sl} {te te2 te3 ta tb : TE} {tt : TT} {t1 : TS} {c c1 c2 : Nat} {Φ Φ1 Φ2 : PyData → Prop} {d d2 d3 : PyData} {A0 B0 Hk H1 : Hp} {σ : L2.St} {D : Ends} {tz : TS} {p : Addr} {ds es es2 : List PyData}
end
end Cr

set_option Elab.async false
set_option linter.all false
set_option maxRecDepth 100000
set_option maxHeartbeats 800000
namespace Cr
open PySem PySem.Spec PyProof.Rows L2
/-! ### pairs of unlike ledgers with the same first sums -/
theorem VS.append {H : Hp} : ∀ {ss : List Sl} {vs ws : List V} {es : List Sl}, VS H vs ss → VS H ws es → VS H (vs ++ ws) (ss ++ es)
  | [], vs, ws, es, h1, h2 => by rw [VS.inv0 h1]; exact h2
  | s :: r, vs, ws, es, h1, h2 => by
    obtain ⟨v, t, rfl, q, hr⟩ := VS.inv1 h1
    exact VS.cons q (VS.append hr h2)
section
variable {K : PySem.W.Frag} {q : Option Addr} {δ δ' : List Sl} {te te2 ta tb : TE} {c c1 c2 N : Nat} {Φ : PyData → Prop} {d : PyData} {P : Int → Prop}
end
end Cr

set_option Elab.async false
set_option linter.all false
set_option maxRecDepth 100000
set_option maxHeartbeats 800000
namespace Cr
open PySem PySem.Spec PyProof.Rows L2
/-! ### a dict of the amounts that are not 0 -/
def dropI (m : List (Int × Int)) (k : Int) : List (Int × Int) := m.filter fun x => decide (x.1 ≠ k)
theorem dropI_get (m : List (Int × Int)) (k j : Int) : getI (dropI m k) j = if j = k then none else getI m j := by
  by_cases e : j = k
  · rw [if_pos e, getI_none]
    intro z
    obtain ⟨x, hx, ex⟩ := List.mem_map.mp z
    have := of_decide_eq_true (List.mem_filter.mp hx).2
    exact this (by rw [← e]; exact ex)
  · rw [if_neg e]
    unfold getI dropI
    rw [List.find?_filter]
    congr 1
    congr 1
    funext x
    by_cases h : x.1 = j
    · rw [decide_eq_true h]
      have h2 : x.1 ≠ k := by rw [h]; exact e
      simp [h2]
    · rw [decide_eq_false h]
      simp
structure NzOf (p m : List (Int × Int)) : Prop where
  nd : (m.map (·.1)).Nodup
  get : ∀ k, getI m k = if tot p k = 0 then none else some (tot p k)
  len : m.length ≤ p.length
theorem NzOf.nil : NzOf [] [] := ⟨by simp, fun k => rfl, by simp⟩
theorem NzOf.getD {p m : List (Int × Int)} (h : NzOf p m) (k : Int) : (getI m k).getD 0 = tot p k := by
  rw [h.get]
  split
  · rename_i e; rw [e]; rfl
  · rfl
theorem tot_snoc (p : List (Int × Int)) (k v j : Int) : tot (p ++ [(k, v)]) j = tot p j + if k = j then v else 0 := by
  rw [tot_append]
  show tot p j + ((if k = j then v else 0) + 0) = _
  rw [Int.add_zero]
theorem NzOf.drop {p m : List (Int × Int)} (h : NzOf p m) {k v : Int} (e : tot p k + v = 0) : NzOf (p ++ [(k, v)]) (dropI m k) := by
  refine ⟨?_, fun j => ?_, ?_⟩
  · unfold dropI
    exact h.nd.sublist (List.Sublist.map _ List.filter_sublist)
  · rw [dropI_get, tot_snoc, h.get]
    by_cases hj : j = k
    · subst hj
      rw [if_pos rfl, if_pos rfl, if_pos e]
    · have e0 : (if k = j then v else 0) = 0 := if_neg fun z => hj z.symm
      rw [if_neg hj, e0, Int.add_zero]
  · unfold dropI
    have := List.length_filter_le (fun x : Int × Int => decide (x.1 ≠ k)) m
    have := h.len
    rw [List.length_append]
    omega
theorem NzOf.set {p m : List (Int × Int)} (h : NzOf p m) {k v : Int} (e : tot p k + v ≠ 0) : NzOf (p ++ [(k, v)]) (putI m k (tot p k + v)) := by
  refine ⟨?_, fun j => ?_, ?_⟩
  · rw [putI_keys]
    by_cases hk : k ∈ m.map (·.1)
    · rw [if_pos hk]; exact h.nd
    · rw [if_neg hk]
      refine List.nodup_append.mpr ⟨h.nd, by simp, fun a ha b hb e2 => ?_⟩
      rw [List.mem_singleton.mp hb] at e2
      exact hk (by rw [← e2]; exact ha)
  · rw [putI_get, tot_snoc, h.get]
    by_cases hj : j = k
    · subst hj
      rw [if_pos rfl, if_pos rfl, if_neg e]
    · have e0 : (if k = j then v else 0) = 0 := if_neg fun z => hj z.symm
      rw [if_neg hj, e0, Int.add_zero]
  · have z := congrArg List.length (putI_keys m k (tot p k + v))
    rw [List.length_map] at z
    have := h.len
    rw [z, List.length_append]
    split <;> simp <;> omega
theorem NzOf.empty {p m : List (Int × Int)} (h : NzOf p m) : m = [] ↔ gather p = [] := by
  constructor
  · intro e
    subst e
    rw [gather_ext (ds := []) fun k => ?_]
    · rfl
    · have z := h.get k
      by_cases hk : tot p k = 0
      · exact hk
      · rw [if_neg hk] at z; cases z
  · intro e
    have hz : ∀ k, tot p k = 0 := fun k => by rw [← tot_gather, e]; rfl
    cases m with
    | nil => rfl
    | cons x m =>
      have z := h.get x.1
      rw [if_pos (hz _)] at z
      exact absurd (List.mem_map.mpr ⟨x, List.mem_cons_self, rfl⟩) (getI_none.mp z)
section
variable {K : PySem.W.Frag} {q : Option Addr} {n : Nat} {δ δ' : List Sl} {te te2 ta tb : TE} {c c1 c2 : Nat} {d : PyData} {A0 B0 Hk H1 : Hp} {σ : L2.St} {D : Ends} {tz : TS} {r : Addr}
end
/-! ### the first place of all -/
/-! ### what two logs begin with -/
section
variable {K : PySem.W.Frag} {q : Option Addr} {δ : List Sl} {te : TE} {ds : List PyData}
end
end Cr

set_option Elab.async false
set_option linter.all false
set_option maxRecDepth 100000
set_option maxHeartbeats 800000
namespace Cr
open PySem PySem.Spec PyProof.Rows L2
section
variable {K : PySem.W.Frag} {q : Option Addr} {n : Nat} {δ : List Sl} {A0 B0 Hk H1 : Hp} {σ : L2.St} {D : Ends} {tz t1 : TS} {r : Addr}
end
section
variable {K : PySem.W.Frag} {q : Option Addr} {δ : List Sl} {te : TE} {c : Nat} {tt tu : TT}
end
section
variable {K : PySem.W.Frag} {q : Option Addr} {δ : List Sl} {te : TE} {c c1 c2 : Nat} {tt tu : TT}
end
end Cr

set_option Elab.async false
set_option linter.all false
set_option maxRecDepth 100000
set_option maxHeartbeats 800000
/-! dict(t) of a tuple of pairs -/
namespace L2
open PySem PySem.Spec PyProof.Rows
section
variable {X : Cx}
end
end L2
namespace Cr
open PySem PySem.Spec PyProof.Rows L2
section
variable {K : PySem.W.Frag} {q : Option Addr} {n : Nat} {δ δ' : List Sl} {te te2 ta tb tk tv : TE} {D : Ends} {A0 B0 Hk H1 : Hp} {σ : L2.St}
end
end Cr

set_option Elab.async false
set_option linter.all false
set_option maxRecDepth 100000
set_option maxHeartbeats 800000
namespace Cr
open PySem PySem.Spec PyProof.Rows L2
/-! ledgers cleared: the quotient by ((0, -1), (1, 1)), over and over -/
/-! bounds -/
end Cr

set_option Elab.async false
set_option linter.all false
set_option maxRecDepth 100000
set_option maxHeartbeats 800000
namespace Cr
open PySem PySem.Spec PyProof.Rows L2
/-! products of blind ledgers; what is cleared of a product -/
/-! turning ledgers -/
/-! where three ledgers part -/
open Classical in
noncomputable def blV (l : List (Int × Int)) : Int := if h : ∃ j, IsBl l j then (Classical.choose h : Nat) else 99
theorem blV_is {l : List (Int × Int)} {j : Nat} (h : IsBl l j) : blV l = (j : Int) := by
  have e : ∃ j, IsBl l j := ⟨j, h⟩
  unfold blV
  rw [dif_pos e, (Classical.choose_spec e).uniq h]
theorem blV_congr {a b : List (Int × Int)} (h : ∀ j, psum a j = 0 ↔ psum b j = 0) : blV a = blV b := by
  by_cases e : ∃ j, IsBl a j
  · obtain ⟨j, hj⟩ := e
    rw [blV_is hj, blV_is (l := b) (j := j) ⟨fun z => hj.1 ((h j).mpr z), fun i hi => (h i).mp (hj.2 i hi)⟩]
  · have e2 : ¬ ∃ j, IsBl b j := fun ⟨j, hj⟩ => e ⟨j, fun z => hj.1 ((h j).mp z), fun i hi => (h i).mpr (hj.2 i hi)⟩
    unfold blV
    rw [dif_neg e, dif_neg e2]
theorem blV_cases {l : List (Int × Int)} (h : Led l) : (l = [] ∧ blD l = .none ∧ blV l = 99) ∨ ∃ j, j < l.length ∧ IsBl l j ∧ blD l = .int (j : Int) ∧ blV l = (j : Int) := by
  by_cases hne : l = []
  · refine .inl ⟨hne, by rw [hne, blD_nil], ?_⟩
    unfold blV
    rw [dif_neg]
    rintro ⟨j, hj⟩
    rw [hne] at hj
    exact hj.1 rfl
  · obtain ⟨j, hj, hb⟩ := led_bl h hne
    have := chg_lt hne
    exact .inr ⟨j, by omega, hb, blD_is hb, blV_is hb⟩
/-- of three partings the two smallest are the same -/
theorem three {a b d : List (Int × Int)} (ha : Led a) (hb : Led b) (hd : Led d) (hla : a.length ≤ 99) (hlb : b.length ≤ 99) (hld : d.length ≤ 99) (e : ∀ j, psum d j = psum a j - psum b j) :
    (blV a = blV b ∧ blV a ≤ blV d) ∨ (blV a = blV d ∧ blV a ≤ blV b) ∨ (blV b = blV d ∧ blV b ≤ blV a) := by
  rcases blV_cases ha with ⟨na, _, va⟩ | ⟨i, hi, ba, _, va⟩
  · have z : blV d = blV b := blV_congr fun j => by
      rw [e, na, show psum [] j = 0 from rfl]
      omega
    rw [va, z]
    rcases blV_cases hb with ⟨_, _, vb⟩ | ⟨j, hj, _, _, vb⟩
    · left; rw [vb]; omega
    · right; right; rw [vb]; omega
  · rcases blV_cases hb with ⟨nb, _, vb⟩ | ⟨j, hj, bb, _, vb⟩
    · have z : blV d = blV a := blV_congr fun j => by
        rw [e, nb, show psum [] j = 0 from rfl]
        omega
      right; left
      rw [z, vb, va]; omega
    · rw [va, vb]
      by_cases h1 : i < j
      · have hd2 : IsBl d i := ⟨by rw [e, bb.2 i h1]; have := ba.1; omega, fun k hk => by rw [e, ba.2 k hk, bb.2 k (by omega)]; rfl⟩
        right; left
        rw [blV_is hd2]; omega
      · by_cases h2 : j < i
        · have hd2 : IsBl d j := ⟨by rw [e, ba.2 j h2]; have := bb.1; omega, fun k hk => by rw [e, ba.2 k (by omega), bb.2 k hk]; rfl⟩
          right; right
          rw [blV_is hd2]; omega
        · have hij : i = j := by omega
          subst hij
          left
          refine ⟨rfl, ?_⟩
          rcases blV_cases hd with ⟨_, _, vd⟩ | ⟨t, ht, bd, _, vd⟩
          · rw [vd]; omega
          · rw [vd]
            by_cases h3 : t < i
            · exact absurd (by rw [e, ba.2 t h3, bb.2 t h3]; rfl) bd.1
            · omega
section
variable {K : PySem.W.Frag} {q : Option Addr} {δ : List Sl} {te : TE}
theorem DqAll.three {H : Hp} {vs : List V} {d e f : PyData} (h : DqAll H vs [d, e, f]) : ∃ v w u, vs = [v, w, u] ∧ Dq H v d ∧ Dq H w e ∧ Dq H u f := by
  cases h with
  | cons h1 h2 => cases h2 with
    | cons h2 h3 => cases h3 with
      | cons h3 h4 => cases h4; exact ⟨_, _, _, rfl, h1, h2, h3⟩
end
end Cr

set_option Elab.async false
set_option linter.all false
set_option maxRecDepth 100000
set_option maxHeartbeats 800000
/-! dicts with tuples as keys: sums that grow by a rule -/
namespace Cr
open PySem PySem.Spec PyProof.Rows L2
/-! ### every tuple that stands is known -/
section
variable {K : PySem.W.Frag} {q : Option Addr} {n : Nat} {δ δ' : List Sl} {te te2 ta tb tp tx ty tz2 : TE} {c c1 c2 c3 : Nat} {d : PyData} {A0 B0 Hk H1 Hk' H2 : Hp} {σ : L2.St} {D : Ends} {tz tbd : TS} {r : Addr}
/-! ### the dict -/
def PolyK (f : List Int) : Prop := f.length ≤ 3 ∧ Pl f ∧ CB 4 f ∧ f ≠ []
def cntV (x : List Key × V) : Nat := match x.2 with
  | .int j => j.toNat
  | _ => 0
def GoodT (c : Nat) (kvs : List (List Key × V)) : Prop := kvs.length ≤ c ∧ (∀ x ∈ kvs, ∃ (f : List Int) (j : Nat), x = (f.map Sum.inl, V.int j) ∧ PolyK f ∧ j ≤ c) ∧ (kvs.map (·.1)).Nodup ∧ (kvs.map cntV).sum ≤ c
theorem GoodT.nil : GoodT 0 [] := ⟨Nat.le_refl _, by simp, by simp, by simp⟩
theorem GoodT.mono {c c' : Nat} {kvs : List (List Key × V)} (h : GoodT c kvs) (l : c ≤ c') : GoodT c' kvs := ⟨by have := h.1; omega, fun x hx => by
  obtain ⟨f, j, e, p, z⟩ := h.2.1 x hx
  exact ⟨f, j, e, p, by omega⟩, h.2.2.1, by have := h.2.2.2; omega⟩
structure TCell (q : Option Addr) (B0 Hk H1 : Hp) (p : Addr) (kvs : List (List Key × V)) : Prop where
  nk : Hk p = none
  nq : q ≠ some p
  nb : B0 p = none
  ex : H1 p = some (.dT kvs)
theorem TCell.go {kvs : List (List Key × V)} (x : TCell q B0 Hk H1 r kvs) (g : Gr q Hk H1 Hk' H2) : TCell q B0 Hk' H2 r kvs :=
  ⟨g.f r x.nk (by rw [x.ex]; exact fun z => by cases z), x.nq, x.nb, g.s r _ x.nq x.ex⟩
theorem At.fresh {p : Addr} (s : At q n δ A0 B0 σ Hk H1) (h : H1 p = none) : Hk p = none ∧ q ≠ some p ∧ B0 p = none :=
  ⟨s.ok.a.free h, fun e => (s.ok.j p e).ne h, by
    cases e : B0 p with
    | none => rfl
    | some u => exact absurd h (s.gr.t p (by rw [e]; exact fun z => by cases z))⟩
theorem Ok.new {p : Addr} {u : HO} (o : Ok q n Hk H1) (hp : H1 p = none) : Ok q n (upd Hk p u) (upd H1 p u) := o.go (Gr.new o.a hp)
end
end Cr

set_option Elab.async false
set_option linter.all false
set_option maxRecDepth 100000
set_option maxHeartbeats 800000
/-! dicts of ints that still change, read by comprehensions -/
namespace Cr
open PySem PySem.Spec PyProof.Rows L2
structure ICell (q : Option Addr) (B0 Hk H1 : Hp) (p : Addr) (m : List (Int × Int)) : Prop where
  nk : Hk p = none
  nq : q ≠ some p
  nb : B0 p = none
  ex : H1 p = some (.dK (mdict m))
section
variable {K : PySem.W.Frag} {q : Option Addr} {n : Nat} {δ δ' : List Sl} {te te2 ta tb tp tx ty tz2 : TE} {c c1 c2 c3 : Nat} {d : PyData} {A0 B0 Hk H1 Hk' H2 : Hp} {σ : L2.St} {D : Ends} {tz tbd : TS} {r : Addr} {m : List (Int × Int)}
theorem ICell.go (x : ICell q B0 Hk H1 r m) (g : Gr q Hk H1 Hk' H2) : ICell q B0 Hk' H2 r m :=
  ⟨g.f r x.nk (by rw [x.ex]; exact fun z => by cases z), x.nq, x.nb, g.s r _ x.nq x.ex⟩
theorem At.garb {p : Addr} {o : HO} (s : At q n δ A0 B0 σ Hk H1) (h : H1 p = none) : At q n δ A0 B0 σ Hk (upd H1 p o) := by
  obtain ⟨h1, h2, h3⟩ := s.fresh h
  exact ⟨s.ok.cell h1 h2, s.sg, s.gr.put h3 h1⟩
theorem ICell.garb {p : Addr} {o : HO} (t : ICell q B0 Hk H1 r m) (h : H1 p = none) : ICell q B0 Hk (upd H1 p o) r m := ⟨t.nk, t.nq, t.nb, by rw [upd_ne (ne_of_none t.ex h)]; exact t.ex⟩
/-! ### a dict whose keys alone matter -/
structure BCell (q : Option Addr) (B0 Hk H1 : Hp) (p : Addr) (ks : List Int) : Prop where
  nk : Hk p = none
  nq : q ≠ some p
  nb : B0 p = none
  ex : ∃ kvs : List (Key × V), H1 p = some (.dK kvs) ∧ kvs.map (·.1) = ks.map Sum.inl
theorem BCell.go {ks : List Int} (x : BCell q B0 Hk H1 r ks) (g : Gr q Hk H1 Hk' H2) : BCell q B0 Hk' H2 r ks := by
  obtain ⟨kvs, e, h⟩ := x.ex
  exact ⟨g.f r x.nk (by rw [e]; exact fun z => by cases z), x.nq, x.nb, kvs, g.s r _ x.nq e, h⟩
end
end Cr

set_option Elab.async false
set_option linter.all false
set_option maxRecDepth 100000
set_option maxHeartbeats 800000
/-! fractions at keys come to the sums -/
namespace Cr
open PySem PySem.Spec PyProof.Rows L2
/-! ### a polynomial with too many roots -/
/-! ### sums of multiples -/
/-! ### least terms -/
/-! ### a common multiple -/
section
variable {K : PySem.W.Frag} {q : Option Addr} {n : Nat} {δ δ' : List Sl} {te te2 ta tb : TE} {c c1 c2 c3 : Nat} {d d1 d2 : PyData} {A0 B0 Hk H1 Hk' H2 : Hp} {σ : L2.St} {D : Ends} {tz : TS}
end
end Cr

set_option Elab.async false
set_option linter.all false
set_option maxRecDepth 100000
set_option maxHeartbeats 800000
/-! rules of sums -/
namespace Cr
open PySem PySem.Spec PyProof.Rows L2
/-! ### a stretch of the sums under a rule -/
/-! ### numbers divided by what they share -/
/-! ### how long the numbers of a shortest rule may be -/
/-! ### rules of the hand layer -/
section
variable {K : PySem.W.Frag} {q : Option Addr} {n : Nat} {δ δ' : List Sl} {te ta tb : TE} {c c1 c2 : Nat} {d d1 d2 d3 d4 d5 : PyData} {A0 B0 Hk H1 H2 Hk' : Hp} {σ : L2.St} {D : Ends} {tz : TS} {p : Addr} {ds es : List PyData}

/-- x = a + b, a list that changes on -/
theorem q_newCat {i : Nat} (ha : E q δ ta (.list ds)) (hb : E q δ tb (.list es)) (hl : ds.length + es.length ≤ 1000000) (s : At q n δ A0 B0 σ Hk H1)
    (k : ∀ p σ' Hk' H2, Gr q Hk H1 Hk' H2 ∨ True → Same Hk Hk' → At q n (δ.set i (.adr p)) A0 B0 σ' Hk' H2 → Cell q B0 Hk' H2 p (ds ++ es) → tz D σ' H2) : tSeq (tAsg (tOp (rAddU K) ta tb) (gName i)) tz D σ H1 :=
  ha σ Hk H1 n s.sg s.ok _ fun d x Hk2 H2 g2 o2 ed dx => hb σ Hk2 H2 n (s.sg.mono g2.k) o2 _ fun d' y Hk3 H3 g3 o3 ed' dy => by
    subst ed; subst ed'
    obtain ⟨a, xs, rfl, h1, h2⟩ := (Dq.mono g3.k _ _ dx).lstOf
    obtain ⟨b, ys, rfl, h3, h4⟩ := dy.lstOf
    have s3 : At q n δ A0 B0 σ Hk3 H3 := ⟨o3, (s.sg.mono g2.k).mono g3.k, (s.gr.trans g2).trans g3⟩
    refine .inr (.inl ⟨a, b, xs, ys, rfl, rfl, o3.a _ _ h1, o3.a _ _ h3, by rw [h2.length, h4.length, sizeLine_eq]; omega, fun l hln => ?_⟩)
    obtain ⟨n1, n2, n3⟩ := s3.fresh hln
    have s4 := s3.garb (o := .lst (xs ++ ys)) hln
    exact k l _ Hk3 _ (.inr trivial) (g2.k.trans g3.k) ⟨s4.ok, s4.sg.set i (s := .adr l) rfl, s4.gr⟩ ⟨n1, n2, n3, _, upd_same, h2.append h4⟩
/-! ### lists of polynomials, some drawn -/
end
end Cr

set_option Elab.async false
set_option linter.all false
set_option maxRecDepth 100000
set_option maxHeartbeats 1000000
namespace Cr
open PySem PySem.Spec PyProof.Rows L2 L2
/-! ### talks: ranges, rounds -/
end Cr

set_option Elab.async false
set_option linter.all false
set_option maxRecDepth 100000
set_option maxHeartbeats 1000000
namespace Cr
open PySem PySem.Spec PyProof.Rows L2 LiI
section
variable {K : PySem.W.Frag} {q : Option Addr} {n : Nat} {δ δ' : List Sl} {te ta tb tc tk : TE} {tt tu : TT} {c c1 c2 c3 : Nat} {Φ Φ1 Φ2 Φ3 : PyData → Prop} {d d1 d2 d3 : PyData} {wi : TI} {A0 B0 Hk H1 H2 Hk' : Hp} {σ : L2.St} {D : Ends} {ts tz : TS} {g : TG} {p r : Addr} {ds : List PyData}
/-- all that is new is known -/
def moreH (Hk H1 H' : Hp) : Hp := fun b => match H1 b with
  | none => H' b
  | some _ => Hk b
theorem moreH_new {b : Addr} {Hk H1 H' : Hp} (h : H1 b = none) : moreH Hk H1 H' b = H' b := by unfold moreH; rw [h]
theorem moreH_old {b : Addr} {Hk H1 H' : Hp} (h : H1 b ≠ none) : moreH Hk H1 H' b = Hk b := by
  unfold moreH
  cases e : H1 b with
  | none => exact absurd e h
  | some u => rfl
theorem Gr.more {Hk H1 H' : Hp} (s : Same Hk H1) (e : ∀ b o, H1 b = some o → H' b = some o) : Gr q Hk H1 (moreH Hk H1 H') H' := by
  refine ⟨fun b o h => ?_, fun b o h => ?_, fun b o _ h => e b o h, fun b h h1 => ?_, fun b h => ?_⟩
  · rw [moreH_old (by rw [s b o h]; exact fun z => by cases z)]; exact h
  · cases h1 : H1 b with
    | none => rw [moreH_new h1] at h; exact h
    | some u =>
      rw [moreH_old (by rw [h1]; exact fun z => by cases z)] at h
      exact e b o (s b o h)
  · rw [moreH_old h1]; exact h
  · cases h1 : H1 b with
    | none => exact absurd h1 h
    | some u => rw [e b u h1]; exact fun z => by cases z
/-! a dict of one's own that changes -/
structure DCell (q : Option Addr) (B0 Hk H1 : Hp) (p : Addr) (m : List (Int × Int)) : Prop where
  nk : Hk p = none
  nq : q ≠ some p
  nb : B0 p = none
  ex : H1 p = some (.dK (mdict m))
theorem DCell.go {m : List (Int × Int)} (x : DCell q B0 Hk H1 p m) (g : Gr q Hk H1 Hk' H2) : DCell q B0 Hk' H2 p m :=
  ⟨g.f p x.nk (by rw [x.ex]; exact fun z => by cases z), x.nq, x.nb, g.s p _ x.nq x.ex⟩
end
/-! rounds as data -/
end Cr
namespace Cr
open PySem PySem.Spec PyProof.Rows L2
section
variable {K : PySem.W.Frag} {q : Option Addr} {n : Nat} {δ : List Sl} {te : TE} {c : Nat} {Φ : PyData → Prop} {d : PyData} {A0 B0 Hk H1 : Hp} {σ : L2.St} {D : Ends} {tz : TS} {p : Addr} {ds es : List PyData}
end
end Cr
namespace Cr
open PySem PySem.Spec PyProof.Rows L2
section
variable {K : PySem.W.Frag} {q : Option Addr} {n : Nat} {δ : List Sl} {te ti : TE} {tt : TT} {c c1 ci : Nat} {Φ : PyData → Prop} {d : PyData} {A0 B0 Hk H1 : Hp} {σ : L2.St} {D : Ends} {tz : TS} {p r t : Addr} {ds es : List PyData}
end
end Cr

set_option Elab.async false
set_option linter.all false
set_option maxRecDepth 100000
set_option maxHeartbeats 1000000
namespace Cr
open PySem PySem.Spec PyProof.Rows L2
/-! all pairs of small ledgers -/
end Cr
namespace Cr
open PySem PySem.Spec PyProof.Rows L2
section
variable {K : PySem.W.Frag} {q : Option Addr} {n : Nat} {δ : List Sl} {c : Nat} {A0 B0 Hk H1 : Hp} {σ : L2.St} {D : Ends}
end
end Cr
namespace Cr
open PySem PySem.Spec PyProof.Rows L2
section
variable {K : PySem.W.Frag} {q : Option Addr} {n : Nat} {δ : List Sl} {te ti : TE} {c : Nat} {A0 B0 Hk H1 : Hp} {σ : L2.St} {D : Ends} {tz : TS}
theorem e_takeLed {l : List (Int × Int)} {cap : Int} (h : E q δ te (led l)) (h2 : E q δ ti (.int cap)) (h0 : 0 ≤ cap) : E q δ (tSl (rSlU K) te tNoPart (tPart ti)) (led (l.take cap.toNat)) :=
  e_is (e_slT (ds := pd l) h to_none (to_some h2)) (by
    have := cutD_to (pd l) cap.toNat
    rw [Int.toNat_of_nonneg h0] at this
    rw [this]
    unfold led pd
    rw [List.map_take])
end
end Cr
namespace Cr
open PySem PySem.Spec PyProof.Rows L2
end Cr

set_option Elab.async false
set_option linter.all false
set_option maxRecDepth 100000
set_option maxHeartbeats 1000000
namespace Cr
open PySem PySem.Spec PyProof.Rows L2
/-! ### truth of a list -/
section
variable {K : PySem.W.Frag} {q : Option Addr} {n : Nat} {δ δ' : List Sl} {te ta tb : TE} {tt : TT} {c : Nat} {d d1 d2 d3 d4 d5 : PyData} {A0 B0 Hk H1 H2 Hk' : Hp} {σ : L2.St} {D : Ends} {tz : TS} {p O : Addr} {ds es e0 rest : List PyData}
/-! ### a new list, its first item a new list, too -/
structure Fresh2 (q : Option Addr) (B0 Hk H : Hp) (O : Addr) (e0 rest : List PyData) : Prop where
  nk : Hk O = none
  nq : q ≠ some O
  nb : B0 O = none
  ex : ∃ D xs ys, H O = some (.lst (.ref D :: xs)) ∧ DqAll Hk xs rest ∧ O ≠ D ∧ Hk D = none ∧ q ≠ some D ∧ B0 D = none ∧ H D = some (.lst ys) ∧ DqAll Hk ys e0
theorem Fresh2.go (x : Fresh2 q B0 Hk H1 O e0 rest) (g : Gr q Hk H1 Hk' H2) : Fresh2 q B0 Hk' H2 O e0 rest := by
  obtain ⟨D, xs, ys, e1, d1, ne, k1, q1, b1, e2, d2⟩ := x.ex
  exact ⟨g.f O x.nk (by rw [e1]; exact fun z => by cases z), x.nq, x.nb, D, xs, ys, g.s O _ x.nq e1, DqAll.mono g.k _ _ d1, ne, g.f D k1 (by rw [e2]; exact fun z => by cases z), q1, b1, g.s D _ q1 e2, DqAll.mono g.k _ _ d2⟩
def JNN (q : Option Addr) (δ : List Sl) (te : TE) (e0 rest : List PyData) : Prop := ∀ (σ : L2.St) (H H1 : Hp) (n : Nat), Sg H σ δ → Ok q n H H1 → ∀ Q : VK, (∀ O Hk H2, Gr q H H1 Hk H2 → Ok q n Hk H2 → Fresh2 q H1 Hk H2 O e0 rest → Q (.ref O) H2) → te σ H1 Q
theorem Fresh2.base {B1 : Hp} (x : Fresh2 q B1 Hk H1 O e0 rest) (t : ∀ b, B0 b ≠ none → B1 b ≠ none) : Fresh2 q B0 Hk H1 O e0 rest := by
  have z : ∀ b, B1 b = none → B0 b = none := fun b h => by
    cases e : B0 b with
    | none => rfl
    | some u => exact absurd h (t b (by rw [e]; exact fun y => by cases y))
  obtain ⟨D, xs, ys, e1, d1, ne, k1, q1, b1, e2, d2⟩ := x.ex
  exact ⟨x.nk, x.nq, z _ x.nb, D, xs, ys, e1, d1, ne, k1, q1, z _ b1, e2, d2⟩
/-- it stands still from here -/
theorem Fresh2.freeze (x : Fresh2 q B0 Hk H1 O e0 rest) (s : At q n δ A0 B0 σ Hk H1) : ∃ Hk', Same Hk Hk' ∧ At q n δ A0 B0 σ Hk' H1 ∧ Dq Hk' (.ref O) (.list (.list e0 :: rest)) ∧ ∃ D xs ys, Hk' O = some (.lst (.ref D :: xs)) ∧ Hk' D = some (.lst ys) ∧ O ≠ D ∧ q ≠ some O ∧ q ≠ some D ∧ B0 O = none ∧ B0 D = none ∧ Hk O = none ∧ Hk D = none ∧ ys.length = e0.length ∧ xs.length = rest.length ∧ DqAll Hk' ys e0 := by
  obtain ⟨F, xs, ys, e1, d1, ne, k1, q1, b1, e2, d2⟩ := x.ex
  have g1 := s.gr.freeze b1 k1 e2
  have nO : upd Hk F (.lst ys) O = none := by rw [upd_ne ne]; exact x.nk
  have g2 := g1.freeze x.nb nO e1
  have sm : Same Hk (upd (upd Hk F (.lst ys)) O (.lst (.ref F :: xs))) := (same_upd k1).trans (same_upd nO)
  have eF : upd (upd Hk F (.lst ys)) O (.lst (.ref F :: xs)) F = some (.lst ys) := by rw [upd_ne (Ne.symm ne)]; exact upd_same
  refine ⟨upd (upd Hk F (.lst ys)) O (.lst (.ref F :: xs)), sm, ⟨⟨g2.a, fun r er => ?_, s.ok.j⟩, s.sg.mono sm, g2⟩, .lst upd_same (.cons (.lst eF (DqAll.mono sm _ _ d2)) (DqAll.mono sm _ _ d1)), F, xs, ys, upd_same, eF, ne, x.nq, q1, x.nb, b1, x.nk, k1, d2.length, d1.length, DqAll.mono sm _ _ d2⟩
  rw [upd_ne (fun z => x.nq (by rw [← z]; exact er)), upd_ne (fun z => q1 (by rw [← z]; exact er))]
  exact s.ok.kf r er
theorem JNN.e (h : JNN q δ te e0 rest) : E q δ te (.list (.list e0 :: rest)) := fun σ H H1 n sg o Q k =>
  h σ H H1 n sg o _ fun O Hk H2 g o1 f => by
    obtain ⟨Hk', sm, a, dq, _⟩ := f.freeze (A0 := H) (B0 := H1) (δ := []) (σ := []) ⟨o1, ⟨rfl, fun i s e => by simp at e⟩, g⟩
    exact k _ _ Hk' H2 a.gr a.ok rfl dq
/-- what an address holds is told -/
theorem At.tell {i : Nat} (s : At q n δ A0 B0 σ Hk H1) (hi : δ[i]? = some (.adr p)) (dq : Dq Hk (.ref p) d) : At q n (δ.set i (.dat d)) A0 B0 σ Hk H1 := by
  refine ⟨s.ok, ⟨by rw [List.length_set]; exact s.sg.1, fun j t e ne => ?_⟩, s.gr⟩
  by_cases hj : i = j
  · subst hj
    have hl : i < δ.length := (List.getElem?_eq_some_iff.mp hi).1
    rw [List.getElem?_set_self hl] at e
    cases e
    exact ⟨.ref p, s.sg.getA hi, dq⟩
  · rw [List.getElem?_set_ne hj] at e
    exact s.sg.2 j t e ne
theorem At.back {δ2 : List Sl} (s : At q n δ A0 B0 σ Hk H1) (a : At q n δ2 A0 B0 σ Hk' H2) (g : Same Hk Hk') : At q n δ A0 B0 σ Hk' H2 := ⟨a.ok, s.sg.mono g, a.gr⟩
end
end Cr

set_option Elab.async false
set_option linter.all false
set_option maxRecDepth 100000
set_option maxHeartbeats 1000000
namespace Cr
open PySem PySem.Spec PyProof.Rows L2
section
variable {P : Program} {w : World} {K : PySem.W.Frag} {mg : Str → Option Value} {base : Heap}
end
section
variable {K : PySem.W.Frag} {q : Option Addr} {n : Nat} {δ δ' : List Sl} {te ta tb : TE} {tt : TT} {c : Nat} {d d1 d2 : PyData} {A0 B0 Hk H1 H2 Hk' : Hp} {σ : L2.St} {D : Ends} {tz : TS} {p O : Addr} {ds es e0 rest : List PyData} {wi wi1 : TI} {g g1 : TG}
end
end Cr

namespace Cr
open PySem PySem.Spec PyProof.Rows L2
/-! ### a op b op c op d as a test -/
section
variable {X : Cx} {a b c d : Expr} {ta tb tc td : TE} {pos : Pos}
end
section
variable {K : PySem.W.Frag} {q : Option Addr} {δ : List Sl} {ta tb tc td ti te : TE} {n : Nat}
theorem e_dropLed {l : List (Int × Int)} {k : Nat} (h : E q δ te (led l)) (h2 : E q δ ti (.int (k : Int))) : E q δ (tSl (rSlU K) te (tPart ti) tNoPart) (led (l.drop k)) :=
  e_is (e_slT (ds := pd l) h (to_some h2) to_none) (by
    rw [cutD_from]
    unfold led pd
    rw [List.map_drop])
end
/-! ### a ledger parted at a key -/
end Cr

set_option Elab.async false
set_option linter.all false
set_option maxRecDepth 100000
set_option maxHeartbeats 1000000
namespace Cr
open PySem PySem.Spec PyProof.Rows L2
/-! ### what a talk tells adds up -/
/-! the talk itself -/
end Cr

set_option Elab.async false
set_option linter.all false
set_option maxRecDepth 100000
set_option maxHeartbeats 800000
/-! what talks cost -/
namespace Cr
open PySem PySem.Spec PyProof.Rows L2
/-! ### rows of ranges, one by one -/
section
variable {g a b : List (Int × Int)} {r0 : Int × Int}
/-! ### all rows together -/
end
/-! ### the least of all -/
def IsMin (f : Nat → Int) (top n : Nat) : Prop := (1 ≤ n ∧ n ≤ top) ∧ (∀ m, 1 ≤ m → m ≤ top → f n ≤ f m) ∧ ∀ m, 1 ≤ m → m < n → f n < f m
theorem IsMin.uniq {f : Nat → Int} {top n m : Nat} (h : IsMin f top n) (h2 : IsMin f top m) : n = m := by
  obtain ⟨⟨a, b⟩, c, d⟩ := h
  obtain ⟨⟨a2, b2⟩, c2, d2⟩ := h2
  rcases Nat.lt_trichotomy n m with e | e | e
  · have := d2 n a e
    have := c m a2 b2
    omega
  · exact e
  · have := d m a2 e
    have := c2 n a b
    omega
def IsFst (P : Nat → Prop) (n : Nat) : Prop := 1 ≤ n ∧ P n ∧ ∀ m, 1 ≤ m → m < n → ¬ P m
theorem IsFst.uniq {P : Nat → Prop} {n m : Nat} (h : IsFst P n) (h2 : IsFst P m) : n = m := by
  obtain ⟨a, b, c⟩ := h
  obtain ⟨a2, b2, c2⟩ := h2
  rcases Nat.lt_trichotomy n m with e | e | e
  · exact absurd b (c2 n a e)
  · exact e
  · exact absurd b2 (c m a2 e)
/-! ### min of pairs of ints, list.index of ints -/
/-! ### the most of some -/
section
variable {K : PySem.W.Frag} {q : Option Addr} {δ : List Sl} {te te2 : TE}
end
/-- what repr may print -/
def Shw (k W : Nat) (d : PyData) : Prop := d.showable = true ∧ d.hasDict = false ∧ d.depth ≤ k ∧ PyData.leavesShort 100 d = true ∧ PyData.weight d ≤ W
theorem Shw.mono {k k' W W' : Nat} {d : PyData} (h : Shw k W d) (hk : k ≤ k') (hW : W ≤ W') : Shw k' W' d := ⟨h.1, h.2.1, Nat.le_trans h.2.2.1 hk, h.2.2.2.1, Nat.le_trans h.2.2.2.2 hW⟩
theorem Shw.size {k W : Nat} {d : PyData} (h : Shw k W d) (hW : W ≤ 160000) : d.shown.length ≤ sizeLine := by
  have z := PyData.shown_le 100 (by omega) d h.2.2.2.1
  have e : sizeLine = 16777216 := by decide
  rw [e]
  have m := Nat.mul_le_mul_left (100 + 2) (Nat.le_trans h.2.2.2.2 hW)
  omega
section
variable {K : PySem.W.Frag} {q : Option Addr} {n c : Nat} {δ : List Sl} {ta tb : TE} {d2 : PyData} {A0 B0 Hk H1 : Hp} {σ : L2.St} {D : Ends} {tz : TS} {Φ : PyData → Prop}
end
/-! ### a def that is called where no guard stands -/
structure FnOkG (P : Program) (w : World) (K : PySem.W.Frag) (mg : Str → Option Value) (base : Heap) (CX : CXT) (k : Nat) (f : Addr) (fd : FuncData) (ps : List Str) (sp : Sp) : Prop where
  len : ∀ vs H Q E, sp vs H Q E → vs.length = ps.length
  run : ∀ (A : Around) (outer : List Env) (s : Shared) (H : Hp) (args : Args) (us : List Value) (vs : List V) (Q : VK) (E : XK), A.guards = some [] → Room k A → Env0 P w K mg base A outer s H → BindsTo s fd args (ps.zip us) → Vals vs us → sp vs H Q E →
    codeAny (model P w) A (.call (.ref f) args) (CR CX outer P w H s Q E) s
section
variable {P : Program} {w : World} {K : PySem.W.Frag} {mg : Str → Option Value} {base : Heap}
end
section
variable {X : Cx} {CX : CXT} {k : Nat} {f : Addr} {fd : FuncData} {ps : List Str} {sp : Sp} {dvs : List V} {ds : List Value} {E : XK} {x : Str} {p pos : Pos} {e : Expr} {es : List Expr} {t : TA}
end
section
variable {K : PySem.W.Frag} {q : Option Addr} {δ : List Sl} {te : TE}
end
end Cr

set_option Elab.async false
set_option linter.all false
set_option maxRecDepth 100000
set_option maxHeartbeats 800000
/-! A tuple judged pair by pair. -/
namespace Cr
open PySem PySem.Spec PyProof.Rows L2
theorem asc_pw : ∀ l : List (Int × Int), asc l = true → l.Pairwise fun a b => a.1 < b.1
  | [], _ => .nil
  | [x], _ => by simp
  | x :: y :: l, h => by
    have e : asc (x :: y :: l) = (decide (x.1 < y.1) && asc (y :: l)) := rfl
    rw [e, Bool.and_eq_true] at h
    have ih := asc_pw (y :: l) h.2
    have hxy : x.1 < y.1 := of_decide_eq_true h.1
    refine List.pairwise_cons.mpr ⟨fun z hz => ?_, ih⟩
    rcases List.mem_cons.mp hz with e | e
    · rw [e]; exact hxy
    · have := (List.pairwise_cons.mp ih).1 z e
      omega
theorem led_of {ds : List PyData} (h : isLedD (.tuple ds) = true) : ∃ l, Led l ∧ ds = pd l := by
  have h0 : (ds.all isChangeD && (asc (ds.filterMap unpr) && nz (ds.filterMap unpr))) = true := h
  rw [Bool.and_eq_true] at h0
  obtain ⟨l, rfl⟩ := changes_pd h0.1
  rw [unpr_pd, Bool.and_eq_true] at h0
  refine ⟨l, ⟨asc_pw l h0.2.1, fun x hx => ?_⟩, rfl⟩
  have := List.all_eq_true.mp h0.2.2 x hx
  simpa using this
theorem prJ_inj {x y : Int × Int} (h : pr x = pr y) : x = y := by
  obtain ⟨a, b⟩ := x
  obtain ⟨c, d⟩ := y
  cases h; rfl
theorem pd_inj {a b : List (Int × Int)} (h : pd a = pd b) : a = b := by
  have := congrArg (fun ds => ds.filterMap unpr) h
  simpa [unpr_pd] using this
/-- one pair more -/
theorem led_more {l : List (Int × Int)} {y : Int × Int} (hL : Led l) (hy : y.2 ≠ 0) (hz : ∀ z, l[l.length - 1]? = some z → l ≠ [] → z.1 < y.1) : Led (l ++ [y]) := by
  refine ⟨List.pairwise_append.mpr ⟨hL.1, by simp, fun a ha b hb => ?_⟩, fun x hx => ?_⟩
  · rw [List.mem_singleton.mp hb]
    have hne : l ≠ [] := List.ne_nil_of_mem ha
    have hp := List.length_pos_iff.mpr hne
    have e : l[l.length - 1]? = some (l.getLast hne) := by rw [List.getLast_eq_getElem, List.getElem?_eq_getElem (by omega)]
    have h1 := hz _ e hne
    have e2 := List.dropLast_concat_getLast hne
    rw [← e2] at ha
    rcases List.mem_append.mp ha with h | h
    · have hP := hL.1
      rw [← e2] at hP
      have := (List.pairwise_append.mp hP).2.2 a h (l.getLast hne) (by simp)
      omega
    · rw [List.mem_singleton.mp h]; exact h1
  · rcases List.mem_append.mp hx with h | h
    · exact hL.2 x h
    · rw [List.mem_singleton.mp h]; exact hy
section
variable {K : PySem.W.Frag} {q : Option Addr} {δ : List Sl} {te tb : TE}
/-- {} -/
theorem e_dnew : E q δ tDNewK (.dict []) := fun σ H H1 n sg o Q k => fun p hp => by
  have g := Gr.new (q := none) (o := .dK []) o.a hp
  exact k _ _ _ _ g.none_to (o.go g) rfl (.dic upd_same)
/-- no tuple of it is long -/
def ShortT (d : PyData) : Prop := ∀ ds, d = .tuple ds → ds.length ≤ 100000
theorem short_tup {ds : List PyData} (h : ds.length ≤ 100000) : ShortT (.tuple ds) := fun es e => by cases e; exact h
end
/-! ### a class's instance -/
structure FunV (K : PySem.W.Frag) (x qual : Str) (st : Stmt) (f : Addr) (fd : FuncData) : Prop where
  ex : ∃ (oc : Value) (od : Option Addr) (dV kV doc pm : Value) (an : Option Addr) (cdv ct : Value) (osl : Array (Option Value)), fd = PySem.W.fnOf x qual (defArgs st) (defBody st) (defScope st) dV kV doc pm an cdv ct ∧ K.lookup f = some ⟨oc, od, .func fd, osl⟩ ∧ PySem.W.codeIn K cdv qual = true
  kp : PySem.W.keepIn K (.ref f) = true
theorem funV_mk {K : PySem.W.Frag} {x qual : Str} {st : Stmt} {f : Addr} {oc : Value} {od an : Option Addr} {osl : Array (Option Value)} {dV kV doc pm cdv ct : Value} (l : K.lookup f = some ⟨oc, od, .func (PySem.W.fnOf x qual (defArgs st) (defBody st) (defScope st) dV kV doc pm an cdv ct), osl⟩)
    (c : PySem.W.codeIn K cdv qual = true) (k : PySem.W.keepIn K (.ref f) = true) : FunV K x qual st f (PySem.W.fnOf x qual (defArgs st) (defBody st) (defScope st) dV kV doc pm an cdv ct) := ⟨⟨oc, od, dV, kV, doc, pm, an, cdv, ct, osl, rfl, l, c⟩, k⟩
theorem FunV.binds {K : PySem.W.Frag} {x qual : Str} {st : Stmt} {f : Addr} {fd : FuncData} {ps : List Str} (F : FunV K x qual st f fd)
    (h : ∀ (dV kV doc pm : Value) (an : Option Addr) (cdv ct : Value) (us : List Value), us.length = ps.length → bindArgs (PySem.W.fnOf x qual (defArgs st) (defBody st) (defScope st) dV kV doc pm an cdv ct) ⟨us, []⟩ = pure (ps.zip us)) : Binds K fd ps [] := by
  obtain ⟨oc, od, dV, kV, doc, pm, an, cdv, ct, osl, rfl, lk, hcd⟩ := F.ex
  exact .all (h dV kV doc pm an cdv ct)
/-- every parameter is given, though one has a default -/
theorem binds_d1 {K : PySem.W.Frag} {x qual : Str} {st : Stmt} {ps : List Str} {T : Addr} {o : Obj} {tu : Value} {m : Nat} {kV doc pm cdv ct : Value} {an : Option Addr} (lT : K.lookup T = some o) (oT : o.data = .seq #[tu] m)
    (h : ∀ us : List Value, us.length = ps.length → ∃ k, bindArgs (PySem.W.fnOf x qual (defArgs st) (defBody st) (defScope st) (.ref T) kV doc pm an cdv ct) ⟨us, []⟩ = seqItems? (.ref T) >>= k ∧ k (some #[tu]) = pure (ps.zip us)) :
    Binds K (PySem.W.fnOf x qual (defArgs st) (defBody st) (defScope st) (.ref T) kV doc pm an cdv ct) ps [] := fun s us X hlen => by
  rw [List.append_nil] at hlen ⊢
  obtain ⟨k, e1, e2⟩ := h us hlen
  refine BindsTo.of_looks fun M => ?_
  rw [e1]
  exact looks_items X lT oT (.of_pure e2)
/-- what isinstance asks of a class that is no tuple -/
structure InsC (K : PySem.W.Frag) (C : Addr) : Prop where
  ha : PySem.W.findIn K (.ref C) "__class__" = some (some (.builtin "object.__class__"))
  hn : PySem.W.specialIn K (.builtin "object.__class__") "__get__" = some (some (.builtin "getset_descriptor.__get__"))
  htk : PySem.W.takesIn K (.builtin "object.__class__") = some true
  hm : PySem.W.mroIn K C (.type "object") = some true
  kt : PySem.W.kitOne K (.ref C) (.type "tuple") = some false
theorem kit_no {K : PySem.W.Frag} {C : Addr} (h : PySem.W.subIn K (.ref C) (.type "tuple") = some false) : PySem.W.kitOne K (.ref C) (.type "tuple") = some false := by
  unfold PySem.W.kitOne
  rw [if_neg (fun e => by first | (have := eq_of_beq e; cases this) | simp at e)]
  show (if PySem.W.kitMeta "tuple" = true then PySem.W.subIn K (.ref C) (.type "tuple") else none) = some false
  rw [if_pos (by decide +kernel)]
  exact h
/-- __init__ of a class with one attribute: it stores what it is given -/
def spI (C : Addr) (fld : Str) (Pd : PyData → Prop) : Sp := fun vs H Q _ => ∃ (q : Option Addr) (Hk H0 : Hp) (n : Nat) (x dx : Addr) (w : V) (d : PyData), vs = [.ref x, w] ∧ H = upd (upd H0 dx (.own x)) x (.ins C dx []) ∧ H0 x = none ∧ H0 dx = none ∧ dx ≠ x ∧ Ok q n Hk H0 ∧ Dq Hk w d ∧ Pd d ∧
  ∀ Hk' H2, Gr q Hk H0 Hk' H2 → Ok q n Hk' H2 → (∃ fs, H2 x = some (.ins C dx fs)) → Q .non H2
section
variable {P : Program} {w : World} {K : PySem.W.Frag} {mg : Str → Option Value} {base : Heap}
/-- self.fld = value behind a check -/
theorem init_ok {x qual fld : Str} {st : Stmt} {f C : Addr} {fd : FuncData} {N ps : List Str} {k : Nat} {Pd : PyData → Prop} {tc : TE} (hp : ps.length = 2) (hN2 : N.length = 2) (F : FunV K x qual st f fd) (S : FnScope N ps (defScope st)) (cl : Cls K C) (na : NoAttr K C fld)
    (body : ∀ (cdv : Value) (A : Around) (outer : List Env) (s : Shared) (B0 : Hp) (E : XK), Room k (A.deeper (envOfC qual (defScope st) s.heap.objs.size f cdv)) →
      PSs (cxOf CX0 P w K mg base N qual (defScope st) f cdv A outer s B0 E).nox (defBody st) (tSeq (tDrop tc) (sFld K (tVar 0) (tVar 1) fld)))
    (hc : ∀ (q : Option Addr) (δ : List Sl) (d : PyData), Pd d → δ[1]? = some (.dat d) → E q δ tc .none) :
    FnOk P w K mg base CX0 (k + 1) f fd ps (spI C fld Pd) := by
  obtain ⟨oc, od, dV, kV, doc, pm, an, cdv, ct, osl, rfl, lk, hcd⟩ := F.ex
  refine fn_of lk hcd S (fun vs H Q E h => ?_) fun A outer s H vs Q E hr h => ?_
  · obtain ⟨_, _, _, _, _, _, _, _, rfl, _⟩ := h
    rw [hp]; rfl
  · obtain ⟨q, Hk, H0, n, a, dx, v, d, rfl, rfl, h1, h2, h3, o, dv, pd, kk⟩ := h
    refine ⟨_, (body cdv A outer s _ E hr).nox, ?_⟩
    have hka : Hk a = none := o.a.free h1
    have hkd : Hk dx = none := o.a.free h2
    have nqa : q ≠ some a := fun e => (o.j a e).ne h1
    have nqd : q ≠ some dx := fun e => (o.j dx e).ne h2
    have sg0 := start_sg (N := N) (vs := [.ref a, v]) (sls := [.adr a, .dat d]) (VS.cons (H := Hk) (s := .adr a) rfl (VS.cons (s := .dat d) dv VS.nil)) (by rw [hN2]; exact Nat.le_refl _)
    rw [hN2] at sg0
    have s1 : At q n [.adr a, .dat d] Hk H0 (L2.start N [.ref a, v]) Hk (upd (upd H0 dx (.own a)) a (.ins C dx [])) := ⟨(o.cell hkd nqd).cell hka nqa, sg0, ((Gr.refl o.a).put h2 hkd).put h1 hka⟩
    refine q_drop (hc q _ d pd rfl) s1 fun Hk1 H1 g1 a1 => ?_
    have e1 : H1 a = some (.ins C dx []) := g1.s a _ nqa upd_same
    have hk1 : Hk1 a = none := g1.f a hka (by rw [upd_same]; exact fun z => by cases z)
    refine (e_var (i := 1) rfl) _ Hk1 H1 n a1.sg a1.ok _ fun d2 v2 Hk2 H2 g2 o2 ed dv2 => ?_
    have e2 : H2 a = some (.ins C dx []) := g2.s a _ nqa e1
    have hk2 : Hk2 a = none := g2.f a hk1 (by rw [e1]; exact fun z => by cases z)
    refine ⟨.ref a, a1.sg.getA (i := 0) rfl, a, C, dx, [], rfl, e2, cl, na, by show 0 < 1000; decide, ?_⟩
    exact kk Hk2 _ ((a1.gr.trans g2).put h1 hk2) (o2.cell hk2 nqa) ⟨_, upd_same⟩
end
/-- a def that is handed an instance and says False -/
def spIns (K : PySem.W.Frag) : Sp := fun vs H Q _ => ∃ (q : Option Addr) (Hk : Hp) (n : Nat) (a C dx : Addr) (fs : List (Str × V)), vs = [.ref a] ∧ H a = some (.ins C dx fs) ∧ Cls K C ∧ InsC K C ∧ Ok q n Hk H ∧ ∀ Hk' H2, Gr q Hk H Hk' H2 → Ok q n Hk' H2 → Q (.bl false) H2
section
variable {K : PySem.W.Frag} {q : Option Addr} {n : Nat} {δ : List Sl} {A0 B0 Hk H1 : Hp} {σ : L2.St} {D : Ends} {tz : TS}
/-- if not isinstance(x, tuple) or ..: return False -/
theorem q_insNo {i : Nat} {a C dx : Addr} {fs : List (Str × V)} {tt : TT} (s : At q n δ A0 B0 σ Hk H1) (hi : δ[i]? = some (.adr a)) (e : H1 a = some (.ins C dx fs)) (cl : Cls K C) (ic : InsC K C) (k : D.rt (.bl false) H1) :
    tSeq (tIfS (tOr (tNot (tB (tCB (rIsiU K) (tCons (tVar i) (tCons (tC (.ty "tuple")) tNil))))) tt) (tRet (tC (.bl false))) tNext) tz D σ H1 := by
  refine ⟨.ref a, s.sg.getA hi, .inl ⟨.ref a, .ty "tuple", .ref C, .type "tuple", false, rfl, .ty "tuple", .base (.ins e cl ic.ha ic.hn ic.htk ic.hm), ic.kt, false, rfl, ?_⟩⟩
  exact k
/-- f(C(x)), f a def that is handed an instance -/
theorem e_insNo {te : TE} {C : Addr} {fld : Str} {Pd : PyData → Prop} {d : PyData} {E0 E1 : XK} (h : E q δ te d) (hp : Pd d) (cl : Cls K C) (ic : InsC K C) : E q δ (tCall (spIns K) [] E0 (tCons (tMake C (spI C fld Pd) [] E1 (tCons te tNil)) tNil)) (.bool false) := fun σ H H1 n sg o Q k =>
  h σ H H1 n sg o _ fun d' v Hk H2 g o2 ed dv => by
    subst ed
    intro x dx h1 h2 h3
    refine ⟨q, Hk, H2, n, x, dx, v, _, rfl, rfl, h1, h2, h3, o2, dv, hp, fun Hk' H3 g3 o3 ⟨fs, e3⟩ => ⟨rfl, ?_⟩⟩
    exact ⟨q, Hk', n, x, C, dx, fs, rfl, e3, cl, ic, o3, fun Hk4 H4 g4 o4 => k (.bool false) (.bl false) Hk4 H4 ((g.trans g3).trans g4) o4 rfl (.bl _)⟩
end
end Cr

set_option Elab.async false
set_option linter.all false
set_option maxRecDepth 100000
set_option maxHeartbeats 800000
/-! Ledgers form a ring. -/
namespace Cr
open PySem PySem.Spec PyProof.Rows L2
end Cr

namespace Lw
open PySem PySem.Spec PyProof.Rows L2 Cr
def topS (i : Nat) : Stmt := PySem.Challenge.pw_changesums_k01_ledgers_judged.main.body.getD i (.Pass ⟨0, 0, 0, 0⟩)
abbrev s__law_jar : Stmt := topS 62
abbrev N__law_jar : List Str := ["script", "at", "cell"]
abbrev P__law_jar : List Str := ["script", "at"]
theorem sc__law_jar : FnScope N__law_jar P__law_jar (defScope s__law_jar) := ⟨rfl, rfl, rfl, by decide +kernel, rfl, by decide +kernel, by decide +kernel⟩
abbrev s__law_gather : Stmt := topS 65
abbrev N__law_gather : List Str := ["rows_here", "table", "key_here", "by_here"]
abbrev P__law_gather : List Str := ["rows_here"]
theorem sc__law_gather : FnScope N__law_gather P__law_gather (defScope s__law_gather) := ⟨rfl, rfl, rfl, by decide +kernel, rfl, by decide +kernel, by decide +kernel⟩
abbrev s__law_pick : Stmt := topS 63
abbrev N__law_pick : List Str := ["jar", "below", "digit", "blend"]
abbrev P__law_pick : List Str := ["jar", "below"]
theorem sc__law_pick : FnScope N__law_pick P__law_pick (defScope s__law_pick) := ⟨rfl, rfl, rfl, by decide +kernel, rfl, by decide +kernel, by decide +kernel⟩
abbrev s__law_amount : Stmt := topS 66
abbrev N__law_amount : List Str := ["jar", "most_here", "amount_here"]
abbrev P__law_amount : List Str := ["jar", "most_here"]
theorem sc__law_amount : FnScope N__law_amount P__law_amount (defScope s__law_amount) := ⟨rfl, rfl, rfl, by decide +kernel, rfl, by decide +kernel, by decide +kernel⟩
abbrev s__law_book : Stmt := topS 67
abbrev N__law_book : List Str := ["jar", "many_here", "reach", "most_here", "changes_here", "size", "k"]
abbrev P__law_book : List Str := ["jar", "many_here", "reach", "most_here"]
theorem sc__law_book : FnScope N__law_book P__law_book (defScope s__law_book) := ⟨rfl, rfl, rfl, by decide +kernel, rfl, by decide +kernel, by decide +kernel⟩
abbrev s_is_an_integer : Stmt := topS 16
abbrev N_is_an_integer : List Str := ["value"]
abbrev P_is_an_integer : List Str := ["value"]
theorem sc_is_an_integer : FnScope N_is_an_integer P_is_an_integer (defScope s_is_an_integer) := ⟨rfl, rfl, rfl, by decide +kernel, rfl, by decide +kernel, by decide +kernel⟩
abbrev s_is_change : Stmt := topS 23
abbrev N_is_change : List Str := ["value"]
abbrev P_is_change : List Str := ["value"]
theorem sc_is_change : FnScope N_is_change P_is_change (defScope s_is_change) := ⟨rfl, rfl, rfl, by decide +kernel, rfl, by decide +kernel, by decide +kernel⟩
abbrev s_is_ledger : Stmt := topS 24
abbrev N_is_ledger : List Str := ["value", "ascending", "pair", "one", "other", "key", "amount"]
abbrev P_is_ledger : List Str := ["value"]
theorem sc_is_ledger : FnScope N_is_ledger P_is_ledger (defScope s_is_ledger) := ⟨rfl, rfl, rfl, by decide +kernel, rfl, by decide +kernel, by decide +kernel⟩
abbrev s__law_same : Stmt := topS 64
abbrev N__law_same : List Str := ["found", "due", "k"]
abbrev P__law_same : List Str := ["found", "due"]
theorem sc__law_same : FnScope N__law_same P__law_same (defScope s__law_same) := ⟨rfl, rfl, rfl, by decide +kernel, rfl, by decide +kernel, by decide +kernel⟩
abbrev s__law_bent : Stmt := topS 68
abbrev N__law_bent : List Str := ["jar", "book", "spot", "odd", "bads", "wrong", "bad"]
abbrev P__law_bent : List Str := ["jar", "book"]
theorem sc__law_bent : FnScope N__law_bent P__law_bent (defScope s__law_bent) := ⟨rfl, rfl, rfl, by decide +kernel, rfl, by decide +kernel, by decide +kernel⟩
abbrev s_check_ledger : Stmt := topS 25
abbrev N_check_ledger : List Str := ["value"]
abbrev P_check_ledger : List Str := ["value"]
theorem sc_check_ledger : FnScope N_check_ledger P_check_ledger (defScope s_check_ledger) := ⟨rfl, rfl, rfl, by decide +kernel, rfl, by decide +kernel, by decide +kernel⟩
abbrev s_Ledger__init__ : Stmt := inClass (topS 55) 0
abbrev N_Ledger__init__ : List Str := ["self", "pairs"]
abbrev P_Ledger__init__ : List Str := ["self", "pairs"]
theorem sc_Ledger__init__ : FnScope N_Ledger__init__ P_Ledger__init__ (defScope s_Ledger__init__) := ⟨rfl, rfl, rfl, by decide +kernel, rfl, by decide +kernel, by decide +kernel⟩
abbrev s_is_sums : Stmt := topS 40
abbrev N_is_sums : List Str := ["value", "number"]
abbrev P_is_sums : List Str := ["value"]
theorem sc_is_sums : FnScope N_is_sums P_is_sums (defScope s_is_sums) := ⟨rfl, rfl, rfl, by decide +kernel, rfl, by decide +kernel, by decide +kernel⟩
abbrev s_check_sums : Stmt := topS 41
abbrev N_check_sums : List Str := ["value"]
abbrev P_check_sums : List Str := ["value"]
theorem sc_check_sums : FnScope N_check_sums P_check_sums (defScope s_check_sums) := ⟨rfl, rfl, rfl, by decide +kernel, rfl, by decide +kernel, by decide +kernel⟩
abbrev s_Sums__init__ : Stmt := inClass (topS 59) 0
abbrev N_Sums__init__ : List Str := ["self", "numbers"]
abbrev P_Sums__init__ : List Str := ["self", "numbers"]
theorem sc_Sums__init__ : FnScope N_Sums__init__ P_Sums__init__ (defScope s_Sums__init__) := ⟨rfl, rfl, rfl, by decide +kernel, rfl, by decide +kernel, by decide +kernel⟩
abbrev s__law_number : Stmt := topS 69
abbrev N__law_number : List Str := ["thing"]
abbrev P__law_number : List Str := ["thing"]
theorem sc__law_number : FnScope N__law_number P__law_number (defScope s__law_number) := ⟨rfl, rfl, rfl, by decide +kernel, rfl, by decide +kernel, by decide +kernel⟩
abbrev s__law_judge : Stmt := topS 70
abbrev N__law_judge : List Str := ["thing", "k", "pair"]
abbrev P__law_judge : List Str := ["thing"]
theorem sc__law_judge : FnScope N__law_judge P__law_judge (defScope s__law_judge) := ⟨rfl, rfl, rfl, by decide +kernel, rfl, by decide +kernel, by decide +kernel⟩
abbrev s_law : Stmt := topS 71
abbrev N_law : List Str := ["script", "at", "jar", "reach", "book", "turn", "thing", "great", "k"]
abbrev P_law : List Str := ["script"]
theorem sc_law : FnScope N_law P_law (defScope s_law) := ⟨rfl, rfl, rfl, by decide +kernel, rfl, by decide +kernel, by decide +kernel⟩
structure Tx (K : PySem.W.Frag) (mg : Str → Option Value) where
  a__law_jar : Addr
  fd__law_jar : FuncData
  F__law_jar : Fun K "_law_jar" "_law_jar" s__law_jar a__law_jar fd__law_jar
  b__law_jar : Binds K fd__law_jar P__law_jar []
  m__law_jar : mg "_law_jar" = some (.ref a__law_jar)
  a__law_gather : Addr
  fd__law_gather : FuncData
  F__law_gather : Fun K "_law_gather" "_law_gather" s__law_gather a__law_gather fd__law_gather
  b__law_gather : Binds K fd__law_gather P__law_gather []
  m__law_gather : mg "_law_gather" = some (.ref a__law_gather)
  a__law_pick : Addr
  fd__law_pick : FuncData
  F__law_pick : Fun K "_law_pick" "_law_pick" s__law_pick a__law_pick fd__law_pick
  b__law_pick : Binds K fd__law_pick P__law_pick []
  m__law_pick : mg "_law_pick" = some (.ref a__law_pick)
  a__law_amount : Addr
  fd__law_amount : FuncData
  F__law_amount : Fun K "_law_amount" "_law_amount" s__law_amount a__law_amount fd__law_amount
  b__law_amount : Binds K fd__law_amount P__law_amount []
  m__law_amount : mg "_law_amount" = some (.ref a__law_amount)
  a__law_book : Addr
  fd__law_book : FuncData
  F__law_book : Fun K "_law_book" "_law_book" s__law_book a__law_book fd__law_book
  b__law_book : Binds K fd__law_book P__law_book []
  m__law_book : mg "_law_book" = some (.ref a__law_book)
  a_is_an_integer : Addr
  fd_is_an_integer : FuncData
  F_is_an_integer : Fun K "is_an_integer" "is_an_integer" s_is_an_integer a_is_an_integer fd_is_an_integer
  b_is_an_integer : Binds K fd_is_an_integer P_is_an_integer []
  m_is_an_integer : mg "is_an_integer" = some (.ref a_is_an_integer)
  a_is_change : Addr
  fd_is_change : FuncData
  F_is_change : Fun K "is_change" "is_change" s_is_change a_is_change fd_is_change
  b_is_change : Binds K fd_is_change P_is_change []
  m_is_change : mg "is_change" = some (.ref a_is_change)
  a_is_ledger : Addr
  fd_is_ledger : FuncData
  F_is_ledger : Fun K "is_ledger" "is_ledger" s_is_ledger a_is_ledger fd_is_ledger
  b_is_ledger : Binds K fd_is_ledger P_is_ledger []
  m_is_ledger : mg "is_ledger" = some (.ref a_is_ledger)
  a__law_same : Addr
  fd__law_same : FuncData
  F__law_same : Fun K "_law_same" "_law_same" s__law_same a__law_same fd__law_same
  b__law_same : Binds K fd__law_same P__law_same []
  m__law_same : mg "_law_same" = some (.ref a__law_same)
  a__law_bent : Addr
  fd__law_bent : FuncData
  F__law_bent : Fun K "_law_bent" "_law_bent" s__law_bent a__law_bent fd__law_bent
  b__law_bent : Binds K fd__law_bent P__law_bent []
  m__law_bent : mg "_law_bent" = some (.ref a__law_bent)
  a_check_ledger : Addr
  fd_check_ledger : FuncData
  F_check_ledger : Fun K "check_ledger" "check_ledger" s_check_ledger a_check_ledger fd_check_ledger
  b_check_ledger : Binds K fd_check_ledger P_check_ledger []
  m_check_ledger : mg "check_ledger" = some (.ref a_check_ledger)
  a_Ledger__init__ : Addr
  fd_Ledger__init__ : FuncData
  F_Ledger__init__ : FunV K "__init__" "Ledger.__init__" s_Ledger__init__ a_Ledger__init__ fd_Ledger__init__
  b_Ledger__init__ : Binds K fd_Ledger__init__ P_Ledger__init__ []
  C_Ledger : Addr
  M_Ledger : Mk K C_Ledger a_Ledger__init__
  m_Ledger : mg "Ledger" = some (.ref C_Ledger)
  cl_Ledger : Cls K C_Ledger
  n_Ledger : NoAttr K C_Ledger "_pairs"
  I_Ledger : InsC K C_Ledger
  a_is_sums : Addr
  fd_is_sums : FuncData
  F_is_sums : Fun K "is_sums" "is_sums" s_is_sums a_is_sums fd_is_sums
  b_is_sums : Binds K fd_is_sums P_is_sums []
  m_is_sums : mg "is_sums" = some (.ref a_is_sums)
  a_check_sums : Addr
  fd_check_sums : FuncData
  F_check_sums : Fun K "check_sums" "check_sums" s_check_sums a_check_sums fd_check_sums
  b_check_sums : Binds K fd_check_sums P_check_sums []
  m_check_sums : mg "check_sums" = some (.ref a_check_sums)
  a_Sums__init__ : Addr
  fd_Sums__init__ : FuncData
  F_Sums__init__ : FunV K "__init__" "Sums.__init__" s_Sums__init__ a_Sums__init__ fd_Sums__init__
  b_Sums__init__ : Binds K fd_Sums__init__ P_Sums__init__ []
  C_Sums : Addr
  M_Sums : Mk K C_Sums a_Sums__init__
  m_Sums : mg "Sums" = some (.ref C_Sums)
  cl_Sums : Cls K C_Sums
  n_Sums : NoAttr K C_Sums "_numbers"
  I_Sums : InsC K C_Sums
  a__law_number : Addr
  fd__law_number : FuncData
  F__law_number : Fun K "_law_number" "_law_number" s__law_number a__law_number fd__law_number
  b__law_number : Binds K fd__law_number P__law_number []
  m__law_number : mg "_law_number" = some (.ref a__law_number)
  a__law_judge : Addr
  fd__law_judge : FuncData
  F__law_judge : Fun K "_law_judge" "_law_judge" s__law_judge a__law_judge fd__law_judge
  b__law_judge : Binds K fd__law_judge P__law_judge []
  m__law_judge : mg "_law_judge" = some (.ref a__law_judge)
  a_law : Addr
  fd_law : FuncData
  F_law : Fun K "law" "law" s_law a_law fd_law
  b_law : Binds K fd_law P_law []
  m_law : mg "law" = some (.ref a_law)
  z_abs : mg "abs" = none
  z_all : mg "all" = none
  z_bool : mg "bool" = none
  z_int : mg "int" = none
  z_isinstance : mg "isinstance" = none
  z_len : mg "len" = none
  z_list : mg "list" = none
  z_max : mg "max" = none
  z_min : mg "min" = none
  z_range : mg "range" = none
  z_sorted : mg "sorted" = none
  z_tuple : mg "tuple" = none
  z_zip : mg "zip" = none
def g_kb_is_ledger_0_value {α : Type} (us ws : List α) : List α := match us, ws with
  | [], [k0] => [k0]
  | _, _ => []
theorem kb_is_ledger_0_value {K : PySem.W.Frag} {f : Addr} {fd : FuncData} (F : Fun K "is_ledger" "is_ledger" s_is_ledger f fd) : KBinds K fd P_is_ledger ["value"] g_kb_is_ledger_0_value g_kb_is_ledger_0_value where
  to := fun s us ws _ hl => by
    obtain ⟨oc, od, kV, doc, pm, an, cdv, ct, osl, rfl, lk, hcd⟩ := F.ex
    unfold g_kb_is_ledger_0_value at hl ⊢
    split at hl
    · exact .of_eq rfl
    · exact absurd hl (by decide)
  rel := fun {vs us zs ws} h1 h2 => by
    rcases h1 with _ | ⟨_, _⟩ <;> rcases h2 with _ | ⟨rk0, _ | ⟨_, _⟩⟩ <;> first | exact (.cons rk0 .nil) | exact .nil
theorem v_kb_is_ledger_0_value {H : Hp} {uk0 : Sl} : ∀ vs zs : List V, VS H vs [] → VS H zs [uk0] → VS H (g_kb_is_ledger_0_value vs zs) [uk0] := by
  intro vs zs h1 h2
  have za := VS.inv0 h1
  subst za
  obtain ⟨wk0, tk0, rfl, qk0, rk0⟩ := VS.inv1 h2
  have zb := VS.inv0 rk0
  subst zb
  exact (VS.cons qk0 VS.nil)
section
variable {P : Program} {w : World} {K : PySem.W.Frag} {mg : Str → Option Value} {base : Heap}
/-! ### _law_jar -/

theorem ok__law_jar (T : Tx K mg) : FnOk P w K mg base CX0 1 T.a__law_jar T.fd__law_jar P__law_jar (spMk K) := by
  refine T.F__law_jar.ok sc__law_jar (fun vs H Q Ew h => by obtain ⟨a, ns, t, rfl, _⟩ := h; rfl) (fun cdv A outer s H vs Q Ew hr h => ?_)
  obtain ⟨a, ns, t, rfl, hS, h0, h1, k⟩ := h
  refine ⟨_, (pss_cons (ps_set (i := 2) sc__law_jar.nd rfl (Or.inl rfl) (pe_ifExp (pt_cmpR op_lt (pv 1) (pe_callB (k_len (K := K) rfl) (by rfl) T.z_len (by decide +kernel) (pa_cons (pv 0) pa_nil)) (nomark _)) (pe_ix (k_ix (K := K) rfl) (pv 0) (pv 1) (fun _ _ => rfl)) pe_int))
      (pss_one (ps_ret (pe_lst (pa_cons (pe_callB (call_maxQ rfl) (by rfl) T.z_max (by decide +kernel) (pa_cons pe_int (pa_cons (pe_op op_sub (pe_callB call_absQ (by rfl) T.z_abs (by decide +kernel) (pa_cons (pv 2) pa_nil)) (pe_op op_powW pe_int pe_int)) pa_nil))) (pa_cons (pe_op (k_addU (K := K) rfl) (pe_op (k_addU (K := K) rfl) (pe_op op_mulU (pe_op op_modN (pe_callTy call_intQ (by rfl) T.z_int (by decide +kernel) (pa_cons (pv 2) pa_nil)) (pe_op (k_addU (K := K) rfl) (pe_op op_powW pe_int pe_int) pe_int)) pe_int) (pe_op op_mulU pe_int (pv 1))) pe_int) (pa_cons pe_int pa_nil))))))), ?_⟩
  have hA : At none 0 [.scr K ns, .dat (.int t), .any] H H (L2.start N__law_jar [.ref a, .int t]) H H := ⟨⟨Same.refl _, fun p e => (by cases e), fun p e => (by cases e)⟩, start_sg (N := N__law_jar) (VS.cons (s := .scr K ns) ⟨a, rfl, hS⟩ (VS.cons (s := .dat (.int t)) (.int t) VS.nil)) (by show 2 ≤ 3; decide), Gr.refl (Same.refl _)⟩
  refine q_asg (n := 0) (c := 0) (Φ := fun x => ∃ v : Int, x = .int v) ?_ hA fun d σ1 Hk1 H1 ⟨v, e⟩ g1 a1 => ?_
  · by_cases ht : t < ns.length
    · have hv : atI ns t = some (ns[t.toNat]'(by omega)) := by
        have h2 := atI_nat (List.getElem?_eq_getElem (show t.toNat < ns.length by omega))
        rw [Int.toNat_of_nonneg h0] at h2; exact h2
      exact (e_if (b := true) (tb_is (tb_test (e_ltI (e_var rfl) (e_lenS rfl))) (decide_eq_true ht)) (fun _ => e_iS rfl (e_var rfl) hv) (fun h => by cases h)).imp fun d e => ⟨_, e⟩
    · exact (e_if (b := false) (d := .int 0) (tb_is (tb_test (e_ltI (e_var rfl) (e_lenS rfl))) (decide_eq_false ht)) (fun h => by cases h) (fun _ => e_int)).imp fun d e => ⟨_, e⟩
  · subst e
    obtain ⟨m1, em1⟩ : ∃ m : Int, m = (10 : Int) ^ (37 : Int).toNat + 139 := ⟨_, rfl⟩
    have hm1 : 0 < m1 ∧ m1 < 2 ^ 130 := by rw [em1]; exact ⟨by decide, by decide⟩
    have b1 := fmod_in (a := v) hm1.1
    obtain ⟨x, ex⟩ : ∃ x : Int, x = (if (if v < 0 then -v else v) - (10 : Int) ^ (18 : Int).toNat > 0 then (if v < 0 then -v else v) - (10 : Int) ^ (18 : Int).toNat else 0) := ⟨_, rfl⟩
    have E1 := e_max (q := none) (δ := [.scr K ns, .dat (.int t), .dat (.int v)]) (e_int (i := 0)) (e_subI (e_abs (e_var (i := 2) rfl)) (e_pow (e_int (i := 10)) (e_int (i := 18)) (pow_ok (a := 4) (by decide) (by omega) (by omega) (by omega))))
    rw [← ex] at E1
    have E2 := e_addI (q := none) (K := K) (δ := [.scr K ns, .dat (.int t), .dat (.int v)]) (e_addI (K := K) (e_mulI (e_mod (j := m1) (e_intI (e_var (i := 2) rfl)) (e_is (e_addI (K := K) (e_pow (e_int (i := 10)) (e_int (i := 37)) (pow_ok (a := 4) (by decide) (by omega) (by omega) (by omega))) (e_int (i := 139))) (by rw [em1])) (by omega)) (e_int (i := 83)) (wide_mul (a := 130) (b := 7) (by omega) (by decide) (by omega) (by omega) (by omega))) (e_mulI (e_int (i := 61)) (e_var (i := 1) rfl) (wide_mul (a := 6) (b := 11) (by decide) (by omega) (by omega) (by omega) (by omega)))) (e_int (i := 23))
    obtain ⟨y, ey⟩ : ∃ y : Int, y = v.fmod m1 * 83 + 61 * t + 23 := ⟨_, rfl⟩
    rw [← ey] at E2
    refine s_retLst (n := 0) (ds := [.int x, .int y, .int 0]) (ae_cons E1 (ae_cons E2 (ae_cons e_int ae_nil))) (by simp) a1 fun p vs Hk2 H2 g2 hp hv => ?_
    have hvs := DqAll.ints (ns := [x, y, 0]) hv
    subst hvs
    have gg := (g1.trans g2).trans (Gr.cell (q := none) (o := .lst [.int x, .int y, .int 0]) g2.a hp)
    refine k p _ (fun b o h => gg.s b o (fun z => by cases z) h) ?_ ⟨x, y, 0, upd_same, by omega, by omega, by omega, by omega⟩
    cases hH : H p with
    | none => rfl
    | some o => exact absurd hp ((g1.trans g2).t p (by rw [hH]; exact fun z => by cases z))
/-! ### _law_gather -/
def R__law_gather : RelX := fun _ sls c Φ => c = 0 ∧ ∃ cs : List (Int × Int), cs.length ≤ 100000 ∧ sls = [.dat (.list (pd cs))] ∧ Φ = fun x => x = led (gather cs)
theorem ok__law_gather (T : Tx K mg) : FnOk P w K mg base CX0 1 T.a__law_gather T.fd__law_gather P__law_gather (spX R__law_gather) := by
  refine fn_ok T.F__law_gather sc__law_gather (by decide) (fun q sls c Φ h => by obtain ⟨_, l, _, rfl, _⟩ := h; rfl) fun cdv A outer s B0 Ew hr => ?_
  have hu := hu_of hr
  refine ⟨_,
    (pss_cons (ps_set (i := 1) sc__law_gather.nd rfl (Or.inr rfl) pe_dnewK)
      (pss_cons (ps_for PassesOwn.never rfl (k_piList (K := K) rfl (pv 0)) (k_pgTup (K := K) (n := 2) rfl rfl (pgs_cons (pg_name (i := 2) sc__law_gather.nd rfl (Or.inl rfl)) (pgs_cons (pg_name (i := 3) sc__law_gather.nd rfl (Or.inl rfl)) pgs_nil))) (pss_one (ps_dput hu (pv 1) (pv 2) (pe_op (k_addU (K := K) rfl) (pe_dget2 hu (pv 1) (pv 2) pe_int ⟨rfl, rfl, rfl, rfl⟩) (pv 3)) rfl)))
      (pss_one (ps_ret (pe_callTy (k_tup (K := K) rfl) (by rfl) T.z_tuple (by decide +kernel) (pa_cons (pe_lc (own := [("key_here", 2)]) rfl sc__law_gather.nd (k_piList (K := K) rfl (pe_callB (call_sortedDIa rfl) (by rfl) T.z_sorted (by decide +kernel) (pa_cons (pv 1) pa_nil))) (blkOk_by (own := [("key_here", 2)]) (N := N__law_gather) (sc := defScope s__law_gather) (by decide +kernel)) (fun _ _ _ _ _ => (pg_name (i := 2) sc__law_gather.nd rfl (Or.inl rfl))) (fun _ _ _ _ _ => (pts_one (pt_cmpR (k_neD (K := K) rfl hr.units) (pe_dget hu (pv 1) (pv 2) (fun _ _ => rfl)) pe_int (nomark _)))) (fun _ _ _ _ _ => (Cr.pe_tup (pa_cons (pv 2) (pa_cons (pe_dget hu (pv 1) (pv 2) (fun _ _ => rfl)) pa_nil))))) pa_nil)))))), fun q sls n c Φ A0 σ Q hR hA fin => ?_⟩
  obtain ⟨rfl, l, hl, rfl, rfl⟩ := hR
  exact read_summed l hl hA fin
/-! ### _law_pick -/
abbrev R__law_pick : RelX := R_pick
theorem ok__law_pick (T : Tx K mg) : FnOk P w K mg base CX0 1 T.a__law_pick T.fd__law_pick P__law_pick (spX R__law_pick) := by
  refine fn_ok T.F__law_pick sc__law_pick (by decide) (fun q sls c Φ h => by obtain ⟨_, p, b, _, _, _, rfl, _⟩ := h; rfl) fun cdv A outer s B0 Ew hr => ⟨_,
    (pss_cons (ps_if (pt_cmpR op_gt (pe_ix (k_ix (K := K) rfl) (pv 0) pe_int (fun _ _ => rfl)) pe_int (nomark _)) (pss_cons (ps_set (i := 2) sc__law_pick.nd rfl (Or.inl rfl) (pe_op op_modN (pe_callTy call_intQ (by rfl) T.z_int (by decide +kernel) (pa_cons (pe_ix (k_ix (K := K) rfl) (pv 0) pe_int (fun _ _ => rfl)) pa_nil)) (pv 1)))
      (pss_cons (ps_asg (pe_op op_fdivW (pe_ix (k_ix (K := K) rfl) (pv 0) pe_int (fun _ _ => rfl)) (pv 1)) (pg_sub (pv 0) pe_int set_list))
      (pss_one (ps_ret (pv 2))))) pss_nil)
      (pss_cons (ps_asg (pe_op (k_addU (K := K) rfl) (pe_ix (k_ix (K := K) rfl) (pv 0) pe_int (fun _ _ => rfl)) pe_int) (pg_sub (pv 0) pe_int set_list))
      (pss_cons (ps_set (i := 3) sc__law_pick.nd rfl (Or.inl rfl) (pe_op op_modN (pe_op op_powW (pe_callTy call_intQ (by rfl) T.z_int (by decide +kernel) (pa_cons (pe_op (k_addU (K := K) rfl) (pe_ix (k_ix (K := K) rfl) (pv 0) pe_int (fun _ _ => rfl)) (pe_op op_mulU pe_int (pe_ix (k_ix (K := K) rfl) (pv 0) pe_int (fun _ _ => rfl)))) pa_nil)) pe_int) (pe_op (k_addU (K := K) rfl) (pe_op op_powW pe_int pe_int) pe_int)))
      (pss_cons (ps_set (i := 3) sc__law_pick.nd rfl (Or.inl rfl) (pe_op op_modN (pe_op op_powW (pe_callTy call_intQ (by rfl) T.z_int (by decide +kernel) (pa_cons (pe_op (k_addU (K := K) rfl) (pv 3) (pe_op op_mulU pe_int (pe_ix (k_ix (K := K) rfl) (pv 0) pe_int (fun _ _ => rfl)))) pa_nil)) pe_int) (pe_op (k_addU (K := K) rfl) (pe_op op_powW pe_int pe_int) pe_int)))
      (pss_one (ps_ret (pe_op op_modN (pe_op op_fdivW (pv 3) pe_int) (pv 1)))))))), fun q sls n c Φ A0 σ Q hR hA fin => ?_⟩
  obtain ⟨rfl, p, b, rfl, hb, hb2, rfl, rfl⟩ := hR
  exact read_pick hb hb2 hA fin
/-! ### _law_amount -/
def R__law_amount : RelX := fun q sls c Φ => c = 1 ∧ ∃ (p : Addr) (m : Int), q = some p ∧ 1 ≤ m ∧ m < 2 ^ 60 ∧ sls = [.adr p, .dat (.int m)] ∧ Φ = IntP fun i => i ≠ 0 ∧ -m ≤ i ∧ i ≤ m
theorem ok__law_amount (T : Tx K mg) : FnOk P w K mg base CX0 2 T.a__law_amount T.fd__law_amount P__law_amount (spX R__law_amount) := by
  have G__law_pick := ok__law_pick (P := P) (w := w) (base := base) T
  refine fn_ok T.F__law_amount sc__law_amount (by decide) (fun q sls c Φ h => by obtain ⟨_, p, m, _, _, _, rfl, _⟩ := h; rfl) fun cdv A outer s B0 Ew hr => ⟨_,
    (pss_cons (ps_set (i := 2) sc__law_amount.nd rfl (Or.inl rfl) (pe_op op_sub (pe_call G__law_pick (hr.mono (by decide)) (by rfl) T.m__law_pick T.F__law_pick.kp T.b__law_pick .nil pass0 (pa_cons (pv 0) (pa_cons (pe_op op_mulU pe_int (pv 1)) pa_nil))) (pv 1)))
      (pss_one (ps_ret (pe_ifExp (pt_cmpR op_ge (pv 2) pe_int (nomark _)) (pe_op (k_addU (K := K) rfl) (pv 2) pe_int) (pv 2))))), fun q sls n c Φ A0 σ Q hR hA fin => ?_⟩
  obtain ⟨rfl, p, m, rfl, h1, h2, rfl, rfl⟩ := hR
  refine q_asg (n := n) (c := 1) ((j_subI (Φ := IntP fun i => -m ≤ i ∧ i < m) (j_pick rfl (e_mulI e_int (e_var rfl) (wide_mul (a := 2) (b := 60) (by decide) (by omega) (by omega) (by omega) (by omega))) (by omega) (by omega)) (e_var rfl).intP fun i j hi hj => ⟨i - j, by omega, rfl⟩).cost (by omega)) hA fun d σ1 Hk1 H1 ⟨i, hi, ed⟩ g1 a1 => ?_
  subst ed
  by_cases h0 : 0 ≤ i
  · exact s_ret (n := n) (c := 0) (Φ := fun x => x = .int (i + 1)) (e_if (b := true) (tb_is (tb_test (e_geI (e_var rfl) e_int)) (decide_eq_true h0)) (fun _ => e_addI (e_var rfl) e_int) (fun h => by cases h)) a1 (by omega) fin fun d e => ⟨i + 1, by omega, e⟩
  · exact s_ret (n := n) (c := 0) (Φ := fun x => x = .int i) (e_if (b := false) (tb_is (tb_test (e_geI (e_var rfl) e_int)) (decide_eq_false h0)) (fun h => by cases h) (fun _ => e_var rfl)) a1 (by omega) fin fun d e => ⟨i, by omega, e⟩
/-! ### _law_book -/
def R__law_book : RelX := fun q sls c Φ => c = 1000 ∧ ∃ (p : Addr) (m r a : Int), q = some p ∧ 0 ≤ m ∧ m ≤ 400 ∧ 0 ≤ r ∧ r < 2 ^ 50 ∧ 1 ≤ a ∧ a < 2 ^ 50 ∧ sls = [.adr p, .dat (.int m), .dat (.int r), .dat (.int a)] ∧ Φ = fun d => ∃ l, Led l ∧ (l.length : Int) ≤ m ∧ (∀ x ∈ l, -r ≤ x.1 ∧ x.1 ≤ r) ∧ Bd 60 l ∧ d = led l
theorem j_bookS {δ : List Sl} {i : Nat} {p : Addr} {E0 : XK} {tm tr ta : TE} {cm cr ca : Nat} {M : Int} (hi : δ[i]? = some (.adr p)) (hM : M ≤ 400) (hm : J (some p) δ tm cm (IntP fun x => 0 ≤ x ∧ x ≤ M)) (hr : J (some p) δ tr cr (IntP fun x => 0 ≤ x ∧ x < 10 ^ 15)) (ha : J (some p) δ ta ca (IntP fun x => 1 ≤ x ∧ x < 10 ^ 15)) :
    J (some p) δ (tCall (spX R__law_book) [] E0 (tCons (tVar i) (tCons tm (tCons tr (tCons ta tNil))))) (1000 + (ca + cr + cm)) (fun d => ∃ l, Led l ∧ Kb 50 60 l ∧ (l.length : Int) ≤ M ∧ d = led l) :=
  j_callD (R := R__law_book) (c := 1000) (c1 := ca + cr + cm) (Φa := fun sls => ∃ m r a : Int, (0 ≤ m ∧ m ≤ M) ∧ (0 ≤ r ∧ r < 10 ^ 15) ∧ (1 ≤ a ∧ a < 10 ^ 15) ∧ sls = [.adr p, .dat (.int m), .dat (.int r), .dat (.int a)]) (aj_adr (Φr := fun sls => ∃ m r a : Int, (0 ≤ m ∧ m ≤ M) ∧ (0 ≤ r ∧ r < 10 ^ 15) ∧ (1 ≤ a ∧ a < 10 ^ 15) ∧ sls = [.dat (.int m), .dat (.int r), .dat (.int a)]) hi (aj_int (c1 := cm) (c2 := ca + cr) (Φr := fun sls => ∃ r a : Int, (0 ≤ r ∧ r < 10 ^ 15) ∧ (1 ≤ a ∧ a < 10 ^ 15) ∧ sls = [.dat (.int r), .dat (.int a)]) hm (aj_int (c1 := cr) (c2 := ca) (Φr := fun sls => ∃ a : Int, (1 ≤ a ∧ a < 10 ^ 15) ∧ sls = [.dat (.int a)]) hr ((aj_int (c1 := ca) (c2 := 0) (Φr := fun sls => sls = []) ha ae_nil fun i sls hi e => ⟨i, hi, by rw [e]⟩).cost (by omega)) fun i sls hi ⟨b, hb, e⟩ => ⟨i, b, hi, hb, by rw [e]⟩) fun i sls hi ⟨x, b, hx, hb, e⟩ => ⟨i, x, b, hi, hx, hb, by rw [e]⟩) fun sls ⟨i, x, b, hi, hx, hb, e⟩ => ⟨i, x, b, hi, hx, hb, by rw [e]⟩) fun sls ⟨i, x, b, hi, hx, hb, e⟩ => ⟨_, ⟨rfl, p, i, x, b, rfl, hi.1, by omega, by omega, by omega, by omega, by omega, e, rfl⟩, fun d ⟨l, h1, h2, h3, h4, h5⟩ => ⟨l, h1, fun y hy => ⟨by have z := h3 y hy; omega, (h4 y hy).2⟩, by omega, h5⟩⟩
theorem ok__law_book (T : Tx K mg) : FnOk P w K mg base CX0 3 T.a__law_book T.fd__law_book P__law_book (spX R__law_book) := by
  have G__law_amount := ok__law_amount (P := P) (w := w) (base := base) T
  have G__law_gather := ok__law_gather (P := P) (w := w) (base := base) T
  have G__law_pick := ok__law_pick (P := P) (w := w) (base := base) T
  refine fn_ok T.F__law_book sc__law_book (by decide) (fun q sls c Φ h => by obtain ⟨_, p, m, r, a, _, _, _, _, _, _, _, rfl, _⟩ := h; rfl) fun cdv A outer s B0 Ew hr => ⟨_,
    (pss_cons (ps_par (i := 4) (j := 5) (by rfl) sc__law_book.nd rfl rfl (by decide) rfl rfl (pa_cons (pe_lst pa_nil) (pa_cons (pe_ifExp (pt_cmpR op_gt (pv 3) (pe_op op_powW pe_int pe_int) (nomark _)) (pe_op op_fdivW (pv 3) pe_int) (pv 3)) pa_nil)) (by rfl))
      (pss_cons (ps_for PassesOwn.never rfl (pi_range1 rfl T.z_range (pa_cons (pe_call G__law_pick (hr.mono (by decide)) (by rfl) T.m__law_pick T.F__law_pick.kp T.b__law_pick .nil pass0 (pa_cons (pv 0) (pa_cons (pe_op (k_addU (K := K) rfl) (pv 1) pe_int) pa_nil))) pa_nil)) (pg_name (i := 6) sc__law_book.nd rfl (Or.inl rfl)) (pss_one (ps_expr (pe_bm PySem.F.plainAttrs_list PySem.F.slot_list_append PySem.F.type_list_append mt_append (pv 4) (pa_cons (Cr.pe_tup (pa_cons (pe_op op_sub (pe_call G__law_pick (hr.mono (by decide)) (by rfl) T.m__law_pick T.F__law_pick.kp T.b__law_pick .nil pass0 (pa_cons (pv 0) (pa_cons (pe_op (k_addU (K := K) rfl) (pe_op op_mulU pe_int (pv 2)) pe_int) pa_nil))) (pv 2)) (pa_cons (pe_call G__law_amount (hr.mono (by decide)) (by rfl) T.m__law_amount T.F__law_amount.kp T.b__law_amount .nil pass0 (pa_cons (pv 0) (pa_cons (pv 5) pa_nil))) pa_nil))) pa_nil)))))
      (pss_one (ps_ret (pe_call G__law_gather (hr.mono (by decide)) (by rfl) T.m__law_gather T.F__law_gather.kp T.b__law_gather .nil pass0 (pa_cons (pv 4) pa_nil)))))), fun q sls n c Φ A0 σ Q hR hA fin => ?_⟩
  obtain ⟨rfl, p, m, r, a, rfl, hm0, hm, hr0, hr2, ha0, ha, rfl, rfl⟩ := hR
  refine q_parNew (n := n + 1000) (c := 0) (Φ := fun x => ∃ z : Int, (1 ≤ z ∧ z ≤ a) ∧ x = .int z) ?_ hA fun l d σ1 Hk1 H1 ⟨z, hz, ed⟩ a1 cl => ?_
  · by_cases hb : a > (10 : Int) ^ (9 : Int).toNat
    · have hb' : (1000000000 : Int) < a := hb
      exact (e_if (b := true) (d := .int (a / 64)) (tb_is (tb_test (e_gtI (e_var rfl) (e_pow e_int e_int (pow_ok (a := 4) (by decide) (by omega) (by omega) (by omega))))) (decide_eq_true hb)) (fun _ => e_fdiv (e_var rfl) e_int (wide_div (b := 8) (by omega) (by decide) (by omega) (by omega))) (fun h => by cases h)).imp fun d e => ⟨a / 64, by omega, e⟩
    · exact (e_if (b := false) (d := .int a) (tb_is (tb_test (e_gtI (e_var rfl) (e_pow e_int e_int (pow_ok (a := 4) (by decide) (by omega) (by omega) (by omega))))) (decide_eq_false hb)) (fun h => by cases h) (fun _ => e_var rfl)).imp fun d e => ⟨a, by omega, e⟩
  subst ed
  refine q_for (n := n + 990) (c := 1) (Ψ := fun items => ∃ k : Nat, (k : Int) ≤ m ∧ items = rng 0 k) (ij_rng1 (j_pick rfl (e_addI (e_var rfl) e_int) (by omega) (by omega)) fun j hj => ⟨by omega, j.toNat, by omega, rfl⟩) (a1.mono (by omega)) fun items HkW H2 ⟨k, hk, ei⟩ g2 a2 => ?_
  subst ei
  have cl2 := cl.go g2
  refine ⟨fun i σ' Hk' H' => Same HkW Hk' ∧ i ≤ k ∧ ∃ cs : List (Int × Int), cs.length = i ∧ (∀ x ∈ cs, -r ≤ x.1 ∧ x.1 ≤ r) ∧ Amt a cs ∧ At (some p) (n + 2 * (k - i)) [.adr p, .dat (.int m), .dat (.int r), .dat (.int a), .adr l, .dat (.int z), .any] A0 B0 σ' Hk' H' ∧ Cell (some p) B0 Hk' H' l (pd cs), ⟨Same.refl _, Nat.zero_le _, [], rfl, by simp, (by intro x hx; cases hx), a2.mono (by omega), cl2⟩, fun i σ' Hk' H' h => ⟨h.1, by obtain ⟨_, _, cs, _, _, _, st, _⟩ := h; exact st.ok.a⟩, ?_, ?_⟩
  · rintro i d σ' Hk' H' ed ⟨h2, hik, cs, hlen, hkeys, hamt, st, cl3⟩ v Hk2 H3 g3 dv
    obtain ⟨hi, rfl⟩ := rng_get' ed
    refine gb_name (vs := [6]) (by simp) σ' Hk2 H3 v (st.sg.mono g3.k) g3.a dv _ fun σ2 sg2 _ _ => ?_
    have st2 : At (some p) (n + 2 * (k - i)) _ A0 B0 σ2 Hk2 H3 := ⟨st.ok.go g3, sg2, st.gr.trans g3.none_to⟩
    have cl4 := cl3.go g3.none_to
    refine s_append (n := n + 2 * (k - (i + 1))) (c := 2) (Φ := fun x => ∃ y : Int × Int, (-r ≤ y.1 ∧ y.1 ≤ r) ∧ (-a ≤ y.2 ∧ y.2 ≤ a) ∧ x = pr y) ?_ (st2.mono (by omega)) cl4 rfl (by rw [pd_len]; omega) fun d Hk3 H4 ⟨y, hy1, hy2, ed⟩ s3 a3 cl5 => ⟨Hk3, (h2.trans g3.k).trans s3, by omega, cs ++ [y], ?_, ?_, ?_, a3.forget 6, ?_⟩
    · refine (j_tup (c := 2) (Ψ := fun ds => ∃ y : Int × Int, (-r ≤ y.1 ∧ y.1 ≤ r) ∧ (-a ≤ y.2 ∧ y.2 ≤ a) ∧ ds = [.int y.1, .int y.2]) ?_).imp fun d ⟨ds, ⟨y, h1, h2, e⟩, e2⟩ => ⟨y, h1, h2, by rw [e2, e]; rfl⟩
      refine ((aj_cons (c1 := 1) (c2 := 1) (Φ1 := IntP fun i => -r ≤ i ∧ i ≤ r) (Φr := fun sls => ∃ y : Int, (-a ≤ y ∧ y ≤ a) ∧ sls = [.dat (.int y)]) (Φ' := fun sls => ∃ y : Int × Int, (-r ≤ y.1 ∧ y.1 ≤ r) ∧ (-a ≤ y.2 ∧ y.2 ≤ a) ∧ sls = [.dat (.int y.1), .dat (.int y.2)]) ?_ ?_ fun d sls ⟨i, hi, e⟩ ⟨y, hy, e2⟩ => ⟨(i, y), hi, hy, by rw [e, e2]⟩)).imp fun sls ⟨y, h1, h2, e⟩ => ⟨[.int y.1, .int y.2], e, by simp, y, h1, h2, rfl⟩
      · exact (j_subI (j_pick rfl (e_addI (e_mulI e_int (e_var rfl) (wide_mul (a := 2) (b := 50) (by decide) (by omega) (by omega) (by omega) (by omega))) e_int) (by omega) (by omega)) (e_var rfl).intP fun i j hi hj => ⟨i - j, by omega, rfl⟩).cost (by omega)
      · refine ((aj_cons (c1 := 1) (c2 := 0) (Φ1 := IntP fun i => i ≠ 0 ∧ -z ≤ i ∧ i ≤ z) (j_call (R := R__law_amount) (ae_adr rfl (ae_cons (e_var rfl) ae_nil)) fun sls e => ⟨rfl, p, z, rfl, hz.1, by omega, e, rfl⟩) ae_nil fun d sls ⟨i, hi, e⟩ e2 => ⟨i, by omega, by rw [e, e2]⟩)).cost (by omega)
    · rw [List.length_append, hlen]; rfl
    · intro x hx
      rcases List.mem_append.mp hx with h | h
      · exact hkeys x h
      · rw [List.mem_singleton.mp h]; exact hy1
    · intro x hx
      rcases List.mem_append.mp hx with h | h
      · exact hamt x h
      · rw [List.mem_singleton.mp h]; exact hy2
    · rw [ed] at cl5
      show Cell (some p) B0 Hk3 H4 l ((cs ++ [y]).map pr)
      rw [List.map_append]; exact cl5
  · rintro σ' Hk' H' ⟨h2, _, cs, hlen, hkeys, hamt, st, cl3⟩
    rw [rng_len] at hlen
    obtain ⟨Hk2, s2, st2⟩ := st.freeze (i := 4) cl3 rfl
    refine s_ret (n := n) (c := 0) (Φ := fun x => x = led (gather cs)) (j_call (R := R__law_gather) (ae_cons (e_var rfl) ae_nil) fun sls e => ⟨rfl, cs, by omega, e, rfl⟩) st2 (by omega) fin fun d e => ⟨gather cs, gather_led cs, ?_, fun x hx => gather_keys (P := fun k => -r ≤ k ∧ k ≤ r) hkeys x hx, fun x hx => ?_, e⟩
    · have := gather_len cs; omega
    · have hk1 := gather_keys (P := fun k => -r ≤ k ∧ k ≤ r) hkeys x hx
      have hk2 := (gather_mem cs x).mp hx
      have hk3 := tot_bound (by omega) hamt x.1
      rw [← hk2.1] at hk3
      have hk4 : a * (cs.length : Int) ≤ 2 ^ 50 * 400 := Int.mul_le_mul (by omega) (by omega) (by omega) (by omega)
      constructor <;> omega
/-! ### is_an_integer -/
def R_is_an_integer : RelX := fun _ sls c Φ => c = 0 ∧ ∃ d, sls = [.dat d] ∧ Φ = fun x => x = .bool (isIntD d)
theorem ok_is_an_integer (T : Tx K mg) : FnOk P w K mg base CX0 1 T.a_is_an_integer T.fd_is_an_integer P_is_an_integer (spX R_is_an_integer) := by
  refine fn_ok T.F_is_an_integer sc_is_an_integer (by decide) (fun q sls c Φ h => by obtain ⟨_, d, rfl, _⟩ := h; rfl) fun cdv A outer s B0 Ew hr => ⟨_,
    (pss_one (ps_ret (pe_and (pe_callB (k_isi (K := K) rfl) (by rfl) T.z_isinstance (by decide +kernel) (pa_cons (pv 0) (pa_cons (pe_bltn (v := .ty "int") (by rfl) T.z_int (by decide +kernel) rfl) pa_nil))) (pe_one (pe_not (pe_callB (k_isi (K := K) rfl) (by rfl) T.z_isinstance (by decide +kernel) (pa_cons (pv 0) (pa_cons (pe_bltn (v := .ty "bool") (by rfl) T.z_bool (by decide +kernel) rfl) pa_nil)))))))), fun q sls n c Φ A0 σ Q hR hA fin => ?_⟩
  obtain ⟨rfl, d, rfl, rfl⟩ := hR
  exact s_retE (e_andV (e_isi (e_var rfl) (kit_int d)) (fun _ => e_notV (e_isi (e_var rfl) (kit_bool d)))) hA (Nat.le_refl _) fin (by rw [isInt_eq])
/-! ### is_change -/
def R_is_change : RelX := fun _ sls c Φ => c = 0 ∧ ∃ d, sls = [.dat d] ∧ Φ = fun x => x = .bool (isChangeD d)
theorem ok_is_change (T : Tx K mg) : FnOk P w K mg base CX0 2 T.a_is_change T.fd_is_change P_is_change (spX R_is_change) := by
  have G_is_an_integer := ok_is_an_integer (P := P) (w := w) (base := base) T
  refine fn_ok T.F_is_change sc_is_change (by decide) (fun q sls c Φ h => by obtain ⟨_, d, rfl, _⟩ := h; rfl) fun cdv A outer s B0 Ew hr => ⟨_,
    (pss_one (ps_ret (pe_and (pe_callB (k_isi (K := K) rfl) (by rfl) T.z_isinstance (by decide +kernel) (pa_cons (pv 0) (pa_cons (pe_bltn (v := .ty "tuple") (by rfl) T.z_tuple (by decide +kernel) rfl) pa_nil))) (pe_and (pe_cmpR (k_eqD (K := K) rfl hr.units) (pe_callB (k_len (K := K) rfl) (by rfl) T.z_len (by decide +kernel) (pa_cons (pv 0) pa_nil)) pe_int (nomark _)) (pe_and (pe_call G_is_an_integer (hr.mono (by decide)) (by rfl) T.m_is_an_integer T.F_is_an_integer.kp T.b_is_an_integer .nil pass0 (pa_cons (pe_ix (k_ix (K := K) rfl) (pv 0) pe_int (fun _ _ => rfl)) pa_nil)) (pe_one (pe_call G_is_an_integer (hr.mono (by decide)) (by rfl) T.m_is_an_integer T.F_is_an_integer.kp T.b_is_an_integer .nil pass0 (pa_cons (pe_ix (k_ix (K := K) rfl) (pv 0) pe_int (fun _ _ => rfl)) pa_nil)))))))), fun q sls n c Φ A0 σ Q hR hA fin => ?_⟩
  obtain ⟨rfl, d, rfl, rfl⟩ := hR
  refine s_retE (d := .bool (isChangeD d)) ?_ hA (Nat.le_refl _) fin rfl
  cases d with
  | tuple ds =>
    refine e_is (e_andV (b := (ds.length == 2) && (isChangeD (.tuple ds))) (e_isi (e_var rfl) (kit_tuple _)) fun _ => e_andV (e_is (e_eqDI (e_lenT (e_var rfl)) e_int) ?_) fun h2 => ?_) ?_
    · by_cases h : ds.length = 2
      · rw [h]; rfl
      · rw [show (ds.length == 2) = false by simpa using h, show ((ds.length : Int) == 2) = false by simpa using (by omega : ¬ (ds.length : Int) = 2)]
    · have hl : ds.length = 2 := by simpa using h2
      obtain ⟨a, b, rfl⟩ : ∃ a b, ds = [a, b] := by
        match ds, hl with
        | [a, b], _ => exact ⟨a, b, rfl⟩
      refine e_is (e_andV (j_call (R := R_is_an_integer) (ae_cons (e_iT (e_var rfl) e_int rfl) ae_nil) fun sls e => ⟨rfl, a, e, rfl⟩) fun _ => j_call (R := R_is_an_integer) (ae_cons (e_iT (e_var rfl) e_int rfl) ae_nil) fun sls e => ⟨rfl, b, e, rfl⟩) ?_
      cases a <;> cases b <;> rfl
    · by_cases h : ds.length = 2
      · rw [show (ds.length == 2) = true by simpa using h]; rfl
      · have hc : isChangeD (.tuple ds) = false := Bool.eq_false_iff.mpr fun z => by
          obtain ⟨x, e⟩ := change_pr z
          cases e
          exact h rfl
        rw [hc, show (ds.length == 2) = false by simpa using h]; rfl
  | none => exact e_andNo (e_isi (e_var rfl) (kit_tuple _))
  | bool _ => exact e_andNo (e_isi (e_var rfl) (kit_tuple _))
  | int _ => exact e_andNo (e_isi (e_var rfl) (kit_tuple _))
  | str _ => exact e_andNo (e_isi (e_var rfl) (kit_tuple _))
  | list _ => exact e_andNo (e_isi (e_var rfl) (kit_tuple _))
  | dict _ => exact e_andNo (e_isi (e_var rfl) (kit_tuple _))
/-! ### is_ledger -/
def R_is_ledger : RelX := fun _ sls c Φ => c = 0 ∧ ∃ d, (∀ ds, d = .tuple ds → ds.length ≤ 100000) ∧ sls = [.dat d] ∧ Φ = fun x => x = .bool (isLedD d)
theorem ok_is_ledger (T : Tx K mg) : FnOk P w K mg base CX0 3 T.a_is_ledger T.fd_is_ledger P_is_ledger (spX R_is_ledger) := by
  have G_is_change := ok_is_change (P := P) (w := w) (base := base) T
  refine fn_ok T.F_is_ledger sc_is_ledger (by decide) (fun q sls c Φ h => by obtain ⟨_, d, _, rfl, _⟩ := h; rfl) fun cdv A outer s B0 Ew hr => ⟨_,
    (pss_cons (ps_if (PW.pt (pw_or (pt_not (pt_val (pe_callB (k_isi (K := K) rfl) (by rfl) T.z_isinstance (by decide +kernel) (pa_cons (pv 0) (pa_cons (pe_bltn (v := .ty "tuple") (by rfl) T.z_tuple (by decide +kernel) rfl) pa_nil))))) (pw_or1 (pt_not (pt_val (pe_callB (k_all (K := K) rfl rfl) (by rfl) T.z_all (by decide +kernel) (pa_cons (pe_lc (own := [("pair", 2)]) rfl sc_is_ledger.nd (k_piTup (K := K) rfl (pv 0)) (blkOk_by (own := [("pair", 2)]) (N := N_is_ledger) (sc := defScope s_is_ledger) (by decide +kernel)) (fun _ _ _ _ _ => (pg_name (i := 2) sc_is_ledger.nd rfl (Or.inl rfl))) (fun _ _ _ _ _ => pts_nil) (fun _ _ _ _ _ => (pe_call G_is_change (hr.mono (by decide)) (by rfl) T.m_is_change T.F_is_change.kp T.b_is_change .nil pass0 (pa_cons (pv 2) pa_nil)))) pa_nil))))))) (pss_one (ps_ret pe_bl)) pss_nil)
      (pss_cons (ps_set (i := 1) sc_is_ledger.nd rfl (Or.inl rfl) (pe_callB (k_all (K := K) rfl rfl) (by rfl) T.z_all (by decide +kernel) (pa_cons (pe_lc (own := [("one", 3), ("other", 4)]) rfl sc_is_ledger.nd (Zm.pi_zipS (K := K) rfl (by rfl) T.z_zip (pa_cons (pv 0) (pa_cons (pe_slice (k_sl (K := K) rfl) (pv 0) (po_some pe_int) po_none) pa_nil))) (blkOk_by (own := [("one", 3), ("other", 4)]) (N := N_is_ledger) (sc := defScope s_is_ledger) (by decide +kernel)) (fun _ _ _ _ _ => (k_pgTup (K := K) (n := 2) rfl rfl (pgs_cons (pg_name (i := 3) sc_is_ledger.nd rfl (Or.inl rfl)) (pgs_cons (pg_name (i := 4) sc_is_ledger.nd rfl (Or.inl rfl)) pgs_nil)))) (fun _ _ _ _ _ => pts_nil) (fun _ _ _ _ _ => (pe_cmpR op_lt (pe_ix (k_ix (K := K) rfl) (pv 3) pe_int (fun _ _ => rfl)) (pe_ix (k_ix (K := K) rfl) (pv 4) pe_int (fun _ _ => rfl)) (nomark _)))) pa_nil)))
      (pss_one (ps_ret (pe_and (pv 1) (pe_one (pe_callB (k_all (K := K) rfl rfl) (by rfl) T.z_all (by decide +kernel) (pa_cons (pe_lc (own := [("key", 5), ("amount", 6)]) rfl sc_is_ledger.nd (k_piTup (K := K) rfl (pv 0)) (blkOk_by (own := [("key", 5), ("amount", 6)]) (N := N_is_ledger) (sc := defScope s_is_ledger) (by decide +kernel)) (fun _ _ _ _ _ => (k_pgTup (K := K) (n := 2) rfl rfl (pgs_cons (pg_name (i := 5) sc_is_ledger.nd rfl (Or.inl rfl)) (pgs_cons (pg_name (i := 6) sc_is_ledger.nd rfl (Or.inl rfl)) pgs_nil)))) (fun _ _ _ _ _ => pts_nil) (fun _ _ _ _ _ => (pe_cmpR (k_neD (K := K) rfl hr.units) (pv 6) pe_int (nomark _)))) pa_nil)))))))), fun q sls n c Φ A0 σ Q hR hA fin => ?_⟩
  obtain ⟨rfl, d, hl, rfl, rfl⟩ := hR
  have first : isiTup d = false → isLedD d = false := fun h => by cases d <;> first | rfl | cases h
  by_cases ht : isiTup d = true
  · obtain ⟨ds, rfl⟩ : ∃ ds, d = .tuple ds := by
      cases d with
      | tuple ds => exact ⟨ds, rfl⟩
      | _ => cases ht
    have hlen := hl ds rfl
    refine q_whenB (b := !(ds.all isChangeD)) (tb_is (tb_or (b := !(ds.all isChangeD)) (tb_not (tb_B (e_isi (e_var rfl) (kit_tuple _)))) fun _ => tb_not (tb_B (e_is (e_all (bs := ds.map isChangeD) (e_is (e_lc1 (vs := [2]) (emb := id) (xs := ds) (by rw [List.map_id]; exact ie_tup (e_var rfl)) (fun x => .bool (isChangeD x)) (by omega) fun x hx => ⟨_, gb_name (by simp), j_call (R := R_is_change) (ae_cons (e_var rfl) ae_nil) fun sls e => ⟨rfl, x, e, rfl⟩⟩) (by rw [bools_map]))) (by rw [all_id_map])))) (by rw [ht]; rfl)) hA (fun hb Hk1 H1 g1 a1 => ?_) (fun hb Hk1 H1 g1 a1 => ?_)
    · refine s_retE (d := .bool false) e_bl a1 (Nat.le_refl _) fin ?_
      have : isLedD (.tuple ds) = false := by
        show (ds.all isChangeD && _) = false
        rw [show ds.all isChangeD = false by simpa using hb, Bool.false_and]
      rw [this]
    · obtain ⟨l, rfl⟩ := changes_pd (ds := ds) (by simpa using hb)
      rw [pd_len] at hlen
      refine q_asgE (d := .bool (asc l)) (e_is (e_all (bs := (adj l).map fun p => decide (p.1.1 < p.2.1)) (e_is (e_lc1 (vs := [3, 4]) (emb := fun p : (Int × Int) × (Int × Int) => .tuple [pr p.1, pr p.2]) (xs := adj l) (by rw [← zip_adj]; exact ie_zipS (e_var rfl) (e_slT (e_var rfl) (to_some e_int) to_none)) (fun p => .bool (decide (p.1.1 < p.2.1))) ?_ fun p hp => ⟨_, gb_tup2 (by simp) (by simp), e_ltI (e_iT (ds := [.int p.1.1, .int p.1.2]) (e_var rfl) e_int rfl) (e_iT (ds := [.int p.2.1, .int p.2.2]) (e_var rfl) e_int rfl)⟩) (by rw [bools_map]))) (by rw [all_id_map]; rfl)) a1 fun σ2 Hk2 H2 g2 a2 => ?_
      · show (l.zip (l.drop 1)).length ≤ 1000000
        rw [List.length_zip]; omega
      refine s_retE (d := .bool (asc l && nz l)) (e_andV (e_var rfl) fun _ => e_is (e_all (bs := l.map fun x => !(x.2 == 0)) (e_is (e_lc1 (vs := [5, 6]) (emb := pr) (xs := l) (ie_tup (e_var rfl)) (fun x => .bool (!(x.2 == 0))) (by omega) fun x hx => ⟨_, gb_tup2 (by simp) (by simp), e_neDI (e_var rfl) e_int⟩) (by rw [bools_map]))) (by rw [all_id_map]; rfl)) a2 (Nat.le_refl _) fin ?_
      show _ = PyData.bool (isLedD (led l))
      rw [isLed_led]
  · have hf : isiTup d = false := by simpa using ht
    refine q_whenB (b := true) (tb_is (tb_or (b := true) (tb_not (tb_B (e_isi (e_var rfl) (kit_tuple _)))) fun h => by rw [hf] at h; cases h) (by rw [hf]; rfl)) hA (fun hb Hk1 H1 g1 a1 => ?_) (fun hb => by cases hb)
    exact s_retE (d := .bool false) e_bl a1 (Nat.le_refl _) fin (by rw [first hf])
/-! ### _law_same -/
abbrev R__law_same : RelX := R_same 6
theorem ok_same_k (T : Tx K mg) : ∀ k : Nat, FnOk P w K mg base CX0 k T.a__law_same T.fd__law_same P__law_same (spX (R_same k))
  | 0 => by
    have no : ∀ vs H Q Ew, spX (R_same 0) vs H Q Ew → False := fun vs H Q Ew h => by
      obtain ⟨_, _, _, _, _, _, _, _, ⟨_, d, hd, _⟩, _⟩ := h
      exact Bool.noConfusion (show false = true from hd)
    exact ⟨fun vs H Q Ew h => (no _ _ _ _ h).elim, fun _ _ _ _ _ _ _ _ _ _ _ _ _ h => (no _ _ _ _ h).elim⟩
  | k + 1 => by
    have G__law_same := ok_same_k T k
    refine fn_ok T.F__law_same sc__law_same (by decide) (fun q sls c Φ h => by obtain ⟨_, d, _, rfl, _⟩ := h; rfl) fun cdv A outer s B0 Ew hr => ⟨_,
      (pss_cons (ps_if (PW.pt (pw_or (pt_val (pe_callB (k_isi (K := K) rfl) (by rfl) T.z_isinstance (by decide +kernel) (pa_cons (pv 0) (pa_cons (pe_bltn (v := .ty "bool") (by rfl) T.z_bool (by decide +kernel) rfl) pa_nil)))) (pw_or1 (pt_val (pe_callB (k_isi (K := K) rfl) (by rfl) T.z_isinstance (by decide +kernel) (pa_cons (pv 1) (pa_cons (pe_bltn (v := .ty "bool") (by rfl) T.z_bool (by decide +kernel) rfl) pa_nil))))))) (pss_one (ps_ret (pe_and (pe_callB (k_isi (K := K) rfl) (by rfl) T.z_isinstance (by decide +kernel) (pa_cons (pv 0) (pa_cons (pe_bltn (v := .ty "bool") (by rfl) T.z_bool (by decide +kernel) rfl) pa_nil))) (pe_and (pe_callB (k_isi (K := K) rfl) (by rfl) T.z_isinstance (by decide +kernel) (pa_cons (pv 1) (pa_cons (pe_bltn (v := .ty "bool") (by rfl) T.z_bool (by decide +kernel) rfl) pa_nil))) (pe_one (pe_cmpR (k_eqD (K := K) rfl hr.units) (pv 0) (pv 1) (nomark _))))))) pss_nil)
      (pss_cons (ps_if (pt_cmpR (k_neD (K := K) rfl hr.units) (pe_callB (k_isi (K := K) rfl) (by rfl) T.z_isinstance (by decide +kernel) (pa_cons (pv 0) (pa_cons (pe_bltn (v := .ty "list") (by rfl) T.z_list (by decide +kernel) rfl) pa_nil))) (pe_callB (k_isi (K := K) rfl) (by rfl) T.z_isinstance (by decide +kernel) (pa_cons (pv 1) (pa_cons (pe_bltn (v := .ty "list") (by rfl) T.z_list (by decide +kernel) rfl) pa_nil))) (nomark _)) (pss_one (ps_ret pe_bl)) pss_nil)
      (pss_cons (ps_if (PW.pt (pw_and (pt_val (pe_callB (k_isi (K := K) rfl) (by rfl) T.z_isinstance (by decide +kernel) (pa_cons (pv 0) (pa_cons (L2.pe_tup (pa_cons (pe_bltn (v := .ty "list") (by rfl) T.z_list (by decide +kernel) rfl) (pa_cons (pe_bltn (v := .ty "tuple") (by rfl) T.z_tuple (by decide +kernel) rfl) pa_nil))) pa_nil)))) (pw_and1 (pt_val (pe_callB (k_isi (K := K) rfl) (by rfl) T.z_isinstance (by decide +kernel) (pa_cons (pv 1) (pa_cons (L2.pe_tup (pa_cons (pe_bltn (v := .ty "list") (by rfl) T.z_list (by decide +kernel) rfl) (pa_cons (pe_bltn (v := .ty "tuple") (by rfl) T.z_tuple (by decide +kernel) rfl) pa_nil))) pa_nil))))))) (pss_cons (ps_if (pt_cmpR (k_neD (K := K) rfl hr.units) (pe_callB (k_len (K := K) rfl) (by rfl) T.z_len (by decide +kernel) (pa_cons (pv 0) pa_nil)) (pe_callB (k_len (K := K) rfl) (by rfl) T.z_len (by decide +kernel) (pa_cons (pv 1) pa_nil)) (nomark _)) (pss_one (ps_ret pe_bl)) pss_nil)
      (pss_one (ps_ret (pe_cmpR (k_eqD (K := K) rfl hr.units) (pe_lc (own := [("k", 2)]) rfl sc__law_same.nd (pi_range1 rfl T.z_range (pa_cons (pe_callB (k_len (K := K) rfl) (by rfl) T.z_len (by decide +kernel) (pa_cons (pv 1) pa_nil)) pa_nil)) (blkOk_by (own := [("k", 2)]) (N := N__law_same) (sc := defScope s__law_same) (by decide +kernel)) (fun _ _ _ _ _ => (pg_name (i := 2) sc__law_same.nd rfl (Or.inl rfl))) (fun _ _ _ _ _ => (pts_one (pt_not (pt_val (pe_call G__law_same hr (by rfl) T.m__law_same T.F__law_same.kp T.b__law_same .nil pass0 (pa_cons (pe_ix (k_ix (K := K) rfl) (pv 0) (pv 2) (fun _ _ => rfl)) (pa_cons (pe_ix (k_ix (K := K) rfl) (pv 1) (pv 2) (fun _ _ => rfl)) pa_nil))))))) (fun _ _ _ _ _ => (pv 2))) (pe_lst pa_nil) (nomark _))))) pss_nil)
      (pss_one (ps_ret (pe_and (pe_cmpR (k_eqD (K := K) rfl hr.units) (pv 0) (pv 1) (nomark _)) (pe_one (pe_cmpR (k_eqD (K := K) rfl hr.units) (pe_callB (k_isi (K := K) rfl) (by rfl) T.z_isinstance (by decide +kernel) (pa_cons (pv 0) (pa_cons (pe_bltn (v := .ty "int") (by rfl) T.z_int (by decide +kernel) rfl) pa_nil))) (pe_callB (k_isi (K := K) rfl) (by rfl) T.z_isinstance (by decide +kernel) (pa_cons (pv 1) (pa_cons (pe_bltn (v := .ty "int") (by rfl) T.z_int (by decide +kernel) rfl) pa_nil))) (nomark _))))))))), fun q sls n c Φ A0 σ Q hR hA fin => ?_⟩
    obtain ⟨rfl, d, hd, rfl, rfl⟩ := hR
    by_cases hb : isiBool d = true
    · obtain ⟨b, rfl⟩ : ∃ b, d = .bool b := by
        cases d with
        | bool b => exact ⟨b, rfl⟩
        | _ => cases hb
      refine q_whenB (b := true) (tb_is (tb_or (b := true) (tb_B (e_isi (e_var rfl) (kit_bool (.bool b)))) (fun h => by cases h)) rfl) hA (fun _ Hk1 H1 g1 a1 => ?_) (fun h => by cases h)
      exact s_retE (e_andV (e_isi (e_var rfl) (kit_bool (.bool b))) fun _ => e_andV (e_isi (e_var rfl) (kit_bool (.bool b))) fun _ => e_eqDB (e_var rfl) (e_var rfl)) a1 (Nat.le_refl _) fin (by cases b <;> rfl)
    · have hb' : isiBool d = false := by simpa using hb
      refine q_whenB (b := false) (tb_is (tb_or (tb_B (e_isi (e_var rfl) (kit_bool d))) (fun _ => tb_B (e_isi (e_var rfl) (kit_bool d)))) (by rw [hb']; rfl)) hA (fun h => by cases h) fun _ Hk1 H1 g1 a1 => ?_
      refine q_whenB (b := false) (tb_is (tb_test (e_neDB (e_isi (e_var rfl) (kit_list d)) (e_isi (e_var rfl) (kit_list d)))) (by simp)) a1 (fun h => by cases h) fun _ Hk2 H2 g2 a2 => ?_
      by_cases hs : (isiLst d || isiTup d) = true
      · refine q_whenB (b := true) (tb_is (tb_and (tb_B (e_isi2 (e_var rfl) (kit_list d) (kit_tuple d))) (fun _ => tb_B (e_isi2 (e_var rfl) (kit_list d) (kit_tuple d)))) (by rw [hs]; rfl)) a2 (fun _ Hk3 H3 g3 a3 => ?_) (fun h => by cases h)
        cases d with
        | list ds =>
          have hd2 : ds.length ≤ 100000 ∧ ∀ x ∈ ds, okS k x = true := by
            have h : (decide (ds.length ≤ 100000) && ds.all (okS k)) = true := hd
            rw [Bool.and_eq_true] at h
            exact ⟨of_decide_eq_true h.1, List.all_eq_true.mp h.2⟩
          refine q_whenB (b := false) (tb_is (tb_test (e_neDI (e_lenL (e_var rfl)) (e_lenL (e_var rfl)))) (by simp)) a3 (fun h => by cases h) fun _ Hk4 H4 g4 a4 => ?_
          refine s_retE (d := .bool true) (e_eqD (d1 := .list []) (d2 := .list []) ?_ (e_lst (ds := []) ae_nil) rfl rfl) a4 (Nat.le_refl _) fin rfl
          refine e_is (e_lc (vs := [2]) (emb := fun i : Nat => .int (0 + (i : Int))) (xs := List.range ds.length) (by have h := ie_rng1 (q := q) (e_lenL (K := K) (δ := [.dat (.list ds), .dat (.list ds), .any]) (e_var (i := 1) rfl)) (by omega) (by omega); rw [Int.toNat_natCast] at h; exact h) (fun _ => false) (fun i => .int 0) (by rw [List.length_range]; omega) fun i hi => ⟨_, gb_name (by simp), ?_, fun h => by cases h⟩) (by simp)
          have hi := List.mem_range.mp hi
          have at1 : atI ds (0 + (i : Int)) = some ds[i] := by rw [Int.zero_add]; exact atI_nat (List.getElem?_eq_getElem hi)
          exact tb_is (tb_not (tb_B (j_call (R := R_same k) (ae_cons (e_iL (e_var rfl) (e_var rfl) at1) (ae_cons (e_iL (e_var rfl) (e_var rfl) at1) ae_nil)) fun sls e => ⟨rfl, ds[i], hd2.2 _ (List.getElem_mem hi), e, rfl⟩))) rfl
        | tuple ds =>
          have hd2 : ds.length ≤ 100000 ∧ ∀ x ∈ ds, okS k x = true := by
            have h : (decide (ds.length ≤ 100000) && ds.all (okS k)) = true := hd
            rw [Bool.and_eq_true] at h
            exact ⟨of_decide_eq_true h.1, List.all_eq_true.mp h.2⟩
          refine q_whenB (b := false) (tb_is (tb_test (e_neDI (e_lenT (e_var rfl)) (e_lenT (e_var rfl)))) (by simp)) a3 (fun h => by cases h) fun _ Hk4 H4 g4 a4 => ?_
          refine s_retE (d := .bool true) (e_eqD (d1 := .list []) (d2 := .list []) ?_ (e_lst (ds := []) ae_nil) rfl rfl) a4 (Nat.le_refl _) fin rfl
          refine e_is (e_lc (vs := [2]) (emb := fun i : Nat => .int (0 + (i : Int))) (xs := List.range ds.length) (by have h := ie_rng1 (q := q) (e_lenT (K := K) (δ := [.dat (.tuple ds), .dat (.tuple ds), .any]) (e_var (i := 1) rfl)) (by omega) (by omega); rw [Int.toNat_natCast] at h; exact h) (fun _ => false) (fun i => .int 0) (by rw [List.length_range]; omega) fun i hi => ⟨_, gb_name (by simp), ?_, fun h => by cases h⟩) (by simp)
          have hi := List.mem_range.mp hi
          have at1 : atI ds (0 + (i : Int)) = some ds[i] := by rw [Int.zero_add]; exact atI_nat (List.getElem?_eq_getElem hi)
          exact tb_is (tb_not (tb_B (j_call (R := R_same k) (ae_cons (e_iT (e_var rfl) (e_var rfl) at1) (ae_cons (e_iT (e_var rfl) (e_var rfl) at1) ae_nil)) fun sls e => ⟨rfl, ds[i], hd2.2 _ (List.getElem_mem hi), e, rfl⟩))) rfl
        | none => cases hs
        | bool _ => cases hs
        | int _ => cases hs
        | str _ => cases hs
        | dict _ => cases hs
      · have hs' : (isiLst d || isiTup d) = false := by simpa using hs
        refine q_whenB (b := false) (tb_is (tb_and (tb_B (e_isi2 (e_var rfl) (kit_list d) (kit_tuple d))) (fun _ => tb_B (e_isi2 (e_var rfl) (kit_list d) (kit_tuple d)))) (by rw [hs']; rfl)) a2 (fun h => by cases h) fun _ Hk3 H3 g3 a3 => ?_
        have leaf : SeqAt.shaped d = true ∧ PyData.eqv d d = true := by
          cases d with
          | none => exact ⟨rfl, by simp [PyData.eqv]⟩
          | int i => exact ⟨rfl, by simp [PyData.eqv]⟩
          | str x =>
            have hd2 : PyData.strOk x = true := hd
            exact ⟨by show (PyData.strOk x && _) = true; rw [hd2]; rfl, by simp [PyData.eqv]⟩
          | bool _ => exact absurd rfl hb
          | list _ => exact absurd rfl hs
          | tuple _ => exact absurd rfl hs
          | dict _ => exact Bool.noConfusion (show false = true from hd)
        exact s_retE (e_andV (e_eqD (e_var rfl) (e_var rfl) leaf.1 leaf.1) fun _ => e_eqDB (e_isi (e_var rfl) (kit_int d)) (e_isi (e_var rfl) (kit_int d))) a3 (Nat.le_refl _) fin (by rw [leaf.2]; simp)
theorem ok__law_same (T : Tx K mg) : FnOk P w K mg base CX0 6 T.a__law_same T.fd__law_same P__law_same (spX R__law_same) := ok_same_k T 6
/-! ### _law_bent -/
def R__law_bent : RelX := fun q sls c Φ => c = 3 ∧ ∃ (p : Addr) (l : List (Int × Int)), q = some p ∧ l.length ≤ 400 ∧ sls = [.adr p, .dat (led l)] ∧ Φ = fun d => ShortT d
theorem ok__law_bent (T : Tx K mg) : FnOk P w K mg base CX0 2 T.a__law_bent T.fd__law_bent P__law_bent (spX R__law_bent) := by
  have G__law_pick := ok__law_pick (P := P) (w := w) (base := base) T
  refine fn_ok T.F__law_bent sc__law_bent (by decide) (fun q sls c Φ h => by obtain ⟨_, p, l, _, _, rfl, _⟩ := h; rfl) fun cdv A outer s B0 Ew hr => ⟨_,
    (pss_cons (ps_set (i := 2) sc__law_bent.nd rfl (Or.inr rfl) (pe_call G__law_pick (hr.mono (by decide)) (by rfl) T.m__law_pick T.F__law_pick.kp T.b__law_pick .nil pass0 (pa_cons (pv 0) (pa_cons (pe_op (k_addU (K := K) rfl) (pe_callB (k_len (K := K) rfl) (by rfl) T.z_len (by decide +kernel) (pa_cons (pv 1) pa_nil)) pe_int) pa_nil))))
      (pss_cons (ps_set (i := 3) sc__law_bent.nd rfl (Or.inl rfl) (pe_ix (k_ix (K := K) rfl) (pe_lst (pa_cons pe_non (pa_cons pe_bl (pa_cons pe_str (pa_cons (Cr.pe_tup (pa_cons pe_int pa_nil)) (pa_cons (pe_lst (pa_cons pe_int pa_nil)) (pa_cons pe_dnewK pa_nil))))))) (pe_call G__law_pick (hr.mono (by decide)) (by rfl) T.m__law_pick T.F__law_pick.kp T.b__law_pick .nil pass0 (pa_cons (pv 0) (pa_cons pe_int pa_nil))) (fun _ _ => rfl)))
      (pss_cons (ps_set (i := 4) sc__law_bent.nd rfl (Or.inl rfl) (pe_lst (pa_cons pe_non (pa_cons pe_int (pa_cons (Cr.pe_tup (pa_cons pe_int pa_nil)) (pa_cons (Cr.pe_tup (pa_cons pe_int (pa_cons pe_int (pa_cons pe_int pa_nil)))) (pa_cons (pe_lst (pa_cons pe_int (pa_cons pe_int pa_nil))) (pa_cons (Cr.pe_tup (pa_cons (pv 3) (pa_cons pe_int pa_nil))) (pa_cons (Cr.pe_tup (pa_cons pe_int (pa_cons (pv 3) pa_nil))) (pa_cons (Cr.pe_tup (pa_cons pe_int (pa_cons pe_int pa_nil))) (pa_cons (Cr.pe_tup (pa_cons (pv 3) (pa_cons (pv 3) pa_nil))) (pa_cons pe_str (pa_cons (Cr.pe_tup (pa_cons (Cr.pe_tup (pa_cons pe_int (pa_cons pe_int pa_nil))) (pa_cons (Cr.pe_tup (pa_cons pe_int (pa_cons pe_int pa_nil))) pa_nil))) pa_nil)))))))))))))
      (pss_cons (ps_setLc (i := 5) (own := [("bad", 6)]) rfl sc__law_bent.nd rfl rfl (sw_true rfl rfl rfl (by decide +kernel)) (k_piList (K := K) rfl (pv 4)) (blkOk_by (own := [("bad", 6)]) (N := N__law_bent) (sc := defScope s__law_bent) (by decide +kernel)) (fun _ _ _ _ _ => (pg_name (i := 6) sc__law_bent.nd rfl (Or.inl rfl))) (fun _ _ _ _ _ => pts_nil) (fun _ _ _ _ _ => (pe_op (k_addU (K := K) rfl) (pe_op (k_addU (K := K) rfl) (pe_slice (k_sl (K := K) rfl) (pv 1) po_none (po_some (pv 2))) (Cr.pe_tup (pa_cons (pv 6) pa_nil))) (pe_slice (k_sl (K := K) rfl) (pv 1) (po_some (pv 2)) po_none))))
      (pss_cons (ps_set (i := 5) sc__law_bent.nd rfl (Or.inl rfl) (pe_op (k_addU (K := K) rfl) (pv 5) (pe_lst (pa_cons pe_non (pa_cons pe_bl (pa_cons pe_int (pa_cons pe_str (pa_cons pe_dnewK (pa_cons (pe_lst pa_nil) (pa_cons (pe_op (k_addU (K := K) rfl) (pe_callTy (k_lst (K := K) rfl) (by rfl) T.z_list (by decide +kernel) (pa_cons (pv 1) pa_nil)) (pe_lst (pa_cons (Cr.pe_tup (pa_cons pe_int (pa_cons pe_int pa_nil))) pa_nil))) (pa_cons (Cr.pe_tup (pa_cons (pv 1) pa_nil)) (pa_cons (pe_op (k_addU (K := K) rfl) (pv 1) (Cr.pe_tup (pa_cons (Cr.pe_tup (pa_cons pe_int (pa_cons pe_int pa_nil))) (pa_cons (Cr.pe_tup (pa_cons pe_int (pa_cons pe_int pa_nil))) pa_nil)))) pa_nil))))))))))))
      (pss_cons (ps_expr (pe_bm PySem.F.plainAttrs_list PySem.F.slot_list_append PySem.F.type_list_append mt_append (pv 5) (pa_cons (Cr.pe_tup (pa_cons (Cr.pe_tup (pa_cons pe_int (pa_cons pe_int pa_nil))) (pa_cons (Cr.pe_tup (pa_cons pe_int (pa_cons pe_int pa_nil))) pa_nil))) pa_nil)))
      (pss_cons (ps_expr (pe_bm PySem.F.plainAttrs_list PySem.F.slot_list_append PySem.F.type_list_append mt_append (pv 5) (pa_cons (pe_ifExp (pt_cmpR op_gt (pe_callB (k_len (K := K) rfl) (by rfl) T.z_len (by decide +kernel) (pa_cons (pv 1) pa_nil)) pe_int (nomark _)) (pe_revT (K := K) rfl (pv 1)) (Cr.pe_tup (pa_cons (Cr.pe_tup (pa_cons pe_int (pa_cons pe_int pa_nil))) (pa_cons (Cr.pe_tup (pa_cons pe_int (pa_cons pe_int pa_nil))) pa_nil)))) pa_nil)))
      (pss_cons (ps_if (pt_cmpR (k_neD (K := K) rfl hr.units) (pv 1) (Cr.pe_tup pa_nil) (nomark _)) (pss_cons (ps_set (i := 2) sc__law_bent.nd rfl (Or.inr rfl) (pe_callB (call_minQ rfl) (by rfl) T.z_min (by decide +kernel) (pa_cons (pv 2) (pa_cons (pe_op op_sub (pe_callB (k_len (K := K) rfl) (by rfl) T.z_len (by decide +kernel) (pa_cons (pv 1) pa_nil)) pe_int) pa_nil))))
      (pss_cons (ps_expr (pe_bm PySem.F.plainAttrs_list PySem.F.slot_list_append PySem.F.type_list_append mt_append (pv 5) (pa_cons (pe_op (k_addU (K := K) rfl) (pe_op (k_addU (K := K) rfl) (pe_slice (k_sl (K := K) rfl) (pv 1) po_none (po_some (pv 2))) (Cr.pe_tup (pa_cons (pe_ix (k_ix (K := K) rfl) (pv 1) (pv 2) (fun _ _ => rfl)) pa_nil))) (pe_slice (k_sl (K := K) rfl) (pv 1) (po_some (pv 2)) po_none)) pa_nil)))
      (pss_cons (ps_expr (pe_bm PySem.F.plainAttrs_list PySem.F.slot_list_append PySem.F.type_list_append mt_append (pv 5) (pa_cons (pe_op (k_addU (K := K) rfl) (pe_op (k_addU (K := K) rfl) (pe_slice (k_sl (K := K) rfl) (pv 1) po_none (po_some (pv 2))) (Cr.pe_tup (pa_cons (Cr.pe_tup (pa_cons (pe_ix (k_ix (K := K) rfl) (pe_ix (k_ix (K := K) rfl) (pv 1) (pv 2) (fun _ _ => rfl)) pe_int (fun _ _ => rfl)) (pa_cons pe_int pa_nil))) pa_nil))) (pe_slice (k_sl (K := K) rfl) (pv 1) (po_some (pe_op (k_addU (K := K) rfl) (pv 2) pe_int)) po_none)) pa_nil)))
      (pss_cons (ps_expr (pe_bm PySem.F.plainAttrs_list PySem.F.slot_list_append PySem.F.type_list_append mt_append (pv 5) (pa_cons (pe_op (k_addU (K := K) rfl) (pe_op (k_addU (K := K) rfl) (pe_slice (k_sl (K := K) rfl) (pv 1) po_none (po_some (pv 2))) (Cr.pe_tup (pa_cons (pe_callTy (k_lst (K := K) rfl) (by rfl) T.z_list (by decide +kernel) (pa_cons (pe_ix (k_ix (K := K) rfl) (pv 1) (pv 2) (fun _ _ => rfl)) pa_nil)) pa_nil))) (pe_slice (k_sl (K := K) rfl) (pv 1) (po_some (pe_op (k_addU (K := K) rfl) (pv 2) pe_int)) po_none)) pa_nil)))
      (pss_one (ps_expr (pe_bm PySem.F.plainAttrs_list PySem.F.slot_list_append PySem.F.type_list_append mt_append (pv 5) (pa_cons (pe_op (k_addU (K := K) rfl) (pe_op (k_addU (K := K) rfl) (pe_slice (k_sl (K := K) rfl) (pv 1) po_none (po_some (pv 2))) (Cr.pe_tup (pa_cons (Cr.pe_tup (pa_cons (pe_op (k_addU (K := K) rfl) (pe_ix (k_ix (K := K) rfl) (pe_ix (k_ix (K := K) rfl) (pv 1) (pv 2) (fun _ _ => rfl)) pe_int (fun _ _ => rfl)) pe_int) (pa_cons pe_int pa_nil))) pa_nil))) (pe_slice (k_sl (K := K) rfl) (pv 1) (po_some (pv 2)) po_none)) pa_nil)))))))) pss_nil)
      (pss_one (ps_ret (pe_ix (k_ix (K := K) rfl) (pv 5) (pe_call G__law_pick (hr.mono (by decide)) (by rfl) T.m__law_pick T.F__law_pick.kp T.b__law_pick .nil pass0 (pa_cons (pv 0) (pa_cons (pe_callB (k_len (K := K) rfl) (by rfl) T.z_len (by decide +kernel) (pa_cons (pv 5) pa_nil)) pa_nil))) (fun _ _ => rfl)))))))))))), fun q sls n c Φ A0 σ Q hR hA fin => ?_⟩
  obtain ⟨rfl, p, l, rfl, hl, rfl, rfl⟩ := hR
  refine q_asg (i := 2) (n := n + 2) (c := 1) (Φ := IntP fun x => 0 ≤ x ∧ x < (l.length : Int) + 1) (j_pick rfl (e_addI (e_is (e_lenT (ds := pd l) (e_var rfl)) (d1 := .int (l.length : Int)) (by rw [pd_len])) e_int) (by omega) (by omega)) (hA.mono (by omega)) fun d σ1 Hk1 H1 ⟨sp0, hsp, ed⟩ g1 a1 => ?_
  subst ed
  obtain ⟨sp, rfl⟩ : ∃ sp : Nat, sp0 = (sp : Int) := ⟨sp0.toNat, by omega⟩
  refine q_asg (i := 3) (n := n + 1) (c := 1) (Φ := fun _ => True) (j_iL (c1 := 0) (c2 := 1) (P := fun x => 0 ≤ x ∧ x < 6) (Ψ := fun ds => ds.length = 6) ((e_lst (ds := [.none, .bool true, .str "1", .tuple [.int 1], .list [.int 2], .dict []]) (ae_cons e_non (ae_cons e_bl (ae_cons e_str (ae_cons (e_tup (ds := [.int 1]) (ae_cons e_int ae_nil)) (ae_cons (e_lst (ds := [.int 2]) (ae_cons e_int ae_nil)) (ae_cons e_dnew ae_nil))))))).imp fun d e => ⟨_, rfl, e⟩) (j_pick rfl e_int (by omega) (by omega)) fun ds i hd hi => by
    obtain ⟨k, rfl⟩ : ∃ k : Nat, i = (k : Int) := ⟨i.toNat, by omega⟩
    exact ⟨ds[k]'(by omega), atI_nat (List.getElem?_eq_getElem _), trivial⟩) a1 fun od σ2 Hk2 H2 _ g2 a2 => ?_
  obtain ⟨BD, eB⟩ : ∃ BD : List PyData, BD = [.none, .int 5, .tuple [.int 1], .tuple [.int 1, .int 2, .int 3], .list [.int 1, .int 2], .tuple [od, .int 2], .tuple [.int 1, od], .tuple [.int 1, .int 0], .tuple [od, od], .str "12", .tuple [pr (1, 2), pr (3, 4)]] := ⟨_, rfl⟩
  refine q_asgE (i := 4) (d := .list BD) (e_is (e_lst (ds := [.none, .int 5, .tuple [.int 1], .tuple [.int 1, .int 2, .int 3], .list [.int 1, .int 2], .tuple [od, .int 2], .tuple [.int 1, od], .tuple [.int 1, .int 0], .tuple [od, od], .str "12", .tuple [pr (1, 2), pr (3, 4)]]) (ae_cons e_non (ae_cons e_int (ae_cons (e_tup (ds := [.int 1]) (ae_cons e_int ae_nil)) (ae_cons (e_tup (ds := [.int 1, .int 2, .int 3]) (ae_cons e_int (ae_cons e_int (ae_cons e_int ae_nil)))) (ae_cons (e_lst (ds := [.int 1, .int 2]) (ae_cons e_int (ae_cons e_int ae_nil))) (ae_cons (e_tup (ds := [od, .int 2]) (ae_cons (e_var rfl) (ae_cons e_int ae_nil))) (ae_cons (e_tup (ds := [.int 1, od]) (ae_cons e_int (ae_cons (e_var rfl) ae_nil))) (ae_cons (e_tup (ds := [.int 1, .int 0]) (ae_cons e_int (ae_cons e_int ae_nil))) (ae_cons (e_tup (ds := [od, od]) (ae_cons (e_var rfl) (ae_cons (e_var rfl) ae_nil))) (ae_cons e_str (ae_cons (e_tup (ds := [pr (1, 2), pr (3, 4)]) (ae_cons (e_pr e_int e_int) (ae_cons (e_pr e_int e_int) ae_nil))) ae_nil)))))))))))) (by rw [eB])) a2 fun σ3 Hk3 H3 g3 a3 => ?_
  have hBl : BD.length = 11 := by rw [eB]; rfl
  have tk : ∀ {q : Option Addr} {δ : List Sl} {m : Nat} {ti : TE}, δ[1]? = some (.dat (led l)) → E q δ ti (.int (m : Int)) → E q δ (tSl (rSlU K) (tVar 1) tNoPart (tPart ti)) (.tuple (pd (l.take m))) := fun {q δ m ti} h1 h2 => e_is (e_takeLed (e_var h1) h2 (by omega)) (by rw [Int.toNat_natCast]; rfl)
  have dr : ∀ {q : Option Addr} {δ : List Sl} {m : Nat} {ti : TE}, δ[1]? = some (.dat (led l)) → E q δ ti (.int (m : Int)) → E q δ (tSl (rSlU K) (tVar 1) (tPart ti) tNoPart) (.tuple (pd (l.drop m))) := fun {q δ m ti} h1 h2 => e_dropLed (e_var h1) h2
  have lt : ∀ m, (pd (l.take m)).length ≤ 400 := fun m => by rw [pd_len, List.length_take]; omega
  have ld : ∀ m, (pd (l.drop m)).length ≤ 400 := fun m => by rw [pd_len, List.length_drop]; omega
  -- a piece put in
  have put : ∀ {q : Option Addr} {δ : List Sl} {m m2 : Nat} {t1 t2 te : TE} {d : PyData}, δ[1]? = some (.dat (led l)) → E q δ t1 (.int (m : Int)) → E q δ t2 (.int (m2 : Int)) → E q δ te d → E q δ (tOp (rAddU K) (tOp (rAddU K) (tSl (rSlU K) (tVar 1) tNoPart (tPart t1)) (Cr.tTup (tCons te tNil))) (tSl (rSlU K) (tVar 1) (tPart t2) tNoPart)) (.tuple (pd (l.take m) ++ [d] ++ pd (l.drop m2))) := fun {q δ m m2 t1 t2 te d} h1 h2 h3 h4 => e_catT (ds := pd (l.take m) ++ [d]) (es := pd (l.drop m2)) (e_catT (ds := pd (l.take m)) (es := [d]) (tk h1 h2) (e_tup (ds := [d]) (ae_cons h4 ae_nil)) (by have := lt m; simp; omega)) (dr h1 h3) (by have := lt m; have := ld m2; rw [List.length_append]; simp; omega)
  have putS : ∀ (m m2 : Nat) (d : PyData), ShortT (.tuple (pd (l.take m) ++ [d] ++ pd (l.drop m2))) := fun m m2 d => short_tup (by have := lt m; have := ld m2; rw [List.length_append, List.length_append, List.length_singleton]; omega)
  obtain ⟨W1, eW1⟩ : ∃ W1 : List PyData, W1 = BD.map fun d => .tuple (pd (l.take sp) ++ [d] ++ pd (l.drop sp)) := ⟨_, rfl⟩
  refine q_asgE (i := 5) (d := .list W1) (e_is (e_lc1 (vs := [6]) (emb := id) (xs := BD) (by rw [List.map_id]; exact ie_lst (e_var rfl)) (fun d => .tuple (pd (l.take sp) ++ [d] ++ pd (l.drop sp))) (by omega) fun d hd => ⟨_, gb_name (by simp), put rfl (e_var rfl) (e_var rfl) (e_var rfl)⟩) (by rw [eW1])) a3 fun σ4 Hk4 H4 g4 a4 => ?_
  have hW1 : W1.length = 11 ∧ ∀ d ∈ W1, ShortT d := by
    rw [eW1]
    refine ⟨by rw [List.length_map, hBl], fun d hd => ?_⟩
    obtain ⟨x, _, rfl⟩ := List.mem_map.mp hd
    exact putS _ _ _
  obtain ⟨W2, eW2⟩ : ∃ W2 : List PyData, W2 = [.none, .bool true, .int 0, .str "", .dict [], .list [], .list (pd l ++ [pr (1, 2)]), .tuple [led l], .tuple (pd l ++ [pr (1, 2), pr (1, 2)])] := ⟨_, rfl⟩
  have hW2 : W2.length = 9 ∧ ∀ d ∈ W2, ShortT d := by
    rw [eW2]
    refine ⟨rfl, fun d hd es e => ?_⟩
    subst e
    simp at hd
    rcases hd with h | h
    · rw [h]; simp
    · rw [h, List.length_append, pd_len]; simp; omega
  refine q_newCat (i := 5) (ds := W1) (es := W2) (e_var rfl) (e_is (e_lst (ds := [.none, .bool true, .int 0, .str "", .dict [], .list [], .list (pd l ++ [pr (1, 2)]), .tuple [led l], .tuple (pd l ++ [pr (1, 2), pr (1, 2)])]) (ae_cons e_non (ae_cons e_bl (ae_cons e_int (ae_cons e_str (ae_cons e_dnew (ae_cons (e_lst (ds := []) ae_nil) (ae_cons (e_catL (ds := pd l) (es := [pr (1, 2)]) (e_lstT (e_var rfl)) (e_lst (ds := [pr (1, 2)]) (ae_cons (e_pr e_int e_int) ae_nil)) (by rw [pd_len]; simp; omega)) (ae_cons (e_tup (ds := [led l]) (ae_cons (e_var rfl) ae_nil)) (ae_cons (e_catT (ds := pd l) (es := [pr (1, 2), pr (1, 2)]) (e_var rfl) (e_tup (ds := [pr (1, 2), pr (1, 2)]) (ae_cons (e_pr e_int e_int) (ae_cons (e_pr e_int e_int) ae_nil))) (by rw [pd_len]; simp; omega)) ae_nil)))))))))) (by rw [eW2])) (by omega) a4 fun r σ5 Hk5 H5 _ s5 a5 cl5 => ?_
  obtain ⟨W3, hW3l, hW3, eW3⟩ : ∃ W3 : List PyData, W3.length = 20 ∧ (∀ d ∈ W3, ShortT d) ∧ W3 = W1 ++ W2 := ⟨_, by rw [List.length_append]; omega, fun d hd => by
    rcases List.mem_append.mp hd with h | h
    · exact hW1.2 d h
    · exact hW2.2 d h, rfl⟩
  rw [← eW3] at cl5
  have more : ∀ {W : List PyData} {d : PyData} {m : Nat}, W.length = m → (∀ x ∈ W, ShortT x) → ShortT d → (W ++ [d]).length = m + 1 ∧ ∀ x ∈ W ++ [d], ShortT x := fun {W d m} h1 h2 h3 => ⟨by rw [List.length_append, List.length_singleton, h1], fun x hx => by
    rcases List.mem_append.mp hx with h | h
    · exact h2 x h
    · rw [List.mem_singleton.mp h]; exact h3⟩
  refine q_append (n := n + 1) (c := 0) (Φ := fun d => d = .tuple [pr (2, 1), pr (1, 1)]) (e_tup (ds := [pr (2, 1), pr (1, 1)]) (ae_cons (e_pr e_int e_int) (ae_cons (e_pr e_int e_int) ae_nil))) a5 cl5 rfl (by omega) fun d Hk6 H6 ed s6 a6 cl6 => ?_
  obtain ⟨l6, h6⟩ := more hW3l hW3 (d := d) (by rw [ed]; exact short_tup (by simp))
  refine q_append (n := n + 1) (c := 0) (Φ := ShortT) ((j_if (c := 0) (c1 := 0) (P := fun _ => True) (tj_test ((E.boolP (e_gtI (e_lenT (ds := pd l) (e_var rfl)) e_int)).boolAny)) (fun _ => (e_revT (ds := pd l) (e_var rfl)).imp fun d e => by rw [e]; exact short_tup (by rw [List.length_reverse, pd_len]; omega)) (fun _ => (e_tup (ds := [pr (1, 1), pr (0, 1)]) (ae_cons (e_pr e_int e_int) (ae_cons (e_pr e_int e_int) ae_nil))).imp fun d e => by rw [e]; exact short_tup (by simp))).cost (by omega)) a6 cl6 rfl (by omega) fun d7 Hk7 H7 hd7 s7 a7 cl7 => ?_
  obtain ⟨l7, h7⟩ := more l6 h6 hd7
  refine q_cut (I := fun σ' H' => ∃ (Hk' : Hp) (W : List PyData) (sx : Sl) , (W ≠ [] ∧ W.length ≤ 100) ∧ (∀ d ∈ W, ShortT d) ∧ At (some p) (n + 1) [.adr p, .dat (led l), sx, .dat od, .dat (.list BD), .adr r, .any] A0 B0 σ' Hk' H' ∧ Cell (some p) B0 Hk' H' r W) (fun D' kk => ?_) fun σ8 H8 ⟨Hk8, W, sx, hWl, hW, a8, cl8⟩ => ?_
  · refine s_ifB (b := !l.isEmpty) (tb_is (tb_test (e_neD (d1 := led l) (d2 := .tuple []) (e_var rfl) (e_tup (ds := []) ae_nil) (shaped_led l) (by decide +kernel))) (by rw [eqv_led_nil])) a7 (fun hb Hk9 H9 g9 a9 => ?_) (fun hb Hk9 H9 g9 a9 => kk _ _ ⟨Hk9, _, _, ⟨(by intro e; rw [e] at l7; cases l7), by omega⟩, h7, a9, cl7.go g9⟩)
    have hne : l ≠ [] := fun e => by rw [e] at hb; cases hb
    have hpos := List.length_pos_iff.mpr hne
    obtain ⟨s2, es2, hs2⟩ : ∃ s2 : Nat, (s2 : Int) = (if (l.length : Int) - 1 < (sp : Int) then (l.length : Int) - 1 else (sp : Int)) ∧ s2 < l.length := by
      by_cases h : (l.length : Int) - 1 < (sp : Int)
      · exact ⟨l.length - 1, by rw [if_pos h]; omega, by omega⟩
      · exact ⟨sp, by rw [if_neg h], by omega⟩
    obtain ⟨y, ey⟩ : ∃ y, l[s2]? = some y := ⟨l[s2], List.getElem?_eq_getElem hs2⟩
    refine q_asgE (i := 2) (d := .int (s2 : Int)) (e_is (e_min (e_var rfl) (e_subI (e_is (e_lenT (ds := pd l) (e_var rfl)) (d1 := .int (l.length : Int)) (by rw [pd_len])) e_int)) (by rw [es2])) a9 fun σ10 Hk10 H10 g10 a10 => ?_
    have at2 : ∀ {q : Option Addr} {δ : List Sl}, δ[1]? = some (.dat (led l)) → δ[2]? = some (.dat (.int (s2 : Int))) → E q δ (tOp (rIx K) (tVar 1) (tVar 2)) (pr y) := fun h1 h2 => e_iT (ds := pd l) (e_var h1) (e_var h2) (atI_nat (by unfold pd; rw [List.getElem?_map, ey]; rfl))
    have nx2 : ∀ {q : Option Addr} {δ : List Sl}, δ[2]? = some (.dat (.int (s2 : Int))) → E q δ (tOp (rAddU K) (tVar 2) (tC (.int 1))) (.int ((s2 + 1 : Nat) : Int)) := fun h2 => e_is (e_addI (e_var h2) e_int) (by congr 1)
    refine q_append (n := n + 1) (c := 0) (Φ := ShortT) ((put rfl (e_var rfl) (e_var rfl) (at2 rfl rfl)).imp fun d e => by rw [e]; exact putS _ _ _) a10 ((cl7.go g9).go g10) rfl (by omega) fun d11 Hk11 H11 hd11 s11 a11 cl11 => ?_
    obtain ⟨l11, h11⟩ := more l7 h7 hd11
    refine q_append (n := n + 1) (c := 0) (Φ := ShortT) ((put rfl (e_var rfl) (nx2 rfl) (e_tup (ds := [.int y.1, .int 0]) (ae_cons (e_iT (ds := [.int y.1, .int y.2]) (at2 rfl rfl) e_int rfl) (ae_cons e_int ae_nil)))).imp fun d e => by rw [e]; exact putS _ _ _) a11 cl11 rfl (by omega) fun d12 Hk12 H12 hd12 s12 a12 cl12 => ?_
    obtain ⟨l12, h12⟩ := more l11 h11 hd12
    refine q_append (n := n + 1) (c := 0) (Φ := ShortT) ((put rfl (e_var rfl) (nx2 rfl) (e_lstT (ds := [.int y.1, .int y.2]) (at2 rfl rfl))).imp fun d e => by rw [e]; exact putS _ _ _) a12 cl12 rfl (by omega) fun d13 Hk13 H13 hd13 s13 a13 cl13 => ?_
    obtain ⟨l13, h13⟩ := more l12 h12 hd13
    refine s_append (n := n + 1) (c := 0) (Φ := ShortT) ((put rfl (e_var rfl) (e_var rfl) (e_tup (ds := [.int (y.1 + 1), .int 1]) (ae_cons (e_addI (e_iT (ds := [.int y.1, .int y.2]) (at2 rfl rfl) e_int rfl) e_int) (ae_cons e_int ae_nil)))).imp fun d e => by rw [e]; exact putS _ _ _) a13 cl13 rfl (by omega) fun d14 Hk14 H14 hd14 s14 a14 cl14 => ?_
    obtain ⟨l14, h14⟩ := more l13 h13 hd14
    exact kk _ _ ⟨Hk14, _, _, ⟨(by intro e; rw [e] at l14; cases l14), by omega⟩, h14, a14, cl14⟩
  · obtain ⟨Hk9, s9, a9⟩ := a8.freeze (i := 5) cl8 rfl
    refine s_ret (n := n) (c := 1) (Φ := ShortT) (j_iL (c1 := 0) (c2 := 1) (P := fun x => 0 ≤ x ∧ x < (W.length : Int)) (Ψ := fun ds => ds = W) ((e_var rfl).imp fun d e => ⟨W, rfl, e⟩) (j_pick rfl (e_lenL (ds := W) (e_var rfl)) (by have := List.length_pos_iff.mpr hWl.1; omega) (by omega)) fun ds i hd hi => by
      subst hd
      obtain ⟨k, rfl⟩ : ∃ k : Nat, i = (k : Int) := ⟨i.toNat, by omega⟩
      exact ⟨ds[k]'(by omega), atI_nat (List.getElem?_eq_getElem _), hW _ (List.getElem_mem _)⟩) a9 (by omega) fin fun d h => h
/-! ### check_ledger -/
def R_check_ledger : RelX := fun _ sls c Φ => c = 0 ∧ ∃ l, Led l ∧ l.length ≤ 100000 ∧ sls = [.dat (led l)] ∧ Φ = fun x => x = .none
theorem ok_check_ledger (T : Tx K mg) : FnOk P w K mg base CX0 4 T.a_check_ledger T.fd_check_ledger P_check_ledger (spX R_check_ledger) := by
  have G_is_ledger := ok_is_ledger (P := P) (w := w) (base := base) T
  refine fn_ok T.F_check_ledger sc_check_ledger (by decide) (fun q sls c Φ h => by obtain ⟨_, l, _, _, rfl, _⟩ := h; rfl) fun cdv A outer s B0 Ew hr => ⟨_,
    (pss_one (ps_if (pt_not (pt_val (pe_call G_is_ledger (hr.mono (by decide)) (by rfl) T.m_is_ledger T.F_is_ledger.kp T.b_is_ledger .nil pass0 (pa_cons (pv 0) pa_nil)))) (pss_one ps_never) pss_nil)), fun q sls n c Φ A0 σ Q hR hA fin => ?_⟩
  obtain ⟨rfl, l, hL, hl, rfl, rfl⟩ := hR
  exact s_ifNo (tb_is (tb_not (tb_B (j_call (R := R_is_ledger) (ae_cons (e_var rfl) ae_nil) fun sls e => ⟨rfl, led l, fun ds e => by cases e; rw [pd_len]; exact hl, e, rfl⟩))) (by rw [led_isLed hL]; rfl)) hA fun Hk' H2 g a => s_end a (Nat.le_refl _) fin rfl
/-! ### Ledger__init__ -/
theorem ok_Ledger__init__ (T : Tx K mg) : FnOk P w K mg base CX0 5 T.a_Ledger__init__ T.fd_Ledger__init__ P_Ledger__init__ (spI T.C_Ledger "_pairs" (fun d => ∃ l, Led l ∧ l.length ≤ 100000 ∧ d = led l)) := by
  have G_check_ledger := ok_check_ledger (P := P) (w := w) (base := base) T
  refine init_ok rfl rfl T.F_Ledger__init__ sc_Ledger__init__ T.cl_Ledger T.n_Ledger (fun cdv A outer s B0 E hr => (pss_cons (ps_expr (pe_call G_check_ledger (hr.mono (by decide)) (by rfl) T.m_check_ledger T.F_check_ledger.kp T.b_check_ledger .nil pass0 (pa_cons (pv 1) pa_nil)))
      (pss_one (ps_fld (pv 0) (pv 1) rfl)))) fun q δ d hd h1 => ?_
  obtain ⟨l, hL, hl, rfl⟩ := hd
  exact j_call (R := R_check_ledger) (c := 0) (ae_cons (e_var h1) ae_nil) fun sls e => ⟨rfl, l, hL, hl, e, rfl⟩
/-! ### is_sums -/
def R_is_sums : RelX := fun _ sls c Φ => c = 0 ∧ ∃ f : List Int, f ≠ [] ∧ f.length ≤ 100000 ∧ sls = [.dat (pol f)] ∧ Φ = fun x => x = .bool true
theorem ok_is_sums (T : Tx K mg) : FnOk P w K mg base CX0 2 T.a_is_sums T.fd_is_sums P_is_sums (spX R_is_sums) := by
  have G_is_an_integer := ok_is_an_integer (P := P) (w := w) (base := base) T
  refine fn_ok T.F_is_sums sc_is_sums (by decide) (fun q sls c Φ h => by obtain ⟨_, f, _, _, rfl, _⟩ := h; rfl) fun cdv A outer s B0 Ew hr => ⟨_,
    (pss_one (ps_ret (pe_and (pe_callB (k_isi (K := K) rfl) (by rfl) T.z_isinstance (by decide +kernel) (pa_cons (pv 0) (pa_cons (pe_bltn (v := .ty "tuple") (by rfl) T.z_tuple (by decide +kernel) rfl) pa_nil))) (pe_and (pe_cmpR op_gt (pe_callB (k_len (K := K) rfl) (by rfl) T.z_len (by decide +kernel) (pa_cons (pv 0) pa_nil)) pe_int (nomark _)) (pe_one (pe_callB (k_all (K := K) rfl rfl) (by rfl) T.z_all (by decide +kernel) (pa_cons (pe_lc (own := [("number", 1)]) rfl sc_is_sums.nd (k_piTup (K := K) rfl (pv 0)) (blkOk_by (own := [("number", 1)]) (N := N_is_sums) (sc := defScope s_is_sums) (by decide +kernel)) (fun _ _ _ _ _ => (pg_name (i := 1) sc_is_sums.nd rfl (Or.inl rfl))) (fun _ _ _ _ _ => pts_nil) (fun _ _ _ _ _ => (pe_call G_is_an_integer (hr.mono (by decide)) (by rfl) T.m_is_an_integer T.F_is_an_integer.kp T.b_is_an_integer .nil pass0 (pa_cons (pv 1) pa_nil)))) pa_nil))))))), fun q sls n c Φ A0 σ Q hR hA fin => ?_⟩
  obtain ⟨rfl, f, hf, hl, rfl, rfl⟩ := hR
  have h0 : 0 < f.length := List.length_pos_iff.mpr hf
  refine s_retE (d := .bool true) (e_is (e_andV (a := true) (b := true) (e_isi (e_var rfl) (kit_tuple _)) fun _ => e_is (e_andV (a := true) (b := true) (e_is (e_gtI (e_lenT (e_var rfl)) e_int) (by rw [pol_len, decide_eq_true (by omega)])) fun _ => e_is (e_all (bs := f.map fun _ => true) (e_is (e_lc1 (vs := [1]) (emb := PyData.int) (xs := f) (ie_tup (e_var rfl)) (fun _ => .bool true) (by omega) fun x hx => ⟨_, gb_name (by simp), j_call (R := R_is_an_integer) (ae_cons (e_var rfl) ae_nil) fun sls e => ⟨rfl, .int x, e, rfl⟩⟩) (by rw [bools_map]))) (by rw [all_id_map]; simp)) rfl) rfl) hA (Nat.le_refl _) fin rfl
/-! ### check_sums -/
def R_check_sums : RelX := fun _ sls c Φ => c = 0 ∧ ∃ f : List Int, f ≠ [] ∧ f.length ≤ 100000 ∧ sls = [.dat (pol f)] ∧ Φ = fun x => x = .none
theorem ok_check_sums (T : Tx K mg) : FnOk P w K mg base CX0 3 T.a_check_sums T.fd_check_sums P_check_sums (spX R_check_sums) := by
  have G_is_sums := ok_is_sums (P := P) (w := w) (base := base) T
  refine fn_ok T.F_check_sums sc_check_sums (by decide) (fun q sls c Φ h => by obtain ⟨_, f, _, _, rfl, _⟩ := h; rfl) fun cdv A outer s B0 Ew hr => ⟨_,
    (pss_one (ps_if (pt_not (pt_val (pe_call G_is_sums (hr.mono (by decide)) (by rfl) T.m_is_sums T.F_is_sums.kp T.b_is_sums .nil pass0 (pa_cons (pv 0) pa_nil)))) (pss_one ps_never) pss_nil)), fun q sls n c Φ A0 σ Q hR hA fin => ?_⟩
  obtain ⟨rfl, f, hf, hl, rfl, rfl⟩ := hR
  exact s_ifNo (tb_is (tb_not (tb_B (j_call (R := R_is_sums) (ae_cons (e_var rfl) ae_nil) fun sls e => ⟨rfl, f, hf, hl, e, rfl⟩))) rfl) hA fun Hk' H2 g a => s_end a (Nat.le_refl _) fin rfl
/-! ### Sums__init__ -/
theorem ok_Sums__init__ (T : Tx K mg) : FnOk P w K mg base CX0 4 T.a_Sums__init__ T.fd_Sums__init__ P_Sums__init__ (spI T.C_Sums "_numbers" (fun d => ∃ f : List Int, f ≠ [] ∧ f.length ≤ 100000 ∧ d = pol f)) := by
  have G_check_sums := ok_check_sums (P := P) (w := w) (base := base) T
  refine init_ok rfl rfl T.F_Sums__init__ sc_Sums__init__ T.cl_Sums T.n_Sums (fun cdv A outer s B0 E hr => (pss_cons (ps_expr (pe_call G_check_sums (hr.mono (by decide)) (by rfl) T.m_check_sums T.F_check_sums.kp T.b_check_sums .nil pass0 (pa_cons (pv 1) pa_nil)))
      (pss_one (ps_fld (pv 0) (pv 1) rfl)))) fun q δ d hd h1 => ?_
  obtain ⟨f, hf, hl, rfl⟩ := hd
  exact j_call (R := R_check_sums) (c := 0) (ae_cons (e_var h1) ae_nil) fun sls e => ⟨rfl, f, hf, hl, e, rfl⟩
/-! ### _law_number -/
def R__law_number : RelX := fun _ sls c Φ => c = 0 ∧ ∃ d, sls = [.dat d] ∧ Φ = fun x => x = .bool (isIntD d)
theorem ok__law_number (T : Tx K mg) : FnOk P w K mg base CX0 1 T.a__law_number T.fd__law_number P__law_number (spX R__law_number) := by
  refine fn_ok T.F__law_number sc__law_number (by decide) (fun q sls c Φ h => by obtain ⟨_, d, rfl, _⟩ := h; rfl) fun cdv A outer s B0 Ew hr => ⟨_,
    (pss_one (ps_ret (pe_and (pe_callB (k_isi (K := K) rfl) (by rfl) T.z_isinstance (by decide +kernel) (pa_cons (pv 0) (pa_cons (pe_bltn (v := .ty "int") (by rfl) T.z_int (by decide +kernel) rfl) pa_nil))) (pe_one (pe_not (pe_callB (k_isi (K := K) rfl) (by rfl) T.z_isinstance (by decide +kernel) (pa_cons (pv 0) (pa_cons (pe_bltn (v := .ty "bool") (by rfl) T.z_bool (by decide +kernel) rfl) pa_nil)))))))), fun q sls n c Φ A0 σ Q hR hA fin => ?_⟩
  obtain ⟨rfl, d, rfl, rfl⟩ := hR
  exact s_retE (e_andV (e_isi (e_var rfl) (kit_int d)) (fun _ => e_notV (e_isi (e_var rfl) (kit_bool d)))) hA (Nat.le_refl _) fin (by rw [isInt_eq])
/-! ### _law_judge -/
def R__law_judge : RelX := fun _ sls c Φ => c = 0 ∧ ∃ d, (∀ ds, d = .tuple ds → ds.length ≤ 100000) ∧ sls = [.dat d] ∧ Φ = fun x => x = .bool (isLedD d)
theorem ok__law_judge (T : Tx K mg) : FnOk P w K mg base CX0 2 T.a__law_judge T.fd__law_judge P__law_judge (spX R__law_judge) := by
  have G__law_number := ok__law_number (P := P) (w := w) (base := base) T
  refine fn_ok T.F__law_judge sc__law_judge (by decide) (fun q sls c Φ h => by obtain ⟨_, d, _, rfl, _⟩ := h; rfl) fun cdv A outer s B0 Ew hr => ⟨_,
    (pss_cons (ps_if (pt_not (pt_val (pe_callB (k_isi (K := K) rfl) (by rfl) T.z_isinstance (by decide +kernel) (pa_cons (pv 0) (pa_cons (pe_bltn (v := .ty "tuple") (by rfl) T.z_tuple (by decide +kernel) rfl) pa_nil))))) (pss_one (ps_ret pe_bl)) pss_nil)
      (pss_cons (ps_for PassesOwn.never rfl (pi_range1 rfl T.z_range (pa_cons (pe_callB (k_len (K := K) rfl) (by rfl) T.z_len (by decide +kernel) (pa_cons (pv 0) pa_nil)) pa_nil)) (pg_name (i := 1) sc__law_judge.nd rfl (Or.inl rfl)) (pss_cons (ps_set (i := 2) sc__law_judge.nd rfl (Or.inl rfl) (pe_ix (k_ix (K := K) rfl) (pv 0) (pv 1) (fun _ _ => rfl)))
      (pss_cons (ps_if (PW.pt (pw_or (pt_not (pt_val (pe_callB (k_isi (K := K) rfl) (by rfl) T.z_isinstance (by decide +kernel) (pa_cons (pv 2) (pa_cons (pe_bltn (v := .ty "tuple") (by rfl) T.z_tuple (by decide +kernel) rfl) pa_nil))))) (pw_or (pt_cmpR (k_neD (K := K) rfl hr.units) (pe_callB (k_len (K := K) rfl) (by rfl) T.z_len (by decide +kernel) (pa_cons (pv 2) pa_nil)) pe_int (nomark _)) (pw_or (pt_not (pt_val (pe_call G__law_number (hr.mono (by decide)) (by rfl) T.m__law_number T.F__law_number.kp T.b__law_number .nil pass0 (pa_cons (pe_ix (k_ix (K := K) rfl) (pv 2) pe_int (fun _ _ => rfl)) pa_nil)))) (pw_or1 (pt_not (pt_val (pe_call G__law_number (hr.mono (by decide)) (by rfl) T.m__law_number T.F__law_number.kp T.b__law_number .nil pass0 (pa_cons (pe_ix (k_ix (K := K) rfl) (pv 2) pe_int (fun _ _ => rfl)) pa_nil))))))))) (pss_one (ps_ret pe_bl)) pss_nil)
      (pss_one (ps_if (PW.pt (pw_or (pt_cmpR (k_eqD (K := K) rfl hr.units) (pe_ix (k_ix (K := K) rfl) (pv 2) pe_int (fun _ _ => rfl)) pe_int (nomark _)) (pw_or1 (PW.pt (pw_and (pt_cmpR op_gt (pv 1) pe_int (nomark _)) (pw_and1 (pt_cmpR op_ge (pe_ix (k_ix (K := K) rfl) (pe_ix (k_ix (K := K) rfl) (pv 0) (pe_op op_sub (pv 1) pe_int) (fun _ _ => rfl)) pe_int (fun _ _ => rfl)) (pe_ix (k_ix (K := K) rfl) (pv 2) pe_int (fun _ _ => rfl)) (nomark _)))))))) (pss_one (ps_ret pe_bl)) pss_nil)))))
      (pss_one (ps_ret pe_bl)))), fun q sls n c Φ A0 σ Q hR hA fin => ?_⟩
  obtain ⟨rfl, d, hl, rfl, rfl⟩ := hR
  have first : isiTup d = false → isLedD d = false := fun h => by cases d <;> first | rfl | cases h
  by_cases ht : isiTup d = true
  · obtain ⟨ds, rfl⟩ : ∃ ds, d = .tuple ds := by
      cases d with
      | tuple ds => exact ⟨ds, rfl⟩
      | _ => cases ht
    have hlen := hl ds rfl
    refine q_ifNo (tb_is (tb_not (tb_B (e_isi (e_var rfl) (kit_tuple _)))) (by rw [ht]; rfl)) hA fun Hk1 H1 g1 a1 => ?_
    refine q_for (n := n) (c := 0) (ie_rng1 (j := (ds.length : Nat)) (e_lenT (e_var rfl)) (by omega) (by omega)) a1 fun items HkW H2 e g2 a2 => ?_
    subst e
    refine ⟨fun i σ' Hk' H' => Same HkW Hk' ∧ (∃ l, ds.take i = pd l ∧ Led l) ∧ At q n [.dat (.tuple ds), .any, .any] A0 B0 σ' Hk' H', ⟨Same.refl _, ⟨[], rfl, .nil, by simp⟩, a2⟩, fun i σ' Hk' H' h => ⟨h.1, h.2.2.ok.a⟩, ?_, ?_⟩
    · rintro i d σ' Hk' H' ed ⟨h2, ⟨l, el, hL⟩, st⟩ v Hk3 H3 g3 dv
      obtain ⟨hi, rfl⟩ := rng_get' ed
      have hi' : i < ds.length := by omega
      obtain ⟨x, ex⟩ : ∃ x, ds[i]? = some x := ⟨ds[i], List.getElem?_eq_getElem hi'⟩
      have hll : l.length = i := by
        have := congrArg List.length el
        rw [pd_len, List.length_take] at this
        omega
      refine gb_name (vs := [1]) (by simp) σ' Hk3 H3 v (st.sg.mono g3.k) g3.a dv _ fun σ2 sg2 _ _ => ?_
      have st2 : At q n _ A0 B0 σ2 Hk3 H3 := ⟨st.ok.go g3, sg2, st.gr.trans g3.none_to⟩
      refine q_asgE (i := 2) (d := x) (e_iT (ds := ds) (e_var rfl) (e_is (e_var rfl) (d1 := .int ((i : Nat) : Int)) (by rw [Int.zero_add])) (atI_nat ex)) st2 fun σ4 Hk4 H4 g4 a4 => ?_
      have hmem := List.mem_of_getElem? ex
      refine q_whenB (b := !(isChangeD x)) ?_ a4 (fun hb Hk5 H5 g5 a5 => ?_) (fun hb Hk5 H5 g5 a5 => ?_)
      · have nonT : isiTup x = false → isChangeD x = false := fun h => by cases x <;> first | rfl | cases h
        by_cases hx : isiTup x = true
        · obtain ⟨es, rfl⟩ : ∃ es, x = .tuple es := by
            cases x with
            | tuple es => exact ⟨es, rfl⟩
            | _ => cases hx
          by_cases h2' : es.length = 2
          · obtain ⟨a, b, rfl⟩ : ∃ a b, es = [a, b] := by
              match es, h2' with
              | [a, b], _ => exact ⟨a, b, rfl⟩
            exact tb_is (tb_or (tb_not (tb_B (e_isi (e_var rfl) (kit_tuple _)))) fun _ => tb_or (tb_test (e_neDI (e_lenT (ds := [a, b]) (e_var rfl)) e_int)) fun _ => tb_or (tb_not (tb_B (j_call (R := R__law_number) (c := 0) (ae_cons (e_iT (ds := [a, b]) (e_var rfl) e_int rfl) ae_nil) fun sls e => ⟨rfl, a, e, rfl⟩))) fun _ => tb_not (tb_B (j_call (R := R__law_number) (c := 0) (ae_cons (e_iT (ds := [a, b]) (e_var rfl) e_int rfl) ae_nil) fun sls e => ⟨rfl, b, e, rfl⟩))) (by cases a <;> cases b <;> rfl)
          · have hc : isChangeD (.tuple es) = false := Bool.eq_false_iff.mpr fun z => by
              obtain ⟨y, e⟩ := change_pr z
              cases e
              exact h2' rfl
            exact tb_is (tb_or (b := true) (tb_not (tb_B (e_isi (e_var rfl) (kit_tuple _)))) fun _ => tb_is (tb_or (a := true) (b := false) (tb_is (tb_test (e_neDI (e_lenT (ds := es) (e_var rfl)) e_int)) (by simp; omega)) fun h => by cases h) rfl) (by rw [hc, Bool.or_true]; rfl)
        · have hf : isiTup x = false := by simpa using hx
          exact tb_is (tb_or (b := true) (tb_not (tb_B (e_isi (e_var rfl) (kit_tuple _)))) fun h => by rw [hf] at h; cases h) (by rw [hf, nonT hf]; rfl)
      · refine s_retE (d := .bool false) e_bl a5 (Nat.le_refl _) fin ?_
        have : isLedD (.tuple ds) = false := Bool.eq_false_iff.mpr fun z => by
          obtain ⟨L, _, rfl⟩ := led_of z
          obtain ⟨y, _, rfl⟩ := List.mem_map.mp hmem
          cases hb
        rw [this]
      · obtain ⟨y, rfl⟩ := change_pr (d := x) (by simpa using hb)
        obtain ⟨z, ez⟩ : ∃ z : Int × Int, z = l.getD (i - 1) (0, 0) := ⟨_, rfl⟩
        have hz : 0 < i → ds[i - 1]? = some (pr z) ∧ l[i - 1]? = some z := fun h => by
          have e1 : l[i - 1]? = some z := by rw [ez, List.getD_eq_getElem?_getD, List.getElem?_eq_getElem (by omega)]; rfl
          refine ⟨?_, e1⟩
          have e2 : (ds.take i)[i - 1]? = ds[i - 1]? := List.getElem?_take_of_lt (by omega)
          rw [← e2, el]
          unfold pd
          rw [List.getElem?_map, e1]; rfl
        refine s_ifB (b := (y.2 == 0) || (decide ((0 : Int) < 0 + (i : Int)) && decide (y.1 ≤ z.1))) (tb_or (tb_test (e_eqDI (e_iT (ds := [.int y.1, .int y.2]) (e_var rfl) e_int rfl) e_int)) fun _ => tb_and (tb_test (e_gtI (e_var rfl) e_int)) fun hk => tb_test (e_geI (e_iT (ds := [.int z.1, .int z.2]) (e_iT (ds := ds) (d := pr z) (e_var rfl) (e_is (e_subI (e_var rfl) e_int) (d1 := .int ((i - 1 : Nat) : Int)) (by have := of_decide_eq_true hk; congr 1; omega)) (atI_nat (hz (by have := of_decide_eq_true hk; omega)).1)) e_int rfl) (e_iT (ds := [.int y.1, .int y.2]) (e_var rfl) e_int rfl))) a5 (fun hb2 Hk6 H6 g6 a6 => ?_) (fun hb2 Hk6 H6 g6 a6 => ?_)
        · refine s_retE (d := .bool false) e_bl a6 (Nat.le_refl _) fin ?_
          have : isLedD (.tuple ds) = false := Bool.eq_false_iff.mpr fun zz => by
            obtain ⟨L, hLL, rfl⟩ := led_of zz
            have eL : L[i]? = some y := by
              unfold pd at ex
              rw [List.getElem?_map] at ex
              obtain ⟨y', e1, e2⟩ := Option.map_eq_some_iff.mp ex
              rw [← prJ_inj e2]
              exact e1
            rw [Bool.or_eq_true] at hb2
            rcases hb2 with h | h
            · exact hLL.2 y (List.mem_of_getElem? eL) (by simpa using h)
            · rw [Bool.and_eq_true] at h
              have h0 : 0 < i := by have := of_decide_eq_true h.1; omega
              have hle := of_decide_eq_true h.2
              have eZ : L[i - 1]? = some z := by
                have z1 := (hz h0).1
                unfold pd at z1
                rw [List.getElem?_map] at z1
                obtain ⟨z', e1, e2⟩ := Option.map_eq_some_iff.mp z1
                rw [← prJ_inj e2]
                exact e1
              have hP := List.pairwise_iff_getElem.mp hLL.1 (i - 1) i (by have := (List.getElem?_eq_some_iff.mp eZ).1; omega) (List.getElem?_eq_some_iff.mp eL).1 (by omega)
              rw [(List.getElem?_eq_some_iff.mp eZ).2, (List.getElem?_eq_some_iff.mp eL).2] at hP
              omega
          rw [this]
        · rw [Bool.or_eq_false_iff] at hb2
          refine ⟨Hk6, (((h2.trans g3.k).trans g4.k).trans g5.k).trans g6.k, ⟨l ++ [y], ?_, led_more hL (by simpa using hb2.1) fun z' ez' hne => ?_⟩, (a6.forget 1).forget 2⟩
          · rw [List.take_add_one, ex, el]
            unfold pd
            rw [List.map_append]; rfl
          · have h0 : 0 < i := by have := List.length_pos_iff.mpr hne; omega
            rw [hll, (hz h0).2] at ez'
            have e2 := Option.some.inj ez'
            have h3 := hb2.2
            rw [Bool.and_eq_false_iff] at h3
            rcases h3 with h3 | h3
            · have := of_decide_eq_false h3; omega
            · have := of_decide_eq_false h3
              rw [← e2]; omega
    · rintro σ' Hk' H' ⟨h2, ⟨l, el, hL⟩, st⟩
      rw [rng_len, Int.toNat_natCast, List.take_length] at el
      subst el
      refine s_retE (d := .bool true) e_bl st (Nat.le_refl _) fin ?_
      have := led_isLed hL
      show PyData.bool true = .bool (isLedD (led l))
      rw [this]
  · have hf : isiTup d = false := by simpa using ht
    refine q_whenB (b := true) (tb_is (tb_not (tb_B (e_isi (e_var rfl) (kit_tuple _)))) (by rw [hf]; rfl)) hA (fun hb Hk1 H1 g1 a1 => ?_) (fun hb => by cases hb)
    exact s_retE (d := .bool false) e_bl a1 (Nat.le_refl _) fin (by rw [first hf])
/-! ### law -/

theorem ok_is_ledger_ins (T : Tx K mg) : FnOk P w K mg base CX0 3 T.a_is_ledger T.fd_is_ledger P_is_ledger (spIns K) := by
  have G_is_change := ok_is_change (P := P) (w := w) (base := base) T
  refine T.F_is_ledger.ok sc_is_ledger (fun vs H Q Ew h => by obtain ⟨_, _, _, _, _, _, _, rfl, _⟩ := h; rfl) (fun cdv A outer s H vs Q Ew hr h => ?_)
  obtain ⟨q, Hk, n, x, C, dx, fs, rfl, e1, cl, ic, o, kk⟩ := h
  refine ⟨_, (pss_cons (ps_if (PW.pt (pw_or (pt_not (pt_val (pe_callB (k_isi (K := K) rfl) (by rfl) T.z_isinstance (by decide +kernel) (pa_cons (pv 0) (pa_cons (pe_bltn (v := .ty "tuple") (by rfl) T.z_tuple (by decide +kernel) rfl) pa_nil))))) (pw_or1 (pt_not (pt_val (pe_callB (k_all (K := K) rfl rfl) (by rfl) T.z_all (by decide +kernel) (pa_cons (pe_lc (own := [("pair", 2)]) rfl sc_is_ledger.nd (k_piTup (K := K) rfl (pv 0)) (blkOk_by (own := [("pair", 2)]) (N := N_is_ledger) (sc := defScope s_is_ledger) (by decide +kernel)) (fun _ _ _ _ _ => (pg_name (i := 2) sc_is_ledger.nd rfl (Or.inl rfl))) (fun _ _ _ _ _ => pts_nil) (fun _ _ _ _ _ => (pe_call G_is_change (hr.mono (by decide)) (by rfl) T.m_is_change T.F_is_change.kp T.b_is_change .nil pass0 (pa_cons (pv 2) pa_nil)))) pa_nil))))))) (pss_one (ps_ret pe_bl)) pss_nil)
      (pss_cons (ps_set (i := 1) sc_is_ledger.nd rfl (Or.inl rfl) (pe_callB (k_all (K := K) rfl rfl) (by rfl) T.z_all (by decide +kernel) (pa_cons (pe_lc (own := [("one", 3), ("other", 4)]) rfl sc_is_ledger.nd (Zm.pi_zipS (K := K) rfl (by rfl) T.z_zip (pa_cons (pv 0) (pa_cons (pe_slice (k_sl (K := K) rfl) (pv 0) (po_some pe_int) po_none) pa_nil))) (blkOk_by (own := [("one", 3), ("other", 4)]) (N := N_is_ledger) (sc := defScope s_is_ledger) (by decide +kernel)) (fun _ _ _ _ _ => (k_pgTup (K := K) (n := 2) rfl rfl (pgs_cons (pg_name (i := 3) sc_is_ledger.nd rfl (Or.inl rfl)) (pgs_cons (pg_name (i := 4) sc_is_ledger.nd rfl (Or.inl rfl)) pgs_nil)))) (fun _ _ _ _ _ => pts_nil) (fun _ _ _ _ _ => (pe_cmpR op_lt (pe_ix (k_ix (K := K) rfl) (pv 3) pe_int (fun _ _ => rfl)) (pe_ix (k_ix (K := K) rfl) (pv 4) pe_int (fun _ _ => rfl)) (nomark _)))) pa_nil)))
      (pss_one (ps_ret (pe_and (pv 1) (pe_one (pe_callB (k_all (K := K) rfl rfl) (by rfl) T.z_all (by decide +kernel) (pa_cons (pe_lc (own := [("key", 5), ("amount", 6)]) rfl sc_is_ledger.nd (k_piTup (K := K) rfl (pv 0)) (blkOk_by (own := [("key", 5), ("amount", 6)]) (N := N_is_ledger) (sc := defScope s_is_ledger) (by decide +kernel)) (fun _ _ _ _ _ => (k_pgTup (K := K) (n := 2) rfl rfl (pgs_cons (pg_name (i := 5) sc_is_ledger.nd rfl (Or.inl rfl)) (pgs_cons (pg_name (i := 6) sc_is_ledger.nd rfl (Or.inl rfl)) pgs_nil)))) (fun _ _ _ _ _ => pts_nil) (fun _ _ _ _ _ => (pe_cmpR (k_neD (K := K) rfl hr.units) (pv 6) pe_int (nomark _)))) pa_nil)))))))), ?_⟩
  have sg0 := start_sg (N := N_is_ledger) (vs := [.ref x]) (sls := [.adr x]) (VS.cons (H := Hk) (s := .adr x) rfl VS.nil) (by show 1 ≤ N_is_ledger.length; decide)
  have s1 : At q n ([.adr x] ++ List.replicate (N_is_ledger.length - 1) .any) Hk H (L2.start N_is_ledger [.ref x]) Hk H := ⟨o, sg0, Gr.refl o.a⟩
  exact q_insNo s1 rfl e1 cl ic (kk Hk H (Gr.refl o.a) o)
theorem ok_law (T : Tx K mg) : FnOk P w K mg base CX0 7 T.a_law T.fd_law P_law (spLaw K) := by
  have G_Ledger__init__ := ok_Ledger__init__ (P := P) (w := w) (base := base) T
  have G_Sums__init__ := ok_Sums__init__ (P := P) (w := w) (base := base) T
  have G__law_bent := ok__law_bent (P := P) (w := w) (base := base) T
  have G__law_book := ok__law_book (P := P) (w := w) (base := base) T
  have G__law_jar := ok__law_jar (P := P) (w := w) (base := base) T
  have G__law_judge := ok__law_judge (P := P) (w := w) (base := base) T
  have G__law_pick := ok__law_pick (P := P) (w := w) (base := base) T
  have G__law_same := ok__law_same (P := P) (w := w) (base := base) T
  have G_is_ledger := ok_is_ledger (P := P) (w := w) (base := base) T
  have GI_is_ledger := ok_is_ledger_ins (P := P) (w := w) (base := base) T
  refine T.F_law.ok sc_law (fun vs H Q Ew h => by obtain ⟨a, ns, rfl, _⟩ := h; rfl) (fun cdv A outer s H vs Q Ew hr h => ?_)
  obtain ⟨a, ns, rfl, hS, hlen, k⟩ := h
  refine ⟨_, (pss_cons (ps_for PassesOwn.never rfl (pi_range1 rfl T.z_range (pa_cons (pe_callB (call_maxQ rfl) (by rfl) T.z_max (by decide +kernel) (pa_cons pe_int (pa_cons (pe_callB (call_minQ rfl) (by rfl) T.z_min (by decide +kernel) (pa_cons pe_int (pa_cons (pe_callB (k_len (K := K) rfl) (by rfl) T.z_len (by decide +kernel) (pa_cons (pv 0) pa_nil)) pa_nil))) pa_nil))) pa_nil)) (pg_name (i := 1) sc_law.nd rfl (Or.inl rfl)) (pss_cons (ps_set (i := 2) sc_law.nd rfl (Or.inl rfl) (pe_call G__law_jar (hr.mono (by decide)) (by rfl) T.m__law_jar T.F__law_jar.kp T.b__law_jar .nil pass0 (pa_cons (pv 0) (pa_cons (pv 1) pa_nil))))
      (pss_one (ps_for PassesOwn.never rfl (k_piTup (K := K) rfl (Cr.pe_tup (pa_cons pe_int (pa_cons pe_int (pa_cons (pe_op op_mulU pe_int (pe_op op_powW pe_int pe_int)) pa_nil))))) (pg_name (i := 3) sc_law.nd rfl (Or.inl rfl)) (pss_cons (ps_set (i := 4) sc_law.nd rfl (Or.inl rfl) (pe_call G__law_book (hr.mono (by decide)) (by rfl) T.m__law_book T.F__law_book.kp T.b__law_book .nil pass0 (pa_cons (pv 2) (pa_cons (pe_ix (k_ix (K := K) rfl) (pe_lst (pa_cons pe_int (pa_cons pe_int pa_nil))) (pe_call G__law_pick (hr.mono (by decide)) (by rfl) T.m__law_pick T.F__law_pick.kp T.b__law_pick .nil pass0 (pa_cons (pv 2) (pa_cons pe_int pa_nil))) (fun _ _ => rfl)) (pa_cons (pv 3) (pa_cons (pe_ix (k_ix (K := K) rfl) (pe_lst (pa_cons pe_int (pa_cons (pe_op op_mulU pe_int (pe_op op_powW pe_int pe_int)) pa_nil))) (pe_call G__law_pick (hr.mono (by decide)) (by rfl) T.m__law_pick T.F__law_pick.kp T.b__law_pick .nil pass0 (pa_cons (pv 2) (pa_cons pe_int pa_nil))) (fun _ _ => rfl)) pa_nil))))))
      (pss_cons (ps_if (pt_not (pt_val (pe_call G__law_same (hr.mono (by decide)) (by rfl) T.m__law_same T.F__law_same.kp T.b__law_same .nil pass0 (pa_cons (pe_lst (pa_cons (pe_call G_is_ledger (hr.mono (by decide)) (by rfl) T.m_is_ledger T.F_is_ledger.kp T.b_is_ledger .nil pass0 (pa_cons (pv 4) pa_nil)) (pa_cons (pe_callK0 G_is_ledger (hr.mono (by decide)) (by rfl) T.m_is_ledger T.F_is_ledger.kp (kb_is_ledger_0_value T.F_is_ledger) pass0 (pk_cons (pv 4) pk_nil)) pa_nil))) (pa_cons (pe_lst (pa_cons pe_bl (pa_cons pe_bl pa_nil))) pa_nil))))) (pss_one (ps_ret pe_bl)) pss_nil)
      (pss_cons (ps_if (PW.pt (pw_or (pt_cmpR op_notNQ (pe_call GI_is_ledger (hr.mono (by decide)) (by rfl) T.m_is_ledger T.F_is_ledger.kp T.b_is_ledger .nil pass0 (pa_cons (pe_make T.M_Ledger G_Ledger__init__ (hr.mono (by decide)) (by rfl) T.m_Ledger T.b_Ledger__init__ .nil pass0 (pa_cons (pv 4) pa_nil)) pa_nil)) pe_bl (nomark _)) (pw_or1 (pt_cmpR op_notNQ (pe_call GI_is_ledger (hr.mono (by decide)) (by rfl) T.m_is_ledger T.F_is_ledger.kp T.b_is_ledger .nil pass0 (pa_cons (pe_make T.M_Sums G_Sums__init__ (hr.mono (by decide)) (by rfl) T.m_Sums T.b_Sums__init__ .nil pass0 (pa_cons (Cr.pe_tup (pa_cons pe_int (pa_cons pe_int pa_nil))) pa_nil)) pa_nil)) pe_bl (nomark _))))) (pss_one (ps_ret pe_bl)) pss_nil)
      (pss_one (ps_for PassesOwn.never rfl (pi_range1 rfl T.z_range (pa_cons pe_int pa_nil)) (pg_name (i := 5) sc_law.nd rfl (Or.inl rfl)) (pss_cons (ps_set (i := 6) sc_law.nd rfl (Or.inl rfl) (pe_call G__law_bent (hr.mono (by decide)) (by rfl) T.m__law_bent T.F__law_bent.kp T.b__law_bent .nil pass0 (pa_cons (pv 2) (pa_cons (pv 4) pa_nil))))
      (pss_one (ps_if (pt_not (pt_val (pe_call G__law_same (hr.mono (by decide)) (by rfl) T.m__law_same T.F__law_same.kp T.b__law_same .nil pass0 (pa_cons (pe_call G_is_ledger (hr.mono (by decide)) (by rfl) T.m_is_ledger T.F_is_ledger.kp T.b_is_ledger .nil pass0 (pa_cons (pv 6) pa_nil)) (pa_cons (pe_call G__law_judge (hr.mono (by decide)) (by rfl) T.m__law_judge T.F__law_judge.kp T.b__law_judge .nil pass0 (pa_cons (pv 6) pa_nil)) pa_nil))))) (pss_one (ps_ret pe_bl)) pss_nil))))))))))))
      (pss_cons (ps_set (i := 7) sc_law.nd rfl (Or.inl rfl) (pe_callTy (k_tup (K := K) rfl) (by rfl) T.z_tuple (by decide +kernel) (pa_cons (pe_lc (own := [("k", 8)]) rfl sc_law.nd (pi_range1 rfl T.z_range (pa_cons pe_int pa_nil)) (blkOk_by (own := [("k", 8)]) (N := N_law) (sc := defScope s_law) (by decide +kernel)) (fun _ _ _ _ _ => (pg_name (i := 8) sc_law.nd rfl (Or.inl rfl))) (fun _ _ _ _ _ => pts_nil) (fun _ _ _ _ _ => (Cr.pe_tup (pa_cons (pe_op (k_addU (K := K) rfl) (pe_op op_mulU (pv 8) (pe_op op_powW pe_int pe_int)) pe_int) (pa_cons (pe_op op_powW pe_int pe_int) pa_nil))))) pa_nil)))
      (pss_cons (ps_if (PW.pt (pw_or (pt_cmpR op_notNQ (pe_call G_is_ledger (hr.mono (by decide)) (by rfl) T.m_is_ledger T.F_is_ledger.kp T.b_is_ledger .nil pass0 (pa_cons (pv 7) pa_nil)) pe_bl (nomark _)) (pw_or1 (pt_cmpR op_notNQ (pe_call G_is_ledger (hr.mono (by decide)) (by rfl) T.m_is_ledger T.F_is_ledger.kp T.b_is_ledger .nil pass0 (pa_cons (pe_op (k_addU (K := K) rfl) (pv 7) (Cr.pe_tup (pa_cons (Cr.pe_tup (pa_cons pe_int (pa_cons pe_int pa_nil))) pa_nil))) pa_nil)) pe_bl (nomark _))))) (pss_one (ps_ret pe_bl)) pss_nil)
      (pss_one (ps_ret (pe_and (pe_cmpR op_isNQ (pe_call G_is_ledger (hr.mono (by decide)) (by rfl) T.m_is_ledger T.F_is_ledger.kp T.b_is_ledger .nil pass0 (pa_cons (Cr.pe_tup pa_nil) pa_nil)) pe_bl (nomark _)) (pe_one (pe_cmpR op_isNQ (pe_call G_is_ledger (hr.mono (by decide)) (by rfl) T.m_is_ledger T.F_is_ledger.kp T.b_is_ledger .nil pass0 (pa_cons (Cr.pe_tup (pa_cons (Cr.pe_tup (pa_cons pe_int (pa_cons pe_int pa_nil))) (pa_cons (Cr.pe_tup (pa_cons pe_int (pa_cons pe_int pa_nil))) pa_nil))) pa_nil)) pe_bl (nomark _))))))))), ?_⟩
  have hA : At none 0 [.scr K ns, .any, .any, .any, .any, .any, .any, .any, .any] H H (L2.start N_law [.ref a]) H H := ⟨⟨Same.refl _, fun p e => (by cases e), fun p e => (by cases e)⟩, start_sg (N := N_law) (VS.cons (s := .scr K ns) ⟨a, rfl, hS⟩ VS.nil) (by show 1 ≤ 9; decide), Gr.refl (Same.refl _)⟩
  refine q_for (n := 0) (c := 0) (e_ats rfl (by omega) (by omega)) hA fun items HkW H1 ⟨m, hm, ei⟩ g1 a1 => ?_
  subst ei
  refine ⟨fun i σ' Hk' H' => Same HkW Hk' ∧ At none 0 [.scr K ns, .any, .any, .any, .any, .any, .any, .any, .any] Hk' H' σ' Hk' H', ⟨Same.refl _, a1.reset⟩, fun i σ' Hk' H' h => ⟨h.1, h.2.ok.a⟩, ?_, ?_⟩
  · rintro i d σ' Hk' H' ed ⟨h2, st⟩ v Hk2 H3 g3 dv
    obtain ⟨hi, rfl⟩ := rng_get' ed
    refine gb_name (vs := [1]) (by simp) σ' Hk2 H3 v (st.sg.mono g3.k) g3.a dv _ fun σ2 sg2 _ _ => ?_
    have st2 : At none 0 [.scr K ns, .dat (.int (0 + (i : Int))), .any, .any, .any, .any, .any, .any, .any] Hk2 H3 σ2 Hk2 H3 := ⟨st.ok.go g3, sg2, Gr.refl g3.a⟩
    refine q_mkJar st2 rfl rfl (by omega) (by omega) fun p σ3 H4 sm st3 => ?_
    obtain ⟨m9, em9⟩ : ∃ m : Int, m = 9 * (10 : Int) ^ (14 : Int).toNat := ⟨_, rfl⟩
    have hm9 : m9 = 900000000000000 := by rw [em9]; decide
    refine s_for (n := 100000) (c := 0) (Ψ := fun items => items = [PyData.int 3, .int 40, .int m9]) (ie_tup (e_tup (ds := [PyData.int 3, .int 40, .int m9]) (ae_cons e_int (ae_cons e_int (ae_cons (e_is (e_mulI e_int (e_pow e_int e_int (pow_ok (a := 4) (by decide) (by omega) (by omega) (by omega))) (wide_mul (a := 4) (b := 60) (by decide) (by decide) (by omega) (by omega) (by omega))) (by rw [em9])) ae_nil))))) (st3.mono (by omega)) fun items HkR H5 ei g5 a5 => ?_
    subst ei
    refine ⟨fun j σ' Hk' H' => Same HkR Hk' ∧ ∃ f : Nat, f + 10000 * j = 100000 ∧ At (some p) f [.scr K ns, .any, .adr p, .any, .any, .any, .any, .any, .any] Hk' H' σ' Hk' H', ⟨Same.refl _, 100000, by omega, (a5.forget 1).reset2⟩, fun i σ' Hk' H' h => ⟨h.1, by obtain ⟨_, f, _, st⟩ := h; exact st.ok.a⟩, ?_, ?_⟩
    · rintro j d σ4 Hk4 H6 ed ⟨h4, f, hf, st4⟩ v4 Hk5 H7 g7 dv4
      obtain ⟨r, hr1, hr2, hj, rfl⟩ : ∃ r : Int, 1 ≤ r ∧ r < 2 ^ 50 ∧ j < 3 ∧ d = .int r := by
        match j, ed with
        | 0, e => exact ⟨3, by omega, by omega, by omega, (Option.some.inj e).symm⟩
        | 1, e => exact ⟨40, by omega, by omega, by omega, (Option.some.inj e).symm⟩
        | 2, e => exact ⟨m9, by omega, by omega, by omega, (Option.some.inj e).symm⟩
        | j + 3, e => exact absurd e (by simp)
      refine gb_name (vs := [3]) (by simp) σ4 Hk5 H7 v4 (st4.sg.mono g7.k) g7.a dv4 _ fun σ5 sg5 _ _ => ?_
      obtain ⟨f1, ef1⟩ : ∃ f1, f = f1 + 2000 := ⟨f - 2000, by omega⟩
      have st5 : At (some p) f [.scr K ns, .any, .adr p, .dat (.int r), .any, .any, .any, .any, .any] Hk5 H7 σ5 Hk5 H7 := ⟨st4.ok.go g7, sg5, Gr.refl g7.a⟩
      refine q_asg (n := f1) (c := 1002) (Φ := fun d => ∃ l, Led l ∧ l.length ≤ 400 ∧ Bd 60 l ∧ d = led l) ?_ (st5.mono (by omega)) fun d σ6 Hk6 H8 ⟨l, hL, hl, hB, ed⟩ g8 a8 => ?_
      · refine (j_callD (R := R__law_book) (c := 1000) (c1 := 2) (Φa := fun sls => ∃ m a : Int, (0 ≤ m ∧ m ≤ 400) ∧ (1 ≤ a ∧ a < 2 ^ 50) ∧ sls = [.adr p, .dat (.int m), .dat (.int r), .dat (.int a)]) (aj_adr (Φr := fun sls => ∃ m a : Int, (0 ≤ m ∧ m ≤ 400) ∧ (1 ≤ a ∧ a < 2 ^ 50) ∧ sls = [.dat (.int m), .dat (.int r), .dat (.int a)]) rfl (aj_int (c1 := 1) (c2 := 1) (P := fun x => 0 ≤ x ∧ x ≤ 400) (Φr := fun sls => ∃ a : Int, (1 ≤ a ∧ a < 2 ^ 50) ∧ sls = [.dat (.int r), .dat (.int a)]) ?_ (aj_int (c1 := 0) (c2 := 1) (P := fun x => x = r) (Φr := fun sls => ∃ a : Int, (1 ≤ a ∧ a < 2 ^ 50) ∧ sls = [.dat (.int a)]) (e_var rfl).intP (aj_int (c1 := 1) (c2 := 0) (P := fun x => 1 ≤ x ∧ x < 2 ^ 50) ?_ ae_nil fun i sls hi e => ⟨i, hi, by rw [e]⟩) fun i sls hi ⟨a, ha, e⟩ => ⟨a, ha, by rw [e, hi]⟩) fun i sls hi ⟨a, ha, e⟩ => ⟨i, a, hi, ha, by rw [e]⟩) fun sls ⟨i, a, hi, ha, e⟩ => ⟨i, a, hi, ha, by rw [e]⟩) fun sls ⟨i, a, hi, ha, e⟩ => ⟨_, ⟨rfl, p, i, r, a, rfl, by omega, by omega, by omega, by omega, by omega, by omega, e, rfl⟩, fun d ⟨l, h1, h2, h3, h4, e⟩ => ⟨l, h1, by omega, h4, e⟩⟩).cost (by omega)
        · exact (j_menu (P := fun x => 0 ≤ x ∧ x ≤ 400) (aji_cons (e_int.is (by omega)) (aji_cons (e_int.is (by omega)) aji_nil)) (by omega) (j_pick rfl e_int (by omega) (by omega))).cost (by omega)
        · exact (j_menu (P := fun x => 1 ≤ x ∧ x < 2 ^ 50) (aji_cons (e_int.is (by omega)) (aji_cons ((e_mulI e_int (e_pow e_int e_int (pow_ok (a := 4) (by decide) (by omega) (by omega) (by omega))) (wide_mul (a := 4) (b := 60) (by decide) (by decide) (by omega) (by omega) (by omega))).is (by decide)) aji_nil)) (by omega) (j_pick rfl e_int (by omega) (by omega))).cost (by omega)
      subst ed
      have hT := led_isLed hL
      have sl : ∀ ds, led l = .tuple ds → ds.length ≤ 100000 := fun ds e => by cases e; rw [pd_len]; omega
      refine q_ifNo (tb_is (tb_not (tb_B (e_sameX (k := 6) (X := .list [.bool true, .bool true]) (e_lst (ds := [.bool true, .bool true]) (ae_cons (j_call (R := R_is_ledger) (c := 0) (ae_cons (e_var rfl) ae_nil) fun sls e => ⟨rfl, led l, sl, e, by rw [hT]⟩) (ae_cons (e_callK (R := R_is_ledger) (d := .bool true) ae_nil (ae_cons (e_var rfl) ae_nil) (fun H => v_kb_is_ledger_0_value) ⟨rfl, led l, sl, rfl, by rw [hT]⟩) ae_nil))) (e_lst (ds := [.bool true, .bool true]) (ae_cons e_bl (ae_cons e_bl ae_nil))) rfl))) rfl) a8 fun Hk8b H8b g8b a8b => ?_
      refine q_ifNo (tb_is (tb_or (a := false) (b := false) (tb_is (tb_test (e_notB (e_insNo (e_var rfl) ⟨l, hL, by omega, rfl⟩ T.cl_Ledger T.I_Ledger))) rfl) fun _ => tb_is (tb_test (e_notB (e_insNo (e_tup (ds := [.int 1, .int 2]) (ae_cons e_int (ae_cons e_int ae_nil))) ⟨[1, 2], by simp, by simp, rfl⟩ T.cl_Sums T.I_Sums))) rfl) rfl) a8b fun Hk8c H8c g8c a8c => ?_
      refine s_for (n := f1) (c := 0) (ie_rng1 e_int (by omega) (by omega)) a8c fun items HkT H9 ei g9 a9 => ?_
      subst ei
      refine ⟨fun t σ' Hk' H' => Same HkT Hk' ∧ ∃ e : Nat, e + 10 * t = f1 ∧ At (some p) e [.scr K ns, .any, .adr p, .dat (.int r), .dat (led l), .any, .any, .any, .any] Hk' H' σ' Hk' H', ⟨Same.refl _, f1, by omega, a9.reset2⟩, fun i σ' Hk' H' h => ⟨h.1, by obtain ⟨_, e, _, st⟩ := h; exact st.ok.a⟩, ?_, ?_⟩
      · rintro t d σ7 Hk7 H10 ed ⟨h7, e, he, st7⟩ v7 Hk8 H11 g11 dv7
        obtain ⟨ht, rfl⟩ := rng_get' ed
        have ht3 : t < 12 := ht
        refine gb_name (vs := [5]) (by simp) σ7 Hk8 H11 v7 (st7.sg.mono g11.k) g11.a dv7 _ fun σ8 sg8 _ _ => ?_
        obtain ⟨e1, ee1⟩ : ∃ e1, e = e1 + 10 := ⟨e - 10, by omega⟩
        have st8 : At (some p) e [.scr K ns, .any, .adr p, .dat (.int r), .dat (led l), .dat (.int (0 + (t : Int))), .any, .any, .any] Hk8 H11 σ8 Hk8 H11 := ⟨st7.ok.go g11, sg8, Gr.refl g11.a⟩
        refine q_asg (i := 6) (n := e1) (c := 3) (Φ := ShortT) (j_call (R := R__law_bent) (c := 3) (c1 := 0) (ae_adr rfl (ae_cons (e_var rfl) ae_nil)) fun sls es => ⟨rfl, p, l, rfl, by omega, es, rfl⟩) (st8.mono (by omega)) fun th σ9 Hk9 H12 hth g12 a12 => ?_
        refine s_ifNo (tb_is (tb_not (tb_B (e_sameX (k := 6) (X := .bool (isLedD th)) (j_call (R := R_is_ledger) (c := 0) (ae_cons (e_var rfl) ae_nil) fun sls es => ⟨rfl, th, hth, es, rfl⟩) (j_call (R := R__law_judge) (c := 0) (ae_cons (e_var rfl) ae_nil) fun sls es => ⟨rfl, th, hth, es, rfl⟩) rfl))) rfl) a12 fun Hk10 H13 g13 a13 => ⟨Hk10, (h7.trans g11.k).trans (g12.k.trans g13.k), e1, by omega, ((a13.forget 5).forget 6).reset2⟩
      · rintro σ7 Hk7 H10 ⟨h7, e, he, st7⟩
        rw [rng_len] at he
        have he3 : e + 10 * 12 = f1 := he
        exact ⟨Hk7, ((h4.trans g7.k).trans (g8.k.trans (g8b.k.trans (g8c.k.trans g9.k)))).trans h7, f - 10000, by omega, ((st7.mono (by omega)).forget 4).forget 3⟩
    · rintro σ4 Hk4 H6 ⟨h4, f, hf, st4⟩
      exact ⟨Hk4, ((h2.trans g3.k).trans g5.k).trans h4, st4.reset.forget 2⟩
  · rintro σ' Hk' H' ⟨h2, st⟩
    obtain ⟨G, eG⟩ : ∃ G : List (Int × Int), G = (List.range 400).map fun k : Nat => ((k : Int) * 100000000000000000000 + 7, (1000000000000000000000000000000 : Int)) := ⟨_, rfl⟩
    have hGl : G.length = 400 := by rw [eG, List.length_map, List.length_range]
    have hGL : Led G := by
      rw [eG]
      refine ⟨List.pairwise_map.mpr (List.pairwise_lt_range.imp fun {a b} h => ?_), fun x hx => ?_⟩
      · show (a : Int) * 100000000000000000000 + 7 < (b : Int) * 100000000000000000000 + 7
        omega
      · obtain ⟨k, _, rfl⟩ := List.mem_map.mp hx
        show (1000000000000000000000000000000 : Int) ≠ 0
        decide
    refine q_asgE (i := 7) (d := led G) (e_is (e_tupL (e_lc1 (vs := [8]) (emb := fun k : Nat => PyData.int (0 + (k : Int))) (xs := List.range 400) ((ie_rng1 (j := 400) e_int (by omega) (by omega)).is rfl) (fun k => pr ((k : Int) * 100000000000000000000 + 7, 1000000000000000000000000000000)) (by rw [List.length_range]; omega) fun k hk => ⟨_, gb_name (by simp), e_pr (e_is (e_addI (e_mulI (e_is (e_var rfl) (d1 := .int (k : Int)) (by rw [Int.zero_add])) (e_ten (v := 100000000000000000000) (by omega) (by omega) (by decide)) (wide_mul (a := 10) (b := 70) (by have := List.mem_range.mp hk; omega) (by decide) (by omega) (by omega) (by omega))) e_int) rfl) (e_ten (v := 1000000000000000000000000000000) (by omega) (by omega) (by decide))⟩)) (by rw [eG]; unfold led pd; rw [List.map_map]; rfl)) st fun σ2 Hk2 H2 g2 a2 => ?_
    have hTT := led_isLed hGL
    have hFF : isLedD (.tuple (pd G ++ [pr (5, 1)])) = false := Bool.eq_false_iff.mpr fun z => by
      obtain ⟨L, hL, e⟩ := led_of z
      have e2 : L = G ++ [(5, 1)] := pd_inj (by rw [← e]; unfold pd; rw [List.map_append]; rfl)
      rw [e2] at hL
      have h0 : ((7 : Int), (1000000000000000000000000000000 : Int)) ∈ G := by
        rw [eG]
        exact List.mem_map.mpr ⟨0, List.mem_range.mpr (by omega), rfl⟩
      have := (List.pairwise_append.mp hL.1).2.2 _ h0 (5, 1) (by simp)
      have h7 : (7 : Int) < 5 := this
      omega
    have slG : ∀ ds, led G = .tuple ds → ds.length ≤ 100000 := fun ds e => by cases e; rw [pd_len]; omega
    refine q_ifNo (tb_is (tb_or (a := false) (b := false) (tb_is (tb_test (e_notB (j_call (R := R_is_ledger) (c := 0) (Φ := fun x => x = .bool true) (ae_cons (e_var rfl) ae_nil) fun sls e => ⟨rfl, led G, slG, e, by rw [hTT]⟩))) rfl) fun _ => tb_is (tb_test (e_notB (j_call (R := R_is_ledger) (c := 0) (Φ := fun x => x = .bool false) (ae_cons (e_catT (ds := pd G) (es := [pr (5, 1)]) (e_var rfl) (e_tup (ds := [pr (5, 1)]) (ae_cons (e_pr e_int e_int) ae_nil)) (by rw [pd_len]; simp; omega)) ae_nil) fun sls e => ⟨rfl, .tuple (pd G ++ [pr (5, 1)]), fun ds e => by cases e; rw [List.length_append, pd_len]; simp; omega, e, by rw [hFF]⟩))) rfl) rfl) a2 fun Hk3 H3 g3 a3 => ?_
    refine s_retE (d := .bool true) (n := 0) (Φ1 := fun d => d = .bool true) (e_is (e_andV (a := true) (b := true) (e_is (e_isB (j_call (R := R_is_ledger) (c := 0) (Φ := fun x => x = .bool true) (ae_cons (e_tup (ds := []) ae_nil) ae_nil) fun sls e => ⟨rfl, .tuple [], fun ds e => by cases e; simp, e, rfl⟩)) rfl) fun _ => e_is (e_isB (j_call (R := R_is_ledger) (c := 0) (Φ := fun x => x = .bool false) (ae_cons (e_tup (ds := [pr (0, 1), pr (0, 2)]) (ae_cons (e_pr e_int e_int) (ae_cons (e_pr e_int e_int) ae_nil))) ae_nil) fun sls e => ⟨rfl, .tuple [pr (0, 1), pr (0, 2)], fun ds e => by cases e; simp, e, rfl⟩)) rfl) rfl) a3 (Nat.le_refl _) (fun d v Hk2 H2 g o ed dv => ?_) rfl
    subst ed
    have ev := dv.blOf
    subst ev
    exact k _
end
/-! ### what the top has left -/
theorem all_mk {l : PySem.W.OpenLaw} {w : World} {K : PySem.W.Frag} {h : Heap} {mg : Str → Option Value} {fa : Addr} (X : K.In h) (G : h.Ns mainGlobals mg) (hfa : mg "law" = some (.ref fa))
    {f0 : Addr} {od0 an0 : Option Addr} {sl0 : Array (Option Value)} {oc0 kV0 dc0 pm0 cd0 ct0 : Value}
    (a0 : PySem.W.nsIn K mainGlobals "_law_jar" = some (some (.ref f0))) (l0 : K.lookup f0 = some ⟨oc0, od0, .func (PySem.W.fnOf "_law_jar" "_law_jar" (defArgs s__law_jar) (defBody s__law_jar) (defScope s__law_jar) .none kV0 dc0 pm0 an0 cd0 ct0), sl0⟩)
    (c0 : PySem.W.codeIn K cd0 "_law_jar" = true) (k0 : PySem.W.keepIn K (.ref f0) = true)
    {f1 : Addr} {od1 an1 : Option Addr} {sl1 : Array (Option Value)} {oc1 kV1 dc1 pm1 cd1 ct1 : Value}
    (a1 : PySem.W.nsIn K mainGlobals "_law_gather" = some (some (.ref f1))) (l1 : K.lookup f1 = some ⟨oc1, od1, .func (PySem.W.fnOf "_law_gather" "_law_gather" (defArgs s__law_gather) (defBody s__law_gather) (defScope s__law_gather) .none kV1 dc1 pm1 an1 cd1 ct1), sl1⟩)
    (c1 : PySem.W.codeIn K cd1 "_law_gather" = true) (k1 : PySem.W.keepIn K (.ref f1) = true)
    {f2 : Addr} {od2 an2 : Option Addr} {sl2 : Array (Option Value)} {oc2 kV2 dc2 pm2 cd2 ct2 : Value}
    (a2 : PySem.W.nsIn K mainGlobals "_law_pick" = some (some (.ref f2))) (l2 : K.lookup f2 = some ⟨oc2, od2, .func (PySem.W.fnOf "_law_pick" "_law_pick" (defArgs s__law_pick) (defBody s__law_pick) (defScope s__law_pick) .none kV2 dc2 pm2 an2 cd2 ct2), sl2⟩)
    (c2 : PySem.W.codeIn K cd2 "_law_pick" = true) (k2 : PySem.W.keepIn K (.ref f2) = true)
    {f3 : Addr} {od3 an3 : Option Addr} {sl3 : Array (Option Value)} {oc3 kV3 dc3 pm3 cd3 ct3 : Value}
    (a3 : PySem.W.nsIn K mainGlobals "_law_amount" = some (some (.ref f3))) (l3 : K.lookup f3 = some ⟨oc3, od3, .func (PySem.W.fnOf "_law_amount" "_law_amount" (defArgs s__law_amount) (defBody s__law_amount) (defScope s__law_amount) .none kV3 dc3 pm3 an3 cd3 ct3), sl3⟩)
    (c3 : PySem.W.codeIn K cd3 "_law_amount" = true) (k3 : PySem.W.keepIn K (.ref f3) = true)
    {f4 : Addr} {od4 an4 : Option Addr} {sl4 : Array (Option Value)} {oc4 kV4 dc4 pm4 cd4 ct4 : Value}
    (a4 : PySem.W.nsIn K mainGlobals "_law_book" = some (some (.ref f4))) (l4 : K.lookup f4 = some ⟨oc4, od4, .func (PySem.W.fnOf "_law_book" "_law_book" (defArgs s__law_book) (defBody s__law_book) (defScope s__law_book) .none kV4 dc4 pm4 an4 cd4 ct4), sl4⟩)
    (c4 : PySem.W.codeIn K cd4 "_law_book" = true) (k4 : PySem.W.keepIn K (.ref f4) = true)
    {f5 : Addr} {od5 an5 : Option Addr} {sl5 : Array (Option Value)} {oc5 kV5 dc5 pm5 cd5 ct5 : Value}
    (a5 : PySem.W.nsIn K mainGlobals "is_an_integer" = some (some (.ref f5))) (l5 : K.lookup f5 = some ⟨oc5, od5, .func (PySem.W.fnOf "is_an_integer" "is_an_integer" (defArgs s_is_an_integer) (defBody s_is_an_integer) (defScope s_is_an_integer) .none kV5 dc5 pm5 an5 cd5 ct5), sl5⟩)
    (c5 : PySem.W.codeIn K cd5 "is_an_integer" = true) (k5 : PySem.W.keepIn K (.ref f5) = true)
    {f6 : Addr} {od6 an6 : Option Addr} {sl6 : Array (Option Value)} {oc6 kV6 dc6 pm6 cd6 ct6 : Value}
    (a6 : PySem.W.nsIn K mainGlobals "is_change" = some (some (.ref f6))) (l6 : K.lookup f6 = some ⟨oc6, od6, .func (PySem.W.fnOf "is_change" "is_change" (defArgs s_is_change) (defBody s_is_change) (defScope s_is_change) .none kV6 dc6 pm6 an6 cd6 ct6), sl6⟩)
    (c6 : PySem.W.codeIn K cd6 "is_change" = true) (k6 : PySem.W.keepIn K (.ref f6) = true)
    {f7 : Addr} {od7 an7 : Option Addr} {sl7 : Array (Option Value)} {oc7 kV7 dc7 pm7 cd7 ct7 : Value}
    (a7 : PySem.W.nsIn K mainGlobals "is_ledger" = some (some (.ref f7))) (l7 : K.lookup f7 = some ⟨oc7, od7, .func (PySem.W.fnOf "is_ledger" "is_ledger" (defArgs s_is_ledger) (defBody s_is_ledger) (defScope s_is_ledger) .none kV7 dc7 pm7 an7 cd7 ct7), sl7⟩)
    (c7 : PySem.W.codeIn K cd7 "is_ledger" = true) (k7 : PySem.W.keepIn K (.ref f7) = true)
    {f8 : Addr} {od8 an8 : Option Addr} {sl8 : Array (Option Value)} {oc8 kV8 dc8 pm8 cd8 ct8 : Value}
    (a8 : PySem.W.nsIn K mainGlobals "_law_same" = some (some (.ref f8))) (l8 : K.lookup f8 = some ⟨oc8, od8, .func (PySem.W.fnOf "_law_same" "_law_same" (defArgs s__law_same) (defBody s__law_same) (defScope s__law_same) .none kV8 dc8 pm8 an8 cd8 ct8), sl8⟩)
    (c8 : PySem.W.codeIn K cd8 "_law_same" = true) (k8 : PySem.W.keepIn K (.ref f8) = true)
    {f9 : Addr} {od9 an9 : Option Addr} {sl9 : Array (Option Value)} {oc9 kV9 dc9 pm9 cd9 ct9 : Value}
    (a9 : PySem.W.nsIn K mainGlobals "_law_bent" = some (some (.ref f9))) (l9 : K.lookup f9 = some ⟨oc9, od9, .func (PySem.W.fnOf "_law_bent" "_law_bent" (defArgs s__law_bent) (defBody s__law_bent) (defScope s__law_bent) .none kV9 dc9 pm9 an9 cd9 ct9), sl9⟩)
    (c9 : PySem.W.codeIn K cd9 "_law_bent" = true) (k9 : PySem.W.keepIn K (.ref f9) = true)
    {f10 : Addr} {od10 an10 : Option Addr} {sl10 : Array (Option Value)} {oc10 kV10 dc10 pm10 cd10 ct10 : Value}
    (a10 : PySem.W.nsIn K mainGlobals "check_ledger" = some (some (.ref f10))) (l10 : K.lookup f10 = some ⟨oc10, od10, .func (PySem.W.fnOf "check_ledger" "check_ledger" (defArgs s_check_ledger) (defBody s_check_ledger) (defScope s_check_ledger) .none kV10 dc10 pm10 an10 cd10 ct10), sl10⟩)
    (c10 : PySem.W.codeIn K cd10 "check_ledger" = true) (k10 : PySem.W.keepIn K (.ref f10) = true)
    {f11 C11 TT11 : Addr} {od11 an11 td11 : Option Addr} {tm11 : Nat} {ts11 : Array (Option Value)} {sl11 : Array (Option Value)} {oc11 kV11 tc11 tu11 dc11 pm11 cd11 ct11 : Value}
    (aC11 : PySem.W.nsIn K mainGlobals "Ledger" = some (some (.ref C11))) (a11 : PySem.W.findIn K (.ref C11) "__init__" = some (some (.ref f11))) (i11 : PySem.W.isFn K (.ref f11) = true)
    (l11 : K.lookup f11 = some ⟨oc11, od11, .func (PySem.W.fnOf "__init__" "Ledger.__init__" (defArgs s_Ledger__init__) (defBody s_Ledger__init__) (defScope s_Ledger__init__) (.ref TT11) kV11 dc11 pm11 an11 cd11 ct11), sl11⟩)
    (lt11 : K.lookup TT11 = some ⟨tc11, td11, .seq #[tu11] tm11, ts11⟩)
    (c11 : PySem.W.codeIn K cd11 "Ledger.__init__" = true) (k11 : PySem.W.keepIn K (.ref f11) = true)
    (pg11 : PySem.W.plainGet K C11 Str.empty = true) (hd11 : PySem.W.hasDictIn K C11 = true) (po11 : PySem.W.plainOver K C11 = true) (sa11 : PySem.W.findIn K (.ref C11) "__setattr__" = some (some (.builtin "object.__setattr__"))) (mk11 : PySem.W.makesIn K C11 = true) (kc11 : PySem.W.keepIn K (.ref C11) = true) (nA11 : PySem.W.findIn K (.ref C11) "_pairs" = some none)
    (ha11 : PySem.W.findIn K (.ref C11) "__class__" = some (some (.builtin "object.__class__"))) (hn11 : PySem.W.specialIn K (.builtin "object.__class__") "__get__" = some (some (.builtin "getset_descriptor.__get__"))) (htk11 : PySem.W.takesIn K (.builtin "object.__class__") = some true) (hmr11 : PySem.W.mroIn K C11 (.type "object") = some true) (kt11 : PySem.W.subIn K (.ref C11) (.type "tuple") = some false)
    {f12 : Addr} {od12 an12 : Option Addr} {sl12 : Array (Option Value)} {oc12 kV12 dc12 pm12 cd12 ct12 : Value}
    (a12 : PySem.W.nsIn K mainGlobals "is_sums" = some (some (.ref f12))) (l12 : K.lookup f12 = some ⟨oc12, od12, .func (PySem.W.fnOf "is_sums" "is_sums" (defArgs s_is_sums) (defBody s_is_sums) (defScope s_is_sums) .none kV12 dc12 pm12 an12 cd12 ct12), sl12⟩)
    (c12 : PySem.W.codeIn K cd12 "is_sums" = true) (k12 : PySem.W.keepIn K (.ref f12) = true)
    {f13 : Addr} {od13 an13 : Option Addr} {sl13 : Array (Option Value)} {oc13 kV13 dc13 pm13 cd13 ct13 : Value}
    (a13 : PySem.W.nsIn K mainGlobals "check_sums" = some (some (.ref f13))) (l13 : K.lookup f13 = some ⟨oc13, od13, .func (PySem.W.fnOf "check_sums" "check_sums" (defArgs s_check_sums) (defBody s_check_sums) (defScope s_check_sums) .none kV13 dc13 pm13 an13 cd13 ct13), sl13⟩)
    (c13 : PySem.W.codeIn K cd13 "check_sums" = true) (k13 : PySem.W.keepIn K (.ref f13) = true)
    {f14 C14 : Addr} {od14 an14 : Option Addr} {sl14 : Array (Option Value)} {oc14 kV14 dc14 pm14 cd14 ct14 : Value}
    (aC14 : PySem.W.nsIn K mainGlobals "Sums" = some (some (.ref C14))) (a14 : PySem.W.findIn K (.ref C14) "__init__" = some (some (.ref f14))) (i14 : PySem.W.isFn K (.ref f14) = true)
    (l14 : K.lookup f14 = some ⟨oc14, od14, .func (PySem.W.fnOf "__init__" "Sums.__init__" (defArgs s_Sums__init__) (defBody s_Sums__init__) (defScope s_Sums__init__) .none kV14 dc14 pm14 an14 cd14 ct14), sl14⟩)
    (c14 : PySem.W.codeIn K cd14 "Sums.__init__" = true) (k14 : PySem.W.keepIn K (.ref f14) = true)
    (pg14 : PySem.W.plainGet K C14 Str.empty = true) (hd14 : PySem.W.hasDictIn K C14 = true) (po14 : PySem.W.plainOver K C14 = true) (sa14 : PySem.W.findIn K (.ref C14) "__setattr__" = some (some (.builtin "object.__setattr__"))) (mk14 : PySem.W.makesIn K C14 = true) (kc14 : PySem.W.keepIn K (.ref C14) = true) (nA14 : PySem.W.findIn K (.ref C14) "_numbers" = some none)
    (ha14 : PySem.W.findIn K (.ref C14) "__class__" = some (some (.builtin "object.__class__"))) (hn14 : PySem.W.specialIn K (.builtin "object.__class__") "__get__" = some (some (.builtin "getset_descriptor.__get__"))) (htk14 : PySem.W.takesIn K (.builtin "object.__class__") = some true) (hmr14 : PySem.W.mroIn K C14 (.type "object") = some true) (kt14 : PySem.W.subIn K (.ref C14) (.type "tuple") = some false)
    {f15 : Addr} {od15 an15 : Option Addr} {sl15 : Array (Option Value)} {oc15 kV15 dc15 pm15 cd15 ct15 : Value}
    (a15 : PySem.W.nsIn K mainGlobals "_law_number" = some (some (.ref f15))) (l15 : K.lookup f15 = some ⟨oc15, od15, .func (PySem.W.fnOf "_law_number" "_law_number" (defArgs s__law_number) (defBody s__law_number) (defScope s__law_number) .none kV15 dc15 pm15 an15 cd15 ct15), sl15⟩)
    (c15 : PySem.W.codeIn K cd15 "_law_number" = true) (k15 : PySem.W.keepIn K (.ref f15) = true)
    {f16 : Addr} {od16 an16 : Option Addr} {sl16 : Array (Option Value)} {oc16 kV16 dc16 pm16 cd16 ct16 : Value}
    (a16 : PySem.W.nsIn K mainGlobals "_law_judge" = some (some (.ref f16))) (l16 : K.lookup f16 = some ⟨oc16, od16, .func (PySem.W.fnOf "_law_judge" "_law_judge" (defArgs s__law_judge) (defBody s__law_judge) (defScope s__law_judge) .none kV16 dc16 pm16 an16 cd16 ct16), sl16⟩)
    (c16 : PySem.W.codeIn K cd16 "_law_judge" = true) (k16 : PySem.W.keepIn K (.ref f16) = true)
    {f17 : Addr} {od17 an17 : Option Addr} {sl17 : Array (Option Value)} {oc17 kV17 dc17 pm17 cd17 ct17 : Value}
    (a17 : PySem.W.nsIn K mainGlobals "law" = some (some (.ref f17))) (l17 : K.lookup f17 = some ⟨oc17, od17, .func (PySem.W.fnOf "law" "law" (defArgs s_law) (defBody s_law) (defScope s_law) .none kV17 dc17 pm17 an17 cd17 ct17), sl17⟩)
    (c17 : PySem.W.codeIn K cd17 "law" = true) (k17 : PySem.W.keepIn K (.ref f17) = true)
    (z_abs : PySem.W.nsIn K mainGlobals "abs" = some none)
    (z_all : PySem.W.nsIn K mainGlobals "all" = some none)
    (z_bool : PySem.W.nsIn K mainGlobals "bool" = some none)
    (z_int : PySem.W.nsIn K mainGlobals "int" = some none)
    (z_isinstance : PySem.W.nsIn K mainGlobals "isinstance" = some none)
    (z_len : PySem.W.nsIn K mainGlobals "len" = some none)
    (z_list : PySem.W.nsIn K mainGlobals "list" = some none)
    (z_max : PySem.W.nsIn K mainGlobals "max" = some none)
    (z_min : PySem.W.nsIn K mainGlobals "min" = some none)
    (z_range : PySem.W.nsIn K mainGlobals "range" = some none)
    (z_sorted : PySem.W.nsIn K mainGlobals "sorted" = some none)
    (z_tuple : PySem.W.nsIn K mainGlobals "tuple" = some none)
    (z_zip : PySem.W.nsIn K mainGlobals "zip" = some none) :
    ∃ fd : FuncData, (∀ (s : Shared) (v : Value), BindsTo s fd ⟨[v], []⟩ [("script", v)]) ∧ ∀ base : Heap, K.In base → base.Ns mainGlobals mg → FnOk l.prog w K mg base CX0 7 fa fd P_law (spLaw K) := by
  have e := hfa.symm.trans (PySem.W.mg_of X G a17)
  cases e
  exact ⟨_, fun s v => .of_eq rfl, fun base _ _ => ok_law (T := {
    a__law_jar := f0, fd__law_jar := _, F__law_jar := fun_mk (st := s__law_jar) l0 c0 k0, b__law_jar := (fun_mk (st := s__law_jar) l0 c0 k0).binds (ps := P__law_jar) fun _ _ _ _ _ _ us hl => match us, hl with | [_, _], _ => rfl, m__law_jar := PySem.W.mg_of X G a0,
    a__law_gather := f1, fd__law_gather := _, F__law_gather := fun_mk (st := s__law_gather) l1 c1 k1, b__law_gather := (fun_mk (st := s__law_gather) l1 c1 k1).binds (ps := P__law_gather) fun _ _ _ _ _ _ us hl => match us, hl with | [_], _ => rfl, m__law_gather := PySem.W.mg_of X G a1,
    a__law_pick := f2, fd__law_pick := _, F__law_pick := fun_mk (st := s__law_pick) l2 c2 k2, b__law_pick := (fun_mk (st := s__law_pick) l2 c2 k2).binds (ps := P__law_pick) fun _ _ _ _ _ _ us hl => match us, hl with | [_, _], _ => rfl, m__law_pick := PySem.W.mg_of X G a2,
    a__law_amount := f3, fd__law_amount := _, F__law_amount := fun_mk (st := s__law_amount) l3 c3 k3, b__law_amount := (fun_mk (st := s__law_amount) l3 c3 k3).binds (ps := P__law_amount) fun _ _ _ _ _ _ us hl => match us, hl with | [_, _], _ => rfl, m__law_amount := PySem.W.mg_of X G a3,
    a__law_book := f4, fd__law_book := _, F__law_book := fun_mk (st := s__law_book) l4 c4 k4, b__law_book := (fun_mk (st := s__law_book) l4 c4 k4).binds (ps := P__law_book) fun _ _ _ _ _ _ us hl => match us, hl with | [_, _, _, _], _ => rfl, m__law_book := PySem.W.mg_of X G a4,
    a_is_an_integer := f5, fd_is_an_integer := _, F_is_an_integer := fun_mk (st := s_is_an_integer) l5 c5 k5, b_is_an_integer := (fun_mk (st := s_is_an_integer) l5 c5 k5).binds (ps := P_is_an_integer) fun _ _ _ _ _ _ us hl => match us, hl with | [_], _ => rfl, m_is_an_integer := PySem.W.mg_of X G a5,
    a_is_change := f6, fd_is_change := _, F_is_change := fun_mk (st := s_is_change) l6 c6 k6, b_is_change := (fun_mk (st := s_is_change) l6 c6 k6).binds (ps := P_is_change) fun _ _ _ _ _ _ us hl => match us, hl with | [_], _ => rfl, m_is_change := PySem.W.mg_of X G a6,
    a_is_ledger := f7, fd_is_ledger := _, F_is_ledger := fun_mk (st := s_is_ledger) l7 c7 k7, b_is_ledger := (fun_mk (st := s_is_ledger) l7 c7 k7).binds (ps := P_is_ledger) fun _ _ _ _ _ _ us hl => match us, hl with | [_], _ => rfl, m_is_ledger := PySem.W.mg_of X G a7,
    a__law_same := f8, fd__law_same := _, F__law_same := fun_mk (st := s__law_same) l8 c8 k8, b__law_same := (fun_mk (st := s__law_same) l8 c8 k8).binds (ps := P__law_same) fun _ _ _ _ _ _ us hl => match us, hl with | [_, _], _ => rfl, m__law_same := PySem.W.mg_of X G a8,
    a__law_bent := f9, fd__law_bent := _, F__law_bent := fun_mk (st := s__law_bent) l9 c9 k9, b__law_bent := (fun_mk (st := s__law_bent) l9 c9 k9).binds (ps := P__law_bent) fun _ _ _ _ _ _ us hl => match us, hl with | [_, _], _ => rfl, m__law_bent := PySem.W.mg_of X G a9,
    a_check_ledger := f10, fd_check_ledger := _, F_check_ledger := fun_mk (st := s_check_ledger) l10 c10 k10, b_check_ledger := (fun_mk (st := s_check_ledger) l10 c10 k10).binds (ps := P_check_ledger) fun _ _ _ _ _ _ us hl => match us, hl with | [_], _ => rfl, m_check_ledger := PySem.W.mg_of X G a10,
    a_Ledger__init__ := f11, fd_Ledger__init__ := _, F_Ledger__init__ := funV_mk (st := s_Ledger__init__) l11 c11 k11, b_Ledger__init__ := binds_d1 (st := s_Ledger__init__) (ps := P_Ledger__init__) lt11 rfl fun us hl => match us, hl with | [_, _], _ => ⟨_, rfl, rfl⟩,
    C_Ledger := C11, M_Ledger := ⟨mk11, a11, i11, kc11⟩, m_Ledger := PySem.W.mg_of X G aC11, cl_Ledger := ⟨pg11, hd11, po11, sa11⟩, n_Ledger := nA11, I_Ledger := ⟨ha11, hn11, htk11, hmr11, kit_no kt11⟩,
    a_is_sums := f12, fd_is_sums := _, F_is_sums := fun_mk (st := s_is_sums) l12 c12 k12, b_is_sums := (fun_mk (st := s_is_sums) l12 c12 k12).binds (ps := P_is_sums) fun _ _ _ _ _ _ us hl => match us, hl with | [_], _ => rfl, m_is_sums := PySem.W.mg_of X G a12,
    a_check_sums := f13, fd_check_sums := _, F_check_sums := fun_mk (st := s_check_sums) l13 c13 k13, b_check_sums := (fun_mk (st := s_check_sums) l13 c13 k13).binds (ps := P_check_sums) fun _ _ _ _ _ _ us hl => match us, hl with | [_], _ => rfl, m_check_sums := PySem.W.mg_of X G a13,
    a_Sums__init__ := f14, fd_Sums__init__ := _, F_Sums__init__ := funV_mk (st := s_Sums__init__) l14 c14 k14, b_Sums__init__ := (fun_mk (st := s_Sums__init__) l14 c14 k14).binds (ps := P_Sums__init__) fun _ _ _ _ _ _ us hl => match us, hl with | [_, _], _ => rfl,
    C_Sums := C14, M_Sums := ⟨mk14, a14, i14, kc14⟩, m_Sums := PySem.W.mg_of X G aC14, cl_Sums := ⟨pg14, hd14, po14, sa14⟩, n_Sums := nA14, I_Sums := ⟨ha14, hn14, htk14, hmr14, kit_no kt14⟩,
    a__law_number := f15, fd__law_number := _, F__law_number := fun_mk (st := s__law_number) l15 c15 k15, b__law_number := (fun_mk (st := s__law_number) l15 c15 k15).binds (ps := P__law_number) fun _ _ _ _ _ _ us hl => match us, hl with | [_], _ => rfl, m__law_number := PySem.W.mg_of X G a15,
    a__law_judge := f16, fd__law_judge := _, F__law_judge := fun_mk (st := s__law_judge) l16 c16 k16, b__law_judge := (fun_mk (st := s__law_judge) l16 c16 k16).binds (ps := P__law_judge) fun _ _ _ _ _ _ us hl => match us, hl with | [_], _ => rfl, m__law_judge := PySem.W.mg_of X G a16,
    a_law := fa, fd_law := _, F_law := fun_mk (st := s_law) l17 c17 k17, b_law := (fun_mk (st := s_law) l17 c17 k17).binds (ps := P_law) fun _ _ _ _ _ _ us hl => match us, hl with | [_], _ => rfl, m_law := PySem.W.mg_of X G a17,
    z_abs := PySem.W.mg_none_of X G z_abs,
    z_all := PySem.W.mg_none_of X G z_all,
    z_bool := PySem.W.mg_none_of X G z_bool,
    z_int := PySem.W.mg_none_of X G z_int,
    z_isinstance := PySem.W.mg_none_of X G z_isinstance,
    z_len := PySem.W.mg_none_of X G z_len,
    z_list := PySem.W.mg_none_of X G z_list,
    z_max := PySem.W.mg_none_of X G z_max,
    z_min := PySem.W.mg_none_of X G z_min,
    z_range := PySem.W.mg_none_of X G z_range,
    z_sorted := PySem.W.mg_none_of X G z_sorted,
    z_tuple := PySem.W.mg_none_of X G z_tuple,
    z_zip := PySem.W.mg_none_of X G z_zip })⟩
end Lw
open PySem PySem.W PyProof.Rows
set_option maxHeartbeats 0 in
theorem PySem.Challenge.cw_changesums_k01_ledgers_judged_holds : PySem.Challenge.rw_changesums_k01_ledgers_judged.Holds := by
  w_on; o_law; k_head; (case hw => w_witness2)
  k_fill
  refine L2.walk_of (l := PySem.Challenge.rw_changesums_k01_ledgers_judged) (n := 63) (k := 7) (x := "script") (CX := fun _ => L2.CX0) (sp := fun w => Cr.spLaw _) rfl (by decide) rfl ⟨rfl, by decide, by decide⟩ (fun w h Y => PySem.W.kIn_of Y) ?F (fun _ _ a ns hl _ hS => ⟨a, ns, rfl, hS, hl, fun _ => rfl⟩) (fun _ _ _ _ _ h => h)
  case F =>
    intro w mg fa h KX G hmg
    refine' Lw.all_mk KX G hmg ?a0 ?l0 ?c0 ?k0 ?a1 ?l1 ?c1 ?k1 ?a2 ?l2 ?c2 ?k2 ?a3 ?l3 ?c3 ?k3 ?a4 ?l4 ?c4 ?k4 ?a5 ?l5 ?c5 ?k5 ?a6 ?l6 ?c6 ?k6 ?a7 ?l7 ?c7 ?k7 ?a8 ?l8 ?c8 ?k8 ?a9 ?l9 ?c9 ?k9 ?a10 ?l10 ?c10 ?k10 ?aC11 ?a11 ?i11 ?l11 ?lt11 ?c11 ?k11 ?pg11 ?hd11 ?po11 ?sa11 ?mk11 ?kc11 ?nA11 ?ha11 ?hn11 ?htk11 ?hmr11 ?kt11 ?a12 ?l12 ?c12 ?k12 ?a13 ?l13 ?c13 ?k13 ?aC14 ?a14 ?i14 ?l14 ?c14 ?k14 ?pg14 ?hd14 ?po14 ?sa14 ?mk14 ?kc14 ?nA14 ?ha14 ?hn14 ?htk14 ?hmr14 ?kt14 ?a15 ?l15 ?c15 ?k15 ?a16 ?l16 ?c16 ?k16 ?a17 ?l17 ?c17 ?k17 ?z_abs ?z_all ?z_bool ?z_int ?z_isinstance ?z_len ?z_list ?z_max ?z_min ?z_range ?z_sorted ?z_tuple ?z_zip
    (case a0 => k_is); (case l0 => k_is); (case c0 => k_is); (case k0 => k_is); (case a1 => k_is); (case l1 => k_is); (case c1 => k_is); (case k1 => k_is); (case a2 => k_is); (case l2 => k_is); (case c2 => k_is); (case k2 => k_is); (case a3 => k_is); (case l3 => k_is); (case c3 => k_is); (case k3 => k_is); (case a4 => k_is); (case l4 => k_is); (case c4 => k_is); (case k4 => k_is); (case a5 => k_is); (case l5 => k_is); (case c5 => k_is); (case k5 => k_is); (case a6 => k_is); (case l6 => k_is); (case c6 => k_is); (case k6 => k_is); (case a7 => k_is); (case l7 => k_is); (case c7 => k_is); (case k7 => k_is); (case a8 => k_is); (case l8 => k_is); (case c8 => k_is); (case k8 => k_is); (case a9 => k_is); (case l9 => k_is); (case c9 => k_is); (case k9 => k_is); (case a10 => k_is); (case l10 => k_is); (case c10 => k_is); (case k10 => k_is); (case aC11 => k_is); (case a11 => k_is); (case i11 => k_is); (case l11 => k_is); (case lt11 => k_is); (case c11 => k_is); (case k11 => k_is); (case pg11 => k_is); (case hd11 => k_is); (case po11 => k_is); (case sa11 => k_is); (case mk11 => k_is); (case kc11 => k_is); (case nA11 => k_is); (case ha11 => k_is); (case hn11 => k_is); (case htk11 => k_is); (case hmr11 => k_is); (case kt11 => k_is); (case a12 => k_is); (case l12 => k_is); (case c12 => k_is); (case k12 => k_is); (case a13 => k_is); (case l13 => k_is); (case c13 => k_is); (case k13 => k_is); (case aC14 => k_is); (case a14 => k_is); (case i14 => k_is); (case l14 => k_is); (case c14 => k_is); (case k14 => k_is); (case pg14 => k_is); (case hd14 => k_is); (case po14 => k_is); (case sa14 => k_is); (case mk14 => k_is); (case kc14 => k_is); (case nA14 => k_is); (case ha14 => k_is); (case hn14 => k_is); (case htk14 => k_is); (case hmr14 => k_is); (case kt14 => k_is); (case a15 => k_is); (case l15 => k_is); (case c15 => k_is); (case k15 => k_is); (case a16 => k_is); (case l16 => k_is); (case c16 => k_is); (case k16 => k_is); (case a17 => k_is); (case l17 => k_is); (case c17 => k_is); (case k17 => k_is); (case z_abs => k_is); (case z_all => k_is); (case z_bool => k_is); (case z_int => k_is); (case z_isinstance => k_is); (case z_len => k_is); (case z_list => k_is); (case z_max => k_is); (case z_min => k_is); (case z_range => k_is); (case z_sorted => k_is); (case z_tuple => k_is); (case z_zip => k_is)