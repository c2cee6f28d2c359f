import PyProof.Rows.All
import Wide.All
import OpenK.AllK
import Wide.FinOn
import HandS.ForMost
import HandS.Exc
import HandS.ExcOwn
import HandS.WordsExc
import HandS.CallSlots
import HandS.IsInst
import HandS.FStr
import HandS.Flow
import HandS.TupAny
import HandS.ExcInit
import KE.KExcSuper
import KE.KExcIs
import KE.KIsAll
import HandS.Iter
import HandS.Text
import HandS.Small
import HandS.SlotsOwn
import PyProof.InstEq
import KE.GoesEnum
import HandS.Star
import HandS.Style
import KE.KRevSl
import HandS.Defaults
import HandS.MakeKwOnly
import PySem.Challenge.RW_laterways_k09_whole_ways_by_slots
set_option Elab.async false
set_option linter.all false
set_option maxRecDepth 100000
set_option maxHeartbeats 4000000
namespace ML
open PySem L2

/-! ### values without addresses, a heap without addresses -/
inductive U where
  | non | bl (b : Bool) | int (i : Int) | str (x : Str) | tup (ws : List U) | ref (i : Nat)

inductive Cell where
  | lst (ws : List U)
  | frz (ws : List U)
  | ins (c : Nat) (fs : List (Str × U))
  | exc (c : Nat) (fs : List (Str × U))
def Cell.live : Cell → Bool
  | .frz _ => false
  | .exc _ _ => false
  | _ => true
abbrev Hm := List Cell
inductive Rz (α : Type) where
  | ok (a : α) (h : Hm)
  | ex (c : Nat) (fs : List (Str × U)) (h : Hm)
abbrev Ev := List (Option U)
/-- an expression, a test, arguments -/
abbrev ME := Ev → Hm → Option (Rz U)
abbrev MT := Ev → Hm → Option (Rz Bool)
abbrev MA := Ev → Hm → Option (Rz (List U))
/-- a def -/
abbrev MF := List U → Hm → Option (Rz U)

/-- sequence -/
def bnd {α β : Type} (x : Option (Rz α)) (k : α → Hm → Option (Rz β)) : Option (Rz β) :=
  match x with
  | some (.ok a h) => k a h
  | some (.ex c fs h) => some (.ex c fs h)
  | none => none
@[simp] theorem bnd_ok {α β : Type} (a : α) (h : Hm) (k : α → Hm → Option (Rz β)) : bnd (some (.ok a h)) k = k a h := rfl
@[simp] theorem bnd_ex {α β : Type} (c fs h) (k : α → Hm → Option (Rz β)) : bnd (some (.ex c fs h)) k = some (.ex c fs h) := rfl
@[simp] theorem bnd_none {α β : Type} (k : α → Hm → Option (Rz β)) : bnd none k = none := rfl

/-! ### what a value of the one is in the other -/
structure Gm where
  K : PySem.W.Frag
  ca : Nat → Addr

mutual
def RU (K : PySem.W.Frag) (μ : Nat → Addr) (n : Nat) (H : Hp) : U → V → Prop
  | .non, v => v = .non
  | .bl b, v => v = .bl b
  | .int i, v => v = .int i
  | .str x, v => v = .str x
  | .ref i, v => i < n ∧ v = .ref (μ i)
  | .tup ws, v => ∃ a xs, v = .ref a ∧ SqT K H a xs ∧ RUs K μ n H ws xs
def RUs (K : PySem.W.Frag) (μ : Nat → Addr) (n : Nat) (H : Hp) : List U → List V → Prop
  | [], xs => xs = []
  | w :: ws, xs => ∃ y ys, xs = y :: ys ∧ RU K μ n H w y ∧ RUs K μ n H ws ys
end

def RFs (K : PySem.W.Frag) (μ : Nat → Addr) (n : Nat) (H : Hp) : List (Str × U) → List (Str × V) → Prop
  | [], gs => gs = []
  | (f, w) :: fs, gs => ∃ y ys, gs = (f, y) :: ys ∧ RU K μ n H w y ∧ RFs K μ n H fs ys

/-- tuples stay -/
def TS0 (K : PySem.W.Frag) (H H' : Hp) : Prop := ∀ a xs, SqT K H a xs → SqT K H' a xs
theorem TS0.refl (K : PySem.W.Frag) (H : Hp) : TS0 K H H := fun _ _ h => h
theorem TS0.trans {K : PySem.W.Frag} {H H1 H2 : Hp} (a : TS0 K H H1) (b : TS0 K H1 H2) : TS0 K H H2 := fun x y h => b x y (a x y h)

mutual
theorem RU.mono {K : PySem.W.Frag} {μ μ' : Nat → Addr} {n n' : Nat} {H H' : Hp} (hm : ∀ i, i < n → μ' i = μ i) (hn : n ≤ n') (ht : TS0 K H H') : ∀ (w : U) (v : V), RU K μ n H w v → RU K μ' n' H' w v
  | .non, v, h => by simpa [RU] using h
  | .bl b, v, h => by simpa [RU] using h
  | .int i, v, h => by simpa [RU] using h
  | .str x, v, h => by simpa [RU] using h
  | .ref i, v, h => by
    simp only [RU] at h ⊢
    exact ⟨Nat.lt_of_lt_of_le h.1 hn, by rw [hm i h.1]; exact h.2⟩
  | .tup ws, v, h => by
    simp only [RU] at h ⊢
    obtain ⟨a, xs, e, s, r⟩ := h
    exact ⟨a, xs, e, ht a xs s, RUs.mono hm hn ht ws xs r⟩
theorem RUs.mono {K : PySem.W.Frag} {μ μ' : Nat → Addr} {n n' : Nat} {H H' : Hp} (hm : ∀ i, i < n → μ' i = μ i) (hn : n ≤ n') (ht : TS0 K H H') : ∀ (ws : List U) (xs : List V), RUs K μ n H ws xs → RUs K μ' n' H' ws xs
  | [], xs, h => by simpa [RUs] using h
  | w :: ws, xs, h => by
    simp only [RUs] at h ⊢
    obtain ⟨y, ys, e, r, rs⟩ := h
    exact ⟨y, ys, e, RU.mono hm hn ht w y r, RUs.mono hm hn ht ws ys rs⟩
end
theorem RFs.mono {K : PySem.W.Frag} {μ μ' : Nat → Addr} {n n' : Nat} {H H' : Hp} (hm : ∀ i, i < n → μ' i = μ i) (hn : n ≤ n') (ht : TS0 K H H') : ∀ (fs : List (Str × U)) (gs : List (Str × V)), RFs K μ n H fs gs → RFs K μ' n' H' fs gs
  | [], gs, h => by simpa [RFs] using h
  | (f, w) :: fs, gs, h => by
    simp only [RFs] at h ⊢
    obtain ⟨y, ys, e, r, rs⟩ := h
    exact ⟨y, ys, e, r.mono hm hn ht, RFs.mono hm hn ht fs ys rs⟩

theorem RUs.length {K : PySem.W.Frag} {μ : Nat → Addr} {n : Nat} {H : Hp} : ∀ {ws : List U} {xs : List V}, RUs K μ n H ws xs → xs.length = ws.length
  | [], xs, h => by simp only [RUs] at h; subst h; rfl
  | w :: ws, xs, h => by
    simp only [RUs] at h
    obtain ⟨y, ys, rfl, _, rs⟩ := h
    simp [RUs.length rs]
theorem RUs.get {K : PySem.W.Frag} {μ : Nat → Addr} {n : Nat} {H : Hp} : ∀ {ws : List U} {xs : List V} {i : Nat} {w : U}, RUs K μ n H ws xs → ws[i]? = some w → ∃ v, xs[i]? = some v ∧ RU K μ n H w v
  | [], xs, i, w, _, e => by simp at e
  | u :: ws, xs, 0, w, h, e => by
    simp only [RUs] at h
    obtain ⟨y, ys, rfl, r, _⟩ := h
    simp at e
    subst e
    exact ⟨y, rfl, r⟩
  | u :: ws, xs, i + 1, w, h, e => by
    simp only [RUs] at h
    obtain ⟨y, ys, rfl, _, rs⟩ := h
    obtain ⟨v, e1, r⟩ := RUs.get (i := i) rs (by simpa using e)
    exact ⟨v, by simpa using e1, r⟩
theorem RUs.append {K : PySem.W.Frag} {μ : Nat → Addr} {n : Nat} {H : Hp} : ∀ {ws us : List U} {xs ys : List V}, RUs K μ n H ws xs → RUs K μ n H us ys → RUs K μ n H (ws ++ us) (xs ++ ys)
  | [], us, xs, ys, h, q => by simp only [RUs] at h; subst h; exact q
  | w :: ws, us, xs, ys, h, q => by
    simp only [RUs] at h
    obtain ⟨y, zs, rfl, r, rs⟩ := h
    show RUs K μ n H (w :: (ws ++ us)) (y :: (zs ++ ys))
    simp only [RUs]
    exact ⟨y, _, rfl, r, rs.append q⟩
theorem RUs.cons {K : PySem.W.Frag} {μ : Nat → Addr} {n : Nat} {H : Hp} {w : U} {v : V} {ws : List U} {xs : List V} (r : RU K μ n H w v) (rs : RUs K μ n H ws xs) : RUs K μ n H (w :: ws) (v :: xs) := by
  simp only [RUs]
  exact ⟨v, xs, rfl, r, rs⟩
theorem RUs.nil {K : PySem.W.Frag} {μ : Nat → Addr} {n : Nat} {H : Hp} : RUs K μ n H [] [] := by simp only [RUs]
theorem RUs.set {K : PySem.W.Frag} {μ : Nat → Addr} {n : Nat} {H : Hp} {w : U} {v : V} (r : RU K μ n H w v) : ∀ {ws : List U} {xs : List V} (i : Nat), RUs K μ n H ws xs → RUs K μ n H (ws.set i w) (xs.set i v)
  | [], xs, i, h => by simp only [RUs] at h; subst h; simp [RUs]
  | u :: ws, xs, 0, h => by
    simp only [RUs] at h
    obtain ⟨y, ys, rfl, _, rs⟩ := h
    exact RUs.cons r rs
  | u :: ws, xs, i + 1, h => by
    simp only [RUs] at h
    obtain ⟨y, ys, rfl, q, rs⟩ := h
    exact RUs.cons q (RUs.set r i rs)
theorem RUs.take {K : PySem.W.Frag} {μ : Nat → Addr} {n : Nat} {H : Hp} : ∀ {ws : List U} {xs : List V} (i : Nat), RUs K μ n H ws xs → RUs K μ n H (ws.take i) (xs.take i)
  | ws, xs, 0, h => by simp [RUs]
  | [], xs, i + 1, h => by simp only [RUs] at h; subst h; simp [RUs]
  | u :: ws, xs, i + 1, h => by
    simp only [RUs] at h
    obtain ⟨y, ys, rfl, q, rs⟩ := h
    exact RUs.cons q (RUs.take i rs)
theorem RUs.drop {K : PySem.W.Frag} {μ : Nat → Addr} {n : Nat} {H : Hp} : ∀ {ws : List U} {xs : List V} (i : Nat), RUs K μ n H ws xs → RUs K μ n H (ws.drop i) (xs.drop i)
  | ws, xs, 0, h => h
  | [], xs, i + 1, h => by simp only [RUs] at h; subst h; simp [RUs]
  | u :: ws, xs, i + 1, h => by
    simp only [RUs] at h
    obtain ⟨y, ys, rfl, q, rs⟩ := h
    exact RUs.drop i rs

/-! ### cells -/
/-- a list that is read only -/
def SqF (K : PySem.W.Frag) (H : Hp) (a : Addr) (xs : List V) : Prop :=
  (∃ o, H a = some (.frz o (.lst xs))) ∨
    ∃ (o : Obj) (its : Array Value) (n : Nat), K.lookup a = some o ∧ o.cls = .type "list" ∧ o.dict = none ∧ o.data = .seq its n ∧ its.size ≤ sizeLine ∧ Vals xs its.toList
theorem SqF.sql {K : PySem.W.Frag} {H : Hp} {a : Addr} {xs : List V} (h : SqF K H a xs) : SqL K H a xs := by
  rcases h with ⟨o, h⟩ | h
  · exact .inl (.inr ⟨o, h⟩)
  · exact .inr h
/-- an exception object of the class cls at a, its own dict d -/
def ExV (cls : Value) (d : Option Addr) (a : Addr) : HO := .ext fun h => ∃ (oe : Obj) (vs : Array Value), h.get? a = some oe ∧ Zc cls d oe ∧ oe.data = .fields vs
/-- what is known of an exception's fields -/
def RX (K : PySem.W.Frag) (μ : Nat → Addr) (n : Nat) (H : Hp) (ca : Nat → Addr) (c : Nat) (fs : List (Str × U)) (cls : Value) (d : Option Addr) : Prop :=
  cls = .ref (ca c) ∧ ((fs = [] ∧ d = none) ∨ ∃ dd gs, d = some dd ∧ H dd = some (.xd gs) ∧ RFs K μ n H fs gs)
def RCell (G : Gm) (μ : Nat → Addr) (n : Nat) (H : Hp) (a : Addr) : Cell → Prop
  | .lst ws => ∃ xs, H a = some (.lst xs) ∧ RUs G.K μ n H ws xs
  | .frz ws => ∃ xs, SqF G.K H a xs ∧ RUs G.K μ n H ws xs
  | .ins c fs => ∃ dx gs, H a = some (.ins (G.ca c) dx gs) ∧ RFs G.K μ n H fs gs
  | .exc c fs => ∃ cls d, H a = some (ExV cls d a) ∧ RX G.K μ n H G.ca c fs cls d
structure HRel (G : Gm) (μ : Nat → Addr) (h : Hm) (H : Hp) : Prop where
  cell : ∀ (i : Nat) (c : Cell), h[i]? = some c → RCell G μ h.length H (μ i) c
  inj : ∀ (i j : Nat) (c d : Cell), h[i]? = some c → h[j]? = some d → c.live = true → d.live = true → μ i = μ j → i = j
/-- one step on: more cells, what was known of tuples is known -/
structure Gr (G : Gm) (μ : Nat → Addr) (h : Hm) (H : Hp) (μ' : Nat → Addr) (h' : Hm) (H' : Hp) : Prop where
  len : h.length ≤ h'.length
  mu : ∀ i, i < h.length → μ' i = μ i
  tup : TS0 G.K H H'
  rel : HRel G μ' h' H'
section
variable {G : Gm} {μ μ' μ1 μ2 : Nat → Addr} {h h' h1 h2 : Hm} {H H' H1 H2 : Hp}
theorem Gr.refl (r : HRel G μ h H) : Gr G μ h H μ h H := ⟨Nat.le_refl _, fun _ _ => rfl, TS0.refl _ _, r⟩
theorem Gr.trans (a : Gr G μ h H μ1 h1 H1) (b : Gr G μ1 h1 H1 μ2 h2 H2) : Gr G μ h H μ2 h2 H2 :=
  ⟨Nat.le_trans a.len b.len, fun i hi => (b.mu i (Nat.lt_of_lt_of_le hi a.len)).trans (a.mu i hi), a.tup.trans b.tup, b.rel⟩
theorem Gr.ru (g : Gr G μ h H μ' h' H') {w : U} {v : V} (r : RU G.K μ h.length H w v) : RU G.K μ' h'.length H' w v := RU.mono g.mu g.len g.tup w v r
theorem Gr.rus (g : Gr G μ h H μ' h' H') {ws : List U} {vs : List V} (r : RUs G.K μ h.length H ws vs) : RUs G.K μ' h'.length H' ws vs := RUs.mono g.mu g.len g.tup ws vs r
theorem Gr.rfs (g : Gr G μ h H μ' h' H') {ws : List (Str × U)} {vs : List (Str × V)} (r : RFs G.K μ h.length H ws vs) : RFs G.K μ' h'.length H' ws vs := RFs.mono g.mu g.len g.tup ws vs r
end

/-- behind a computation: whatever heap stands behind it -/
def Post {α : Type} (G : Gm) (P : (Nat → Addr) → Hm → Hp → α → Prop) (E : XK) (μ : Nat → Addr) (h : Hm) (H : Hp) (r : Option (Rz α)) : Prop :=
  match r with
  | some (.ok a h') => ∀ μ' H', Gr G μ h H μ' h' H' → P μ' h' H' a
  | some (.ex c fs h') => ∀ μ' H' cls d, Gr G μ h H μ' h' H' → RX G.K μ' h'.length H' G.ca c fs cls d → E cls d H'
  | none => False
section
variable {α β : Type} {G : Gm} {P P' : (Nat → Addr) → Hm → Hp → α → Prop} {R : (Nat → Addr) → Hm → Hp → β → Prop} {E : XK} {μ : Nat → Addr} {h : Hm} {H : Hp}
theorem Post.mono {r : Option (Rz α)} (p : Post G P E μ h H r) (k : ∀ μ' h' H' a, Gr G μ h H μ' h' H' → P μ' h' H' a → P' μ' h' H' a) : Post G P' E μ h H r := by
  cases r with
  | none => exact p
  | some r =>
    cases r with
    | ok a h' => exact fun μ' H' g => k μ' h' H' a g (p μ' H' g)
    | ex c fs h' => exact p
theorem Post.bnd {x : Option (Rz α)} {k : α → Hm → Option (Rz β)} (p : Post G R E μ h H (bnd x k)) : Post G (fun μ1 h1 H1 a => Post G R E μ1 h1 H1 (k a h1)) E μ h H x := by
  cases x with
  | none => exact p
  | some r =>
    cases r with
    | ex c fs h' => exact p
    | ok a h1 =>
      intro μ1 H1 g1
      have p : Post G R E μ h H (k a h1) := p
      show Post G R E μ1 h1 H1 (k a h1)
      cases e : k a h1 with
      | none => rw [e] at p; exact p
      | some r =>
        rw [e] at p
        cases r with
        | ok b h2 => exact fun μ2 H2 g2 => p μ2 H2 (g1.trans g2)
        | ex c fs h2 => exact fun μ2 H2 cls d g2 rx => p μ2 H2 cls d (g1.trans g2) rx
theorem Post.ok {a : α} (r : HRel G μ h H) (p : Post G P E μ h H (some (.ok a h))) : P μ h H a := p μ H (Gr.refl r)
end

/-- the slots -/
structure StOk (G : Gm) (μ : Nat → Addr) (ρ : Ev) (h : Hm) (σ : St) (H : Hp) : Prop where
  rel : HRel G μ h H
  len : ρ.length = σ.length
  slot : ∀ (i : Nat) (w : U), ρ[i]? = some (some w) → ∃ v, σ[i]? = some (some v) ∧ RU G.K μ h.length H w v
section
variable {G : Gm} {μ μ' : Nat → Addr} {ρ : Ev} {h h' : Hm} {σ : St} {H H' : Hp}
theorem StOk.on (s : StOk G μ ρ h σ H) (g : Gr G μ h H μ' h' H') : StOk G μ' ρ h' σ H' :=
  ⟨g.rel, s.len, fun i w e => by obtain ⟨v, e1, r⟩ := s.slot i w e; exact ⟨v, e1, g.ru r⟩⟩
theorem StOk.set {w : U} {v : V} (s : StOk G μ ρ h σ H) (i : Nat) (r : RU G.K μ h.length H w v) : StOk G μ (ρ.set i (some w)) h (σ.set i (some v)) H := by
  refine ⟨s.rel, by simp [s.len], fun j u e => ?_⟩
  by_cases hj : i = j
  · subst hj
    by_cases hlt : i < ρ.length
    · rw [List.getElem?_set_self hlt] at e
      cases e
      exact ⟨v, List.getElem?_set_self (by rw [← s.len]; exact hlt), r⟩
    · rw [List.getElem?_eq_none (by simpa using hlt)] at e
      cases e
  · rw [List.getElem?_set_ne hj] at e ⊢
    exact s.slot j u e
theorem StOk.unset (s : StOk G μ ρ h σ H) (i : Nat) : StOk G μ (ρ.set i none) h (σ.set i none) H := by
  refine ⟨s.rel, by simp [s.len], fun j u e => ?_⟩
  by_cases hj : i = j
  · subst hj
    by_cases hlt : i < ρ.length
    · rw [List.getElem?_set_self hlt] at e
      cases e
    · rw [List.getElem?_eq_none (by simpa using hlt)] at e
      cases e
  · rw [List.getElem?_set_ne hj] at e ⊢
    exact s.slot j u e
end

/-! ### the readings of the layer, by such computations -/
def tE (G : Gm) (Wx : WX) (m : ME) : TE := fun σ H Q => ∃ μ ρ h, StOk G μ ρ h σ H ∧ Post G (fun μ' h' H' w => ∀ v, RU G.K μ' h'.length H' w v → Q v H') (fun cls d H' => Wx cls d σ H') μ h H (m ρ h)
def tT (G : Gm) (Wx : WX) (m : MT) : TT := fun σ H Q => ∃ μ ρ h, StOk G μ ρ h σ H ∧ Post G (fun _ _ H' b => Q b H') (fun cls d H' => Wx cls d σ H') μ h H (m ρ h)
def tA (G : Gm) (Wx : WX) (m : MA) : TA := fun σ H Q => ∃ μ ρ h, StOk G μ ρ h σ H ∧ Post G (fun μ' h' H' ws => ∀ vs, RUs G.K μ' h'.length H' ws vs → Q vs H') (fun cls d H' => Wx cls d σ H') μ h H (m ρ h)

theorem _root_.L2.PE.weak {X : Cx} {e : Expr} {t t' : TE} (h : PE X e t) (w : ∀ σ H Q, t' σ H Q → t σ H Q) : PE X e t' := ⟨fun pins s σ H Q I q => h.run pins s σ H Q I (w σ H Q q)⟩
theorem _root_.L2.PT.weak {X : Cx} {e : Expr} {t t' : TT} (h : PT X e t) (w : ∀ σ H Q, t' σ H Q → t σ H Q) : PT X e t' := ⟨fun pins s σ H Q I q => h.run pins s σ H Q I (w σ H Q q)⟩
theorem _root_.L2.PW.weak {X : Cx} {e : Expr} {t t' : TT} (h : PW X e t) (w : ∀ σ H Q, t' σ H Q → t σ H Q) : PW X e t' := ⟨fun wh pins s σ H Q I q => h.run wh pins s σ H Q I (w σ H Q q)⟩
theorem _root_.L2.PA.weak {X : Cx} {es : List Expr} {t t' : TA} (h : PA X es t) (w : ∀ σ H Q, t' σ H Q → t σ H Q) : PA X es t' := ⟨fun pos pins s σ H Q I q => h.run pos pins s σ H Q I (w σ H Q q)⟩
theorem _root_.L2.PS.weak {X : Cx} {st : Stmt} {t t' : TS} (h : PS X st t) (w : ∀ D σ H, t' D σ H → t D σ H) : PS X st t' := ⟨fun pins s σ H D I q => h.run pins s σ H D I (w D σ H q)⟩
theorem _root_.L2.PSs.weak {X : Cx} {st : List Stmt} {t t' : TS} (h : PSs X st t) (w : ∀ D σ H, t' D σ H → t D σ H) : PSs X st t' := ⟨fun pins s σ H D I q => h.run pins s σ H D I (w D σ H q)⟩
end ML

set_option maxHeartbeats 4000000
namespace ML
open PySem L2
section
variable {G : Gm} {μ μ' : Nat → Addr} {h h' : Hm} {H H' : Hp} {p a : Addr} {o : HO} {c d : Cell} {n : Nat}

theorem RU.same {K : PySem.W.Frag} {μ : Nat → Addr} {n : Nat} {H H' : Hp} (ht : TS0 K H H') {w : U} {v : V} (r : RU K μ n H w v) : RU K μ n H' w v := RU.mono (fun _ _ => rfl) (Nat.le_refl _) ht w v r
theorem RUs.same {K : PySem.W.Frag} {μ : Nat → Addr} {n : Nat} {H H' : Hp} (ht : TS0 K H H') {w : List U} {v : List V} (r : RUs K μ n H w v) : RUs K μ n H' w v := RUs.mono (fun _ _ => rfl) (Nat.le_refl _) ht w v r

theorem TS0.fresh {K : PySem.W.Frag} (hp : H p = none) : TS0 K H (upd H p o) := fun a xs s => by
  rcases s with (s | ⟨ob, s⟩) | s
  · exact .inl (.inl (by rw [upd_ne (ne_of_none s hp)]; exact s))
  · exact .inl (.inr ⟨ob, by rw [upd_ne (ne_of_none s hp)]; exact s⟩)
  · exact .inr s
/-- what may be changed in its place: not what others lean on -/
def Wr : HO → Bool
  | .lst _ => true
  | .ins _ _ _ => true
  | .dK _ => true
  | .dT _ => true
  | _ => false
theorem TS0.write {K : PySem.W.Frag} {u : HO} (hp : H p = some u) (hu : Wr u = true) : TS0 K H (upd H p o) := fun a xs s => by
  have ne : ∀ {b w}, H b = some w → Wr w = false → b ≠ p := fun {b w} e q z => by
    subst z
    rw [hp] at e
    cases e
    rw [hu] at q
    cases q
  rcases s with (s | ⟨ob, s⟩) | s
  · exact .inl (.inl (by rw [upd_ne (ne s rfl)]; exact s))
  · exact .inl (.inr ⟨ob, by rw [upd_ne (ne s rfl)]; exact s⟩)
  · exact .inr s

/-- a cell's reading leans on these alone -/
theorem RCell.keep (r : RCell G μ n H a c) (hm : ∀ i, i < n → μ' i = μ i) (hn : n ≤ h'.length) (ht : TS0 G.K H H')
    (k : ∀ b u, (b = a ∨ Wr u = false) → H b = some u → H' b = some u) : RCell G μ' h'.length H' a c := by
  cases c with
  | lst ws => obtain ⟨xs, e, q⟩ := r; exact ⟨xs, k _ _ (.inl rfl) e, RUs.mono hm hn ht _ _ q⟩
  | frz ws =>
    obtain ⟨xs, e, q⟩ := r
    refine ⟨xs, ?_, RUs.mono hm hn ht _ _ q⟩
    rcases e with ⟨ob, e⟩ | e
    · exact .inl ⟨ob, k _ _ (.inl rfl) e⟩
    · exact .inr e
  | ins cn fs => obtain ⟨dx, gs, e, q⟩ := r; exact ⟨dx, gs, k _ _ (.inl rfl) e, RFs.mono hm hn ht _ _ q⟩
  | exc cn fs =>
    obtain ⟨cls, dd, e, q1, q2⟩ := r
    refine ⟨cls, dd, k _ _ (.inl rfl) e, q1, ?_⟩
    rcases q2 with q2 | ⟨d1, gs, e1, e2, q2⟩
    · exact .inl q2
    · exact .inr ⟨d1, gs, e1, k _ _ (.inr rfl) e2, RFs.mono hm hn ht _ _ q2⟩

def nu (μ : Nat → Addr) (n : Nat) (p : Addr) : Nat → Addr := fun i => if i = n then p else μ i
theorem nu_old {i : Nat} (hi : i < n) : nu μ n p i = μ i := if_neg (Nat.ne_of_lt hi)
theorem nu_new : nu μ n p n = p := if_pos rfl

theorem live_at (r : RCell G μ n H a c) (l : c.live = true) : ∃ u, H a = some u ∧ Wr u = true := by
  cases c with
  | lst ws => obtain ⟨xs, e, _⟩ := r; exact ⟨_, e, rfl⟩
  | frz ws => cases l
  | ins cn fs => obtain ⟨dx, gs, e, _⟩ := r; exact ⟨_, e, rfl⟩
  | exc cn fs => cases l

/-- a new object, a new cell -/
theorem Gr.new (r : HRel G μ h H) (hp : H p = none) (hc : RCell G (nu μ h.length p) (h.length + 1) (upd H p o) p c) : Gr G μ h H (nu μ h.length p) (h ++ [c]) (upd H p o) := by
  refine ⟨by simp, fun i hi => nu_old hi, TS0.fresh hp, ⟨fun i d e => ?_, fun i j c1 c2 e1 e2 l1 l2 q => ?_⟩⟩
  · by_cases hi : i < h.length
    · rw [List.getElem?_append_left hi] at e
      rw [nu_old hi]
      exact RCell.keep (r.cell i d e) (fun j hj => nu_old hj) (by simp) (TS0.fresh hp) fun b u _ z => by rw [upd_ne (ne_of_none z hp)]; exact z
    · have hi2 : i = h.length := by
        have := (List.getElem?_eq_some_iff.mp e).1
        simp at this
        omega
      subst hi2
      simp at e
      subst e
      rw [nu_new]
      simpa using hc
  · have cs : ∀ (i : Nat) (c1 : Cell), (h ++ [c])[i]? = some c1 → (i < h.length ∧ h[i]? = some c1) ∨ i = h.length := fun i c1 e => by
      by_cases hi : i < h.length
      · rw [List.getElem?_append_left hi] at e
        exact .inl ⟨hi, e⟩
      · have := (List.getElem?_eq_some_iff.mp e).1
        simp at this
        exact .inr (by omega)
    rcases cs i c1 e1 with ⟨hi, f1⟩ | hi <;> rcases cs j c2 e2 with ⟨hj, f2⟩ | hj
    · rw [nu_old hi, nu_old hj] at q
      exact r.inj i j c1 c2 f1 f2 l1 l2 q
    · subst hj
      rw [nu_old hi, nu_new] at q
      obtain ⟨u, e, _⟩ := live_at (r.cell i c1 f1) l1
      rw [q, hp] at e
      cases e
    · subst hi
      rw [nu_old hj, nu_new] at q
      obtain ⟨u, e, _⟩ := live_at (r.cell j c2 f2) l2
      rw [← q, hp] at e
      cases e
    · rw [hi, hj]
/-- a new object that is no cell (a tuple) -/
theorem HRel.fresh (r : HRel G μ h H) (hp : H p = none) : HRel G μ h (upd H p o) :=
  ⟨fun i d e => RCell.keep (r.cell i d e) (fun _ _ => rfl) (Nat.le_refl _) (TS0.fresh hp) fun b u _ z => by rw [upd_ne (ne_of_none z hp)]; exact z, r.inj⟩
theorem Gr.fresh (r : HRel G μ h H) (hp : H p = none) : Gr G μ h H μ h (upd H p o) := ⟨Nat.le_refl _, fun _ _ => rfl, TS0.fresh hp, r.fresh hp⟩

/-- a cell is changed -/
theorem Gr.write {i : Nat} (r : HRel G μ h H) (hi : h[i]? = some c) (hl : c.live = true) (hd : d.live = true) (hc : RCell G μ h.length (upd H (μ i) o) (μ i) d) : Gr G μ h H μ (h.set i d) (upd H (μ i) o) := by
  obtain ⟨u, e0, hu⟩ := live_at (r.cell i c hi) hl
  have hlt := (List.getElem?_eq_some_iff.mp hi).1
  refine ⟨by simp, fun _ _ => rfl, TS0.write e0 hu, ⟨fun j e q => ?_, fun j k c1 c2 e1 e2 l1 l2 q => ?_⟩⟩
  · by_cases hj : i = j
    · subst hj
      rw [List.getElem?_set_self hlt] at q
      cases q
      simpa using hc
    · rw [List.getElem?_set_ne hj] at q
      have ts := TS0.write (K := G.K) (o := o) e0 hu
      have ne : ∀ {b w}, H b = some w → Wr w = false → b ≠ μ i := fun {b w} z y q => by
        subst q
        rw [e0] at z
        cases z
        rw [hu] at y
        cases y
      have rc := r.cell j e q
      have hlen : (h.set i d).length = h.length := by simp
      rw [hlen]
      cases e with
      | lst ws =>
        obtain ⟨xs, s, rs⟩ := rc
        have hne : μ j ≠ μ i := fun z => hj (r.inj i j c _ hi q hl rfl z.symm)
        exact ⟨xs, by rw [upd_ne hne]; exact s, rs.same ts⟩
      | ins cn fs =>
        obtain ⟨dx, gs, s, rs⟩ := rc
        have hne : μ j ≠ μ i := fun z => hj (r.inj i j c _ hi q hl rfl z.symm)
        exact ⟨dx, gs, by rw [upd_ne hne]; exact s, RFs.mono (fun _ _ => rfl) (Nat.le_refl _) ts _ _ rs⟩
      | frz ws =>
        obtain ⟨xs, s, rs⟩ := rc
        refine ⟨xs, ?_, rs.same ts⟩
        rcases s with ⟨ob, s⟩ | s
        · exact .inl ⟨ob, by rw [upd_ne (ne s rfl)]; exact s⟩
        · exact .inr s
      | exc cn fs =>
        obtain ⟨cls, dd, s, q1, q2⟩ := rc
        refine ⟨cls, dd, by rw [upd_ne (ne s rfl)]; exact s, q1, ?_⟩
        rcases q2 with q2 | ⟨d1, gs, e1, e2, q2⟩
        · exact .inl q2
        · exact .inr ⟨d1, gs, e1, by rw [upd_ne (ne e2 rfl)]; exact e2, RFs.mono (fun _ _ => rfl) (Nat.le_refl _) ts _ _ q2⟩
  · have cs : ∀ (j : Nat) (c1 : Cell), (h.set i d)[j]? = some c1 → c1.live = true → ∃ c0, h[j]? = some c0 ∧ c0.live = true := fun j c1 e1 l1 => by
      by_cases hj : i = j
      · subst hj
        exact ⟨c, hi, hl⟩
      · rw [List.getElem?_set_ne hj] at e1
        exact ⟨c1, e1, l1⟩
    obtain ⟨a1, f1, g1⟩ := cs j c1 e1 l1
    obtain ⟨a2, f2, g2⟩ := cs k c2 e2 l2
    exact r.inj j k a1 a2 f1 f2 g1 g2 q
end
end ML

set_option maxHeartbeats 4000000
namespace ML
open PySem L2

/-! ### statements -/
inductive Sz where
  | nx (ρ : Ev) (h : Hm)
  | rt (w : U) (h : Hm)
  | bk (ρ : Ev) (h : Hm)
  | ct (ρ : Ev) (h : Hm)
  | ex (c : Nat) (fs : List (Str × U)) (ρ : Ev) (h : Hm)
abbrev MS := Ev → Hm → Option Sz
def bndS {α : Type} (ρ : Ev) (x : Option (Rz α)) (k : α → Hm → Option Sz) : Option Sz :=
  match x with
  | some (.ok a h) => k a h
  | some (.ex c fs h) => some (.ex c fs ρ h)
  | none => none
@[simp] theorem bndS_ok {α : Type} (ρ) (a : α) (h : Hm) (k : α → Hm → Option Sz) : bndS ρ (some (.ok a h)) k = k a h := rfl
@[simp] theorem bndS_ex {α : Type} (ρ c fs h) (k : α → Hm → Option Sz) : bndS ρ (some (.ex c fs h)) k = some (.ex c fs ρ h) := rfl
@[simp] theorem bndS_none {α : Type} (ρ) (k : α → Hm → Option Sz) : bndS ρ none k = none := rfl

def PostS (G : Gm) (Wx : WX) (D : Ends) (μ : Nat → Addr) (h : Hm) (H : Hp) (r : Option Sz) : Prop :=
  match r with
  | some (.nx ρ' h') => ∀ μ' σ' H', Gr G μ h H μ' h' H' → StOk G μ' ρ' h' σ' H' → D.nx σ' H'
  | some (.rt w h') => ∀ μ' H' v, Gr G μ h H μ' h' H' → RU G.K μ' h'.length H' w v → D.rt v H'
  | some (.bk ρ' h') => ∀ μ' σ' H', Gr G μ h H μ' h' H' → StOk G μ' ρ' h' σ' H' → D.bk σ' H'
  | some (.ct ρ' h') => ∀ μ' σ' H', Gr G μ h H μ' h' H' → StOk G μ' ρ' h' σ' H' → D.ct σ' H'
  | some (.ex c fs ρ' h') => ∀ μ' σ' H' cls d, Gr G μ h H μ' h' H' → StOk G μ' ρ' h' σ' H' → RX G.K μ' h'.length H' G.ca c fs cls d → Wx cls d σ' H'
  | none => False
def tS (G : Gm) (Wx : WX) (m : MS) : TS := fun D σ H => ∃ μ ρ h, StOk G μ ρ h σ H ∧ PostS G Wx D μ h H (m ρ h)

section
variable {α : Type} {G : Gm} {Wx : WX} {D : Ends} {μ μ' : Nat → Addr} {h h' : Hm} {H H' : Hp} {ρ : Ev} {σ : St}
theorem PostS.on {r : Option Sz} (p : PostS G Wx D μ h H r) (g : Gr G μ h H μ' h' H') : PostS G Wx D μ' h' H' r := by
  cases r with
  | none => exact p
  | some r =>
    cases r with
    | nx ρ1 h1 => exact fun μ1 σ1 H1 g1 s => p μ1 σ1 H1 (g.trans g1) s
    | rt w h1 => exact fun μ1 H1 v g1 s => p μ1 H1 v (g.trans g1) s
    | bk ρ1 h1 => exact fun μ1 σ1 H1 g1 s => p μ1 σ1 H1 (g.trans g1) s
    | ct ρ1 h1 => exact fun μ1 σ1 H1 g1 s => p μ1 σ1 H1 (g.trans g1) s
    | ex c fs ρ1 h1 => exact fun μ1 σ1 H1 cls d g1 s x => p μ1 σ1 H1 cls d (g.trans g1) s x
theorem PostS.bnd {x : Option (Rz α)} {k : α → Hm → Option Sz} (s : StOk G μ ρ h σ H) (p : PostS G Wx D μ h H (bndS ρ x k)) :
    Post G (fun μ1 h1 H1 a => PostS G Wx D μ1 h1 H1 (k a h1)) (fun cls d H' => Wx cls d σ H') μ h H x := by
  cases x with
  | none => exact p
  | some r =>
    cases r with
    | ok a h1 => exact fun μ1 H1 g1 => PostS.on (show PostS G Wx D μ h H (k a h1) from p) g1
    | ex c fs h1 => exact fun μ1 H1 cls d g1 rx => p μ1 σ H1 cls d g1 (s.on g1) rx

def mSkip : MS := fun ρ h => some (.nx ρ h)
def mSeq (a b : MS) : MS := fun ρ h => match a ρ h with
  | some (.nx ρ1 h1) => b ρ1 h1
  | r => r
def mRet (e : ME) : MS := fun ρ h => bndS ρ (e ρ h) fun w h1 => some (.rt w h1)
def mRetN : MS := fun _ h => some (.rt .non h)
def mDrop (e : ME) : MS := fun ρ h => bndS ρ (e ρ h) fun _ h1 => some (.nx ρ h1)
def mSet (i : Nat) (e : ME) : MS := fun ρ h => bndS ρ (e ρ h) fun w h1 => some (.nx (ρ.set i (some w)) h1)
def mIf (c : MT) (a b : MS) : MS := fun ρ h => bndS ρ (c ρ h) fun k h1 => if k = true then a ρ h1 else b ρ h1
def mBrk : MS := fun ρ h => some (.bk ρ h)
def mCont : MS := fun ρ h => some (.ct ρ h)

theorem StOk.refl_nx (s : StOk G μ ρ h σ H) (p : PostS G Wx D μ h H (some (.nx ρ h))) : D.nx σ H := p μ σ H (Gr.refl s.rel) s
theorem w_skip : ∀ D σ H, tS G Wx mSkip D σ H → tNext D σ H := fun D σ H ⟨μ, ρ, h, s, p⟩ => p μ σ H (Gr.refl s.rel) s
theorem PostS.seq {a b : MS} (p : PostS G Wx D μ h H (mSeq a b ρ h)) : PostS G Wx { D with nx := tS G Wx b D } μ h H (a ρ h) := by
  unfold mSeq at p
  cases e : a ρ h with
  | none => rw [e] at p; exact p
  | some r =>
    rw [e] at p
    cases r with
    | nx ρ1 h1 => exact fun μ1 σ1 H1 g1 s1 => ⟨μ1, ρ1, h1, s1, PostS.on p g1⟩
    | rt w h1 => exact p
    | bk ρ1 h1 => exact p
    | ct ρ1 h1 => exact p
    | ex c fs ρ1 h1 => exact p
theorem w_seq {a b : MS} : ∀ D σ H, tS G Wx (mSeq a b) D σ H → tSeq (tS G Wx a) (tS G Wx b) D σ H := fun D σ H ⟨μ, ρ, h, s, p⟩ => ⟨μ, ρ, h, s, p.seq⟩
theorem w_ret {e : ME} : ∀ D σ H, tS G Wx (mRet e) D σ H → tRet (tE G Wx e) D σ H := fun D σ H ⟨μ, ρ, h, s, p⟩ =>
  ⟨μ, ρ, h, s, (PostS.bnd s p).mono fun μ1 h1 H1 w g q v r => q μ1 H1 v (Gr.refl g.rel) r⟩
theorem w_retN : ∀ D σ H, tS G Wx mRetN D σ H → tRetN D σ H := fun D σ H ⟨μ, ρ, h, s, p⟩ => p μ H .non (Gr.refl s.rel) rfl
theorem w_drop {e : ME} : ∀ D σ H, tS G Wx (mDrop e) D σ H → tDrop (tE G Wx e) D σ H := fun D σ H ⟨μ, ρ, h, s, p⟩ =>
  ⟨μ, ρ, h, s, (PostS.bnd s p).mono fun μ1 h1 H1 w g q v r => q μ1 σ H1 (Gr.refl g.rel) (s.on g)⟩
theorem w_set {i : Nat} {e : ME} : ∀ D σ H, tS G Wx (mSet i e) D σ H → tAsg (tE G Wx e) (gName i) D σ H := fun D σ H ⟨μ, ρ, h, s, p⟩ =>
  ⟨μ, ρ, h, s, (PostS.bnd s p).mono fun μ1 h1 H1 w g q v r => q μ1 _ H1 (Gr.refl g.rel) ((s.on g).set i r)⟩
theorem w_if {c : MT} {a b : MS} : ∀ D σ H, tS G Wx (mIf c a b) D σ H → tIfS (tT G Wx c) (tS G Wx a) (tS G Wx b) D σ H := fun D σ H ⟨μ, ρ, h, s, p⟩ =>
  ⟨μ, ρ, h, s, (PostS.bnd s p).mono fun μ1 h1 H1 k g q => by
    cases k with
    | true => rw [if_pos rfl] at q ⊢; exact ⟨μ1, ρ, h1, s.on g, q⟩
    | false => rw [if_neg Bool.false_ne_true] at q ⊢; exact ⟨μ1, ρ, h1, s.on g, q⟩⟩
theorem w_brk : ∀ D σ H, tS G Wx mBrk D σ H → tBreak D σ H := fun D σ H ⟨μ, ρ, h, s, p⟩ => p μ σ H (Gr.refl s.rel) s
theorem w_cont : ∀ D σ H, tS G Wx mCont D σ H → tCont D σ H := fun D σ H ⟨μ, ρ, h, s, p⟩ => p μ σ H (Gr.refl s.rel) s

/-! ### targets -/
abbrev MG := U → Ev → Option Ev
def tG (G : Gm) (m : MG) : TG := fun v σ H Q => ∃ μ ρ h w ρ', StOk G μ ρ h σ H ∧ RU G.K μ h.length H w v ∧ m w ρ = some ρ' ∧ ∀ σ', StOk G μ ρ' h σ' H → Q σ' H
abbrev MGs := List U → Ev → Option Ev
def tGs (G : Gm) (m : MGs) : TGs := fun vs σ H Q => ∃ μ ρ h ws ρ', StOk G μ ρ h σ H ∧ RUs G.K μ h.length H ws vs ∧ m ws ρ = some ρ' ∧ ∀ σ', StOk G μ ρ' h σ' H → Q σ' H
theorem _root_.L2.PG.weak {X : Cx} {e : Expr} {t t' : TG} (h : PG X e t) (w : ∀ v σ H Q, t' v σ H Q → t v σ H Q) : PG X e t' := by
  obtain ⟨h⟩ := h
  exact ⟨fun pins s σ H v u Q I r q => h pins s σ H v u Q I r (w v σ H Q q)⟩
theorem _root_.L2.PGs.weak {X : Cx} {e : List Expr} {t t' : TGs} (h : PGs X e t) (w : ∀ v σ H Q, t' v σ H Q → t v σ H Q) : PGs X e t' := by
  obtain ⟨h⟩ := h
  exact ⟨fun pins s σ H v u Q I r q => h pins s σ H v u Q I r (w v σ H Q q)⟩
def gN (i : Nat) : MG := fun w ρ => some (ρ.set i (some w))
def gT (n : Nat) (g : MGs) : MG := fun w ρ => match w with
  | .tup ws => if ws.length = n then g ws ρ else none
  | _ => none
def gE : MGs := fun ws ρ => match ws with
  | [] => some ρ
  | _ => none
def gC (a : MG) (b : MGs) : MGs := fun ws ρ => match ws with
  | w :: r => match a w ρ with
    | some ρ1 => b r ρ1
    | none => none
  | [] => none
theorem w_gN {i : Nat} : ∀ v σ H Q, tG G (gN i) v σ H Q → gName i v σ H Q := fun v σ H Q ⟨μ, ρ, h, w, ρ', s, r, e, k⟩ => by
  cases e
  exact k _ (s.set i r)
theorem w_gE : ∀ v σ H Q, tGs G gE v σ H Q → gNil v σ H Q := fun v σ H Q ⟨μ, ρ, h, w, ρ', s, r, e, k⟩ => by
  cases w with
  | nil =>
    cases e
    simp only [RUs] at r
    exact ⟨r, k _ s⟩
  | cons a b => cases e
theorem w_gC {a : MG} {b : MGs} : ∀ v σ H Q, tGs G (gC a b) v σ H Q → gCons (tG G a) (tGs G b) v σ H Q := fun v σ H Q ⟨μ, ρ, h, w, ρ', s, r, e, k⟩ => by
  cases w with
  | nil => cases e
  | cons w ws =>
    simp only [RUs] at r
    obtain ⟨y, ys, rfl, r1, r2⟩ := r
    unfold gC at e
    simp only at e
    cases e1 : a w ρ with
    | none => rw [e1] at e; cases e
    | some ρ1 =>
      rw [e1] at e
      exact ⟨y, ys, rfl, μ, ρ, h, w, ρ1, s, r1, e1, fun σ1 s1 => ⟨μ, ρ1, h, ws, ρ', s1, r2, e, k⟩⟩
theorem w_gT {n : Nat} {g : MGs} : ∀ v σ H Q, tG G (gT n g) v σ H Q → gTup G.K n (tGs G g) v σ H Q := fun v σ H Q ⟨μ, ρ, h, w, ρ', s, r, e, k⟩ => by
  cases w with
  | tup ws =>
    unfold gT at e
    simp only at e
    split at e
    · rename_i hl
      simp only [RU] at r
      obtain ⟨a, xs, rfl, st, rs⟩ := r
      exact ⟨a, xs, rfl, st, (RUs.length rs).trans hl, μ, ρ, h, ws, ρ', s, rs, e, k⟩
    · cases e
  | _ => cases e
def mAsg (g : MG) (e : ME) : MS := fun ρ h => bndS ρ (e ρ h) fun w h1 => match g w ρ with
  | some ρ1 => some (.nx ρ1 h1)
  | none => none
theorem w_asg {g : MG} {e : ME} : ∀ D σ H, tS G Wx (mAsg g e) D σ H → tAsg (tE G Wx e) (tG G g) D σ H := fun D σ H ⟨μ, ρ, h, s, p⟩ =>
  ⟨μ, ρ, h, s, (PostS.bnd s p).mono fun μ1 h1 H1 w gr q v r => by
    cases e1 : g w ρ with
    | none => rw [e1] at q; exact False.elim q
    | some ρ1 =>
      rw [e1] at q
      exact ⟨μ1, ρ, h1, w, ρ1, s.on gr, r, e1, fun σ' s' => q μ1 σ' H1 (Gr.refl gr.rel) s'⟩⟩

/-! ### for -/
open Classical in
/-- over known items; chk is asked ahead of each turn and at the end -/
noncomputable def forC (chk : Hm → Prop) (g : MG) (body : MS) : List U → MS
  | [], ρ, h => if chk h then some (.nx ρ h) else none
  | w :: ws, ρ, h => if chk h then match g w ρ with
      | none => none
      | some ρ1 => match body ρ1 h with
        | some (.nx ρ2 h2) => forC chk g body ws ρ2 h2
        | some (.ct ρ2 h2) => forC chk g body ws ρ2 h2
        | some (.bk ρ2 h2) => some (.nx ρ2 h2)
        | r => r
    else none
theorem forC_nil {chk : Hm → Prop} {g : MG} {body : MS} {ρ : Ev} {h : Hm} (c : chk h) : forC chk g body [] ρ h = some (.nx ρ h) := by
  unfold forC
  rw [if_pos c]
theorem forC_cons {chk : Hm → Prop} {g : MG} {body : MS} {ρ ρ1 : Ev} {h : Hm} {w : U} {ws : List U} (c : chk h) (e : g w ρ = some ρ1) : forC chk g body (w :: ws) ρ h = (match body ρ1 h with
        | some (.nx ρ2 h2) => forC chk g body ws ρ2 h2
        | some (.ct ρ2 h2) => forC chk g body ws ρ2 h2
        | some (.bk ρ2 h2) => some (.nx ρ2 h2)
        | r => r) := by
  conv => lhs; unfold forC
  rw [if_pos c, e]

/-- what an iterator gives: the items, while chk stands -/
def Gives (G : Gm) (J : It) (items : List U) (chk : Hm → Prop) (μ1 : Nat → Addr) (h1 : Hm) (H1 : Hp) : Prop :=
  ∀ (i : Nat) μ h H, Gr G μ1 h1 H1 μ h H → chk h →
    (items.length ≤ i → J.stop i H) ∧ (∀ w, items[i]? = some w → J.go i H ∧ ∀ x H', J.yld i H x H' → Gr G μ h H μ h H' ∧ RU G.K μ h.length H' w x)
theorem for_ok {g : MG} {body : MS} {J : It} {items : List U} {chk : Hm → Prop} {μ1 : Nat → Addr} {h1 : Hm} {H1 : Hp} (gv : Gives G J items chk μ1 h1 H1) (s : StOk G μ1 ρ h1 σ H1) (p : PostS G Wx D μ1 h1 H1 (forC chk g body items ρ h1)) :
    ∃ W : Nat → Nat → St → Hp → Prop, (∃ m, W 0 m σ H1) ∧ ∀ i m σ H, W i m σ H →
      (J.stop i H ∧ D.nx σ H) ∨ (J.go i H ∧ ∃ N : St → Hp → Prop, (∀ σ' H', N σ' H' → ∃ m', m' < m ∧ W (i + 1) m' σ' H') ∧ ∀ x H', J.yld i H x H' → tG G g x σ H' fun σ2 H2 => tS G Wx body { D with nx := N, ct := N, bk := D.nx } σ2 H2) := by
  refine ⟨fun i m σ H => m = items.length - i ∧ i ≤ items.length ∧ ∃ μ ρ h, Gr G μ1 h1 H1 μ h H ∧ StOk G μ ρ h σ H ∧ PostS G Wx D μ h H (forC chk g body (items.drop i) ρ h),
    ⟨items.length, by simp, Nat.zero_le _, μ1, ρ, h1, Gr.refl s.rel, s, by simpa using p⟩, ?_⟩
  rintro i m σ H ⟨rfl, hi, μ, ρ, h, gr, s, p⟩
  by_cases hlt : i < items.length
  · have hd : items.drop i = items[i] :: items.drop (i + 1) := List.drop_eq_getElem_cons hlt
    rw [hd] at p
    unfold forC at p
    by_cases hc : chk h
    · rw [if_pos hc] at p
      obtain ⟨_, q⟩ := gv i μ h H gr hc
      obtain ⟨go, yl⟩ := q items[i] (by simp [hlt])
      cases e1 : g items[i] ρ with
      | none => rw [e1] at p; exact False.elim p
      | some ρ1 =>
        rw [e1] at p
        simp only at p
        refine .inr ⟨go, fun σ' H' => ∃ μ ρ h, Gr G μ1 h1 H1 μ h H' ∧ StOk G μ ρ h σ' H' ∧ PostS G Wx D μ h H' (forC chk g body (items.drop (i + 1)) ρ h), fun σ' H' z => ⟨items.length - (i + 1), by omega, rfl, by omega, z⟩, fun x H' y => ?_⟩
        obtain ⟨g2, r2⟩ := yl x H' y
        refine ⟨μ, ρ, h, items[i], ρ1, s.on g2, r2, e1, fun σ' s' => ⟨μ, ρ1, h, s', ?_⟩⟩
        have p := p.on g2
        cases e2 : body ρ1 h with
        | none => rw [e2] at p; exact p
        | some r =>
          rw [e2] at p
          cases r with
          | nx ρ2 h2 => exact fun μ3 σ3 H3 g3 s3 => ⟨μ3, ρ2, h2, (gr.trans g2).trans g3, s3, PostS.on p g3⟩
          | ct ρ2 h2 => exact fun μ3 σ3 H3 g3 s3 => ⟨μ3, ρ2, h2, (gr.trans g2).trans g3, s3, PostS.on p g3⟩
          | bk ρ2 h2 => exact p
          | rt w h2 => exact p
          | ex c fs ρ2 h2 => exact p
    · rw [if_neg hc] at p
      exact False.elim p
  · have e : i = items.length := by omega
    subst e
    rw [List.drop_length] at p
    unfold forC at p
    by_cases hc : chk h
    · rw [if_pos hc] at p
      exact .inl ⟨(gv _ μ h H gr hc).1 (Nat.le_refl _), p μ σ H (Gr.refl s.rel) s⟩
    · rw [if_neg hc] at p
      exact False.elim p

/-- what is walked: the items, what must stand -/
abbrev MI := Ev → Hm → Option (Rz (List U × (Hm → Prop)))
def tI (G : Gm) (Wx : WX) (m : MI) : TI := fun σ H R => ∃ μ ρ h, StOk G μ ρ h σ H ∧
  Post G (fun μ1 h1 H1 a => ∀ J, Gives G J a.1 a.2 μ1 h1 H1 → R J H1) (fun cls d H' => Wx cls d σ H') μ h H (m ρ h)
theorem _root_.L2.PI.weak {X : Cx} {tg e : Expr} {t t' : TI} (h : PI X tg e t) (w : ∀ σ H Q, t' σ H Q → t σ H Q) : PI X tg e t' := by
  obtain ⟨h⟩ := h
  exact ⟨fun pins s σ H R I q => h pins s σ H R I (w σ H R q)⟩
noncomputable def mFor (it : MI) (g : MG) (body : MS) : MS := fun ρ h => bndS ρ (it ρ h) fun a h1 => forC a.2 g body a.1 ρ h1
theorem w_for {it : MI} {g : MG} {body : MS} : ∀ D σ H, tS G Wx (mFor it g body) D σ H → tFor (tI G Wx it) (tG G g) (tS G Wx body) D σ H := fun D σ H ⟨μ, ρ, h, s, p⟩ =>
  ⟨μ, ρ, h, s, (PostS.bnd s p).mono fun μ1 h1 H1 a gr q J gv => for_ok gv (s.on gr) q⟩
def iL (e : ME) : MI := fun ρ h => bnd (e ρ h) fun w h1 => match w with
  | .ref i => match h1[i]? with
    | some (.lst ws) => some (.ok (ws, fun h => h[i]? = some (.lst ws)) h1)
    | some (.frz ws) => some (.ok (ws, fun h => h[i]? = some (.frz ws)) h1)
    | _ => none
  | _ => none
def iT (e : ME) : MI := fun ρ h => bnd (e ρ h) fun w h1 => match w with
  | .tup ws => some (.ok (ws, fun _ => True) h1)
  | _ => none
theorem rz_sqL {i : Nat} {ws : List U} (r : HRel G μ h H) (e : h[i]? = some (.lst ws) ∨ h[i]? = some (.frz ws)) : ∃ xs, SqL G.K H (μ i) xs ∧ RUs G.K μ h.length H ws xs := by
  rcases e with e | e
  · obtain ⟨xs, s, rs⟩ := r.cell _ _ e
    exact ⟨xs, SqL.of s, rs⟩
  · obtain ⟨xs, s, rs⟩ := r.cell _ _ e
    exact ⟨xs, s.sql, rs⟩
theorem sq_uniq {K : PySem.W.Frag} {a : Addr} {xs ys : List V} (h1 : SqT K H a xs) (h2 : SqT K H a ys) (n : H a ≠ none ∨ True) : True := trivial
theorem gives_list {i : Nat} {ws : List U} {c : Cell} (hc : c = .lst ws ∨ c = .frz ws) (hi : i < h.length) : Gives G (Itl G.K (μ i)) ws (fun h => h[i]? = some c) μ h H := by
  intro j μ2 h2 H2 gr ck
  have em : μ2 i = μ i := gr.mu i hi
  have e2 : h2[i]? = some (.lst ws) ∨ h2[i]? = some (.frz ws) := by
    rcases hc with rfl | rfl
    · exact .inl ck
    · exact .inr ck
  obtain ⟨xs, sq, rs⟩ := rz_sqL gr.rel e2
  rw [em] at sq
  refine ⟨fun hj => ⟨xs, sq, by rw [RUs.length rs]; exact hj⟩, fun w hw => ?_⟩
  obtain ⟨v, ev, rv⟩ := RUs.get rs hw
  refine ⟨⟨xs, v, sq, ev⟩, fun x H' y => ?_⟩
  obtain ⟨eH, y⟩ := y
  subst eH
  have := y xs sq
  rw [ev] at this
  cases this
  exact ⟨Gr.refl gr.rel, rv⟩
theorem gives_tup {a : Addr} {xs : List V} {ws : List U} (st : SqT G.K H a xs) (rs : RUs G.K μ h.length H ws xs) : Gives G (Itt G.K a) ws (fun _ => True) μ h H := by
  intro j μ2 h2 H2 gr ck
  have sq := gr.tup a xs st
  have rs := gr.rus rs
  refine ⟨fun hj => ⟨xs, sq, by rw [RUs.length rs]; exact hj⟩, fun w hw => ?_⟩
  obtain ⟨v, ev, rv⟩ := RUs.get rs hw
  refine ⟨⟨xs, v, sq, ev⟩, fun x H' y => ?_⟩
  obtain ⟨eH, y⟩ := y
  subst eH
  have := y xs sq
  rw [ev] at this
  cases this
  exact ⟨Gr.refl gr.rel, rv⟩
theorem w_iL {e : ME} : ∀ σ H R, tI G Wx (iL e) σ H R → iList G.K (tE G Wx e) σ H R := fun σ H R ⟨μ, ρ, h, s, p⟩ =>
  ⟨μ, ρ, h, s, (Post.bnd p).mono fun μ1 h1 H1 w g q v r => by
    cases w with
    | ref i =>
      simp only at q
      simp only [RU] at r
      obtain ⟨hi, rfl⟩ := r
      cases ec : h1[i]? with
      | none => rw [ec] at q; exact False.elim q
      | some c =>
        rw [ec] at q
        cases c with
        | lst ws =>
          obtain ⟨xs, sq, rs⟩ := rz_sqL g.rel (.inl ec)
          exact ⟨μ1 i, rfl, ⟨xs, sq⟩, q μ1 H1 (Gr.refl g.rel) _ (gives_list (.inl rfl) hi)⟩
        | frz ws =>
          obtain ⟨xs, sq, rs⟩ := rz_sqL g.rel (.inr ec)
          exact ⟨μ1 i, rfl, ⟨xs, sq⟩, q μ1 H1 (Gr.refl g.rel) _ (gives_list (.inr rfl) hi)⟩
        | ins _ _ => exact False.elim q
        | exc _ _ => exact False.elim q
    | _ => exact False.elim q⟩
theorem w_iT {e : ME} : ∀ σ H R, tI G Wx (iT e) σ H R → iTup G.K (tE G Wx e) σ H R := fun σ H R ⟨μ, ρ, h, s, p⟩ =>
  ⟨μ, ρ, h, s, (Post.bnd p).mono fun μ1 h1 H1 w g q v r => by
    cases w with
    | tup ws =>
      simp only at q
      simp only [RU] at r
      obtain ⟨a, xs, rfl, st, rs⟩ := r
      exact ⟨a, rfl, ⟨xs, st⟩, q μ1 H1 (Gr.refl g.rel) _ (gives_tup st rs)⟩
    | _ => exact False.elim q⟩
end
end ML

set_option maxHeartbeats 4000000
namespace ML
open PySem L2
section
variable {G : Gm} {Wx : WX} {μ μ' : Nat → Addr} {h h' : Hm} {H H' : Hp} {ρ : Ev} {σ : St}

/-! ### names, constants -/
def mVar (i : Nat) : ME := fun ρ h => match ρ[i]? with
  | some (some w) => some (.ok w h)
  | _ => none
def mC (w : U) : ME := fun _ h => some (.ok w h)
theorem w_var {i : Nat} : ∀ σ H Q, tE G Wx (mVar i) σ H Q → tVar i σ H Q := fun σ H Q ⟨μ, ρ, h, s, p⟩ => by
  unfold mVar at p
  cases e : ρ[i]? with
  | none => rw [e] at p; exact False.elim p
  | some o =>
    rw [e] at p
    cases o with
    | none => exact False.elim p
    | some w =>
      obtain ⟨v, ev, r⟩ := s.slot i w e
      exact ⟨v, ev, Post.ok s.rel p v r⟩
theorem w_non : ∀ σ H Q, tE G Wx (mC .non) σ H Q → tC .non σ H Q := fun σ H Q ⟨μ, ρ, h, s, p⟩ => Post.ok s.rel p _ rfl
theorem w_int {i : Int} : ∀ σ H Q, tE G Wx (mC (.int i)) σ H Q → tC (.int i) σ H Q := fun σ H Q ⟨μ, ρ, h, s, p⟩ => Post.ok s.rel p _ rfl
theorem w_bl {i : Bool} : ∀ σ H Q, tE G Wx (mC (.bl i)) σ H Q → tC (.bl i) σ H Q := fun σ H Q ⟨μ, ρ, h, s, p⟩ => Post.ok s.rel p _ rfl
theorem w_str {i : Str} : ∀ σ H Q, tE G Wx (mC (.str i)) σ H Q → tC (.str i) σ H Q := fun σ H Q ⟨μ, ρ, h, s, p⟩ => Post.ok s.rel p _ rfl

/-! ### operations of values -/
abbrev O2 := U → U → Hm → Option (Rz U)
def PV (G : Gm) (Q : VK) : (Nat → Addr) → Hm → Hp → U → Prop := fun μ' h' H' w => ∀ v, RU G.K μ' h'.length H' w v → Q v H'
def OpC (G : Gm) (f : O2) (r : R2) : Prop := ∀ (E : XK) μ h H wx wy x y Q, HRel G μ h H → RU G.K μ h.length H wx x → RU G.K μ h.length H wy y → Post G (PV G Q) E μ h H (f wx wy h) → r x y H Q
def mOp (f : O2) (a b : ME) : ME := fun ρ h => bnd (a ρ h) fun x h1 => bnd (b ρ h1) fun y h2 => f x y h2
theorem w_op {f : O2} {r : R2} {a b : ME} (c : OpC G f r) : ∀ σ H Q, tE G Wx (mOp f a b) σ H Q → tOp r (tE G Wx a) (tE G Wx b) σ H Q := fun σ H Q ⟨μ, ρ, h, s, p⟩ =>
  ⟨μ, ρ, h, s, (Post.bnd p).mono fun μ1 h1 H1 wx g1 q1 x rx => ⟨μ1, ρ, h1, s.on g1, (Post.bnd q1).mono fun μ2 h2 H2 wy g2 q2 y ry => c _ μ2 h2 H2 wx wy x y Q g2.rel (g2.ru rx) ry q2⟩⟩
theorem OpC.or {f g : O2} {r r' : R2} (c : OpC G f r) (d : OpC G g r') : OpC G (fun x y h => match f x y h with | some z => some z | none => g x y h) (fun x y H Q => r x y H Q ∨ r' x y H Q) := fun E μ h H wx wy x y Q rel rx ry p => by
  cases e : f wx wy h with
  | none => simp only [e] at p; exact .inr (d E μ h H wx wy x y Q rel rx ry p)
  | some z => simp only [e] at p; exact .inl (c E μ h H wx wy x y Q rel rx ry (by rw [e]; exact p))

/-- two whole numbers -/
def oI (C : Int → Int → Bool) (g : Int → Int → U) : O2 := fun x y h => match x, y with
  | .int i, .int j => if C i j = true then some (.ok (g i j) h) else none
  | _, _ => none
theorem oI_ok {C : Int → Int → Bool} {g : Int → Int → U} {D : Int → Int → Prop} {g' : Int → Int → V} (hd : ∀ i j, C i j = true → D i j) (hg : ∀ i j K μ n H, RU K μ n H (g i j) (g' i j)) : OpC G (oI C g) (rI D g') := fun E μ h H wx wy x y Q rel rx ry p => by
  cases wx with
  | int i =>
    cases wy with
    | int j =>
      simp only [RU] at rx ry
      subst rx ry
      unfold oI at p
      simp only at p
      split at p
      · rename_i hc
        exact ⟨i, j, rfl, rfl, hd i j hc, Post.ok rel p _ (hg i j _ _ _ _)⟩
      · exact False.elim p
    | _ => exact False.elim p
  | _ => exact False.elim p
def oI0 (g : Int → Int → U) : O2 := fun x y h => match x, y with
  | .int i, .int j => some (.ok (g i j) h)
  | _, _ => none
theorem oI0_ok {g : Int → Int → U} {g' : Int → Int → V} (hg : ∀ i j K μ n H, RU K μ n H (g i j) (g' i j)) : OpC G (oI0 g) (rI0 g') := fun E μ h H wx wy x y Q rel rx ry p => by
  cases wx with
  | int i =>
    cases wy with
    | int j =>
      simp only [RU] at rx ry
      subst rx ry
      exact ⟨i, j, rfl, rfl, Post.ok rel p _ (hg i j _ _ _ _)⟩
    | _ => exact False.elim p
  | _ => exact False.elim p
abbrev oAddI : O2 := oI0 fun i j => .int (i + j)
abbrev oSub : O2 := oI0 fun i j => .int (i - j)
def cMul (i j : Int) : Bool := (decide (-(2 ^ 64) < i) && decide (i < 2 ^ 64)) || (decide (-(2 ^ 64) < j) && decide (j < 2 ^ 64))
def cDivN (i j : Int) : Bool := decide (j ≠ 0) && decide (j.natAbs < 1073741824)
def cPow (i j : Int) : Bool := decide (0 ≤ j) && (decide (j ≤ 1000000) && decide (i.natAbs < 2 ^ 64))
abbrev oMul : O2 := oI cMul fun i j => .int (i * j)
abbrev oDiv : O2 := oI cDivN fun i j => .int (i.fdiv j)
abbrev oMod : O2 := oI (fun _ j => decide (j ≠ 0)) fun i j => .int (i.fmod j)
abbrev oPow : O2 := oI cPow fun i j => .int (i ^ j.toNat)
theorem oAddI_ok : OpC G oAddI (rI0 fun i j => .int (i + j)) := oI0_ok fun _ _ _ _ _ _ => rfl
theorem oSub_ok : OpC G oSub (rI0 fun i j => .int (i - j)) := oI0_ok fun _ _ _ _ _ _ => rfl
theorem oMul_ok : OpC G oMul (rI CMul fun i j => .int (i * j)) := oI_ok (fun i j hc => by
  unfold cMul at hc
  simp only [Bool.or_eq_true, Bool.and_eq_true, decide_eq_true_eq] at hc
  exact hc) fun _ _ _ _ _ _ => rfl
theorem oDiv_ok : OpC G oDiv (rI CDivN fun i j => .int (i.fdiv j)) := oI_ok (fun i j hc => by
  unfold cDivN at hc
  simp only [Bool.and_eq_true, decide_eq_true_eq] at hc
  exact hc) fun _ _ _ _ _ _ => rfl
theorem oMod_ok : OpC G oMod (rI (fun _ j => j ≠ 0) fun i j => .int (i.fmod j)) := oI_ok (fun i j hc => of_decide_eq_true hc) fun _ _ _ _ _ _ => rfl
theorem oPow_ok : OpC G oPow (rI CPow fun i j => .int (i ^ j.toNat)) := oI_ok (fun i j hc => by
  unfold cPow at hc
  simp only [Bool.and_eq_true, decide_eq_true_eq] at hc
  exact hc) fun _ _ _ _ _ _ => rfl
abbrev oLt : O2 := oI0 fun i j => .bl (decide (i < j))
abbrev oLe : O2 := oI0 fun i j => .bl (decide (i ≤ j))
abbrev oGt : O2 := oI0 fun i j => .bl (decide (j < i))
abbrev oGe : O2 := oI0 fun i j => .bl (decide (j ≤ i))
theorem oLt_ok : OpC G oLt (rI0 fun i j => .bl (decide (i < j))) := oI0_ok fun _ _ _ _ _ _ => rfl
theorem oLe_ok : OpC G oLe (rI0 fun i j => .bl (decide (i ≤ j))) := oI0_ok fun _ _ _ _ _ _ => rfl
theorem oGt_ok : OpC G oGt (rI0 fun i j => .bl (decide (j < i))) := oI0_ok fun _ _ _ _ _ _ => rfl
theorem oGe_ok : OpC G oGe (rI0 fun i j => .bl (decide (j ≤ i))) := oI0_ok fun _ _ _ _ _ _ => rfl

def LIM : Nat := 1000000
theorem lim_le {n : Nat} (h : n ≤ LIM) : n ≤ sizeLine := Nat.le_trans h (by show 1000000 ≤ sizeLine; decide)
/-- texts -/
def oAddS : O2 := fun x y h => match x, y with
  | .str i, .str j => if i.length + j.length ≤ LIM then some (.ok (.str (i ++ j)) h) else none
  | _, _ => none
theorem oAddS_ok : OpC G oAddS (fun x y H Q => ∃ i j, x = .str i ∧ y = .str j ∧ i.length + j.length ≤ sizeLine ∧ Q (.str (i ++ j)) H) := fun E μ h H wx wy x y Q rel rx ry p => by
  cases wx with
  | str i =>
    cases wy with
    | str j =>
      simp only [RU] at rx ry
      subst rx ry
      unfold oAddS at p
      simp only at p
      split at p
      · rename_i hc
        exact ⟨i, j, rfl, rfl, lim_le hc, Post.ok rel p _ rfl⟩
      · exact False.elim p
    | _ => exact False.elim p
  | _ => exact False.elim p
/-- lists -/
def oAddL : O2 := fun x y h => match x, y with
  | .ref l, .ref b => match h[l]?, h[b]? with
    | some (.lst xs), some (.lst ys) => if xs.length + ys.length ≤ LIM then some (.ok (.ref h.length) (h ++ [.lst (xs ++ ys)])) else none
    | _, _ => none
  | _, _ => none
theorem oAddL_ok : OpC G oAddL rCat := fun E μ h H wx wy x y Q rel rx ry p => by
  cases wx with
  | ref l =>
    cases wy with
    | ref b =>
      simp only [RU] at rx ry
      obtain ⟨hl, rfl⟩ := rx
      obtain ⟨hb, rfl⟩ := ry
      unfold oAddL at p
      simp only at p
      split at p
      · rename_i xs ys e1 e2
        split at p
        · rename_i hc
          obtain ⟨vs, s1, r1⟩ := rel.cell l _ e1
          obtain ⟨us, s2, r2⟩ := rel.cell b _ e2
          refine ⟨μ l, μ b, vs, us, rfl, rfl, s1, s2, by rw [RUs.length r1, RUs.length r2]; exact lim_le hc, fun q hq => ?_⟩
          have rr : RUs G.K (nu μ h.length q) (h.length + 1) (upd H q (.lst (vs ++ us))) (xs ++ ys) (vs ++ us) := RUs.mono (fun i hi => nu_old hi) (Nat.le_succ _) (TS0.fresh hq) _ _ (r1.append r2)
          have g := Gr.new (o := .lst (vs ++ us)) (c := .lst (xs ++ ys)) rel hq ⟨_, upd_same, rr⟩
          exact p _ _ g _ (by simp only [RU]; exact ⟨by simp, by rw [nu_new]⟩)
        · exact False.elim p
      · exact False.elim p
    | _ => exact False.elim p
  | _ => exact False.elim p
/-- list * int -/
def oRep : O2 := fun x y h => match x, y with
  | .ref l, .int k => match h[l]? with
    | some (.lst xs) => if (decide (k ≤ 1000000) && decide (-1000000 ≤ k)) && decide (xs.length * k.toNat ≤ LIM) = true then some (.ok (.ref h.length) (h ++ [.lst (List.replicate k.toNat xs).flatten])) else none
    | _ => none
  | _, _ => none
theorem RUs.rep {K : PySem.W.Frag} {n : Nat} {ws : List U} {xs : List V} (r : RUs K μ n H ws xs) : ∀ k : Nat, RUs K μ n H (List.replicate k ws).flatten (List.replicate k xs).flatten
  | 0 => by simp [RUs]
  | k + 1 => by
    simp only [List.replicate_succ, List.flatten_cons]
    exact r.append (RUs.rep r k)
theorem oRep_ok : OpC G oRep rRep := fun E μ h H wx wy x y Q rel rx ry p => by
  cases wx with
  | ref l =>
    cases wy with
    | int k =>
      simp only [RU] at rx ry
      obtain ⟨hl, rfl⟩ := rx
      subst ry
      unfold oRep at p
      simp only at p
      split at p
      · rename_i xs e1
        split at p
        · rename_i hc
          simp only [Bool.and_eq_true, decide_eq_true_eq] at hc
          obtain ⟨vs, s1, r1⟩ := rel.cell l _ e1
          refine ⟨μ l, k, vs, rfl, rfl, s1, by omega, by omega, by rw [RUs.length r1]; exact lim_le hc.2, fun q hq => ?_⟩
          have rr := RUs.mono (μ' := nu μ h.length q) (n' := h.length + 1) (H' := upd H q (.lst (List.replicate k.toNat vs).flatten)) (fun i hi => nu_old hi) (Nat.le_succ _) (TS0.fresh hq) _ _ (r1.rep k.toNat)
          have g := Gr.new (o := .lst (List.replicate k.toNat vs).flatten) (c := .lst (List.replicate k.toNat xs).flatten) rel hq ⟨_, upd_same, rr⟩
          exact p _ _ g _ (by simp only [RU]; exact ⟨by simp, by rw [nu_new]⟩)
        · exact False.elim p
      · exact False.elim p
    | _ => exact False.elim p
  | _ => exact False.elim p
/-- tuples -/
def oAddT : O2 := fun x y h => match x, y with
  | .tup xs, .tup ys => if (decide (xs.length ≠ 0) && decide (xs.length + ys.length ≤ LIM)) = true then some (.ok (.tup (xs ++ ys)) h) else none
  | _, _ => none
end
end ML

set_option maxHeartbeats 4000000
namespace ML
open PySem L2
section
variable {G : Gm} {Wx : WX} {μ μ' : Nat → Addr} {h h' : Hm} {H H' : Hp} {ρ : Ev} {σ : St}

/-! ### == of scalars -/
def sEq : U → U → Option Bool
  | .non, .non => some true
  | .non, .int _ => some false | .int _, .non => some false
  | .non, .bl _ => some false | .bl _, .non => some false
  | .non, .str _ => some false | .str _, .non => some false
  | .int a, .int b => some (decide (a = b))
  | .bl a, .bl b => some (decide (a = b))
  | .str a, .str b => some (decide (a = b))
  | .int _, .str _ => some false | .str _, .int _ => some false
  | .bl _, .str _ => some false | .str _, .bl _ => some false
  | _, _ => none
theorem sEq_ok {K : PySem.W.Frag} {n : Nat} {x y : U} {v u : V} {b : Bool} (e : sEq x y = some b) (rx : RU K μ n H x v) (ry : RU K μ n H y u) : scal v u = true ∧ decide (v = u) = b := by
  cases x <;> cases y <;> first | (cases e; done) | skip
  all_goals
    simp only [RU] at rx ry
    subst rx ry
    simp only [sEq, Option.some.injEq] at e
    subst e
    refine ⟨rfl, ?_⟩
    first
      | rfl
      | (simp; done)
def oEqS (neg : Bool) : O2 := fun x y h => match sEq x y with
  | some b => some (.ok (.bl (b != neg)) h)
  | none => none
theorem oEqS_ok : OpC G (oEqS false) rEq := fun E μ h H wx wy x y Q rel rx ry p => by
  unfold oEqS at p
  cases e : sEq wx wy with
  | none => rw [e] at p; exact False.elim p
  | some b =>
    rw [e] at p
    obtain ⟨h1, h2⟩ := sEq_ok e rx ry
    refine ⟨h1, Post.ok rel p _ ?_⟩
    rw [h2]
    cases b <;> rfl
theorem oNeS_ok : OpC G (oEqS true) rNe := fun E μ h H wx wy x y Q rel rx ry p => by
  unfold oEqS at p
  cases e : sEq wx wy with
  | none => rw [e] at p; exact False.elim p
  | some b =>
    rw [e] at p
    obtain ⟨h1, h2⟩ := sEq_ok e rx ry
    refine ⟨h1, Post.ok rel p _ ?_⟩
    rw [h2]
    cases b <;> rfl

/-! ### == of data -/
mutual
def dW (f : Nat → Option PyData) : U → Option PyData
  | .non => some .none
  | .bl b => some (.bool b)
  | .int i => some (.int i)
  | .str x => some (.str x)
  | .ref i => f i
  | .tup ws => match dWs f ws with
    | some ds => some (.tuple ds)
    | none => none
def dWs (f : Nat → Option PyData) : List U → Option (List PyData)
  | [] => some []
  | w :: ws => match dW f w, dWs f ws with
    | some d, some ds => some (d :: ds)
    | _, _ => none
end
def rd (h : Hm) (i : Nat) : Option (List U) := match h[i]? with
  | some (.lst ws) => some ws
  | some (.frz ws) => some ws
  | _ => none
theorem rd_ok {i : Nat} {ws : List U} (r : HRel G μ h H) (e : rd h i = some ws) : ∃ xs, SqL G.K H (μ i) xs ∧ RUs G.K μ h.length H ws xs := by
  unfold rd at e
  split at e
  · rename_i ws' ec; cases e; exact rz_sqL r (.inl ec)
  · rename_i ws' ec; cases e; exact rz_sqL r (.inr ec)
  · cases e
/-- data at a list: n levels of lists -/
def dR : Nat → Hm → Nat → Option PyData
  | 0, _, _ => none
  | n + 1, h, i => match rd h i with
    | some ws => match dWs (dR n h) ws with
      | some ds => some (.list ds)
      | none => none
    | none => none
def DF (G : Gm) (μ : Nat → Addr) (H : Hp) (f : Nat → Option PyData) : Prop := ∀ i d, f i = some d → Dp G.K H (.ref (μ i)) d
mutual
theorem dW_ok {f : Nat → Option PyData} (hf : DF G μ H f) : ∀ (w : U) (v : V) (d : PyData), dW f w = some d → RU G.K μ h.length H w v → Dp G.K H v d
  | .non, v, d, e, r => by simp only [dW] at e; simp only [RU] at r; cases e; subst r; exact .non
  | .bl b, v, d, e, r => by simp only [dW] at e; simp only [RU] at r; cases e; subst r; exact .bl b
  | .int i, v, d, e, r => by simp only [dW] at e; simp only [RU] at r; cases e; subst r; exact .int i
  | .str x, v, d, e, r => by simp only [dW] at e; simp only [RU] at r; cases e; subst r; exact .str x
  | .ref i, v, d, e, r => by
    simp only [dW] at e
    simp only [RU] at r
    obtain ⟨_, rfl⟩ := r
    exact hf i d e
  | .tup ws, v, d, e, r => by
    simp only [dW] at e
    simp only [RU] at r
    obtain ⟨a, xs, rfl, st, rs⟩ := r
    cases e2 : dWs f ws with
    | none => rw [e2] at e; cases e
    | some ds => rw [e2] at e; cases e; exact .tup st (dWs_ok hf ws xs ds e2 rs)
theorem dWs_ok {f : Nat → Option PyData} (hf : DF G μ H f) : ∀ (ws : List U) (vs : List V) (ds : List PyData), dWs f ws = some ds → RUs G.K μ h.length H ws vs → DpAll G.K H vs ds
  | [], vs, ds, e, r => by simp only [dWs] at e; simp only [RUs] at r; cases e; subst r; exact .nil
  | w :: ws, vs, ds, e, r => by
    simp only [dWs] at e
    simp only [RUs] at r
    obtain ⟨y, ys, rfl, r1, rs⟩ := r
    cases e1 : dW f w with
    | none => rw [e1] at e; cases e
    | some d =>
      cases e2 : dWs f ws with
      | none => rw [e1, e2] at e; cases e
      | some ds2 =>
        rw [e1, e2] at e
        cases e
        exact .cons (dW_ok hf w y d e1 r1) (dWs_ok hf ws ys ds2 e2 rs)
end
theorem dR_ok (rel : HRel G μ h H) : ∀ n, DF G μ H (dR n h)
  | 0, i, d, e => by cases e
  | n + 1, i, d, e => by
    unfold dR at e
    cases e1 : rd h i with
    | none => rw [e1] at e; cases e
    | some ws =>
      rw [e1] at e
      simp only at e
      cases e2 : dWs (dR n h) ws with
      | none => rw [e2] at e; cases e
      | some ds =>
        rw [e2] at e
        cases e
        obtain ⟨xs, sq, rs⟩ := rd_ok rel e1
        exact .lst sq (dWs_ok (h := h) (dR_ok rel n) ws xs ds e2 rs)
/-- n levels of lists -/
def oEqD (neg : Bool) (n : Nat) : O2 := fun x y h => match dW (dR n h) x, dW (dR n h) y with
  | some d, some e => if (SeqAt.shaped d && SeqAt.shaped e) = true then some (.ok (.bl (PyData.eqv d e != neg)) h) else none
  | _, _ => none
theorem oEqD_ok {n : Nat} : OpC G (oEqD false n) (rEqD G.K) := fun E μ h H wx wy x y Q rel rx ry p => by
  unfold oEqD at p
  split at p
  · rename_i d e e1 e2
    split at p
    · rename_i hc
      simp only [Bool.and_eq_true] at hc
      refine ⟨d, e, dW_ok (dR_ok rel n) _ _ _ e1 rx, dW_ok (dR_ok rel n) _ _ _ e2 ry, hc.1, hc.2, Post.ok rel p _ ?_⟩
      simp [RU]
    · exact False.elim p
  · exact False.elim p
theorem oNeD_ok {n : Nat} : OpC G (oEqD true n) (rNeD G.K) := fun E μ h H wx wy x y Q rel rx ry p => by
  unfold oEqD at p
  split at p
  · rename_i d e e1 e2
    split at p
    · rename_i hc
      simp only [Bool.and_eq_true] at hc
      refine ⟨d, e, dW_ok (dR_ok rel n) _ _ _ e1 rx, dW_ok (dR_ok rel n) _ _ _ e2 ry, hc.1, hc.2, Post.ok rel p _ ?_⟩
      simp [RU]
    · exact False.elim p
  · exact False.elim p

/-! ### is None -/
def isNon : U → Bool
  | .non => true
  | _ => false
theorem isNon_ok {K : PySem.W.Frag} {n : Nat} {x : U} {v : V} (r : RU K μ n H x v) : decide (v = .non) = isNon x := by
  cases x <;> simp only [RU] at r
  case ref i => obtain ⟨_, rfl⟩ := r; simp [isNon]
  case tup ws => obtain ⟨a, xs, rfl, _⟩ := r; simp [isNon]
  all_goals (subst r; simp [isNon])
def mIsN (neg : Bool) (a : ME) : ME := fun ρ h => bnd (a ρ h) fun x h1 => some (.ok (.bl (isNon x != neg)) h1)
theorem w_isN {a : ME} : ∀ σ H Q, tE G Wx (mIsN false a) σ H Q → tIsN (tE G Wx a) σ H Q := fun σ H Q ⟨μ, ρ, h, s, p⟩ =>
  ⟨μ, ρ, h, s, (Post.bnd p).mono fun μ1 h1 H1 wx g q x rx => Post.ok g.rel q _ (by rw [isNon_ok rx]; simp [RU])⟩
theorem w_notN {a : ME} : ∀ σ H Q, tE G Wx (mIsN true a) σ H Q → tNotN (tE G Wx a) σ H Q := fun σ H Q ⟨μ, ρ, h, s, p⟩ =>
  ⟨μ, ρ, h, s, (Post.bnd p).mono fun μ1 h1 H1 wx g q x rx => Post.ok g.rel q _ (by rw [isNon_ok rx]; simp [RU])⟩

/-! ### in -/
/-- one sign in a text -/
def oInC (neg : Bool) : O2 := fun x y h => match x, y with
  | .str a, .str z => match a.cps.toList with
    | [c] => some (.ok (.bl (decide (c ∈ z.cps.toList) != neg)) h)
    | _ => none
  | _, _ => none
theorem str_one {a : Str} {c : Nat} (e : a.cps.toList = [c]) : a = ⟨#[c]⟩ := by
  cases a with
  | mk cps =>
    simp only at e
    congr
    have : cps = [c].toArray := by rw [← e]
    rw [this]
theorem oInC_ok : OpC G (oInC false) (fun x y H Q => ∃ (c : Nat) (z : Str), x = .str ⟨#[c]⟩ ∧ y = .str z ∧ Q (.bl (decide (c ∈ z.cps.toList))) H) := fun E μ h H wx wy x y Q rel rx ry p => by
  cases wx with
  | str a =>
    cases wy with
    | str z =>
      simp only [RU] at rx ry
      subst rx ry
      unfold oInC at p
      simp only at p
      split at p
      · rename_i c e
        refine ⟨c, z, by rw [str_one e], rfl, Post.ok rel p _ (by simp [RU])⟩
      · exact False.elim p
    | _ => exact False.elim p
  | _ => exact False.elim p
def flatU : U → Bool
  | .non => true | .bl _ => true | .int _ => true | .str _ => true
  | _ => false
def eqF : U → U → Bool
  | .non, .non => true
  | .bl a, .bl b => a == b
  | .bl a, .int b => (if a then 1 else 0) == b
  | .int a, .bl b => a == (if b then 1 else 0)
  | .int a, .int b => a == b
  | .str a, .str b => a == b
  | _, _ => false
theorem flatU_ok {K : PySem.W.Frag} {n : Nat} {x : U} {v : V} (f : flatU x = true) (r : RU K μ n H x v) : flatV v = true := by
  cases x <;> simp only [RU] at r <;> first | (subst r; rfl) | cases f
theorem flats_ok {K : PySem.W.Frag} {n : Nat} : ∀ {ws : List U} {vs : List V}, ws.all flatU = true → RUs K μ n H ws vs → vs.all flatV = true
  | [], vs, f, r => by simp only [RUs] at r; subst r; rfl
  | w :: ws, vs, f, r => by
    simp only [RUs] at r
    obtain ⟨y, ys, rfl, r1, rs⟩ := r
    simp only [List.all_cons, Bool.and_eq_true] at f ⊢
    exact ⟨flatU_ok f.1 r1, flats_ok f.2 rs⟩
theorem eqF_ok {K : PySem.W.Frag} {n : Nat} {x y : U} {v u : V} (f : flatU x = true) (g : flatU y = true) (r : RU K μ n H x v) (q : RU K μ n H y u) : eqV v u = eqF x y := by
  cases x <;> first | cases f | skip
  all_goals (cases y <;> first | cases g | skip)
  all_goals (simp only [RU] at r q; subst r q; rfl)
def inF (x : U) (ws : List U) : Bool := ws.any fun y => eqF y x
theorem inF_ok {K : PySem.W.Frag} {n : Nat} {x : U} {v : V} (f : flatU x = true) (r : RU K μ n H x v) : ∀ {ws : List U} {vs : List V}, ws.all flatU = true → RUs K μ n H ws vs → inV v vs = inF x ws
  | [], vs, g, q => by simp only [RUs] at q; subst q; rfl
  | w :: ws, vs, g, q => by
    simp only [RUs] at q
    obtain ⟨y, ys, rfl, r1, rs⟩ := q
    simp only [List.all_cons, Bool.and_eq_true] at g
    have ih := inF_ok f r g.2 rs
    unfold inV inF at *
    simp only [List.any_cons, ih, eqF_ok g.1 f r1 r]
def oIn (neg : Bool) : O2 := fun x y h => match (match y with
    | .tup ws => some ws
    | .ref i => rd h i
    | _ => none) with
  | some ws => if (flatU x && ws.all flatU) = true then some (.ok (.bl (inF x ws != neg)) h) else none
  | none => none
theorem oIn_ok {neg : Bool} : OpC G (oIn neg) (rIn G.K neg) := fun E μ h H wx wy x y Q rel rx ry p => by
  unfold oIn at p
  split at p
  · rename_i ws e
    split at p
    · rename_i hc
      simp only [Bool.and_eq_true] at hc
      have fin : ∀ a xs, y = .ref a → (SqL G.K H a xs ∨ SqT G.K H a xs) → RUs G.K μ h.length H ws xs → rIn G.K neg x y H Q := fun a xs ey sq rs => by
        refine ⟨a, xs, ey, sq, flatU_ok hc.1 rx, flats_ok hc.2 rs, Post.ok rel p _ ?_⟩
        rw [inF_ok hc.1 rx hc.2 rs]
        cases neg <;> simp [RU]
      cases wy with
      | tup us =>
        simp only [Option.some.injEq] at e
        subst e
        simp only [RU] at ry
        obtain ⟨a, xs, ey, st, rs⟩ := ry
        exact fin a xs ey (.inr st) rs
      | ref i =>
        simp only [RU] at ry
        obtain ⟨_, ey⟩ := ry
        obtain ⟨xs, sq, rs⟩ := rd_ok rel e
        exact fin _ xs ey (.inl sq) rs
      | _ => simp at e
    · exact False.elim p
  · exact False.elim p

/-! ### xs[i] -/
theorem RUs.atI {K : PySem.W.Frag} {n : Nat} {ws : List U} {xs : List V} {i : Int} {w : U} (r : RUs K μ n H ws xs) (e : atI ws i = some w) : ∃ v, atI xs i = some v ∧ RU K μ n H w v := by
  unfold L2.atI at e ⊢
  rw [RUs.length r]
  cases e1 : ixN ws.length i with
  | none => rw [e1] at e; cases e
  | some j =>
    rw [e1] at e
    exact RUs.get r e
def oIx : O2 := fun x y h => match x, y with
  | .ref l, .int i => match rd h l with
    | some ws => match atI ws i with
      | some w => some (.ok w h)
      | none => none
    | none => none
  | .tup ws, .int i => match atI ws i with
    | some w => some (.ok w h)
    | none => none
  | .str z, .int i => match atI z.cps.toList i with
    | some c => if z.length ≤ LIM then some (.ok (.str ⟨#[c]⟩) h) else none
    | none => none
  | _, _ => none
theorem oIx_ok : OpC G oIx (rIx G.K) := fun E μ h H wx wy x y Q rel rx ry p => by
  unfold oIx at p
  split at p
  · rename_i l i
    simp only [RU] at rx ry
    obtain ⟨_, rfl⟩ := rx
    subst ry
    split at p
    · rename_i ws e1
      split at p
      · rename_i w e2
        obtain ⟨xs, sq, rs⟩ := rd_ok rel e1
        obtain ⟨v, ev, rv⟩ := RUs.atI rs e2
        exact .inl ⟨_, xs, i, v, rfl, rfl, sq, ev, Post.ok rel p _ rv⟩
      · exact False.elim p
    · exact False.elim p
  · rename_i ws i
    simp only [RU] at rx ry
    obtain ⟨a, xs, rfl, st, rs⟩ := rx
    subst ry
    split at p
    · rename_i w e2
      obtain ⟨v, ev, rv⟩ := RUs.atI rs e2
      exact .inr (.inl ⟨_, xs, i, v, rfl, rfl, st, ev, Post.ok rel p _ rv⟩)
    · exact False.elim p
  · rename_i z i
    simp only [RU] at rx ry
    subst rx ry
    split at p
    · rename_i c e2
      split at p
      · rename_i hc
        exact .inr (.inr ⟨z, i, c, rfl, rfl, lim_le hc, e2, Post.ok rel p _ rfl⟩)
      · exact False.elim p
    · exact False.elim p
  · exact False.elim p

/-! ### slices -/
abbrev MO := Ev → Hm → Option (Rz (Option Int))
def tO (G : Gm) (Wx : WX) (m : MO) : TO := fun σ H Q => ∃ μ ρ h, StOk G μ ρ h σ H ∧ Post G (fun _ _ H' b => Q b H') (fun cls d H' => Wx cls d σ H') μ h H (m ρ h)
theorem _root_.L2.PO.weak {X : Cx} {e : Option Expr} {t t' : TO} (h : PO X e t) (w : ∀ σ H Q, t' σ H Q → t σ H Q) : PO X e t' := by
  obtain ⟨h⟩ := h
  exact ⟨fun pins s σ H Q I q => h pins s σ H Q I (w σ H Q q)⟩
def mNoPart : MO := fun _ h => some (.ok none h)
def mPart (e : ME) : MO := fun ρ h => bnd (e ρ h) fun w h1 => match w with
  | .int i => some (.ok (some i) h1)
  | _ => none
theorem w_noPart : ∀ σ H Q, tO G Wx mNoPart σ H Q → tNoPart σ H Q := fun σ H Q ⟨μ, ρ, h, s, p⟩ => Post.ok s.rel p
theorem w_part {e : ME} : ∀ σ H Q, tO G Wx (mPart e) σ H Q → tPart (tE G Wx e) σ H Q := fun σ H Q ⟨μ, ρ, h, s, p⟩ =>
  ⟨μ, ρ, h, s, (Post.bnd p).mono fun μ1 h1 H1 w g q v r => by
    cases w with
    | int i =>
      simp only [RU] at r
      exact ⟨i, r, Post.ok g.rel q⟩
    | _ => exact False.elim q⟩
def cut {α : Type} (xs : List α) (lo hi : Option Int) : List α := (xs.drop (HT.sIx xs.length 0 lo)).take (HT.sIx xs.length xs.length hi - HT.sIx xs.length 0 lo)
theorem RUs.cut {K : PySem.W.Frag} {n : Nat} {ws : List U} {xs : List V} (r : RUs K μ n H ws xs) (lo hi : Option Int) : RUs K μ n H (cut ws lo hi) (cutV xs lo hi) := by
  unfold ML.cut cutV
  rw [RUs.length r]
  exact RUs.take _ (RUs.drop _ r)
abbrev OS := U → Option Int → Option Int → Hm → Option (Rz U)
def SlC (G : Gm) (f : OS) (r : V → Option Int → Option Int → Hp → VK → Prop) : Prop := ∀ (E : XK) μ h H wx x lo hi Q, HRel G μ h H → RU G.K μ h.length H wx x → Post G (PV G Q) E μ h H (f wx lo hi h) → r x lo hi H Q
def mSl (f : OS) (e : ME) (lo hi : MO) : ME := fun ρ h => bnd (e ρ h) fun x h1 => bnd (lo ρ h1) fun l h2 => bnd (hi ρ h2) fun u h3 => f x l u h3
theorem w_sl {f : OS} {r : V → Option Int → Option Int → Hp → VK → Prop} {e : ME} {lo hi : MO} (c : SlC G f r) : ∀ σ H Q, tE G Wx (mSl f e lo hi) σ H Q → tSl r (tE G Wx e) (tO G Wx lo) (tO G Wx hi) σ H Q := fun σ H Q ⟨μ, ρ, h, s, p⟩ =>
  ⟨μ, ρ, h, s, (Post.bnd p).mono fun μ1 h1 H1 wx g1 q1 x rx => ⟨μ1, ρ, h1, s.on g1, (Post.bnd q1).mono fun μ2 h2 H2 l g2 q2 => ⟨μ2, ρ, h2, (s.on g1).on g2, (Post.bnd q2).mono fun μ3 h3 H3 u g3 q3 =>
    c _ μ3 h3 H3 wx x l u Q g3.rel ((g2.trans g3).ru rx) q3⟩⟩⟩
def oSlL : OS := fun x lo hi h => match x with
  | .ref l => match rd h l with
    | some ws => some (.ok (.ref h.length) (h ++ [.lst (cut ws lo hi)]))
    | none => none
  | _ => none
theorem oSlL_ok : SlC G oSlL (rSlL G.K) := fun E μ h H wx x lo hi Q rel rx p => by
  unfold oSlL at p
  split at p
  · rename_i l
    simp only [RU] at rx
    obtain ⟨_, rfl⟩ := rx
    split at p
    · rename_i ws e1
      obtain ⟨xs, sq, rs⟩ := rd_ok rel e1
      refine ⟨_, xs, rfl, sq, fun q hq => ?_⟩
      have rr := RUs.mono (μ' := nu μ h.length q) (n' := h.length + 1) (H' := upd H q (.lst (cutV xs lo hi))) (fun i hi => nu_old hi) (Nat.le_succ _) (TS0.fresh hq) _ _ (rs.cut lo hi)
      have g := Gr.new (o := .lst (cutV xs lo hi)) (c := .lst (cut ws lo hi)) rel hq ⟨_, upd_same, rr⟩
      exact p _ _ g _ (by simp only [RU]; exact ⟨by simp, by rw [nu_new]⟩)
    · exact False.elim p
  · exact False.elim p
def oSlT : OS := fun x lo hi h => match x with
  | .tup ws => some (.ok (.tup (cut ws lo hi)) h)
  | _ => none
theorem cut_all {α : Type} {xs : List α} {lo hi : Option Int} (e : HT.sIx xs.length 0 lo = 0 ∧ HT.sIx xs.length xs.length hi = xs.length) : cut xs lo hi = xs := by
  unfold cut
  rw [e.1, e.2]
  simp
theorem ru_tup {K : PySem.W.Frag} {n : Nat} {ws : List U} {a : Addr} {xs : List V} (s : SqT K H a xs) (r : RUs K μ n H ws xs) : RU K μ n H (.tup ws) (.ref a) := by
  simp only [RU]
  exact ⟨a, xs, rfl, s, r⟩
/-- a new tuple -/
theorem new_tup {E : XK} {Q : VK} {ws : List U} {xs : List V} (rel : HRel G μ h H) (rs : RUs G.K μ h.length H ws xs) (p : Post G (PV G Q) E μ h H (some (.ok (.tup ws) h))) : ∀ q, H q = none → Q (.ref q) (upd H q (.tup xs)) := fun q hq =>
  p μ _ (Gr.fresh rel hq) _ (ru_tup (SqT.of upd_same) (rs.same (TS0.fresh hq)))
theorem oSlT_ok : SlC G oSlT (rSlA G.K) := fun E μ h H wx x lo hi Q rel rx p => by
  unfold oSlT at p
  split at p
  · rename_i ws
    simp only [RU] at rx
    obtain ⟨a, xs, rfl, st, rs⟩ := rx
    refine ⟨a, xs, rfl, st, fun e => ?_, fun _ => new_tup rel (rs.cut lo hi) p⟩
    rw [RUs.length rs] at e
    rw [cut_all e] at p
    exact Post.ok rel p _ (ru_tup st rs)
  · exact False.elim p
def oAddT2 : O2 := fun x y h => match x, y with
  | .tup xs, .tup ys => if xs.length + ys.length ≤ LIM then some (.ok (.tup (xs ++ ys)) h) else none
  | _, _ => none
theorem oAddT2_ok : OpC G oAddT2 (rCatA G.K) := fun E μ h H wx wy x y Q rel rx ry p => by
  unfold oAddT2 at p
  split at p
  · rename_i xs ys
    simp only [RU] at rx ry
    obtain ⟨a, vs, rfl, sa, ra⟩ := rx
    obtain ⟨b, us, rfl, sb, rb⟩ := ry
    split at p
    · rename_i hc
      refine ⟨a, b, vs, us, rfl, rfl, sa, sb, by rw [RUs.length ra, RUs.length rb]; exact lim_le hc, fun e => ?_, fun _ e => ?_, fun _ _ => new_tup rel (ra.append rb) p⟩
      · have e2 : xs = [] := List.eq_nil_of_length_eq_zero (by rw [← RUs.length ra, e]; rfl)
        subst e2
        exact Post.ok rel p _ (ru_tup sb rb)
      · have e2 : ys = [] := List.eq_nil_of_length_eq_zero (by rw [← RUs.length rb, e]; rfl)
        subst e2
        rw [List.append_nil] at p
        exact Post.ok rel p _ (ru_tup sa ra)
    · exact False.elim p
  · exact False.elim p
end
end ML

set_option maxHeartbeats 4000000
namespace ML
open PySem L2
section
variable {G : Gm} {Wx : WX} {μ μ' : Nat → Addr} {h h' : Hm} {H H' : Hp} {ρ : Ev} {σ : St}

/-! ### tests -/
def toB (w : U) (h : Hm) : Option (Rz Bool) := match w with
  | .bl b => some (.ok b h)
  | _ => none
def mB (e : ME) : MT := fun ρ h => bnd (e ρ h) toB
theorem w_B {e : ME} : ∀ σ H Q, tT G Wx (mB e) σ H Q → tB (tE G Wx e) σ H Q := fun σ H Q ⟨μ, ρ, h, s, p⟩ =>
  ⟨μ, ρ, h, s, (Post.bnd p).mono fun μ1 h1 H1 w g q v r => by
    cases w with
    | bl b => simp only [RU] at r; exact ⟨b, r, Post.ok g.rel q⟩
    | _ => exact False.elim q⟩
theorem w_test {e : ME} : ∀ σ H Q, tT G Wx (mB e) σ H Q → tTest (tE G Wx e) σ H Q := fun σ H Q z => w_B σ H Q z
theorem w_testop {f : O2} {r : R2} {a b : ME} (c : OpC G f r) : ∀ σ H Q, tT G Wx (mB (mOp f a b)) σ H Q → tTest (tOp r (tE G Wx a) (tE G Wx b)) σ H Q := fun σ H Q z => w_op c σ H _ (w_B σ H Q z)
theorem w_testN {a : ME} : ∀ σ H Q, tT G Wx (mB (mIsN false a)) σ H Q → tB (tIsN (tE G Wx a)) σ H Q := fun σ H Q z => w_isN σ H _ (w_B σ H Q z)
theorem w_testNN {a : ME} : ∀ σ H Q, tT G Wx (mB (mIsN true a)) σ H Q → tB (tNotN (tE G Wx a)) σ H Q := fun σ H Q z => w_notN σ H _ (w_B σ H Q z)
def mTAnd (a b : MT) : MT := fun ρ h => bnd (a ρ h) fun c h1 => if c = true then b ρ h1 else some (.ok false h1)
def mTOr (a b : MT) : MT := fun ρ h => bnd (a ρ h) fun c h1 => if c = true then some (.ok true h1) else b ρ h1
def mTNot (a : MT) : MT := fun ρ h => bnd (a ρ h) fun c h1 => some (.ok (!c) h1)
theorem w_tand {a b : MT} : ∀ σ H Q, tT G Wx (mTAnd a b) σ H Q → tAnd (tT G Wx a) (tT G Wx b) σ H Q := fun σ H Q ⟨μ, ρ, h, s, p⟩ =>
  ⟨μ, ρ, h, s, (Post.bnd p).mono fun μ1 h1 H1 c g q => by
    cases c with
    | true => rw [if_pos rfl] at q ⊢; exact ⟨μ1, ρ, h1, s.on g, q⟩
    | false => rw [if_neg Bool.false_ne_true] at q ⊢; exact Post.ok g.rel q⟩
theorem w_tor {a b : MT} : ∀ σ H Q, tT G Wx (mTOr a b) σ H Q → tOr (tT G Wx a) (tT G Wx b) σ H Q := fun σ H Q ⟨μ, ρ, h, s, p⟩ =>
  ⟨μ, ρ, h, s, (Post.bnd p).mono fun μ1 h1 H1 c g q => by
    cases c with
    | true => rw [if_pos rfl] at q ⊢; exact Post.ok g.rel q
    | false => rw [if_neg Bool.false_ne_true] at q ⊢; exact ⟨μ1, ρ, h1, s.on g, q⟩⟩
theorem w_tnot {a : MT} : ∀ σ H Q, tT G Wx (mTNot a) σ H Q → tNot (tT G Wx a) σ H Q := fun σ H Q ⟨μ, ρ, h, s, p⟩ =>
  ⟨μ, ρ, h, s, (Post.bnd p).mono fun μ1 h1 H1 c g q => Post.ok g.rel q⟩
/-- and, or, not as values -/
def mAnd (a b : ME) : ME := fun ρ h => bnd (a ρ h) fun w h1 => match w with
  | .bl c => if c = true then b ρ h1 else some (.ok (.bl false) h1)
  | _ => none
def mOr (a b : ME) : ME := fun ρ h => bnd (a ρ h) fun w h1 => match w with
  | .bl c => if c = true then some (.ok (.bl true) h1) else b ρ h1
  | _ => none
def mNot (a : ME) : ME := fun ρ h => bnd (a ρ h) fun w h1 => match w with
  | .bl c => some (.ok (.bl (!c)) h1)
  | _ => none
def mIfE (c : MT) (a b : ME) : ME := fun ρ h => bnd (c ρ h) fun k h1 => if k = true then a ρ h1 else b ρ h1
theorem w_and {a b : ME} : ∀ σ H Q, tE G Wx (mAnd a b) σ H Q → tAndV (tE G Wx a) (tE G Wx b) σ H Q := fun σ H Q ⟨μ, ρ, h, s, p⟩ =>
  ⟨μ, ρ, h, s, (Post.bnd p).mono fun μ1 h1 H1 w g q v r => by
    cases w with
    | bl c =>
      simp only [RU] at r
      refine ⟨c, r, ?_⟩
      cases c with
      | true => simp only [if_true] at q ⊢; exact ⟨μ1, ρ, h1, s.on g, q⟩
      | false => simp only [Bool.false_eq_true, if_false] at q ⊢; exact Post.ok g.rel q _ rfl
    | _ => exact False.elim q⟩
theorem w_or {a b : ME} : ∀ σ H Q, tE G Wx (mOr a b) σ H Q → tOrV (tE G Wx a) (tE G Wx b) σ H Q := fun σ H Q ⟨μ, ρ, h, s, p⟩ =>
  ⟨μ, ρ, h, s, (Post.bnd p).mono fun μ1 h1 H1 w g q v r => by
    cases w with
    | bl c =>
      simp only [RU] at r
      refine ⟨c, r, ?_⟩
      cases c with
      | true => simp only [if_true] at q ⊢; exact Post.ok g.rel q _ rfl
      | false => simp only [Bool.false_eq_true, if_false] at q ⊢; exact ⟨μ1, ρ, h1, s.on g, q⟩
    | _ => exact False.elim q⟩
theorem w_not {a : ME} : ∀ σ H Q, tE G Wx (mNot a) σ H Q → tNotV (tE G Wx a) σ H Q := fun σ H Q ⟨μ, ρ, h, s, p⟩ =>
  ⟨μ, ρ, h, s, (Post.bnd p).mono fun μ1 h1 H1 w g q v r => by
    cases w with
    | bl c => simp only [RU] at r; exact ⟨c, r, Post.ok g.rel q _ rfl⟩
    | _ => exact False.elim q⟩
theorem w_ifE {c : MT} {a b : ME} : ∀ σ H Q, tE G Wx (mIfE c a b) σ H Q → tIf (tT G Wx c) (tE G Wx a) (tE G Wx b) σ H Q := fun σ H Q ⟨μ, ρ, h, s, p⟩ =>
  ⟨μ, ρ, h, s, (Post.bnd p).mono fun μ1 h1 H1 k g q => by
    cases k with
    | true => rw [if_pos rfl] at q ⊢; exact ⟨μ1, ρ, h1, s.on g, q⟩
    | false => rw [if_neg Bool.false_ne_true] at q ⊢; exact ⟨μ1, ρ, h1, s.on g, q⟩⟩
/-- a < b < c -/
def mChain (f f' : O2) (a b c : ME) : ME := fun ρ h => bnd (a ρ h) fun x h1 => bnd (b ρ h1) fun y h2 => bnd (f x y h2) fun z h3 => match z with
  | .bl k => if k = true then bnd (c ρ h3) fun w h4 => f' y w h4 else some (.ok (.bl false) h3)
  | _ => none
theorem w_chain {f f' : O2} {r r' : R2} {a b c : ME} (c1 : OpC G f r) (c2 : OpC G f' r') : ∀ σ H Q, tE G Wx (mChain f f' a b c) σ H Q → tChain r r' (tE G Wx a) (tE G Wx b) (tE G Wx c) σ H Q := fun σ H Q ⟨μ, ρ, h, s, p⟩ =>
  ⟨μ, ρ, h, s, (Post.bnd p).mono fun μ1 h1 H1 wx g1 q1 x rx => ⟨μ1, ρ, h1, s.on g1, (Post.bnd q1).mono fun μ2 h2 H2 wy g2 q2 y ry =>
    c1 _ μ2 h2 H2 wx wy x y _ g2.rel (g2.ru rx) ry ((Post.bnd q2).mono fun μ3 h3 H3 wz g3 q3 z rz => by
      cases wz with
      | bl k =>
        simp only [RU] at rz
        refine ⟨k, rz, ?_⟩
        cases k with
        | true =>
          simp only [if_true] at q3 ⊢
          exact ⟨μ3, ρ, h3, ((s.on g1).on g2).on g3, (Post.bnd q3).mono fun μ4 h4 H4 ww g4 q4 w rw => c2 _ μ4 h4 H4 wy ww y w Q g4.rel ((g3.trans g4).ru ry) rw q4⟩
        | false => simp only [Bool.false_eq_true, if_false] at q3 ⊢; exact Post.ok g3.rel q3 _ rfl
      | _ => exact False.elim q3)⟩⟩
theorem w_testchain {f f' : O2} {r r' : R2} {a b c : ME} (c1 : OpC G f r) (c2 : OpC G f' r') : ∀ σ H Q, tT G Wx (mB (mChain f f' a b c)) σ H Q → tTest (tChain r r' (tE G Wx a) (tE G Wx b) (tE G Wx c)) σ H Q :=
  fun σ H Q z => w_chain c1 c2 σ H _ (w_B σ H Q z)
/-- -a -/
def mNeg (a : ME) : ME := fun ρ h => bnd (a ρ h) fun w h1 => match w with
  | .int i => some (.ok (.int (-i)) h1)
  | _ => none
theorem w_neg {a : ME} : ∀ σ H Q, tE G Wx (mNeg a) σ H Q → tUn (rU fun i => .int (-i)) (tE G Wx a) σ H Q := fun σ H Q ⟨μ, ρ, h, s, p⟩ =>
  ⟨μ, ρ, h, s, (Post.bnd p).mono fun μ1 h1 H1 w g q v r => by
    cases w with
    | int i => simp only [RU] at r; exact ⟨i, r, Post.ok g.rel q _ rfl⟩
    | _ => exact False.elim q⟩

/-! ### arguments, displays -/
def mNil : MA := fun _ h => some (.ok [] h)
def mCons (e : ME) (es : MA) : MA := fun ρ h => bnd (e ρ h) fun w h1 => bnd (es ρ h1) fun ws h2 => some (.ok (w :: ws) h2)
theorem w_nil : ∀ σ H Q, tA G Wx mNil σ H Q → tNil σ H Q := fun σ H Q ⟨μ, ρ, h, s, p⟩ => Post.ok s.rel p _ RUs.nil
theorem w_cons {e : ME} {es : MA} : ∀ σ H Q, tA G Wx (mCons e es) σ H Q → tCons (tE G Wx e) (tA G Wx es) σ H Q := fun σ H Q ⟨μ, ρ, h, s, p⟩ =>
  ⟨μ, ρ, h, s, (Post.bnd p).mono fun μ1 h1 H1 wx g1 q1 x rx => ⟨μ1, ρ, h1, s.on g1, (Post.bnd q1).mono fun μ2 h2 H2 ws g2 q2 vs rs => Post.ok g2.rel q2 _ (RUs.cons (g2.ru rx) rs)⟩⟩
def mTup (es : MA) : ME := fun ρ h => bnd (es ρ h) fun ws h1 => if ws.length ≤ LIM then some (.ok (.tup ws) h1) else none
def mLst (es : MA) : ME := fun ρ h => bnd (es ρ h) fun ws h1 => if ws.length ≤ LIM then some (.ok (.ref h1.length) (h1 ++ [.lst ws])) else none
theorem w_tup {es : MA} : ∀ σ H Q, tE G Wx (mTup es) σ H Q → tTup (tA G Wx es) σ H Q := fun σ H Q ⟨μ, ρ, h, s, p⟩ =>
  ⟨μ, ρ, h, s, (Post.bnd p).mono fun μ1 h1 H1 ws g q vs rs => by
    split at q
    · rename_i hc
      exact ⟨by rw [RUs.length rs]; exact lim_le hc, new_tup g.rel rs q⟩
    · exact False.elim q⟩
/-- a new list -/
theorem new_lst {E : XK} {Q : VK} {ws : List U} {xs : List V} (rel : HRel G μ h H) (rs : RUs G.K μ h.length H ws xs) (p : Post G (PV G Q) E μ h H (some (.ok (.ref h.length) (h ++ [.lst ws])))) : ∀ q, H q = none → Q (.ref q) (upd H q (.lst xs)) := fun q hq => by
  have rr := RUs.mono (μ' := nu μ h.length q) (n' := h.length + 1) (H' := upd H q (.lst xs)) (fun i hi => nu_old hi) (Nat.le_succ _) (TS0.fresh hq) _ _ rs
  have g := Gr.new (o := .lst xs) (c := .lst ws) rel hq ⟨_, upd_same, rr⟩
  exact p _ _ g _ (by simp only [RU]; exact ⟨by simp, by rw [nu_new]⟩)
theorem w_lst {es : MA} : ∀ σ H Q, tE G Wx (mLst es) σ H Q → tLst (tA G Wx es) σ H Q := fun σ H Q ⟨μ, ρ, h, s, p⟩ =>
  ⟨μ, ρ, h, s, (Post.bnd p).mono fun μ1 h1 H1 ws g q vs rs => by
    split at q
    · rename_i hc
      exact ⟨by rw [RUs.length rs]; exact lim_le hc, new_lst g.rel rs q⟩
    · exact False.elim q⟩

/-! ### calls of built-ins -/
def CallC (G : Gm) (f : MF) (r : List V → Hp → VK → Prop) : Prop := ∀ (E : XK) μ h H ws vs Q, HRel G μ h H → RUs G.K μ h.length H ws vs → Post G (PV G Q) E μ h H (f ws h) → r vs H Q
def mCB (f : MF) (es : MA) : ME := fun ρ h => bnd (es ρ h) fun ws h1 => f ws h1
theorem w_cb {f : MF} {r : List V → Hp → VK → Prop} {es : MA} (c : CallC G f r) : ∀ σ H Q, tE G Wx (mCB f es) σ H Q → tCB r (tA G Wx es) σ H Q := fun σ H Q ⟨μ, ρ, h, s, p⟩ =>
  ⟨μ, ρ, h, s, (Post.bnd p).mono fun μ1 h1 H1 ws g q vs rs => c _ μ1 h1 H1 ws vs Q g.rel rs q⟩
theorem rus1 {K : PySem.W.Frag} {n : Nat} {w : U} {vs : List V} (r : RUs K μ n H [w] vs) : ∃ v, vs = [v] ∧ RU K μ n H w v := by
  simp only [RUs] at r
  obtain ⟨y, ys, rfl, r1, rfl⟩ := r
  exact ⟨y, rfl, r1⟩
theorem rus2 {K : PySem.W.Frag} {n : Nat} {w u : U} {vs : List V} (r : RUs K μ n H [w, u] vs) : ∃ v x, vs = [v, x] ∧ RU K μ n H w v ∧ RU K μ n H u x := by
  simp only [RUs] at r
  obtain ⟨y, ys, rfl, r1, z, zs, rfl, r2, rfl⟩ := r
  exact ⟨y, z, rfl, r1, r2⟩
/-- len of a list or a tuple, of a text -/
def fLen : MF := fun ws h => match ws with
  | [.ref i] => match rd h i with
    | some us => some (.ok (.int us.length) h)
    | none => none
  | [.tup us] => some (.ok (.int us.length) h)
  | [.str z] => if z.length ≤ LIM then some (.ok (.int z.length) h) else none
  | _ => none
theorem fLen_ok : CallC G fLen (fun xs H Q => ∃ x n, xs = [x] ∧ LenV G.K x H n ∧ Q (.int n) H) := fun E μ h H ws vs Q rel rs p => by
  unfold fLen at p
  split at p
  · rename_i i
    obtain ⟨v, rfl, r⟩ := rus1 rs
    simp only [RU] at r
    obtain ⟨_, rfl⟩ := r
    split at p
    · rename_i us e
      obtain ⟨xs, sq, rr⟩ := rd_ok rel e
      exact ⟨_, us.length, rfl, .inl ⟨xs, sq, (RUs.length rr).symm⟩, Post.ok rel p _ rfl⟩
    · exact False.elim p
  · rename_i us
    obtain ⟨v, rfl, r⟩ := rus1 rs
    simp only [RU] at r
    obtain ⟨a, xs, rfl, st, rr⟩ := r
    exact ⟨_, us.length, rfl, .inr ⟨xs, st, (RUs.length rr).symm⟩, Post.ok rel p _ rfl⟩
  · rename_i z
    obtain ⟨v, rfl, r⟩ := rus1 rs
    simp only [RU] at r
    subst r
    split at p
    · rename_i hc
      exact ⟨_, z.length, rfl, ⟨lim_le hc, rfl⟩, Post.ok rel p _ rfl⟩
    · exact False.elim p
  · exact False.elim p
def fAbs : MF := fun ws h => match ws with
  | [.int i] => some (.ok (.int (if i < 0 then -i else i)) h)
  | _ => none
theorem fAbs_ok : CallC G fAbs (fun xs H Q => ∃ i, xs = [.int i] ∧ Q (.int (if i < 0 then -i else i)) H) := fun E μ h H ws vs Q rel rs p => by
  unfold fAbs at p
  split at p
  · rename_i i
    obtain ⟨v, rfl, r⟩ := rus1 rs
    simp only [RU] at r
    subst r
    exact ⟨i, rfl, Post.ok rel p _ rfl⟩
  · exact False.elim p
def fMax2 : MF := fun ws h => match ws with
  | [.int i, .int j] => some (.ok (.int (if j > i then j else i)) h)
  | _ => none
theorem fMax2_ok : CallC G fMax2 (fun xs H Q => ∃ i j, xs = [.int i, .int j] ∧ Q (.int (if j > i then j else i)) H) := fun E μ h H ws vs Q rel rs p => by
  unfold fMax2 at p
  split at p
  · rename_i i j
    obtain ⟨v, u, rfl, r1, r2⟩ := rus2 rs
    simp only [RU] at r1 r2
    subst r1 r2
    exact ⟨i, j, rfl, Post.ok rel p _ rfl⟩
  · exact False.elim p
def fMin2 : MF := fun ws h => match ws with
  | [.int i, .int j] => some (.ok (.int (if j < i then j else i)) h)
  | _ => none
theorem fMin2_ok : CallC G fMin2 (fun xs H Q => ∃ i j, xs = [.int i, .int j] ∧ Q (.int (if j < i then j else i)) H) := fun E μ h H ws vs Q rel rs p => by
  unfold fMin2 at p
  split at p
  · rename_i i j
    obtain ⟨v, u, rfl, r1, r2⟩ := rus2 rs
    simp only [RU] at r1 r2
    subst r1 r2
    exact ⟨i, j, rfl, Post.ok rel p _ rfl⟩
  · exact False.elim p
/-- int of an int, of a bool, of a text -/
def fInt : MF := fun ws h => match ws with
  | [.int i] => some (.ok (.int i) h)
  | [.bl k] => some (.ok (.int (if k then 1 else 0)) h)
  | _ => none
theorem fInt_ok : CallC G fInt (fun xs H Q => (∃ i, xs = [.int i] ∧ Q (.int i) H) ∨ ∃ k, xs = [.bl k] ∧ Q (.int (if k then 1 else 0)) H) := fun E μ h H ws vs Q rel rs p => by
  unfold fInt at p
  split at p
  · rename_i i
    obtain ⟨v, rfl, r⟩ := rus1 rs
    simp only [RU] at r
    subst r
    exact .inl ⟨i, rfl, Post.ok rel p _ rfl⟩
  · rename_i k
    obtain ⟨v, rfl, r⟩ := rus1 rs
    simp only [RU] at r
    subst r
    exact .inr ⟨k, rfl, Post.ok rel p _ rfl⟩
  · exact False.elim p
def fIntS : MF := fun ws h => match ws with
  | [.str a] => match PySem.intText? a with
    | some n => if a.length ≤ 640 then some (.ok (.int n) h) else none
    | none => none
  | _ => none
theorem fIntS_ok : CallC G fIntS (fun xs H Q => ∃ a n, xs = [.str a] ∧ PySem.intText? a = some n ∧ a.length ≤ 640 ∧ Q (.int n) H) := fun E μ h H ws vs Q rel rs p => by
  unfold fIntS at p
  split at p
  · rename_i a
    obtain ⟨v, rfl, r⟩ := rus1 rs
    simp only [RU] at r
    subst r
    split at p
    · rename_i n e
      split at p
      · rename_i hc
        exact ⟨a, n, rfl, e, hc, Post.ok rel p _ rfl⟩
      · exact False.elim p
    · exact False.elim p
  · exact False.elim p
/-- str of an int -/
def fStrI : MF := fun ws h => match ws with
  | [.int i] => if i.natAbs.log2 < 1920 then some (.ok (.str (toString i)) h) else none
  | _ => none
theorem fStrI_ok : CallC G fStrI (fun xs H Q => ∃ i, xs = [.int i] ∧ i.natAbs.log2 < 1920 ∧ Q (.str (toString i)) H) := fun E μ h H ws vs Q rel rs p => by
  unfold fStrI at p
  split at p
  · rename_i i
    obtain ⟨v, rfl, r⟩ := rus1 rs
    simp only [RU] at r
    subst r
    split at p
    · rename_i hc
      exact ⟨i, rfl, hc, Post.ok rel p _ rfl⟩
    · exact False.elim p
  · exact False.elim p
/-- all(xs), any(xs) of truth values -/
def blsOf : List U → Option (List Bool)
  | [] => some []
  | .bl b :: ws => match blsOf ws with
    | some bs => some (b :: bs)
    | none => none
  | _ :: _ => none
theorem blsOf_ok {K : PySem.W.Frag} {n : Nat} : ∀ {ws : List U} {vs : List V} {bs : List Bool}, blsOf ws = some bs → RUs K μ n H ws vs → vs = bs.map V.bl
  | [], vs, bs, e, r => by simp only [RUs] at r; subst r; cases e; rfl
  | w :: ws, vs, bs, e, r => by
    cases w <;> first | (cases e; done) | skip
    rename_i b
    simp only [blsOf] at e
    simp only [RUs] at r
    obtain ⟨y, ys, rfl, r1, rs⟩ := r
    cases e1 : blsOf ws with
    | none => rw [e1] at e; cases e
    | some bs2 =>
      rw [e1] at e
      cases e
      simp only [RU] at r1
      rw [r1, blsOf_ok e1 rs]
      rfl
def fAll (any : Bool) : MF := fun ws h => match ws with
  | [.ref i] => match rd h i with
    | some us => match blsOf us with
      | some bs => some (.ok (.bl (if any then bs.any id else bs.all id)) h)
      | none => none
    | none => none
  | _ => none
theorem fAll_ok : CallC G (fAll false) (fun vs H Q => ∃ (a : Addr) (bs : List Bool), vs = [V.ref a] ∧ SqL G.K H a (bs.map V.bl) ∧ Q (.bl (bs.all id)) H) := fun E μ h H ws vs Q rel rs p => by
  unfold fAll at p
  split at p
  · rename_i i
    obtain ⟨v, rfl, r⟩ := rus1 rs
    simp only [RU] at r
    obtain ⟨_, rfl⟩ := r
    split at p
    · rename_i us e
      split at p
      · rename_i bs eb
        obtain ⟨xs, sq, rr⟩ := rd_ok rel e
        have := blsOf_ok eb rr
        subst this
        exact ⟨_, bs, rfl, sq, Post.ok rel p _ (by simp [RU])⟩
      · exact False.elim p
    · exact False.elim p
  · exact False.elim p
theorem fAny_ok : CallC G (fAll true) (fun vs H Q => ∃ (a : Addr) (bs : List Bool), vs = [V.ref a] ∧ SqL G.K H a (bs.map V.bl) ∧ Q (.bl (bs.any id)) H) := fun E μ h H ws vs Q rel rs p => by
  unfold fAll at p
  split at p
  · rename_i i
    obtain ⟨v, rfl, r⟩ := rus1 rs
    simp only [RU] at r
    obtain ⟨_, rfl⟩ := r
    split at p
    · rename_i us e
      split at p
      · rename_i bs eb
        obtain ⟨xs, sq, rr⟩ := rd_ok rel e
        have := blsOf_ok eb rr
        subst this
        exact ⟨_, bs, rfl, sq, Post.ok rel p _ (by simp [RU])⟩
      · exact False.elim p
    · exact False.elim p
  · exact False.elim p
/-- list(x), tuple(x) -/
def fList : MF := fun ws h => match (match ws with
    | [.ref i] => rd h i
    | [.tup us] => some us
    | _ => none) with
  | some us => some (.ok (.ref h.length) (h ++ [.lst us]))
  | none => none
theorem fList_ok : CallC G fList (fun xs H Q => ∃ p ys, xs = [.ref p] ∧ (SqL G.K H p ys ∨ SqT G.K H p ys) ∧ ∀ l, H l = none → Q (.ref l) (upd H l (.lst ys))) := fun E μ h H ws vs Q rel rs p => by
  unfold fList at p
  split at p
  · rename_i us e
    split at e
    · rename_i i
      obtain ⟨v, rfl, r⟩ := rus1 rs
      simp only [RU] at r
      obtain ⟨_, rfl⟩ := r
      obtain ⟨xs, sq, rr⟩ := rd_ok rel e
      exact ⟨_, xs, rfl, .inl sq, new_lst rel rr p⟩
    · rename_i us'
      cases e
      obtain ⟨v, rfl, r⟩ := rus1 rs
      simp only [RU] at r
      obtain ⟨a, xs, rfl, st, rr⟩ := r
      exact ⟨_, xs, rfl, .inr st, new_lst rel rr p⟩
    · cases e
  · exact False.elim p
def fTuple : MF := fun ws h => match (match ws with
    | [.ref i] => rd h i
    | [.tup us] => some us
    | _ => none) with
  | some us => some (.ok (.tup us) h)
  | none => none
theorem fTuple_ok : CallC G fTuple (fun xs H Q => ∃ p ys, xs = [.ref p] ∧ ((SqL G.K H p ys ∧ ∀ l, H l = none → Q (.ref l) (upd H l (.tup ys))) ∨ (SqT G.K H p ys ∧ Q (.ref p) H))) := fun E μ h H ws vs Q rel rs p => by
  unfold fTuple at p
  split at p
  · rename_i us e
    split at e
    · rename_i i
      obtain ⟨v, rfl, r⟩ := rus1 rs
      simp only [RU] at r
      obtain ⟨_, rfl⟩ := r
      obtain ⟨xs, sq, rr⟩ := rd_ok rel e
      exact ⟨_, xs, rfl, .inl ⟨sq, new_tup rel rr p⟩⟩
    · rename_i us'
      cases e
      obtain ⟨v, rfl, r⟩ := rus1 rs
      simp only [RU] at r
      obtain ⟨a, xs, rfl, st, rr⟩ := r
      exact ⟨_, xs, rfl, .inr ⟨st, Post.ok rel p _ (ru_tup st rr)⟩⟩
    · cases e
  · exact False.elim p

/-! ### methods of built-in types -/
def MtC (G : Gm) (T : String) (f : U → MF) (r : V → List V → Hp → VK → Prop) : Prop := ∀ (E : XK) μ h H wx x ws vs Q, HRel G μ h H → RU G.K μ h.length H wx x → RUs G.K μ h.length H ws vs → Post G (PV G Q) E μ h H (f wx ws h) → r x vs H Q
/-- what kind a value must be for its method to be looked up -/
def TyC (G : Gm) (T : String) (k : U → Hm → Bool) : Prop := ∀ μ h H w v, HRel G μ h H → RU G.K μ h.length H w v → k w h = true → tyV G.K T v H
def mBM (k : U → Hm → Bool) (f : U → MF) (o : ME) (es : MA) : ME := fun ρ h => bnd (o ρ h) fun x h1 => if k x h1 = true then bnd (es ρ h1) fun ws h2 => f x ws h2 else none
theorem w_bm {T : String} {k : U → Hm → Bool} {f : U → MF} {r : V → List V → Hp → VK → Prop} {o : ME} {es : MA} (ty : TyC G T k) (c : MtC G T f r) : ∀ σ H Q, tE G Wx (mBM k f o es) σ H Q → tBM G.K T r (tE G Wx o) (tA G Wx es) σ H Q := fun σ H Q ⟨μ, ρ, h, s, p⟩ =>
  ⟨μ, ρ, h, s, (Post.bnd p).mono fun μ1 h1 H1 wx g1 q1 x rx => by
    split at q1
    · rename_i hk
      exact ⟨ty μ1 h1 H1 wx x g1.rel rx hk, μ1, ρ, h1, s.on g1, (Post.bnd q1).mono fun μ2 h2 H2 ws g2 q2 vs rs => c _ μ2 h2 H2 wx x ws vs Q g2.rel (g2.ru rx) rs q2⟩
    · exact False.elim q1⟩
theorem w_bm0 {T : String} {k : U → Hm → Bool} {f : U → MF} {r : V → List V → Hp → VK → Prop} {o : ME} (ty : TyC G T k) (c : MtC G T f r) : ∀ σ H Q, tE G Wx (mBM k f o mNil) σ H Q → tBM0 G.K T r (tE G Wx o) σ H Q := fun σ H Q ⟨μ, ρ, h, s, p⟩ =>
  ⟨μ, ρ, h, s, (Post.bnd p).mono fun μ1 h1 H1 wx g1 q1 x rx => by
    split at q1
    · rename_i hk
      exact ⟨ty μ1 h1 H1 wx x g1.rel rx hk, c _ μ1 h1 H1 wx x [] [] Q g1.rel rx RUs.nil q1⟩
    · exact False.elim q1⟩
def kList : U → Hm → Bool := fun w h => match w with
  | .ref i => match h[i]? with
    | some (.lst _) => true
    | _ => false
  | _ => false
theorem kList_ok : TyC G "list" kList := fun μ h H w v rel r e => by
  unfold kList at e
  split at e
  · rename_i i
    split at e
    · rename_i ws ec
      simp only [RU] at r
      obtain ⟨_, rfl⟩ := r
      obtain ⟨xs, s, _⟩ := rel.cell i _ ec
      exact .inl ⟨rfl, xs, SqL.of s⟩
    · cases e
  · cases e
def kStr : U → Hm → Bool := fun w _ => match w with
  | .str _ => true
  | _ => false
theorem kStr_ok : TyC G "str" kStr := fun μ h H w v rel r e => by
  unfold kStr at e
  split at e
  · simp only [RU] at r
    subst r
    exact rfl
  · cases e
def fAppend : U → MF := fun x ws h => match x, ws with
  | .ref l, [w] => match h[l]? with
    | some (.lst us) => if us.length < LIM then some (.ok .non (h.set l (.lst (us ++ [w])))) else none
    | _ => none
  | _, _ => none
theorem fAppend_ok : MtC G "list" fAppend rAppend := fun E μ h H wx x ws vs Q rel rx rs p => by
  unfold fAppend at p
  split at p
  · rename_i l w
    simp only [RU] at rx
    obtain ⟨hl, rfl⟩ := rx
    obtain ⟨v, rfl, rv⟩ := rus1 rs
    split at p
    · rename_i us ec
      split at p
      · rename_i hc
        obtain ⟨xs, s, rr⟩ := rel.cell l _ ec
        refine ⟨_, xs, v, rfl, rfl, s, by rw [RUs.length rr]; exact Nat.lt_of_lt_of_le hc (lim_le (Nat.le_refl _)), ?_⟩
        have ts : TS0 G.K H (upd H (μ l) (.lst (xs ++ [v]))) := TS0.write s rfl
        have g := Gr.write (o := .lst (xs ++ [v])) (d := .lst (us ++ [w])) rel ec rfl rfl ⟨_, upd_same, (rr.append (RUs.cons rv RUs.nil)).same ts⟩
        exact p _ _ g _ rfl
      · exact False.elim p
    · exact False.elim p
  · exact False.elim p
def fPop : U → MF := fun x ws h => match x, ws with
  | .ref l, [] => match h[l]? with
    | some (.lst us) => match us[us.length - 1]? with
      | some w => some (.ok w (h.set l (.lst us.dropLast)))
      | none => none
    | _ => none
  | _, _ => none

/-! ### xs[i] = e -/
def mSetIx (e o i : ME) : MS := fun ρ h => bndS ρ (e ρ h) fun w h1 => bndS ρ (o ρ h1) fun x h2 => bndS ρ (i ρ h2) fun y h3 => match x, y with
  | .ref l, .int k => match h3[l]? with
    | some (.lst us) => match ixN us.length k with
      | some j => some (.nx ρ (h3.set l (.lst (us.set j w))))
      | none => none
    | _ => none
  | _, _ => none
theorem w_setIx {e o i : ME} : ∀ D σ H, tS G Wx (mSetIx e o i) D σ H → tAsg (tE G Wx e) (gSub (tE G Wx o) (tE G Wx i) rSetL) D σ H := fun D σ H ⟨μ, ρ, h, s, p⟩ =>
  ⟨μ, ρ, h, s, (PostS.bnd s p).mono fun μ1 h1 H1 w g1 q1 v rv => ⟨μ1, ρ, h1, s.on g1, (PostS.bnd (s.on g1) q1).mono fun μ2 h2 H2 wx g2 q2 x rx => ⟨μ2, ρ, h2, (s.on g1).on g2, (PostS.bnd ((s.on g1).on g2) q2).mono fun μ3 h3 H3 wy g3 q3 y ry => by
    have rx := g3.ru rx
    have rv := (g2.trans g3).ru rv
    cases wx with
    | ref l =>
      cases wy with
      | int k =>
        simp only [RU] at rx ry
        obtain ⟨hl, rfl⟩ := rx
        subst ry
        simp only at q3
        split at q3
        · rename_i us ec
          split at q3
          · rename_i j ej
            obtain ⟨xs, sx, rr⟩ := g3.rel.cell l _ ec
            refine ⟨_, xs, k, j, rfl, rfl, sx, by rw [RUs.length rr]; exact ej, ?_⟩
            have ts : TS0 G.K H3 (upd H3 (μ3 l) (.lst (xs.set j v))) := TS0.write sx rfl
            have g := Gr.write (o := .lst (xs.set j v)) (d := .lst (us.set j w)) g3.rel ec rfl rfl ⟨_, upd_same, (RUs.set rv j rr).same ts⟩
            exact q3 μ3 σ _ g ((((s.on g1).on g2).on g3).on g)
          · exact False.elim q3
        · exact False.elim q3
      | _ => exact False.elim q3
    | _ => exact False.elim q3⟩⟩⟩
end
end ML

set_option maxHeartbeats 4000000
namespace ML
open PySem L2
section
variable {G : Gm} {Wx : WX} {μ μ' : Nat → Addr} {h h' : Hm} {H H' : Hp} {ρ : Ev} {σ : St}

/-! ### a def's promise -/
def spM (G : Gm) (n : Nat) (f : MF) : Sp := fun vs H Q E => ∃ μ h ws, HRel G μ h H ∧ RUs G.K μ h.length H ws vs ∧ vs.length = n ∧ Post G (PV G Q) E μ h H (f ws h)
/-- a def by its body: n parameters, N slots -/
def mfun (n N : Nat) (body : MS) : MF := fun ws h => if ws.length = n then match body (ws.map some ++ List.replicate (N - n) none) h with
    | some (.nx _ h1) => some (.ok .non h1)
    | some (.rt w h1) => some (.ok w h1)
    | some (.ex c fs _ h1) => some (.ex c fs h1)
    | _ => none
  else none
theorem st_start {ws : List U} {vs : List V} {n : Nat} {Ns : List Str} (rel : HRel G μ h H) (rs : RUs G.K μ h.length H ws vs) (hn : vs.length = n) : StOk G μ (ws.map some ++ List.replicate (Ns.length - n) none) h (L2.start Ns vs) H := by
  have hl := RUs.length rs
  refine ⟨rel, by simp [L2.start, ← hn, hl], fun i w e => ?_⟩
  by_cases hi : i < ws.length
  · rw [List.getElem?_append_left (by simpa using hi), List.getElem?_map] at e
    cases e1 : ws[i]? with
    | none => rw [e1] at e; cases e
    | some u =>
      rw [e1] at e
      cases e
      obtain ⟨v, ev, rv⟩ := RUs.get rs e1
      refine ⟨v, ?_, rv⟩
      unfold L2.start
      rw [List.getElem?_append_left (by simp [hl]; exact hi), List.getElem?_map, ev]
      rfl
  · rw [List.getElem?_append_right (by simp; omega)] at e
    rw [List.getElem?_replicate] at e
    split at e <;> cases e
section
variable {P : Program} {w : World} {K : PySem.W.Frag} {mg : Str → Option Value} {base : Heap}
abbrev FnM (P : Program) (w : World) (G : Gm) (mg : Str → Option Value) (base : Heap) (k : Nat) (f : Addr) (fd : FuncData) (ps : List Str) (m : MF) : Prop := FnOk P w G.K mg base (L2.CX P w) k f fd ps (spM G ps.length m)
/-- the wish of a def's body about exceptions -/
abbrev wDef (E : XK) : WX := fun cls d _ H => E cls d H
theorem fn_M {x qual : Str} {st : Stmt} {f : Addr} {fd : FuncData} {N ps : List Str} {k : Nat} {m : MS} (F : Fun G.K x qual st f fd) (S : FnScope N ps (defScope st))
    (hbody : ∀ (cdv : Value) (A : Around) (outer : List Env) (s : Shared) (H : Hp) (E : XK), Room k (A.deeper (PyProof.Rows.envOfC qual (defScope st) s.heap.objs.size f cdv)) →
      Takes (cxOf (L2.CX P w) P w G.K mg base N qual (defScope st) f cdv A outer s H E) (wDef E) →
      PSs (cxOf (L2.CX P w) P w G.K mg base N qual (defScope st) f cdv A outer s H E) (defBody st) (tS G (wDef E) m)) :
    FnM P w G mg base (k + 1) f fd ps (mfun ps.length N.length m) := by
  refine F.okX S (fun vs H Q E z => ?_) (fun cdv A outer s H vs Q E hr hsp => ⟨_, hbody cdv A outer s H E hr (takes_of rfl rfl rfl rfl), ?_⟩)
  · obtain ⟨_, _, _, _, _, hl, _⟩ := z
    exact hl
  · obtain ⟨μ, h, ws, rel, rs, hl, p⟩ := hsp
    refine ⟨μ, _, h, st_start rel rs hl, ?_⟩
    unfold mfun at p
    have hw : ws.length = ps.length := by rw [← RUs.length rs]; exact hl
    rw [if_pos hw] at p
    cases e : m (ws.map some ++ List.replicate (N.length - ps.length) none) h with
    | none => rw [e] at p; exact p
    | some r =>
      rw [e] at p
      cases r with
      | nx ρ' h1 => exact fun μ' σ' H' g s' => p μ' H' g _ rfl
      | rt w h1 => exact fun μ' H' v g r => p μ' H' g v r
      | bk ρ' h1 => exact False.elim p
      | ct ρ' h1 => exact False.elim p
      | ex c fs ρ' h1 => exact fun μ' σ' H' cls d g s' rx => p μ' H' cls d g rx
/-- a plainer function in its place -/
theorem FnM.to {k : Nat} {f : Addr} {fd : FuncData} {ps : List Str} {m m' : MF} (F : FnM P w G mg base k f fd ps m) (hm : ∀ ws h r, m' ws h = some r → m ws h = some r) : FnM P w G mg base k f fd ps m' :=
  FnOk.imp F fun vs H Q E ⟨μ, h, ws, rel, rs, hl, p⟩ => ⟨μ, h, ws, rel, rs, hl, by
    cases e : m' ws h with
    | none => rw [e] at p; exact False.elim p
    | some r => rw [hm ws h r e, ← e]; exact p⟩
end

/-! ### the call of a def -/
theorem Post.on {α : Type} {P : (Nat → Addr) → Hm → Hp → α → Prop} {E : XK} {r : Option (Rz α)} (p : Post G P E μ h H r) (g : Gr G μ h H μ' h' H') : Post G P E μ' h' H' r := by
  cases r with
  | none => exact p
  | some r =>
    cases r with
    | ok a h1 => exact fun μ1 H1 g1 => p μ1 H1 (g.trans g1)
    | ex c fs h1 => exact fun μ1 H1 cls d g1 rx => p μ1 H1 cls d (g.trans g1) rx
/-- as many arguments -/
def AL (m : MA) (n : Nat) : Prop := ∀ ρ h ws h', m ρ h = some (.ok ws h') → ws.length = n
theorem al_nil : AL mNil 0 := fun ρ h ws h' e => by
  unfold mNil at e
  cases e
  rfl
theorem al_cons {e : ME} {es : MA} {n : Nat} (a : AL es n) : AL (mCons e es) (n + 1) := fun ρ h ws h' q => by
  unfold mCons at q
  cases e1 : e ρ h with
  | none => rw [e1] at q; cases q
  | some r =>
    rw [e1] at q
    cases r with
    | ex c fs h1 => cases q
    | ok w h1 =>
      simp only [bnd_ok] at q
      cases e2 : es ρ h1 with
      | none => rw [e2] at q; cases q
      | some r2 =>
        rw [e2] at q
        cases r2 with
        | ex c fs h2 => cases q
        | ok ws2 h2 =>
          simp only [bnd_ok] at q
          cases q
          simp [a ρ h1 ws2 _ e2]
theorem Post.withEq {α : Type} {P : (Nat → Addr) → Hm → Hp → α → Prop} {E : XK} {r : Option (Rz α)} (p : Post G P E μ h H r) : Post G (fun μ' h' H' a => P μ' h' H' a ∧ r = some (.ok a h')) E μ h H r := by
  cases r with
  | none => exact p
  | some r =>
    cases r with
    | ok a h' => exact fun μ' H' g => ⟨p μ' H' g, rfl⟩
    | ex c fs h' => exact p
theorem w_call {n : Nat} {f : MF} {es : MA} (a : AL es n) : ∀ σ H Q, tE G Wx (mCB f es) σ H Q → tCallS (spM G n f) (WE Wx) (tA G Wx es) σ H Q := fun σ H Q ⟨μ, ρ, h, s, p⟩ =>
  ⟨μ, ρ, h, s, (Post.bnd p).withEq.mono fun μ1 h1 H1 ws g ⟨q, eq⟩ vs rs => ⟨μ1, h1, ws, g.rel, rs, (RUs.length rs).trans (a ρ h ws h1 eq), q⟩⟩

def fput (f : Str) (w : U) : List (Str × U) → List (Str × U)
  | [] => [(f, w)]
  | (g, u) :: fs => if g = f then (f, w) :: fs else (g, u) :: fput f w fs
theorem RFs.put {K : PySem.W.Frag} {n : Nat} {f : Str} {w : U} {v : V} (r : RU K μ n H w v) : ∀ {fs : List (Str × U)} {gs : List (Str × V)}, RFs K μ n H fs gs → RFs K μ n H (fput f w fs) (putF f v gs)
  | [], gs, q => by
    simp only [RFs] at q
    subst q
    show RFs K μ n H [(f, w)] [(f, v)]
    simp only [RFs]
    exact ⟨v, [], rfl, r, rfl⟩
  | (g, u) :: fs, gs, q => by
    simp only [RFs] at q
    obtain ⟨y, ys, rfl, r1, rs⟩ := q
    unfold fput putF
    by_cases hg : g = f
    · rw [if_pos hg, if_pos hg]
      subst hg
      simp only [RFs]
      exact ⟨v, ys, rfl, r, rs⟩
    · rw [if_neg hg, if_neg hg]
      simp only [RFs]
      exact ⟨y, _, rfl, r1, RFs.put r rs⟩
theorem RFs.length {K : PySem.W.Frag} {n : Nat} : ∀ {fs : List (Str × U)} {gs : List (Str × V)}, RFs K μ n H fs gs → gs.length = fs.length
  | [], gs, q => by simp only [RFs] at q; subst q; rfl
  | (g, u) :: fs, gs, q => by
    simp only [RFs] at q
    obtain ⟨y, ys, rfl, r1, rs⟩ := q
    simp [RFs.length rs]
/-! ### attributes of instances -/
def fget (f : Str) : List (Str × U) → Option U
  | [] => none
  | (g, w) :: fs => if f = g then some w else fget f fs
theorem fget_ok {K : PySem.W.Frag} {n : Nat} {f : Str} : ∀ {fs : List (Str × U)} {gs : List (Str × V)} {w : U}, fget f fs = some w → RFs K μ n H fs gs → ∃ v, gs.lookup f = some v ∧ RU K μ n H w v
  | [], gs, w, e, r => by cases e
  | (g, u) :: fs, gs, w, e, r => by
    simp only [RFs] at r
    obtain ⟨y, ys, rfl, r1, rs⟩ := r
    unfold fget at e
    rw [List.lookup_cons]
    by_cases hg : f = g
    · rw [if_pos hg] at e
      cases e
      subst hg
      simp only [beq_self_eq_true]
      exact ⟨y, rfl, r1⟩
    · rw [if_neg hg] at e
      have : (f == g) = false := by simpa using hg
      rw [this]
      exact fget_ok e rs
theorem fget_none {K : PySem.W.Frag} {n : Nat} {f : Str} : ∀ {fs : List (Str × U)} {gs : List (Str × V)}, fget f fs = none → RFs K μ n H fs gs → gs.lookup f = none
  | [], gs, e, r => by simp only [RFs] at r; subst r; rfl
  | (g, u) :: fs, gs, e, r => by
    simp only [RFs] at r
    obtain ⟨y, ys, rfl, r1, rs⟩ := r
    unfold fget at e
    rw [List.lookup_cons]
    by_cases hg : f = g
    · rw [if_pos hg] at e
      cases e
    · rw [if_neg hg] at e
      have : (f == g) = false := by simpa using hg
      rw [this]
      exact fget_none e rs


/-! ### methods and makers, what is raised wished for at the caller's slots -/
section
variable {X : Cx} {CX : CXT} {k : Nat} {f C : Addr} {fd : FuncData} {ps : List Str} {sp : Sp} {E : St → XK} {x m : Str} {p pos apos : Pos} {e o : Expr} {es : List Expr} {ta : TE} {t : TA}
def tMethS (C : Addr) (m : Str) (sp : Sp) (E : St → XK) (ta : TE) (t : TA) : TE := fun σ H Q => ta σ H fun x H1 => ∃ a dx fs, x = .ref a ∧ H1 a = some (.ins C dx fs) ∧ fs.lookup m = none ∧
  t σ H1 fun vs H2 => sp (x :: vs) H2 Q (E σ)
theorem pe_methS {pl : Sem Bool} (he : PE X o ta) (c : Cls X.K C) (hm : Meth X.K C m f) (F : FnOk X.prog X.w X.K X.mg X.base CX k f fd ps sp) (hr : Room k X.A) (hb : Binds X.K fd ps []) (hx : ∀ σ, PassesAt CX X σ (E σ)) (ha : PA X (e :: es) t)
    (hst : starEach (e :: es) X.env = (false, eval e X.env) :: starEach es X.env := by rfl) (hpl : (backTo pos (starEach es X.env)).any (·.1) = false := by rfl)
    (ht : eval (.Call (.Attribute o m apos) (e :: es) [] pos) X.env = (do
      let ov ← eval o X.env
      standAt apos.atName
      let (f, first) ← holding [ov] (getMethod ov m pl)
      callWith pos f first (backTo pos (starEach (e :: es) X.env)) (backToKw pos (keywordEach [] X.env))) := by rfl) :
    PE X (.Call (.Attribute o m apos) (e :: es) [] pos) (tMethS C m sp E ta t) := by
  refine ⟨fun pins s σ H Q I h => ?_⟩
  refine PySem.W.methodCall_KW (pl := pl) (thn (he.run pins s σ H _ I h) fun u s1 ⟨x, H1, I1, rx, a, dx, fs, ex, ea, l, q⟩ => ?_) ht
  subst ex
  obtain rfl : u = Value.ref a := rx
  refine getmeth_ok I1 ea c hm l ?_
  refine PySem.W.callWith_K (first := [.ref a]) (h₀ := X.base) I.ok.mod.kin hm.kp (thn (ha.run pos pins s1 σ H1 _ I1 q) fun us s2 ⟨vs, H2, I2, r, q2⟩ => ⟨I2.kIn, ?_⟩) hst hpl
  exact run_fnS (us := .ref a :: us) (vs := .ref a :: vs) F hr hb (hx σ) I2 (.cons rfl r) q2
theorem pe_methS0 {pl : Sem Bool} (he : PE X o ta) (c : Cls X.K C) (hm : Meth X.K C m f) (F : FnOk X.prog X.w X.K X.mg X.base CX k f fd ps sp) (hr : Room k X.A) (hb : Binds X.K fd ps []) (hx : ∀ σ, PassesAt CX X σ (E σ))
    (ht : eval (.Call (.Attribute o m apos) [] [] pos) X.env = (do
      let ov ← eval o X.env
      standAt apos.atName
      let (f, first) ← holding [ov] (getMethod ov m pl)
      callWith pos f first (backTo pos (starEach [] X.env)) (backToKw pos (keywordEach [] X.env))) := by rfl) :
    PE X (.Call (.Attribute o m apos) [] [] pos) (tMethS C m sp E ta tNil) := by
  refine ⟨fun pins s σ H Q I h => ?_⟩
  refine PySem.W.methodCall_KW (pl := pl) (thn (he.run pins s σ H _ I h) fun u s1 ⟨x, H1, I1, rx, a, dx, fs, ex, ea, l, q⟩ => ?_) ht
  subst ex
  obtain rfl : u = Value.ref a := rx
  refine getmeth_ok I1 ea c hm l ?_
  exact PySem.W.callWith_K0 (first := [.ref a]) I1.kIn hm.kp (run_fnS (us := [.ref a]) (vs := [.ref a]) F hr hb (hx σ) I1 (.cons rfl .nil) q)
def tMakeS (C : Addr) (sp : Sp) (E : St → XK) (t : TA) : TE := fun σ H Q => t σ H fun vs H1 => ∀ x dx, H1 x = none → H1 dx = none → dx ≠ x →
  sp (.ref x :: vs) (upd (upd H1 dx (.own x)) x (.ins C dx [])) (fun v H2 => v = .non ∧ Q (.ref x) H2) (E σ)
theorem run_makeS {pins : List (Addr × Obj)} {σ : St} {H : Hp} {s : Shared} {Q : VK} {us : List Value} {vs : List V} (M : Mk X.K C f) (F : FnOk X.prog X.w X.K X.mg X.base CX k f fd ps sp) (hr : Room (k + 1) X.A) (hb : Binds X.K fd ps [])
    (hx : PassesAt CX X σ (E σ)) (I : Inv X pins σ H s) (r : Vals vs us)
    (h : ∀ x dx, H x = none → H dx = none → dx ≠ x → sp (.ref x :: vs) (upd (upd H dx (.own x)) x (.ins C dx [])) (fun v H2 => v = .non ∧ Q (.ref x) H2) (E σ)) :
    wpAny (model X.prog X.w) X.A (call (.ref C) us) (EP X pins σ Q) X.xe s := by
  have hq := h (s.heap.objs.size + 1) s.heap.objs.size (I.hok.fresh (Nat.le_succ _)) (I.hok.fresh (Nat.le_refl _)) (Nat.ne_of_lt (Nat.lt_succ_self _))
  have I2 := Inv.made (C := C) I
  have r2 : Vals (V.ref (s.heap.objs.size + 1) :: vs) (Value.ref (s.heap.objs.size + 1) :: us) := .cons rfl r
  have hl : (Value.ref (s.heap.objs.size + 1) :: us).length = ps.length := by
    have e := r2.length
    rw [F.len _ _ _ _ hq] at e
    exact e.symm
  have b := hb _ (Value.ref (s.heap.objs.size + 1) :: us) I2.kIn (by rw [List.append_nil]; exact hl)
  rw [List.append_nil] at b
  refine wpAny_call (make_map (f := f) I.kIn M.makes M.init (beq_iff_eq.mp M.fn) (codeAny_mono (F.run _ X.stack _ _ ⟨Value.ref (s.heap.objs.size + 1) :: us, []⟩ (Value.ref (s.heap.objs.size + 1) :: us) _ _ (E σ) (hr.make C us [])
    (I2.env0.make C us []) b r2 hq) fun r s' hq' => ?_))
  cases r with
  | error e => exact hx pins _ _ e s' I2 hq'
  | ok fl =>
    cases fl with
    | ret u =>
      obtain ⟨v, H', I3, rv, ev, q3⟩ := I2.after hq'
      subst ev
      exact ⟨rv, ⟨V.ref (s.heap.objs.size + 1), H', I3, rfl, q3⟩⟩
    | next => exact False.elim hq'
    | brk => exact False.elim hq'
    | cont => exact False.elim hq'
theorem pe_makeS (M : Mk X.K C f) (F : FnOk X.prog X.w X.K X.mg X.base CX k f fd ps sp) (hr : Room (k + 1) X.A) (hg : Gl X x) (hm : X.mg x = some (.ref C)) (hb : Binds X.K fd ps []) (hx : ∀ σ, PassesAt CX X σ (E σ))
    (ha : PA X (e :: es) t) (hdb : (x == ("__debug__" : Str)) = false := by decide) (he : starEach (e :: es) X.env = (false, eval e X.env) :: starEach es X.env := by rfl) (hpl : (backTo pos (starEach es X.env)).any (·.1) = false := by rfl) :
    PE X (.Call (.Name x p) (e :: es) [] pos) (tMakeS C sp E t) := by
  refine ⟨fun pins s σ H Q I h => ?_⟩
  refine wpAny_Call_Name_kw (ld_glob I hg hm ?_ hdb)
  refine PySem.W.callWith_K (h₀ := X.base) I.ok.mod.kin M.kp (thn (ha.run pos pins s σ H _ I h) fun us s1 ⟨vs, H1, I1, r, q⟩ => ⟨I1.kIn, ?_⟩) he hpl
  exact run_makeS M F hr hb (hx σ) I1 r q
theorem pe_callS0 (F : FnOk X.prog X.w X.K X.mg X.base CX k f fd ps sp) (hr : Room k X.A) (hg : Gl X x) (hm : X.mg x = some (.ref f)) (hk : PySem.W.keepIn X.K (.ref f) = true) (hb : Binds X.K fd ps []) (hx : ∀ σ, PassesAt CX X σ (E σ))
    (hdb : (x == ("__debug__" : Str)) = false := by decide) : PE X (.Call (.Name x p) [] [] pos) (tCallS sp E tNil) := by
  refine ⟨fun pins s σ H Q I h => ?_⟩
  refine wpAny_Call_Name_kw (ld_glob I hg hm ?_ hdb)
  exact PySem.W.callWith_K0 I.kIn hk (run_fnS (us := []) F hr hb (hx σ) I .nil h)
end
/-! ### e.f of an instance; self.f = e; the call of a method; C(..) -/
/-- the classes whose instances' f is read from their own dict -/
def AtC (G : Gm) (f : Str) (ok : Nat → Bool) : Prop := ∀ c, ok c = true → Cls G.K (G.ca c) ∧ NoAttr G.K (G.ca c) f
def mAttr (f : Str) (ok : Nat → Bool) (o : ME) : ME := fun ρ h => bnd (o ρ h) fun x h1 => match x with
  | .ref i => match h1[i]? with
    | some (.ins c fs) => if ok c = true then match fget f fs with
        | some w => some (.ok w h1)
        | none => none
      else none
    | _ => none
  | _ => none
theorem w_attr {f : Str} {ok : Nat → Bool} {o : ME} (a : AtC G f ok) : ∀ σ H Q, tE G Wx (mAttr f ok o) σ H Q → tFld G.K (tE G Wx o) f σ H Q := fun σ H Q ⟨μ, ρ, h, s, p⟩ =>
  ⟨μ, ρ, h, s, (Post.bnd p).mono fun μ1 h1 H1 wx g q x rx => by
    cases wx with
    | ref i =>
      simp only [RU] at rx
      obtain ⟨hi, rfl⟩ := rx
      simp only at q
      split at q
      · rename_i c fs ec
        split at q
        · rename_i hc
          split at q
          · rename_i w ew
            obtain ⟨dx, gs, ea, rf⟩ := g.rel.cell i _ ec
            obtain ⟨v, ev, rv⟩ := fget_ok ew rf
            obtain ⟨c1, c2⟩ := a c hc
            exact ⟨_, _, dx, gs, v, rfl, ea, c1, c2, ev, Post.ok g.rel q _ rv⟩
          · exact False.elim q
        · exact False.elim q
      · exact False.elim q
    | _ => exact False.elim q⟩
def mSetAt (f : Str) (ok : Nat → Bool) (o e : ME) : MS := fun ρ h => bndS ρ (e ρ h) fun w h1 => bndS ρ (o ρ h1) fun x h2 => match x with
  | .ref i => match h2[i]? with
    | some (.ins c fs) => if (ok c && decide (fs.length < 900)) = true then some (.nx ρ (h2.set i (.ins c (fput f w fs)))) else none
    | _ => none
  | _ => none
theorem w_setAt {f : Str} {ok : Nat → Bool} {o e : ME} (a : AtC G f ok) : ∀ D σ H, tS G Wx (mSetAt f ok o e) D σ H → sFld G.K (tE G Wx o) (tE G Wx e) f D σ H := fun D σ H ⟨μ, ρ, h, s, p⟩ =>
  ⟨μ, ρ, h, s, (PostS.bnd s p).mono fun μ1 h1 H1 w g1 q1 v rv => ⟨μ1, ρ, h1, s.on g1, (PostS.bnd (s.on g1) q1).mono fun μ2 h2 H2 wx g2 q2 x rx => by
    have rv := g2.ru rv
    cases wx with
    | ref i =>
      simp only [RU] at rx
      obtain ⟨hi, rfl⟩ := rx
      simp only at q2
      split at q2
      · rename_i c fs ec
        split at q2
        · rename_i hc
          simp only [Bool.and_eq_true, decide_eq_true_eq] at hc
          obtain ⟨dx, gs, ea, rf⟩ := g2.rel.cell i _ ec
          obtain ⟨c1, c2⟩ := a c hc.1
          refine ⟨_, _, dx, gs, rfl, ea, c1, c2, by rw [RFs.length rf]; omega, ?_⟩
          have ts : TS0 G.K H2 (upd H2 (μ2 i) (.ins (G.ca c) dx (putF f v gs))) := TS0.write ea rfl
          have g := Gr.write (o := .ins (G.ca c) dx (putF f v gs)) (d := .ins c (fput f w fs)) g2.rel ec rfl rfl ⟨dx, _, upd_same, RFs.mono (fun _ _ => rfl) (Nat.le_refl _) ts _ _ (RFs.put rv rf)⟩
          exact q2 μ2 σ _ g (((s.on g1).on g2).on g)
        · exact False.elim q2
      · exact False.elim q2
    | _ => exact False.elim q2⟩⟩
/-- o.m(..): o an instance of the class number c; f the method's function -/
def mMeth (c : Nat) (m : Str) (f : MF) (o : ME) (es : MA) : ME := fun ρ h => bnd (o ρ h) fun x h1 => match x with
  | .ref i => match h1[i]? with
    | some (.ins c' fs) => if c' = c ∧ fget m fs = none then bnd (es ρ h1) fun ws h2 => f (.ref i :: ws) h2 else none
    | _ => none
  | _ => none
theorem w_meth {c n : Nat} {m : Str} {f : MF} {o : ME} {es : MA} (a : AL es n) : ∀ σ H Q, tE G Wx (mMeth c m f o es) σ H Q → tMethS (G.ca c) m (spM G (n + 1) f) (WE Wx) (tE G Wx o) (tA G Wx es) σ H Q := fun σ H Q ⟨μ, ρ, h, s, p⟩ =>
  ⟨μ, ρ, h, s, (Post.bnd p).mono fun μ1 h1 H1 wx g q x rx => by
    cases wx with
    | ref i =>
      have rx0 := rx
      simp only [RU] at rx
      obtain ⟨hi, rfl⟩ := rx
      simp only at q
      split at q
      · rename_i c' fs ec
        split at q
        · rename_i hc
          obtain ⟨rfl, hm⟩ := hc
          obtain ⟨dx, gs, ea, rf⟩ := g.rel.cell i _ ec
          refine ⟨_, dx, gs, rfl, ea, fget_none hm rf, μ1, ρ, h1, s.on g, (Post.bnd q).withEq.mono fun μ2 h2 H2 ws g2 ⟨q2, eq⟩ vs rs => ?_⟩
          exact ⟨μ2, h2, .ref i :: ws, g2.rel, RUs.cons (g2.ru rx0) rs, by simp [RUs.length rs, a _ _ _ _ eq], q2⟩
        · exact False.elim q
      · exact False.elim q
    | _ => exact False.elim q⟩
theorem w_meth0 {c : Nat} {m : Str} {f : MF} {o : ME} : ∀ σ H Q, tE G Wx (mMeth c m f o mNil) σ H Q → tMethS (G.ca c) m (spM G 1 f) (WE Wx) (tE G Wx o) tNil σ H Q := fun σ H Q z => by
  obtain ⟨μ, ρ, h, s, p⟩ := w_meth al_nil σ H Q z
  exact ⟨μ, ρ, h, s, p.mono fun μ' h' H' w g q v r => by
    obtain ⟨a, dx, fs, ea, e2, e3, k⟩ := q v r
    exact ⟨a, dx, fs, ea, e2, e3, w_nil _ _ _ k⟩⟩
theorem w_call0 {f : MF} : ∀ σ H Q, tE G Wx (mCB f mNil) σ H Q → tCallS (spM G 0 f) (WE Wx) tNil σ H Q := fun σ H Q z => w_nil _ _ _ (w_call al_nil σ H Q z)
/-- C(..): the class number c, f its __init__ -/
def mkEnd (n : Nat) (w : U) (h2 : Hm) : Option (Rz U) := match w with
  | .non => some (.ok (.ref n) h2)
  | _ => none
def mMake (c : Nat) (f : MF) (es : MA) : ME := fun ρ h => bnd (es ρ h) fun ws h1 => bnd (f (.ref h1.length :: ws) (h1 ++ [.ins c []])) (mkEnd h1.length)
theorem w_make {c n : Nat} {f : MF} {es : MA} (a : AL es n) : ∀ σ H Q, tE G Wx (mMake c f es) σ H Q → tMakeS (G.ca c) (spM G (n + 1) f) (WE Wx) (tA G Wx es) σ H Q := fun σ H Q ⟨μ, ρ, h, s, p⟩ =>
  ⟨μ, ρ, h, s, (Post.bnd p).withEq.mono fun μ1 h1 H1 ws g ⟨q, eq⟩ vs rs x dx nx nd ne => by
    have g1 : Gr G μ1 h1 H1 μ1 h1 (upd H1 dx (.own x)) := Gr.fresh g.rel nd
    have nx' : upd H1 dx (.own x) x = none := by rw [upd_ne ne.symm]; exact nx
    have g2 := Gr.new (o := .ins (G.ca c) dx []) (c := .ins c []) g1.rel nx' ⟨dx, [], upd_same, by simp only [RFs]⟩
    have gg := g1.trans g2
    refine ⟨_, h1 ++ [.ins c []], .ref h1.length :: ws, gg.rel, RUs.cons (by simp only [RU]; exact ⟨by simp, by rw [nu_new]⟩) (gg.rus rs), by simp [RUs.length rs, a _ _ _ _ eq], ?_⟩
    have q : Post G (PV G Q) (fun cls d H' => Wx cls d σ H') (nu μ1 h1.length x) (h1 ++ [.ins c []]) (upd (upd H1 dx (.own x)) x (.ins (G.ca c) dx [])) (bnd (f (.ref h1.length :: ws) (h1 ++ [.ins c []])) (mkEnd h1.length)) := by
      have q' : Post G (PV G Q) (fun cls d H' => Wx cls d σ H') μ1 h1 H1 (bnd (f (.ref h1.length :: ws) (h1 ++ [.ins c []])) (mkEnd h1.length)) := q
      exact q'.on gg
    have q2 := Post.bnd q
    cases er : f (.ref h1.length :: ws) (h1 ++ [.ins c []]) with
    | none => rw [er] at q2; exact q2
    | some r =>
      rw [er] at q2
      cases r with
      | ok w h3 =>
        intro μ' H' g' v rv
        have q3 := q2 μ' H' g'
        cases w with
        | non =>
          simp only [RU] at rv
          subst rv
          refine ⟨rfl, Post.ok g'.rel q3 _ ?_⟩
          simp only [RU]
          have hl : h1.length < (h1 ++ [Cell.ins c []]).length := by simp
          exact ⟨Nat.lt_of_lt_of_le hl g'.len, by rw [g'.mu _ hl, nu_new]⟩
        | _ => exact False.elim q3
      | ex c fs h3 => exact q2⟩

/-! ### range -/
def rItems (lo : Int) (n : Nat) : List U := (List.range n).map fun (k : Nat) => .int (lo + (k : Int))
def iR1 (e : ME) : MI := fun ρ h => bnd (e ρ h) fun w h1 => match w with
  | .int j => if (decide (-1000000000 ≤ j) && decide (j ≤ 1000000000)) = true then some (.ok (rItems 0 j.toNat, fun _ => True) h1) else none
  | _ => none
theorem gives_range {lo : Int} {n : Nat} : Gives G (Itr lo n) (rItems lo n) (fun _ => True) μ h H := fun j μ2 h2 H2 gr ck => by
  refine ⟨fun hj => by
    show n ≤ j
    simpa [rItems] using hj, fun w hw => ?_⟩
  unfold rItems at hw
  rw [List.getElem?_map] at hw
  by_cases hj : j < n
  · rw [List.getElem?_range hj] at hw
    cases hw
    refine ⟨hj, fun x H' y => ?_⟩
    obtain ⟨rfl, rfl⟩ := y
    exact ⟨Gr.refl gr.rel, rfl⟩
  · rw [List.getElem?_eq_none (by simpa using hj)] at hw
    cases hw
theorem w_iR1 {e : ME} : ∀ σ H R, tI G Wx (iR1 e) σ H R → iRng1 (tCons (tE G Wx e) tNil) σ H R := fun σ H R ⟨μ, ρ, h, s, p⟩ =>
  ⟨μ, ρ, h, s, (Post.bnd p).mono fun μ1 h1 H1 w g q v r => by
    cases w with
    | int j =>
      simp only [RU] at r
      subst r
      simp only at q
      split at q
      · rename_i hc
        simp only [Bool.and_eq_true, decide_eq_true_eq] at hc
        exact ⟨j, rfl, by omega, by omega, q μ1 H1 (Gr.refl g.rel) _ gives_range⟩
      · exact False.elim q
    | _ => exact False.elim q⟩
def iR2 (a b : ME) : MI := fun ρ h => bnd (a ρ h) fun x h1 => bnd (b ρ h1) fun y h2 => match x, y with
  | .int i, .int j => if ((decide (-1000000000 ≤ i) && decide (i ≤ 1000000000)) && (decide (-1000000000 ≤ j) && decide (j ≤ 1000000000))) = true then some (.ok (rItems i (j - i).toNat, fun _ => True) h2) else none
  | _, _ => none
theorem w_iR2 {a b : ME} : ∀ σ H R, tI G Wx (iR2 a b) σ H R → iRng2 (tCons (tE G Wx a) (tCons (tE G Wx b) tNil)) σ H R := fun σ H R ⟨μ, ρ, h, s, p⟩ =>
  ⟨μ, ρ, h, s, (Post.bnd p).mono fun μ1 h1 H1 wx g1 q1 x rx => ⟨μ1, ρ, h1, s.on g1, (Post.bnd q1).mono fun μ2 h2 H2 wy g2 q2 y ry => by
    cases wx with
    | int i =>
      cases wy with
      | int j =>
        simp only [RU] at rx ry
        subst rx ry
        simp only at q2
        split at q2
        · rename_i hc
          simp only [Bool.and_eq_true, decide_eq_true_eq] at hc
          exact ⟨i, j, rfl, by omega, q2 μ2 H2 (Gr.refl g2.rel) _ gives_range⟩
        · exact False.elim q2
      | _ => exact False.elim q2
    | _ => exact False.elim q2⟩⟩
/-! ### the signs of a text -/
def sItems (x : Str) : List U := x.cps.toList.map fun c => .str ⟨#[c]⟩

/-! ### while -/
def whileN (c : MT) (b : MS) : Nat → MS
  | 0, _, _ => none
  | n + 1, ρ, h => bndS ρ (c ρ h) fun k h1 => if k = true then match b ρ h1 with
      | some (.nx ρ2 h2) => whileN c b n ρ2 h2
      | some (.ct ρ2 h2) => whileN c b n ρ2 h2
      | some (.bk ρ2 h2) => some (.nx ρ2 h2)
      | r => r
    else some (.nx ρ h1)
open Classical in
noncomputable def mWhile (c : MT) (b : MS) : MS := fun ρ h => if z : ∃ n, whileN c b n ρ h ≠ none then whileN c b (choose z) ρ h else none
theorem w_while {c : MT} {b : MS} : ∀ D σ H, tS G Wx (mWhile c b) D σ H → tWhile (tT G Wx c) (tS G Wx b) D σ H := fun D σ H ⟨μ, ρ, h, s, p⟩ => by
  unfold mWhile at p
  split at p
  · rename_i z
    generalize Classical.choose z = n at p
    refine ⟨fun m σ H => ∃ μ ρ h, StOk G μ ρ h σ H ∧ PostS G Wx D μ h H (whileN c b m ρ h), ⟨n, μ, ρ, h, s, p⟩, ?_⟩
    rintro m σ H ⟨μ, ρ, h, s, p⟩
    cases m with
    | zero => exact False.elim p
    | succ m =>
      unfold whileN at p
      refine ⟨μ, ρ, h, s, (PostS.bnd s p).mono fun μ1 h1 H1 k g q => ?_⟩
      cases k with
      | false =>
        rw [if_neg Bool.false_ne_true] at q ⊢
        exact q μ1 σ H1 (Gr.refl g.rel) (s.on g)
      | true =>
        rw [if_pos rfl] at q ⊢
        refine ⟨fun σ' H' => ∃ μ ρ h, StOk G μ ρ h σ' H' ∧ PostS G Wx D μ h H' (whileN c b m ρ h), fun σ' H' z => ⟨m, Nat.lt_succ_self m, z⟩, μ1, ρ, h1, s.on g, ?_⟩
        cases e2 : b ρ h1 with
        | none => rw [e2] at q; exact q
        | some r =>
          rw [e2] at q
          cases r with
          | nx ρ2 h2 => exact fun μ3 σ3 H3 g3 s3 => ⟨μ3, ρ2, h2, s3, PostS.on q g3⟩
          | ct ρ2 h2 => exact fun μ3 σ3 H3 g3 s3 => ⟨μ3, ρ2, h2, s3, PostS.on q g3⟩
          | bk ρ2 h2 => exact q
          | rt w h2 => exact q
          | ex c fs ρ2 h2 => exact q
  · exact False.elim p
theorem whileN_mono {c : MT} {b : MS} : ∀ {n : Nat} {ρ : Ev} {h : Hm} {r : Sz}, whileN c b n ρ h = some r → whileN c b (n + 1) ρ h = some r
  | 0, _, _, _, e => by cases e
  | n + 1, ρ, h, r, e => by
    unfold whileN at e ⊢
    cases ec : c ρ h with
    | none => rw [ec] at e; cases e
    | some rc =>
      rw [ec] at e
      cases rc with
      | ex c1 fs h1 => exact e
      | ok k h1 =>
        simp only [bndS_ok] at e ⊢
        cases k with
        | false => exact e
        | true =>
          simp only [if_true] at e ⊢
          cases eb : b ρ h1 with
          | none => rw [eb] at e; cases e
          | some rb =>
            rw [eb] at e
            cases rb with
            | nx ρ2 h2 => exact whileN_mono e
            | ct ρ2 h2 => exact whileN_mono e
            | bk ρ2 h2 => exact e
            | rt w h2 => exact e
            | ex c fs ρ2 h2 => exact e
theorem whileN_le {c : MT} {b : MS} {n m : Nat} {ρ : Ev} {h : Hm} {r : Sz} (hl : n ≤ m) (e : whileN c b n ρ h = some r) : whileN c b m ρ h = some r := by
  induction hl with
  | refl => exact e
  | step _ ih => exact whileN_mono ih
theorem mWhile_eq {c : MT} {b : MS} {n : Nat} {ρ : Ev} {h : Hm} {r : Sz} (e : whileN c b n ρ h = some r) : mWhile c b ρ h = some r := by
  have z : ∃ n, whileN c b n ρ h ≠ none := ⟨n, by rw [e]; simp⟩
  unfold mWhile
  rw [dif_pos z]
  have q := Classical.choose_spec z
  cases e2 : whileN c b (Classical.choose z) ρ h with
  | none => exact absurd e2 q
  | some r2 =>
    rcases Nat.le_total n (Classical.choose z) with l | l
    · rw [whileN_le l e] at e2
      exact e2.symm
    · rw [whileN_le l e2] at e
      exact e
end
end ML

set_option maxHeartbeats 4000000
namespace ML
open PySem PySem.Spec PyProof.Rows L2

/-! ### super().__init__(e) in the __init__ of an own error over ValueError -/
section
variable {prog : Program} {w : World} {A : Around} {E : Value → Shared → Prop} {h : Heap} {g : Array GenState} {d : Drawn} {t : Nat} {os : OsState}
variable {nm q : Str} {C N : Addr} {bs bm : List Value} {hdct : Bool} {sn : List Str} {sub : List Value} {ab : Bool} {col : Option Bool} {dd : Option Addr} {k0 k1 k2 k3 k5 : Option Value}
theorem call_bwV {u e t0 : Addr} {rest : List Value} {Q : Value → Shared → Prop}
    (hC : h.get? C = some (excClassObj nm q C N bs bm hdct sn sub ab col dd k0 k1 k2 k3 k5 "ValueError.__new__")) (he : h.get? e = some (HandSPX.excO C t0)) (hu : h.get? u = some (PySem.W.kxs_mw "ValueError.__init__" e)) (hrest : rest.length ≤ sizeLine)
    (hq : ∀ h' t1, (∀ b o, b ≠ e → h.get? b = some o → h'.get? b = some o) → h'.get? e = some (HandSPX.excO C t1) → Q .none ⟨h', g, d, t, os⟩) :
    wpAny (model prog w) A (call (.ref u) rest) Q E ⟨h, g, d, t, os⟩ := by
  refine wpAny_call (codeAny_of_tree ?_)
  show wpAny _ A.in1 (callAny (.ref u) ⟨rest, []⟩) _ _ _
  simp only [callAny]
  refine wpAny_bind (wpAny_load hu ?_)
  simp only [PySem.W.kxs_mw, show (Value.type "method-wrapper" == Value.type "method" || Value.type "method-wrapper" == Value.type "builtin_function_or_method" || Value.type "method-wrapper" == Value.type "method-wrapper") = true by decide, if_true]
  refine W.KFB.if_so (by decide) ?_
  refine wpAny_bind (PySem.W.check_bound_init F.excBase_ValueError.toExcCallFacts hC he rfl ?_)
  refine wpAny_bind (wpAny_pure (wpAny_pure ?_))
  refine ⟨Code.quiet_builtin _ (by decide +kernel), codeAny_builtin F.excBase_ValueError.initEntry ?_⟩
  rw [Around.under_plainId F.excBase_ValueError.init.plain _]
  wp_walk
  refine hq _ h.objs.size (fun b o hb ho => ?_) ?_
  · rw [Heap.get?_update_other _ _ (Ne.symm hb)]
    exact Heap.get?_push_of_some _ ho
  · rw [Heap.get?_update_self _ (Heap.get?_push_of_some _ he) rfl]
    rfl
end

abbrev envS (qual : Str) (scope : Scope) (L a : Addr) (cd : Value) (cc : Addr) : Env := PySem.W.envX qual scope L a cd [("__class__", cc)]
/-- the context of such a body -/
def cxS (CX : CXT) (P : Program) (w : World) (K : PySem.W.Frag) (mg : Str → Option Value) (base : Heap) (N : List Str) (qual : Str) (scope : Scope) (f : Addr) (cd : Value) (cc : Addr) (A : Around) (outer : List Env) (s : Shared) (H : Hp) (E : XK) : Cx where
  prog := P
  w := w
  K := K
  mg := mg
  base := base
  A := A.deeper (envS qual scope s.heap.objs.size f cd cc)
  N := N
  s_0 := s
  H_0 := H
  env := envS qual scope s.heap.objs.size f cd cc
  outer := outer
  stack := envS qual scope s.heap.objs.size f cd cc :: outer
  ex := []
  calm := true
  fn := fun _ => false
  pn := []
  xe := fun e s' => wpAny (model P w) (A.deeper (envS qual scope s.heap.objs.size f cd cc)) (leaving (envS qual scope s.heap.objs.size f cd cc) e) (fun _ s'' => CX outer H s E e s'') (fun e' s'' => CX outer H s E e' s'') s'

/-- what the written part says of such a class and its __init__ -/
structure SupTxt (K : PySem.W.Frag) (mg : Str → Option Value) (C f cc cda : Addr) (qual : Str) : Prop where
  ox : OexC K C
  iC : PySem.W.findIn K (.ref C) "__init__" = some (some (.ref f))
  tI : PySem.W.typeIn K (.ref f) = some (.type "function")
  code : ∃ ccl cdd vs ccs tf, K.lookup cda = some ⟨ccl, cdd, .fields vs, ccs⟩ ∧ vs[2]? = some (.str "/claim/cut.py" tf)
  codeQ : PySem.W.codeIn K (.ref cda) qual = true
  cell : ∃ cl cld csl, K.lookup cc = some ⟨cl, cld, .cell (some (.ref C)), csl⟩
  sup : PySem.W.ks_superIn K C C "__init__" = some (some (.builtin "ValueError.__init__"))
  sub : PySem.W.subIn K (.ref C) (.type "ValueError") = some true
  mro : PySem.W.mroIn K C (.ref C) = some true
  tp : PySem.W.nsIn K cStatics "thirdparty.any" = some none
  sg : mg "super" = none

structure SupScope (N ps : List Str) (sc : Scope) : Prop where
  kind : sc.kind = ScopeKind.function
  co : sc.isCoroutine = false
  gen : sc.isGenerator = false
  nd : N.Nodup
  pre : N = ps
  par : ∀ x, x ∈ ps → sc.names.lookup x = some NameKind.local
  cls : sc.names.lookup ("__class__" : Str) = some NameKind.free
  sup : sc.names.lookup ("super" : Str) = some NameKind.globalImplicit
  nocell : ∀ y : Str × NameKind, y ∈ sc.names → y.snd ≠ NameKind.cell
  free : ∀ y : Str × NameKind, y ∈ sc.names → y.snd = NameKind.free → y.fst = ("__class__" : Str)

theorem zip_get : ∀ {ps : List Str} {us : List Value} {i : Nat} {x : Str} {u : Value}, ps.Nodup → ps[i]? = some x → us[i]? = some u → ((ps.zip us).reverse).lookup x = some u := by
  intro ps us i x u nd e1 e2
  have hm : (x, u) ∈ ps.zip us := by
    have : (ps.zip us)[i]? = some (x, u) := by
      rw [List.getElem?_zip_eq_some]
      exact ⟨e1, e2⟩
    exact List.mem_of_getElem? this
  have uq : ∀ v, (x, v) ∈ ps.zip us → v = u := by
    intro v hv
    obtain ⟨j, hj⟩ := List.mem_iff_getElem?.mp hv
    rw [List.getElem?_zip_eq_some] at hj
    have : i = j := by
      have h1 := (List.getElem?_eq_some_iff.mp e1)
      have h2 := (List.getElem?_eq_some_iff.mp hj.1)
      obtain ⟨l1, q1⟩ := h1
      obtain ⟨l2, q2⟩ := h2
      exact (List.getElem_inj nd).mp (by rw [q1, q2])
    subst this
    rw [e2] at hj
    exact (Option.some.inj hj.2).symm
  have : ∀ l : List (Str × Value), (x, u) ∈ l → (∀ v, (x, v) ∈ l → v = u) → l.lookup x = some u := by
    intro l
    induction l with
    | nil => intro h; cases h
    | cons p l ih =>
      intro h k
      obtain ⟨y, v⟩ := p
      rw [List.lookup_cons]
      by_cases hy : x = y
      · subst hy
        simp only [beq_self_eq_true]
        rw [k v List.mem_cons_self]
      · have : (x == y) = false := by simpa using hy
        rw [this]
        refine ih ?_ fun v hv => k v (List.mem_cons_of_mem _ hv)
        rcases List.mem_cons.mp h with z | z
        · cases z; exact absurd rfl hy
        · exact z
  exact this _ (by simpa using hm) fun v hv => uq v (by simpa using hv)

section
variable {CX : CXT} {P : Program} {w : World} {K : PySem.W.Frag} {mg : Str → Option Value} {base : Heap} {k : Nat} {f C cc cda : Addr} {name qual : Str} {params : Arguments} {e : Expr} {p0 p1 p2 p3 p4 : Pos} {rest : List Stmt} {scope : Scope} {dV kV doc pm ct oc : Value} {an od : Option Addr}
    {osl : Array (Option Value)} {N ps : List Str} {sp : Sp}
theorem fnS_of (lk : K.lookup f = some ⟨oc, od, .func (PySem.W.ksFn name qual params (.Expr (.Call (.Attribute (.Call (.Name "super" p0) [] [] p1) "__init__" p2) [e] [] p3) p4 :: rest) scope dV kV doc pm an (.ref cda) ct cc), osl⟩)
    (T : SupTxt K mg C f cc cda qual) (S : SupScope N ps scope) (hfile : ((P.main.file : Str) == ("/claim/cut.py" : Str)) = true) (htop : (P.main.scope.names.lookup ("super" : Str)).isSome = false)
    (har : ∃ ar : Arg, (params.posonlyargs ++ params.args).head? = some ar ∧ ps.head? = some ar.arg)
    (len : ∀ vs H Q E, sp vs H Q E → vs.length = ps.length)
    (hswap : ∀ env : Env, swapsWith (.Call (.Attribute (.Call (.Name "super" p0) [] [] p1) "__init__" p2) [e] [] p3) none p4.line env = pure false)
    (hmeth : ∀ env : Env, eval (.Call (.Attribute (.Call (.Name "super" p0) [] [] p1) "__init__" p2) [e] [] p3) env = (do
      let ov ← attributeBase (.Call (.Name "super" p0) [] [] p1) "__init__" env (eval (.Call (.Name "super" p0) [] [] p1) env)
      standAt p2.atName
      let (f, first) ← holding [ov] (getMethod ov "__init__" (pure false))
      callWith p3 f first (backTo p3 (starEach [e] env)) []))
    (hstar : ∀ env : Env, starEach [e] env = (false, eval e env) :: starEach [] env)
    (hbody : ∀ (A : Around) (outer : List Env) (s : Shared) (H : Hp) (vs : List V) (Q : VK) (E : XK), Room k (A.deeper (envS qual scope s.heap.objs.size f (.ref cda) cc)) → sp vs H Q E →
      ∃ a te t, vs.head? = some (.ref a) ∧ H a = some (exo a C none) ∧ PE (cxS CX P w K mg base N qual scope f (.ref cda) cc A outer s H E) e te ∧ PSs (cxS CX P w K mg base N qual scope f (.ref cda) cc A outer s H E) rest t ∧
        te (L2.start N vs) H fun _ H1 => H1 a = some (exo a C none) ∧ t { nx := fun _ H' => Q .non H', rt := Q } (L2.start N vs) H1) :
    FnOk P w K mg base CX (k + 1) f (PySem.W.ksFn name qual params (.Expr (.Call (.Attribute (.Call (.Name "super" p0) [] [] p1) "__init__" p2) [e] [] p3) p4 :: rest) scope dV kV doc pm an (.ref cda) ct cc) ps sp := by
  refine ⟨len, fun A outer s H args us vs Q E hr e0 hb r hsp => ?_⟩
  have hl := len _ _ _ _ hsp
  have hul : us.length = ps.length := by rw [← r.length]; exact hl
  have KX : K.In s.heap := e0.mod.kin.keeps fun b o e => (e0.bs b o e).1
  have lim : s.heap.NoLimit := e0.mod.nolimit.keeps fun b o e => (e0.bs b o e).1
  obtain ⟨cl, cld, csl, hcell⟩ := T.cell
  obtain ⟨ccl, cdd, cvs, ccs, tf, hcode, hvs⟩ := T.code
  obtain ⟨ar, har1, har2⟩ := har
  refine ks_codeAny_call_defAt (fd := PySem.W.ksFn name qual params _ scope dV kV doc pm an (.ref cda) ct cc) (body := _) (binds := ps.zip us) hr.depth (KX _ _ lk) rfl lim (PySem.W.codeRec_of KX T.codeQ) rfl hb S.nocell
    (fun y hy => S.par y.1 (List.of_mem_zip hy).1) (fun h₀ hns hk => ?_) S.co S.gen S.kind
  obtain ⟨a, te, t, hva, hHa, hpe, hps, hq⟩ := hbody A outer s H vs Q E (hr.deeper _) hsp
  have I : Inv (cxS CX P w K mg base N qual scope f (.ref cda) cc A outer s H E) [] (L2.start N vs) H { s with heap := h₀, toks := s.toks + (ps.zip us).length } := by
    have noA : ∀ b : Addr, b ∉ (cxS CX P w K mg base N qual scope f (.ref cda) cc A outer s H E).ex := fun b z => absurd (show b ∈ ([] : List Addr) from z) (by simp)
    have one : ∀ (y : Str) (c : Addr), List.lookup y [(("__class__" : Str), cc)] = some c → c = cc := fun y c z => by
      rw [List.lookup_cons] at z
      split at z
      · exact (Option.some.inj z).symm
      · cases z
    have ccb : base.get? cc = some _ := e0.mod.kin _ _ hcell
    refine ⟨⟨e0.mod, S.kind, rfl, rfl, Nat.le_refl _, fun y z c h1 h2 => ?_, fun y hy => ?_, fun y c hf h => absurd (show false = true from hf) Bool.false_ne_true, fun _ => hr.hd, Around.frames_deeper e0.frames, .inr ⟨rfl, rfl⟩, fun b z => absurd z (noA b), e0.bs, e0.bsz, fun b _ _ => noA b, fun b z => absurd z (noA b), e0.funs, e0.frf⟩,
      rfl, e0.bare, Un.kept hk, ⟨_, hns, fun i y v h1 h2 h3 => ?_⟩, fun y c h => ?_, e0.hok.fresh (Nat.le_refl _), fun y c h => ?_, fun p hp => absurd (show p ∈ ([] : List (Addr × Obj)) from hp) (by simp), e0.hok.kept hk, ?_⟩
    · have h1 : List.lookup y [(("__class__" : Str), cc)] = some c := h1
      have h2 : List.lookup z [(("__class__" : Str), cc)] = some c := h2
      have ky : ∀ x : Str, List.lookup x [(("__class__" : Str), cc)] = some c → x = "__class__" := fun x z => by
        rw [List.lookup_cons] at z
        split at z
        · rename_i q; simpa using q
        · cases z
      rw [ky y h1, ky z h2]
    · have hy : scope.names.lookup y = some .cell ∨ scope.names.lookup y = some .free := hy
      rcases hy with hy | hy
      · exact absurd rfl (S.nocell _ (PySem.mem_of_lookup hy))
      · have := S.free _ (PySem.mem_of_lookup hy) rfl
        refine ⟨cc, ?_⟩
        show List.lookup y [(("__class__" : Str), cc)] = some cc
        rw [show y = ("__class__" : Str) from this]
        simp
    · have hi : i < vs.length := by
        unfold L2.start at h2
        by_cases hi : i < vs.length
        · exact hi
        · rw [List.getElem?_append_right (by simpa using hi)] at h2
          rw [List.getElem?_replicate] at h2
          split at h2 <;> cases h2
      have ha : vs[i]? = some v := by
        unfold L2.start at h2
        rw [List.getElem?_append_left (by simpa using hi), List.getElem?_map] at h2
        cases e : vs[i]? with
        | none => rw [e] at h2; cases h2
        | some a => rw [e] at h2; cases h2; rfl
      obtain ⟨u, hu, rv⟩ := r.get ha
      have hp : ps[i]? = some y := by rw [← S.pre]; exact h1
      refine ⟨u, rv, .inl ⟨S.par y (List.mem_of_getElem? hp), ?_⟩⟩
      exact zip_get (by rw [← S.pre]; exact S.nd) hp hu
    · have : c = cc := one y c h
      subst this
      exact ⟨_, _, hk _ _ (e0.bs _ _ ccb).1, rfl⟩
    · have : c = cc := one y c h
      subst this
      exact (e0.bs _ _ ccb).2
    · unfold L2.start
      show _ = N.length
      rw [List.length_append, List.length_map, List.length_replicate]
      have : N.length = ps.length := by rw [S.pre]
      omega
  have XK := I.kIn
  have ho := exo_at I.hok hHa
  obtain ⟨t0, ho⟩ := ho
  obtain ⟨mb, hb1, hb2⟩ := I.mod.blt
  have hgl := I.mod.glob.keeps I.bk
  have hbl := hb1.keeps I.bk
  -- self
  have hself : ∃ u, us.head? = some u ∧ u = Value.ref a := by
    cases vs with
    | nil => cases hva
    | cons v vs =>
      cases hva
      cases r with
      | cons r1 r2 => exact ⟨_, rfl, r1⟩
  obtain ⟨u0, hu0, rfl⟩ := hself
  have hlook : ((ps.zip us).reverse).lookup ar.arg = some (.ref a) := by
    refine zip_get (i := 0) (by rw [← S.pre]; exact S.nd) ?_ ?_
    · rw [← List.head?_eq_getElem?]; exact har2
    · rw [← List.head?_eq_getElem?]; exact hu0
  have hloc : scope.names.lookup ar.arg = some .local := S.par _ (List.mem_of_mem_head? har2)
  refine ks_wpAt_execs_cons (ks_wpAt_Expr_any (ks_wpAt_MethodCall ?_ (hmeth _)) (by show interactive _ = false; simp [interactive, PySem.callEnv, newEnv, S.kind]) (hswap _))
  obtain ⟨nm, qn, N', bs, bm, sn, sub, ab, col, dd, k0, k1, k2, k3, k5, hC, hbm⟩ := T.ox.cls
  have hCh := XK _ _ hC
  have hcl : PySem.W.clsIn K C = some { name := nm, bases := bs, mro := .ref C :: bm, ns := N', qualname := qn, hasDict := true, slotNames := sn, subclasses := sub, abstract := ab, collection := col, hasDel := false } := by unfold PySem.W.clsIn; rw [hC] <;> rfl
  refine ks_wpAt_super_base (env := envS qual scope s.heap.objs.size f (.ref cda) cc) S.sup S.cls (by decide) rfl (XK _ _ lk) rfl har1 rfl (XK _ _ hcode) rfl hvs hfile htop ?_
  refine PySem.W.ks_loadName_global S.kind S.sup (Calls.loadGlobal_builtin (env := envS qual scope s.heap.objs.size f (.ref cda) cc) hgl T.sg hbl ((hb2 _ (by decide +kernel)).trans (show bootBuiltins "super" = some (.type "super") by decide +kernel)) ⟨rfl, ?_⟩)
  refine wpAny_loadName_free S.kind S.cls rfl ⟨_, XK _ _ hcell, rfl⟩ ?_
  refine wpAny_loadName_local S.kind hloc hns hlook ?_
  have Ia : PySem.W.InstAt h₀ a { cls := .ref C, dict := none, data := .fields #[.ref t0, .none, .none, .none, .bool false, .none] } C none := ⟨ho, rfl, rfl, trivial⟩
  refine ks_wpAny_isType_cls hCh rfl ⟨rfl, ?_⟩
  refine ks_wpAny_call_super hCh rfl ho rfl (fun c z => nomatch z) (PySem.W.looks_mroIn XK T.mro) (fun h1 e1 kk1 => ?_)
  have I1 := I.kept (t' := s.toks + (ps.zip us).length) kk1
  have hIs : PySem.W.Looks (model P w) h1 (isInstance (.ref a) (.type "ValueError")) true := (PySem.W.InstAt.type (M := model P w) (⟨kk1 _ _ ho, rfl, rfl, trivial⟩ : PySem.W.InstAt h1 a { cls := .ref C, dict := none, data := .fields #[.ref t0, .none, .none, .none, .bool false, .none] } C none)).andThen (PySem.W.looks_subIn I1.kIn T.sub)
  have hsup := T.sup
  unfold PySem.W.ks_superIn at hsup
  rw [hcl] at hsup
  refine PySem.W.kxs_getMethod PySem.W.kxs_ValueError e1 (PySem.W.looks_opaque I1.kIn T.tp) (l₀ := .ref C :: bm) ?_ rfl I1.kIn hsup hIs (PySem.W.ks_ne XK Ia hcl) (by decide) ?_
  · exact fun A Q E s k q => wpAny_bind ((PySem.W.looks_clsIn I1.kIn hcl) A _ E s k (wpAny_pure q))
  have I2 := I1.kept (t' := s.toks + (ps.zip us).length + 1) (h' := h1.push (PySem.W.kxs_mw "ValueError.__init__" a)) (fun b u z => Heap.get?_push_of_some _ z)
  rw [hstar]
  refine PySem.W.kxs_callWith (i := "ValueError.__init__") (x := a) rfl (Calls.evalArgs_plain ?_)
  -- pins: the bound wrapper stands while the argument is reckoned
  have hmw : (h1.push (PySem.W.kxs_mw "ValueError.__init__" a)).get? h1.objs.size = some (PySem.W.kxs_mw "ValueError.__init__" a) := Heap.get?_push_at rfl rfl
  have Hn : H h1.objs.size = none := I1.hok.fresh (Nat.le_refl _)
  have I3 : Inv (cxS CX P w K mg base N qual scope f (.ref cda) cc A outer s H E) [(h1.objs.size, PySem.W.kxs_mw "ValueError.__init__" a)] (L2.start N vs) H _ := I2.pins_of fun p hp => by
    rw [List.mem_singleton] at hp
    subst hp
    refine ⟨hmw, Hn, fun z => ?_, I1.nofs (Nat.le_refl _), fun v z => nomatch z⟩
    exact absurd I1.lt (by rw [← z]; exact Nat.lt_irrefl _)
  refine Calls.spliced_cons (thn (hpe.run _ _ _ _ _ I3 hq) fun v s4 ⟨x, H1, I4, rx, hHa1, hq4⟩ => Calls.spliced_nil ?_)
  have hmw4 := (I4.pin (h1.objs.size, PySem.W.kxs_mw "ValueError.__init__" a) (by simp)).1
  refine ⟨hmw4, ?_⟩
  obtain ⟨t4, ho4⟩ := exo_at I4.hok hHa1
  obtain ⟨hp, gg, dr, tk, os⟩ := s4
  refine call_bwV (I4.kIn _ _ hC) ho4 hmw4 (by show 1 ≤ sizeLine; decide) fun h' t5 kk5 hx5 => ?_
  have J := I4.write (t' := tk) (x := a) (e := a) (o := exo a C none) (by rw [hHa1]; exact True.intro) (.inl rfl) kk5 ⟨_, hx5⟩ (exo_ok hx5)
  have eu : upd H1 a (exo a C none) = H1 := by
    funext b
    by_cases hb : b = a
    · rw [hb, upd_same, hHa1]
    · rw [upd_ne hb]
  rw [eu] at J
  refine wpAt_of_wpAny (wpAny_mono (hps.run _ _ _ _ _ J hq4) (fun fl s' hs => ?_) fun e s' hs => hs)
  have fin : ∀ {σ' : L2.St} {H' : Hp} {v : V} {u : Value} {pn : List (Addr × Obj)}, Inv (cxS CX P w K mg base N qual scope f (.ref cda) cc A outer s H E) pn σ' H' s' → RelV v u → Q v H' → CE outer P w H s Q u s' :=
    fun {σ' H' v u pn} J rv q => ⟨v, H', J.os, J.bare, J.base, J.hok, rv, q⟩
  cases fl with
  | ret u =>
    obtain ⟨v, σ', H', J, rv, q⟩ := hs
    exact fin J rv q
  | next =>
    obtain ⟨σ', H', J, q⟩ := hs
    exact fin (v := V.non) (u := Value.none) J rfl q
  | brk =>
    obtain ⟨_, _, _, q⟩ := hs
    exact False.elim q
  | cont =>
    obtain ⟨_, _, _, q⟩ := hs
    exact False.elim q
end
end ML

set_option maxHeartbeats 4000000
namespace ML
open PySem PySem.Spec PyProof.Rows L2

/-! ### an exception that is caught stands in the abstract heap from then on -/
section
variable {X : Cx} {pins : List (Addr × Obj)} {σ : L2.St} {H : Hp} {s : Shared}
theorem exv_ok {P : Program} {w : World} {H : Hp} {h : Heap} {a : Addr} {cls : Value} {d : Option Addr} {oe : Obj} {vs : Array Value} (e : h.get? a = some oe) (z : Zc cls d oe) (hd : oe.data = .fields vs) : ObjOk P w H h a (ExV cls d a) :=
  ⟨⟨oe, vs, e, z, hd⟩, ⟨oe, e⟩, fun _ _ ⟨o, v, q, r⟩ k => ⟨o, v, k o q, r⟩⟩
/-- an object that came behind the entry is tracked from now on -/
theorem Inv.track {a : Addr} {o : HO} (I : Inv X pins σ H s) (hn : H a = none) (h0 : X.s_0.heap.get? a = none) (hp : ∀ p ∈ X.pn ++ pins, p.1 ≠ a) (hL : a ≠ X.env.locals) (hc : ∀ x c, X.env.cells.lookup x = some c → c ≠ a)
    (new : ObjOk X.prog X.w (upd H a o) s.heap a o) : Inv X pins σ (upd H a o) s := by
  have nb : ∀ b ob, X.s_0.heap.get? b = some ob → b ≠ a := fun b ob e z => by rw [z, h0] at e; cases e
  refine ⟨I.ok, I.os, I.bare, ⟨I.base.keep, I.base.slot, fun b ob e n hb => ?_, I.base.there, fun b xs e => ?_, fun b ob u e => ?_, fun b ps e => ?_⟩, I.loc, I.cell, ?_, fun x c e => ?_, fun p hp' => ?_, fun b u e => ?_, I.len⟩
  · rw [upd_ne (nb b ob e)]; exact I.base.free b ob e n hb
  · have q := I.base.tups b xs e; rw [upd_ne (ne_of_none q hn)]; exact q
  · have q := I.base.frzs b ob u e; rw [upd_ne (ne_of_none q hn)]; exact q
  · obtain ⟨m, q⟩ := I.base.tbls b ps e; exact ⟨m, by rw [upd_ne (ne_of_none q hn)]; exact q⟩
  · rw [upd_ne hL.symm]; exact I.free
  · rw [upd_ne (hc x c e)]; exact I.freeC x c e
  · obtain ⟨q1, q2, q3⟩ := I.pin p hp'
    exact ⟨q1, by rw [upd_ne (hp p hp')]; exact q2, q3⟩
  · by_cases hb : b = a
    · subst hb
      rw [upd_same] at e
      cases e
      exact new
    · rw [upd_ne hb] at e
      exact (I.hok b u e).stay (fun c v _ q => q) (fun c q => by rw [upd_ne (ne_of_none q hn)]; exact q) fun c xs q => by rw [upd_ne (ne_of_none q hn)]; exact q

/-- the suite's context, the exception tracked -/
theorem Inv.suiteT {H : Hp} (I : Inv X pins σ H s) (a : Addr) : Inv (X.suite a (X.pn ++ pins)) [] σ H s :=
  ⟨I.ok.suite _ _, I.os, I.bare, I.base, I.loc, I.cell, I.free, I.freeC, fun p hp => I.pin p (by simpa using hp), I.hok, I.len⟩
theorem Inv.unsuiteT {a : Addr} {pn' : List (Addr × Obj)} (I : Inv (X.suite a (X.pn ++ pins)) pn' σ H s) (ok : X.Ok) : Inv X pins σ H s :=
  ⟨ok, I.os, I.bare, I.base, I.loc, I.cell, I.free, I.freeC, fun p hp => I.pin p (List.mem_append_left _ hp), I.hok, I.len⟩
end
/-- what the clause 'except x as n' wishes of an exception of the body: slot i is n's; the exception is tracked -/
def wAsT (K : PySem.W.Frag) (c : Value) (i : Nat) (ts : TS) (Wout : WX) (D : Ends) : WX := fun cls d σ H =>
  ∃ b, PySem.W.exmOne K cls c = some b ∧ (b = true → ∀ a, H a = none → ts { nx := fun σ' H' => D.nx (σ'.set i none) H', rt := D.rt, bk := fun σ' H' => D.bk (σ'.set i none) H', ct := fun σ' H' => D.ct (σ'.set i none) H' } (σ.set i (some (.ref a))) (upd H a (ExV cls d a))) ∧
    (b = false → Wout cls d σ H)
section
variable {X : Cx} {x n : Str} {c : Value} {i : Nat} {body suite : List Stmt} {b₀ : Stmt} {np pos pos' : Pos} {tb : WX → TS} {ts : TS} {Wout : WX}
theorem ps_try_asT (hs : X.stack = X.env :: X.outer) (hf : X.env.frame = some X.env.locals) (hex : X.ex = []) (hN : X.N.Nodup) (hi : X.N[i]? = some n) (hln : X.env.kindOf n = some .local) (hc : Names X x c) (tk : Takes X Wout)
    (hb : ∀ (W : WX) (pn : List (Addr × Obj)) (xe : Value → Shared → Prop), Takes (X.tr pn xe) W → PassesOwn (model X.prog X.w) X.A X.env xe → PSs (X.tr pn xe) body (tb W))
    (hsu : ∀ (a : Addr) (pn : List (Addr × Obj)), PSs (X.suite a pn) (b₀ :: suite) ts) :
    PS X (.Try body [.ExceptHandler (some (.Name x np)) (some n) (b₀ :: suite) pos'] [] [] pos) (fun D σ H => tb (wAsT X.K c i ts Wout D) D σ H) := by
  refine ⟨fun pins s σ H D I h => ?_⟩
  have ok := I.ok
  have hfr : X.A.frames = some (X.env :: X.outer) := by rw [ok.frames, hs]
  have hloc : Loc X.env.scope n := .inl hln
  refine wpAny_Try_except ?_
  refine wpAny_mono ((hb (wAsT X.K c i ts Wout D) (X.pn ++ pins) (fun e s₁ => wpAny (model X.prog X.w) X.A (noteFrame e X.env) (fun _ s₂ => wpAny (model X.prog X.w) X.A (setFlight e none) (fun _ s₃ =>
    wpAny (model X.prog X.w) X.A (handleBy e X.env [.ExceptHandler (some (.Name x np)) (some n) (b₀ :: suite) pos']) (SP X pins D) X.xe s₃) X.xe s₂) X.xe s₁) (fun u s' xx => ?_) PassesOwn.looking).run [] s σ H D (I.toTry _) h) (fun f s1 hsp => ?_) (fun e s1 he => he)
  · obtain ⟨a, B, sI, pins', σ', H', cls, d, rfl, J', nb, up, sky, na, os, ag, b, hb1, hyes, hno⟩ := xx
    have J : Inv X pins σ' H' sI := J'.ofTry ok
    have sky' : Sky B (X.env :: X.outer) a (Zc cls d) X.env.locals s'.heap := by rw [← hs]; exact sky
    show wpAny (model X.prog X.w) X.A (noteFrame (.ref a) X.env) _ _ _
    refine Sky.land Zc.steady hfr hf sky' fun h3 fl3 up3 => ?_
    have J3 : Inv X pins σ' H' { s' with heap := h3 } := J.landed nb fl3.1 (up.trans up3) os ag
    obtain ⟨oe3, vs3, he3, hz3, hd3⟩ := fl3.there
    have notFr : ∀ {h : Heap} {o : Obj} {vs : Array Value}, h.FunFrames B (X.env :: X.outer) → h.get? a = some o → o.data = .fields vs → a ∉ frs (X.env :: X.outer) := fun {h o vs} ff e dd hm => by
      obtain ⟨_, o', e', hnf⟩ := ff.mem hm
      rw [e] at e'; cases e'
      exact hnf _ dd
    have nfr := notFr fl3.2.2.1 he3 hd3
    have nL : a ≠ X.env.locals := fun z => nfr (List.mem_filterMap.mpr ⟨X.env, List.mem_cons_self, by rw [hf, z]⟩)
    have nF : a ∉ X.fs := fun hm => by
      obtain ⟨e, he, q⟩ := List.mem_filterMap.mp hm
      exact nfr (List.mem_filterMap.mpr ⟨e, List.mem_cons_of_mem _ he, q⟩)
    -- it is none of what stood before it was made
    have nI : sI.heap.get? a = none := by
      cases q : sI.heap.get? a with
      | none => rfl
      | some o =>
        have z := nb a o q (by rw [hs]; exact nfr)
        rw [fl3.2.1] at z
        cases z
    have n0 : X.s_0.heap.get? a = none := by
      cases q : X.s_0.heap.get? a with
      | none => rfl
      | some o =>
        obtain ⟨o', z⟩ := J.base.there a o q (by rw [hex]; exact fun z => nomatch z)
        rw [nI] at z
        cases z
    have nP : ∀ p ∈ X.pn ++ pins, p.1 ≠ a := fun p hp z => by
      have q := (J.pin p hp).1
      rw [z, nI] at q
      cases q
    have nC : ∀ x c, X.env.cells.lookup x = some c → c ≠ a := fun x c e z => by
      obtain ⟨v, o, q, _⟩ := J.cell x c e
      rw [z, nI] at q
      cases q
    refine wpAny_handleBy_cons (codeAny_handlers_test ?_) (by intro q; cases q)
    have LT : PySem.W.Looks (model X.prog X.w) h3 (typeOf (.ref a)) cls := fun A Q E s k q => wpAny_typeOf_ref (k _ _ he3) (by rw [hz3.1]; exact q)
    have LM := PySem.W.exm_one (M := model X.prog X.w) (J3.kIn) LT hb1
    have S3 := J3.suite he3 hd3 na nL nF
    have test : ∀ {Q : Value → Shared → Prop} {E : Value → Shared → Prop}, Q c { s' with heap := h3 } → wpAny (model X.prog X.w) (X.A.mark (some (.ref a))) (eval (.Name x np) X.env) Q E { s' with heap := h3 } := fun {Q E} q => by
      obtain ⟨hg, hdbg, hm | ⟨hm, hv, hnn⟩⟩ := hc
      · exact ld_glob (X := X.suite a ((a, oe3) :: (X.pn ++ pins))) S3 hg hm q hdbg
      · exact ld_blt (X := X.suite a ((a, oe3) :: (X.pn ++ pins))) S3 hg hm hv q hnn hdbg
    refine test (LM.here ?_)
    cases b with
    | true =>
      refine codeAny_handlers_suite_as ?_
      refine HandSPX.lands_againZ fl3 fun h4 fl4 up4 => ?_
      have J4 : Inv X pins σ' H' { s' with heap := h4 } := J.landed nb fl4.1 ((up.trans up3).trans up4) os ag
      obtain ⟨oe4, vs4, he4, hz4, hd4⟩ := fl4.there
      have J5 := Inv.track (o := ExV cls d a) J4 na n0 nP nL nC (exv_ok he4 hz4 hd4)
      have S4 := Inv.suiteT J5 a
      refine store_ok (X := X.suite a (X.pn ++ pins)) (v := .ref a) S4 hN hi hloc rfl (fun s5 S5 => ?_) (.inr hln)
      refine wpAny_mono ((hsu a (X.pn ++ pins)).run [] s5 _ (upd H' a (ExV cls d a)) _ S5 (hyes rfl a na)) (fun f s6 hsp => ?_) (fun _ _ z => False.elim z)
      have end_ : ∀ {σ6 : L2.St} {H6 : Hp} {Q : Shared → Prop}, Inv (X.suite a (X.pn ++ pins)) [] σ6 H6 s6 → (∀ s7, Inv X pins (σ6.set i none) H6 s7 → Q s7) →
          wpAny (model X.prog X.w) X.A (do bindName X.env n .none; unbindBehindTheSuite X.env n pos') (fun _ s7 => Q s7) X.xe s6 := fun {σ6 H6 Q} S6 hq => gone_ok (Inv.unsuiteT S6 ok) hN hi hln hq
      cases f with
      | next =>
        obtain ⟨σ6, H6, S6, q6⟩ := hsp
        exact end_ S6 fun s7 J7 => ⟨_, _, J7, q6⟩
      | brk =>
        obtain ⟨σ6, H6, S6, q6⟩ := hsp
        exact end_ S6 fun s7 J7 => ⟨_, _, J7, q6⟩
      | cont =>
        obtain ⟨σ6, H6, S6, q6⟩ := hsp
        exact end_ S6 fun s7 J7 => ⟨_, _, J7, q6⟩
      | ret u =>
        obtain ⟨v6, σ6, H6, S6, r6, q6⟩ := hsp
        exact end_ S6 fun s7 J7 => ⟨_, _, _, J7, r6, q6⟩
    | false =>
      show wpAny _ X.A (handleBy (.ref a) X.env []) _ _ _
      refine wpAny_handleBy_nil ?_
      obtain ⟨k1, k2, k3, oe, vs, T, oT, ts', he, hz, hd, h1, hr⟩ := id fl3
      unfold PySem.passOn
      refine wpAny_bind (wpAny_field he hd h1 ?_)
      rw [if_neg (show ¬ ((Value.ref T == Value.none) = true) from by simp)]
      have fin : wpAny (model X.prog X.w) X.A (setFlight (.ref a) X.env.frame) (fun _ s4 => wpAny (model X.prog X.w) X.A (throw (.ref a) : Sem Flow) (SP X pins D) X.xe s4) X.xe { s' with heap := h3 } := by
        rw [hf]
        refine HandSPX.setFlight_upZ fl3 fun h4 hh4 up4 => wpAny_throw (tk _ _ ?_)
        exact ⟨a, B, sI, pins, σ', H', cls, d, rfl, J, nb, (up.trans up3).trans up4, .inr (.inr (by rw [hs]; exact hh4)), na, os, ag, hno rfl⟩
      first
        | exact wpAny_bind (wpAny_pure (wpAny_bind fin))
        | exact wpAny_bind fin
  · cases f with
    | next =>
      obtain ⟨σ', H', J', q⟩ := hsp
      exact wpAny_execs_nil ⟨σ', H', J'.ofTry ok, q⟩
    | brk =>
      obtain ⟨σ', H', J', q⟩ := hsp
      exact ⟨σ', H', J'.ofTry ok, q⟩
    | cont =>
      obtain ⟨σ', H', J', q⟩ := hsp
      exact ⟨σ', H', J'.ofTry ok, q⟩
    | ret u =>
      obtain ⟨v, σ', H', J', r, q⟩ := hsp
      exact ⟨v, σ', H', J'.ofTry ok, r, q⟩
end

/-! ### e.f, isinstance(e, C) of such an exception -/
/-- what an own error's class must say -/
structure ExcK (K : PySem.W.Frag) (C : Addr) : Prop where
  cl : (PySem.W.clsIn K C).isSome = true
  ga : PySem.W.findIn K (.ref C) "__getattribute__" = some (some (.builtin "BaseException.__getattribute__"))
  gg : PySem.W.findIn K (.ref C) "__getattr__" = some none
  sb : PySem.W.subIn K (.ref C) (.type "BaseException") = some true
  hd : PySem.W.hasDictIn K C = true
  ha : PySem.W.findIn K (.ref C) "__class__" = some (some (.builtin "object.__class__"))
  hn : PySem.W.specialIn K (.builtin "object.__class__") "__get__" = some (some (.builtin "getset_descriptor.__get__"))
  ht : PySem.W.takesIn K (.builtin "object.__class__") = some true
  hm : PySem.W.mroIn K C (.type "object") = some true
section
variable {X : Cx} {pins : List (Addr × Obj)} {σ : L2.St} {H : Hp} {s : Shared}
theorem exv_at {P : Program} {w : World} {H : Hp} {h : Heap} {a : Addr} {cls : Value} {d : Option Addr} (hok : HOk P w H h) (he : H a = some (ExV cls d a)) : ∃ (oe : Obj) (vs : Array Value), h.get? a = some oe ∧ Zc cls d oe ∧ oe.data = .fields vs := by
  have x : ObjOk P w H h a (.ext fun h => ∃ (oe : Obj) (vs : Array Value), h.get? a = some oe ∧ Zc cls d oe ∧ oe.data = .fields vs) := hok a _ he
  exact x.1
theorem exv_inst (I : Inv X pins σ H s) {a C : Addr} {d : Option Addr} (he : H a = some (ExV (.ref C) d a)) (hd : d = none ∨ ∃ dd gs, d = some dd ∧ H dd = some (.xd gs)) : ∃ oe od, PySem.W.InstAt s.heap a oe C od := by
  obtain ⟨oe, vs, e, z, q⟩ := exv_at I.hok he
  have hno : PySem.W.notCls oe = true := by unfold PySem.W.notCls; rw [q] <;> rfl
  rcases hd with rfl | ⟨dd, gs, rfl, ed⟩
  · exact ⟨oe, none, e, z.1, hno, by rw [z.2]; trivial⟩
  · have hx : ObjOk X.prog X.w H s.heap dd (.xd gs) := I.hok dd _ ed
    obtain ⟨mA, hns, hr⟩ := hx
    obtain ⟨od, ho, hl⟩ := lookIn_ns hns
    exact ⟨oe, some od, e, z.1, hno, by rw [z.2]; exact ho⟩
/-- e.f: of an instance, or of a caught exception -/
def tFldX (K : PySem.W.Frag) (ta : TE) (f : Str) : TE := fun σ H Q => ta σ H fun x H1 => (∃ a C dx fs v, x = .ref a ∧ H1 a = some (.ins C dx fs) ∧ Cls K C ∧ NoAttr K C f ∧ fs.lookup f = some v ∧ Q v H1) ∨
  (∃ a C dd gs v, x = .ref a ∧ H1 a = some (ExV (.ref C) (some dd) a) ∧ ExcK K C ∧ PySem.W.findIn K (.ref C) f = some none ∧ H1 dd = some (.xd gs) ∧ gs.lookup f = some v ∧ Q v H1)
theorem pe_fldX {e : Expr} {ta : TE} {f : Str} {pos : Pos} (he : PE X e ta) (hb : attributeBase e f X.env (eval e X.env) = eval e X.env := by rfl) : PE X (.Attribute e f pos) (tFldX X.K ta f) := by
  refine ⟨fun pins s σ H Q I h => attr_of hb (thn (he.run pins s σ H _ I h) fun u s1 hh => ?_)⟩
  obtain ⟨x, H1, I1, rx, hh⟩ := hh
  rcases hh with ⟨a, C, dx, fs, v, rfl, ea, c, n, l, q⟩ | ⟨a, C, dd, gs, v, rfl, ea, c, n, ed, l, q⟩
  · obtain rfl : u = Value.ref a := rx
    exact getattr_ok I1 ea c n l fun u s' I2 r => ⟨v, H1, I2, r, q⟩
  · obtain rfl : u = Value.ref a := rx
    obtain ⟨oe, vs, e1, z, hd⟩ := exv_at I1.hok ea
    have hx : ObjOk X.prog X.w H1 s1.heap dd (.xd gs) := I1.hok dd _ ed
    obtain ⟨mA, hns, hr⟩ := hx
    obtain ⟨od, ho, hl⟩ := lookIn_ns hns
    obtain ⟨u, hu, ru⟩ := RelO.some_of (v := v) (o := mA f) (by rw [← l]; exact hr f)
    have J : PySem.W.InstAt s1.heap a oe C (some od) := ⟨e1, z.1, by unfold PySem.W.notCls; rw [hd] <;> rfl, by rw [z.2]; exact ho⟩
    exact HandSPX.exc_get I1.kIn J c.ga c.gg c.sb (PySem.W.findObj_own c.hd n rfl (by rw [hl, hu])) (handed_of ru) ⟨v, H1, I1.tok _, ru, q⟩
/-- isinstance(e, c) of a caught exception -/
def rIsV (K : PySem.W.Frag) : List V → Hp → VK → Prop := fun xs H Q => ∃ (a C : Addr) (d : Option Addr) (c : V) (u : Value) (b : Bool), xs = [.ref a, c] ∧ ClsV c u ∧ H a = some (ExV (.ref C) d a) ∧ (d = none ∨ ∃ dd gs, d = some dd ∧ H dd = some (.xd gs)) ∧ ExcK K C ∧
  PySem.W.kitOne K (.ref C) u = some b ∧ Q (.bl b) H
theorem call_isV : CallR X (.builtin "isinstance") (rIsV X.K) := by
  intro pins s σ H xs us Q I r h
  obtain ⟨a, C, d, c, u, b, rfl, k, ea, hd, T, e, q⟩ := h
  obtain ⟨u1, u2, rfl, r1, r2⟩ := vals2 r
  have e2 := k.eq r2
  subst e2
  obtain rfl : u1 = Value.ref a := r1
  obtain ⟨oe, od, J⟩ := exv_inst I ea hd
  exact PySem.W.kia_one (PySem.W.kitx_exc T.cl T.ga T.gg T.sb T.ha T.hn T.ht T.hm) I.kIn J e (fun z => nomatch z) fun tk => ⟨.bl b, H, I.tok tk, rfl, q⟩
end
end ML

set_option maxHeartbeats 4000000
namespace ML
open PySem L2
section
variable {G : Gm} {Wx : WX} {μ μ' : Nat → Addr} {h h' : Hm} {H H' : Hp} {ρ : Ev} {σ : L2.St}

/-! ### e.f -/
structure AtX (G : Gm) (f : Str) (ins exc : Nat → Bool) : Prop where
  ins : ∀ c, ins c = true → Cls G.K (G.ca c) ∧ NoAttr G.K (G.ca c) f
  exc : ∀ c, exc c = true → ExcK G.K (G.ca c) ∧ PySem.W.findIn G.K (.ref (G.ca c)) f = some none
def mAttrX (f : Str) (ins exc : Nat → Bool) (o : ME) : ME := fun ρ h => bnd (o ρ h) fun x h1 => match x with
  | .ref i => match h1[i]? with
    | some (.ins c fs) => if ins c = true then match fget f fs with
        | some w => some (.ok w h1)
        | none => none
      else none
    | some (.exc c fs) => if exc c = true then match fget f fs with
        | some w => some (.ok w h1)
        | none => none
      else none
    | _ => none
  | _ => none
theorem w_attrX {f : Str} {ins exc : Nat → Bool} {o : ME} (a : AtX G f ins exc) : ∀ σ H Q, tE G Wx (mAttrX f ins exc o) σ H Q → tFldX G.K (tE G Wx o) f σ H Q := fun σ H Q ⟨μ, ρ, h, s, p⟩ =>
  ⟨μ, ρ, h, s, (Post.bnd p).mono fun μ1 h1 H1 wx g q x rx => by
    cases wx with
    | ref i =>
      simp only [RU] at rx
      obtain ⟨hi, rfl⟩ := rx
      simp only at q
      split at q
      · rename_i c fs ec
        split at q
        · rename_i hc
          split at q
          · rename_i w ew
            obtain ⟨dx, gs, ea, rf⟩ := g.rel.cell i _ ec
            obtain ⟨v, ev, rv⟩ := fget_ok ew rf
            obtain ⟨c1, c2⟩ := a.ins c hc
            exact .inl ⟨_, _, dx, gs, v, rfl, ea, c1, c2, ev, Post.ok g.rel q _ rv⟩
          · exact False.elim q
        · exact False.elim q
      · rename_i c fs ec
        split at q
        · rename_i hc
          split at q
          · rename_i w ew
            obtain ⟨cls, d, ea, ecl, rx⟩ := g.rel.cell i _ ec
            subst ecl
            rcases rx with ⟨rfl, _⟩ | ⟨dd, gs, rfl, ed, rf⟩
            · cases ew
            · obtain ⟨v, ev, rv⟩ := fget_ok ew rf
              obtain ⟨c1, c2⟩ := a.exc c hc
              exact .inr ⟨_, _, dd, gs, v, rfl, ea, c1, c2, ed, ev, Post.ok g.rel q _ rv⟩
          · exact False.elim q
        · exact False.elim q
      · exact False.elim q
    | _ => exact False.elim q⟩

/-! ### isinstance -/
inductive TyK where
  | non | bl | int | str | lst | tup | ins (c : Nat) | exc (c : Nat)
def tyK (w : U) (h : Hm) : Option TyK := match w with
  | .non => some .non
  | .bl _ => some .bl
  | .int _ => some .int
  | .str _ => some .str
  | .tup _ => some .tup
  | .ref i => match h[i]? with
    | some (.lst _) => some .lst
    | some (.ins c _) => some (.ins c)
    | some (.exc c _) => some (.exc c)
    | _ => none
def tyVal (ca : Nat → Addr) : TyK → Value
  | .non => .type "NoneType"
  | .bl => .type "bool"
  | .int => .type "int"
  | .str => .type "str"
  | .lst => .type "list"
  | .tup => .type "tuple"
  | .ins c => .ref (ca c)
  | .exc c => .ref (ca c)
/-- what an own class must say, so that isinstance asks its instances rightly -/
structure InsK (K : PySem.W.Frag) (C : Addr) : Prop where
  cl : Cls K C
  ha : PySem.W.findIn K (.ref C) "__class__" = some (some (.builtin "object.__class__"))
  hn : PySem.W.specialIn K (.builtin "object.__class__") "__get__" = some (some (.builtin "getset_descriptor.__get__"))
  htk : PySem.W.takesIn K (.builtin "object.__class__") = some true
  hm : PySem.W.mroIn K C (.type "object") = some true
/-- the answers for the class u -/
structure IsiC (G : Gm) (tab : TyK → Option Bool) (cv : V) (u : Value) : Prop where
  cls : ClsV cv u
  ok : ∀ k b, tab k = some b → PySem.W.kitOne G.K (tyVal G.ca k) u = some b
  ins : ∀ c b, tab (.ins c) = some b → InsK G.K (G.ca c)
  exc : ∀ c b, tab (.exc c) = some b → ExcK G.K (G.ca c)
def mIsi (tab : TyK → Option Bool) (a : ME) : ME := fun ρ h => bnd (a ρ h) fun w h1 => match tyK w h1 with
  | some k => match tab k with
    | some b => some (.ok (.bl b) h1)
    | none => none
  | none => none
theorem w_isi {tab : TyK → Option Bool} {cv : V} {u : Value} {a : ME} (t : IsiC G tab cv u) : ∀ σ H Q, tE G Wx (mIsi tab a) σ H Q → tCB (fun xs H Q => rIsi G.K xs H Q ∨ rIsV G.K xs H Q) (tCons (tE G Wx a) (tCons (tC cv) tNil)) σ H Q := fun σ H Q ⟨μ, ρ, h, s, p⟩ =>
  ⟨μ, ρ, h, s, (Post.bnd p).mono fun μ1 h1 H1 w g q v r => by
    show (rIsi G.K [v, cv] H1 Q ∨ rIsV G.K [v, cv] H1 Q)
    split at q
    · rename_i k ek
      split at q
      · rename_i b eb
        have e := t.ok k b eb
        have fin : ∀ tv, TyX G.K H1 v tv → tv = tyVal G.ca k → rIsi G.K [v, cv] H1 Q := fun tv ty etv => by
          subst etv
          exact ⟨v, cv, _, u, b, rfl, t.cls, ty, e, Post.ok g.rel q _ rfl⟩
        cases w with
        | non => cases ek; simp only [RU] at r; subst r; exact .inl (fin _ (.base .non) rfl)
        | bl x => cases ek; simp only [RU] at r; subst r; exact .inl (fin _ (.base (.bl x)) rfl)
        | int x => cases ek; simp only [RU] at r; subst r; exact .inl (fin _ (.base (.int x)) rfl)
        | str x => cases ek; simp only [RU] at r; subst r; exact .inl (fin _ (.base (.str x)) rfl)
        | tup ws =>
          cases ek
          simp only [RU] at r
          obtain ⟨a, xs, rfl, st, _⟩ := r
          rcases st with (st | ⟨o, st⟩) | ⟨o, its, n, hk, hc, _⟩
          · exact .inl (fin _ (.base (.tup st)) rfl)
          · exact .inl (fin _ (.fTuple st) rfl)
          · exact .inl (fin _ (.kTuple hk hc) rfl)
        | ref i =>
          simp only [RU] at r
          obtain ⟨hi, rfl⟩ := r
          unfold tyK at ek
          simp only at ek
          split at ek
          · rename_i ws ec
            cases ek
            obtain ⟨xs, ea, _⟩ := g.rel.cell i _ ec
            exact .inl (fin _ (.base (.lst ea)) rfl)
          · rename_i c fs ec
            cases ek
            obtain ⟨dx, gs, ea, _⟩ := g.rel.cell i _ ec
            have z := t.ins c b eb
            exact .inl (fin _ (.base (.ins ea z.cl z.ha z.hn z.htk z.hm)) rfl)
          · rename_i c fs ec
            cases ek
            obtain ⟨cls, d, ea, ecl, rx⟩ := g.rel.cell i _ ec
            subst ecl
            refine .inr ⟨_, _, d, cv, u, b, rfl, t.cls, ea, ?_, t.exc c b eb, e, Post.ok g.rel q _ rfl⟩
            rcases rx with ⟨_, rfl⟩ | ⟨dd, gs, rfl, ed, _⟩
            · exact .inl rfl
            · exact .inr ⟨dd, gs, rfl, ed⟩
          · cases ek
      · exact False.elim q
    · exact False.elim q⟩

/-! ### try: body, except c as n (slot i): suite -/
def tryEnd (i : Nat) : Option Sz → Option Sz
  | some (.nx ρ h) => some (.nx (ρ.set i none) h)
  | some (.bk ρ h) => some (.bk (ρ.set i none) h)
  | some (.ct ρ h) => some (.ct (ρ.set i none) h)
  | r => r
def mTry (tab : Nat → Option Bool) (i : Nat) (body suite : MS) : MS := fun ρ h => match body ρ h with
  | some (.ex c fs ρ1 h1) => match tab c with
    | some true => match suite (ρ1.set i (some (.ref h1.length))) (h1 ++ [.exc c fs]) with
      | some (.ex _ _ _ _) => none
      | r => tryEnd i r
    | some false => some (.ex c fs ρ1 h1)
    | none => none
  | r => r
/-- the clause's class: whom it takes -/
def TakC (G : Gm) (tab : Nat → Option Bool) (c : Value) : Prop := ∀ k b, tab k = some b → PySem.W.exmOne G.K (.ref (G.ca k)) c = some b
theorem w_try {tab : Nat → Option Bool} {c : Value} {i : Nat} {body suite : MS} (t : TakC G tab c) : ∀ D σ H, tS G Wx (mTry tab i body suite) D σ H → tS G (wAsT G.K c i (tS G (fun _ _ _ _ => False) suite) Wx D) body D σ H := fun D σ H ⟨μ, ρ, h, s, p⟩ => by
  refine ⟨μ, ρ, h, s, ?_⟩
  unfold mTry at p
  cases e : body ρ h with
  | none => rw [e] at p; exact p
  | some r =>
    rw [e] at p
    cases r with
    | nx ρ1 h1 => exact p
    | rt w h1 => exact p
    | bk ρ1 h1 => exact p
    | ct ρ1 h1 => exact p
    | ex k fs ρ1 h1 =>
      intro μ1 σ1 H1 cls d g1 s1 rx
      simp only at p
      cases et : tab k with
      | none => rw [et] at p; exact False.elim p
      | some b =>
        rw [et] at p
        obtain ⟨ecl, rx2⟩ := id rx
        refine ⟨b, by rw [ecl]; exact t k b et, fun hb a na => ?_, fun hb => ?_⟩
        · subst hb
          simp only at p
          have hn : RCell G (nu μ1 h1.length a) (h1.length + 1) (upd H1 a (ExV cls d a)) a (.exc k fs) := by
            refine ⟨cls, d, upd_same, ecl, ?_⟩
            rcases rx2 with q | ⟨dd, gs, e1, e2, q⟩
            · exact .inl q
            · exact .inr ⟨dd, gs, e1, by rw [upd_ne (ne_of_none e2 na)]; exact e2, RFs.mono (fun i hi => nu_old hi) (Nat.le_succ _) (TS0.fresh na) _ _ q⟩
          have g2 := Gr.new (o := ExV cls d a) (c := .exc k fs) s1.rel na hn
          have s2 := (s1.on g2).set (w := .ref h1.length) (v := .ref a) i (by simp only [RU]; exact ⟨by simp, by rw [nu_new]⟩)
          refine ⟨_, _, _, s2, ?_⟩
          have g12 := g1.trans g2
          cases e3 : suite (ρ1.set i (some (.ref h1.length))) (h1 ++ [.exc k fs]) with
          | none => rw [e3] at p; exact False.elim p
          | some r3 =>
            rw [e3] at p
            cases r3 with
            | nx ρ3 h3 => exact fun μ4 σ4 H4 g4 s4 => p μ4 _ H4 (g12.trans g4) (s4.unset i)
            | bk ρ3 h3 => exact fun μ4 σ4 H4 g4 s4 => p μ4 _ H4 (g12.trans g4) (s4.unset i)
            | ct ρ3 h3 => exact fun μ4 σ4 H4 g4 s4 => p μ4 _ H4 (g12.trans g4) (s4.unset i)
            | rt w h3 => exact fun μ4 H4 v g4 r4 => p μ4 H4 v (g12.trans g4) r4
            | ex k3 fs3 ρ3 h3 => exact False.elim p
        · subst hb
          exact p μ1 σ1 H1 cls d g1 s1 rx

/-! ### raise C(..): C an own error -/
/-- the fields by the arguments (the last stored first); new objects come behind -/
abbrev MX := List U → Hm → Option (List (Str × U) × Hm)
def mRaise (c : Nat) (mk : MX) (es : MA) : MS := fun ρ h => bndS ρ (es ρ h) fun ws h1 => match mk ws h1 with
  | some (fs, h2) => some (.ex c fs ρ h2)
  | none => none
/-- the cells of exceptions that stood before -/
def ExcOff (μ : Nat → Addr) (h : Hm) (a : Addr) : Prop := ∀ (i : Nat) c fs, h[i]? = some (.exc c fs) → μ i ≠ a
/-- the promise of such an __init__ -/
def spX (G : Gm) (c n : Nat) (mk : MX) : Sp := fun vs H Q E => ∃ a xs μ h ws fs h2, vs = .ref a :: xs ∧ xs.length = n ∧ H a = some (exo a (G.ca c) none) ∧ HRel G μ h H ∧ ExcOff μ h a ∧ RUs G.K μ h.length H ws xs ∧ mk ws h = some (fs, h2) ∧
  ∀ μ' H' d gs, Gr G μ h H μ' h2 H' → H' a = some (exo a (G.ca c) none) → ExcOff μ' h2 a → H' d = none → d ≠ a → (∀ b, H b ≠ none → H' b ≠ none) → RFs G.K μ' h2.length H' fs gs → Q .non (upd (upd H' d (exd d gs)) a (exo a (G.ca c) (some d)))
theorem exo_nt {e C : Addr} {d : Option Addr} : Wr (exo e C d) = false := rfl
theorem w_raise {c n : Nat} {mk : MX} {es : MA} (al : AL es n) (hn : n ≤ 1000) : ∀ D σ H, tS G Wx (mRaise c mk es) D σ H → (fun (_ : Ends) σ H => tMkO (G.ca c) (spX G c n mk) [] (tA G Wx es) σ H fun cls d H' => Wx cls d σ H') D σ H := fun D σ H ⟨μ, ρ, h, s, p⟩ =>
  ⟨μ, ρ, h, s, (PostS.bnd s p).withEq.mono fun μ1 h1 H1 ws g ⟨q, eq⟩ vs rs => by
    refine ⟨by rw [RUs.length rs, al _ _ _ _ eq]; exact hn, fun a na => ?_⟩
    cases em : mk ws h1 with
    | none => rw [em] at q; exact False.elim q
    | some fh =>
      obtain ⟨fs, h2⟩ := fh
      rw [em] at q
      simp only at q
      have r1 : HRel G μ1 h1 (upd H1 a (exo a (G.ca c) none)) := g.rel.fresh na
      have off : ExcOff μ1 h1 a := fun i k fs e z => by
        obtain ⟨cls, d, ea, _⟩ := g.rel.cell i _ e
        rw [z, na] at ea
        cases ea
      rw [List.append_nil]
      refine ⟨a, vs, μ1, h1, ws, fs, h2, rfl, (RUs.length rs).trans (al _ _ _ _ eq), upd_same, r1, off, rs.same (TS0.fresh na), em, fun μ' H' d gs g' ha off' nd da kk rf => ?_⟩
      have hd1 : H1 d = none := by
        cases z : H1 d with
        | none => rfl
        | some o => exact absurd nd (kk d (by rw [upd_ne da, z]; simp))
      refine ⟨rfl, d, gs, upd_same, by rw [upd_ne da, upd_same], hd1, ?_⟩
      -- the heap behind it
      have e3 : upd (del (upd (upd H' d (exd d gs)) a (exo a (G.ca c) (some d))) a) d (.xd gs) = upd (del H' a) d (.xd gs) := by
        funext b
        by_cases hb : b = d
        · subst hb; rw [upd_same, upd_same]
        · rw [upd_ne hb, upd_ne hb]
          by_cases hb2 : b = a
          · subst hb2; rw [del_same, del_same]
          · rw [del_ne hb2, del_ne hb2, upd_ne hb2, upd_ne hb]
      rw [e3]
      have kp : ∀ b u, b ≠ a → H' b = some u → upd (del H' a) d (.xd gs) b = some u := fun b u hb z => by
        rw [upd_ne (ne_of_none z nd), del_ne hb]
        exact z
      have nex : ∀ b u, H' b = some u → (∀ φ, u ≠ .ext φ) → b ≠ a := fun b u z y q => by
        rw [q, ha] at z
        cases z
        exact y _ rfl
      have ts : TS0 G.K H' (upd (del H' a) d (.xd gs)) := fun b xs st => by
        rcases st with (st | ⟨o, st⟩) | st
        · exact .inl (.inl (kp b _ (nex b _ st fun φ => by simp) st))
        · exact .inl (.inr ⟨o, kp b _ (nex b _ st fun φ => by simp) st⟩)
        · exact .inr st
      have rel3 : HRel G μ' h2 (upd (del H' a) d (.xd gs)) := by
        refine ⟨fun i e z => ?_, g'.rel.inj⟩
        have rc := g'.rel.cell i e z
        cases e with
        | lst us => obtain ⟨xs, q1, q2⟩ := rc; exact ⟨xs, kp _ _ (nex _ _ q1 fun φ => by simp) q1, q2.same ts⟩
        | ins k us => obtain ⟨dx, xs, q1, q2⟩ := rc; exact ⟨dx, xs, kp _ _ (nex _ _ q1 fun φ => by simp) q1, RFs.mono (fun _ _ => rfl) (Nat.le_refl _) ts _ _ q2⟩
        | frz us =>
          obtain ⟨xs, q1, q2⟩ := rc
          refine ⟨xs, ?_, q2.same ts⟩
          rcases q1 with ⟨o, q1⟩ | q1
          · exact .inl ⟨o, kp _ _ (nex _ _ q1 fun φ => by simp) q1⟩
          · exact .inr q1
        | exc k us =>
          obtain ⟨cls, dd, q1, q2, q3⟩ := rc
          refine ⟨cls, dd, kp _ _ (off' i k us z) q1, q2, ?_⟩
          rcases q3 with q3 | ⟨d1, ys, y1, y2, y3⟩
          · exact .inl q3
          · exact .inr ⟨d1, ys, y1, kp _ _ (nex _ _ y2 fun φ => by simp) y2, RFs.mono (fun _ _ => rfl) (Nat.le_refl _) ts _ _ y3⟩
      have ts1 : TS0 G.K H1 (upd (del H' a) d (.xd gs)) := (TS0.fresh (o := exo a (G.ca c) none) na).trans (g'.tup.trans ts)
      have gg : Gr G μ1 h1 H1 μ' h2 (upd (del H' a) d (.xd gs)) := ⟨g'.len, g'.mu, ts1, rel3⟩
      exact q μ' σ _ _ _ gg ((s.on g).on gg) ⟨rfl, .inr ⟨d, gs, rfl, upd_same, RFs.mono (fun _ _ => rfl) (Nat.le_refl _) ts _ _ rf⟩⟩⟩
end
end ML

set_option maxHeartbeats 4000000
namespace ML
open PySem L2
/-! ### __init__ of the own errors: super().__init__(text); self.f = p -/
section
variable {X : Cx} {x : Str} {pos : Pos} {i : Nat}
theorem pvS (hN : X.N[i]? = some x) (hv : X.env.scope.names.lookup x = some .local) (hd : (x == ("__debug__" : Str)) = false) (hcd : (x == ("__classdict__" : Str)) = false) : PE X (.Name x pos) (tVar i) := pe_var hN (.inl hv) hd hcd
end
def mk1 (f : Str) : MX := fun ws h => match ws with
  | [w] => some ([(f, w)], h)
  | _ => none
def mk2 (f1 f2 : Str) : MX := fun ws h => match ws with
  | [w, u] => some ([(f2, u), (f1, w)], h)
  | _ => none
/-- the first argument is written into the message -/
def mk2s (f1 f2 : Str) : MX := fun ws h => match ws with
  | [.str s, u] => if s.length ≤ LIM then some ([(f2, u), (f1, .str s)], h) else none
  | _ => none
/-- the second argument is written into the message -/
def mk2t (f1 f2 : Str) : MX := fun ws h => match ws with
  | [w, .str s] => if s.length ≤ LIM then some ([(f2, .str s), (f1, w)], h) else none
  | _ => none
theorem rf1 {K : PySem.W.Frag} {μ : Nat → Addr} {n : Nat} {H : Hp} {f : Str} {w : U} {v : V} (r : RU K μ n H w v) : RFs K μ n H [(f, w)] [(f, v)] := by
  simp only [RFs]
  exact ⟨v, [], rfl, r, rfl⟩
theorem rf2 {K : PySem.W.Frag} {μ : Nat → Addr} {n : Nat} {H : Hp} {f g : Str} {w u : U} {v y : V} (r : RU K μ n H w v) (q : RU K μ n H u y) : RFs K μ n H [(f, w), (g, u)] [(f, v), (g, y)] := by
  simp only [RFs]
  exact ⟨v, _, rfl, r, y, [], rfl, q, rfl⟩
theorem heap2 {H : Hp} {a d C : Addr} {o1 o2 : HO} (hd : d ≠ a) : upd (upd (upd H d o1) a (exo a C (some d))) d o2 = upd (upd H d o2) a (exo a C (some d)) := by
  funext b
  by_cases hb : b = d
  · subst hb
    rw [upd_same, upd_ne hd, upd_same]
  · rw [upd_ne hb]
    by_cases hb2 : b = a
    · subst hb2; rw [upd_same, upd_same]
    · rw [upd_ne hb2, upd_ne hb2, upd_ne hb, upd_ne hb]
theorem HRel.freshx {G : Gm} {μ : Nat → Addr} {h : Hm} {H : Hp} (r : HRel G μ h H) : Gr G μ h H μ h H := Gr.refl r

section
variable {G : Gm} {CX : CXT} {P : Program} {w : World} {mg : Str → Option Value} {base : Heap} {k : Nat} {f cc cda : Addr} {c : Nat} {name qual : Str} {params : Arguments} {e : Expr} {p0 p1 p2 p3 p4 q1 q2 q3 q4 q5 q6 q7 q8 : Pos} {scope : Scope} {dV kV doc pm ct oc : Value} {an od : Option Addr}
    {osl : Array (Option Value)} {ps : List Str}
/-- the message: a text -/
def Msg (X : Cx) (ps : List Str) (e : Expr) (ok : List U → Prop) (G : Gm) : Prop := ∀ μ h H ws vs, HRel G μ h H → RUs G.K μ h.length H ws vs → ok ws → ∀ a : V, ∃ te, PE X e te ∧ ∀ Q : VK, (∀ m, Q (.str m) H) → te (L2.start ps (a :: vs)) H Q

variable {pn : Str} {fn : Str}
theorem init_one (lk : G.K.lookup f = some ⟨oc, od, .func (PySem.W.ksFn name qual params [.Expr (.Call (.Attribute (.Call (.Name "super" p0) [] [] p1) "__init__" p2) [e] [] p3) p4, .Assign [.Attribute (.Name "self" q1) fn q2] (.Name pn q3) q4] scope dV kV doc pm an (.ref cda) ct cc), osl⟩)
    (T : SupTxt G.K mg (G.ca c) f cc cda qual) (S : SupScope ["self", pn] ["self", pn] scope) (hfile : ((P.main.file : Str) == ("/claim/cut.py" : Str)) = true) (htop : (P.main.scope.names.lookup ("super" : Str)).isSome = false)
    (har : ∃ ar : Arg, (params.posonlyargs ++ params.args).head? = some ar ∧ ([("self" : Str), pn]).head? = some ar.arg)
    (hswap : ∀ env : Env, swapsWith (.Call (.Attribute (.Call (.Name "super" p0) [] [] p1) "__init__" p2) [e] [] p3) none p4.line env = pure false)
    (hmeth : ∀ env : Env, eval (.Call (.Attribute (.Call (.Name "super" p0) [] [] p1) "__init__" p2) [e] [] p3) env = (do
      let ov ← attributeBase (.Call (.Name "super" p0) [] [] p1) "__init__" env (eval (.Call (.Name "super" p0) [] [] p1) env)
      standAt p2.atName
      let (f, first) ← holding [ov] (getMethod ov "__init__" (pure false))
      callWith p3 f first (backTo p3 (starEach [e] env)) []))
    (hstar : ∀ env : Env, starEach [e] env = (false, eval e env) :: starEach [] env)
    (hpn : (pn == ("__debug__" : Str)) = false ∧ (pn == ("__classdict__" : Str)) = false) (hfn : PySem.W.findIn G.K (.ref (G.ca c)) fn = some none) {ok : List U → Prop} {mk : MX} (hmk : ∀ ws h r, mk ws h = some r → ok ws ∧ mk1 fn ws h = some r)
    (msg : ∀ A outer s H E, Msg (cxS CX P w G.K mg base ["self", pn] qual scope f (.ref cda) cc A outer s H E) ["self", pn] e ok G) :
    FnOk P w G.K mg base CX (k + 1) f (PySem.W.ksFn name qual params [.Expr (.Call (.Attribute (.Call (.Name "super" p0) [] [] p1) "__init__" p2) [e] [] p3) p4, .Assign [.Attribute (.Name "self" q1) fn q2] (.Name pn q3) q4] scope dV kV doc pm an (.ref cda) ct cc) ["self", pn] (spX G c 1 mk) := by
  refine fnS_of lk T S hfile htop har (fun vs H Q E z => ?_) hswap hmeth hstar fun A outer s H vs Q E hr hsp => ?_
  · obtain ⟨a, xs, μ, h, ws, fs, h2, rfl, hl, _⟩ := z
    simp [hl]
  · obtain ⟨a, xs, μ, h, ws, fs, h2, rfl, hl, ha, rel, off, rs, em, q⟩ := hsp
    obtain ⟨hok, em⟩ := hmk _ _ _ em
    obtain ⟨te, hpe, hte⟩ := msg A outer s H E μ h H ws xs rel rs hok (.ref a)
    unfold mk1 at em
    split at em
    · rename_i w0
      cases em
      obtain ⟨v0, rfl, rv⟩ := rus1 rs
      refine ⟨a, te, _, rfl, ha, hpe, pss_one (ps_ost (pvS (i := 0) rfl (S.par _ (by simp)) (by decide) (by decide)) (pvS (i := 1) rfl (S.par _ (by simp)) hpn.1 hpn.2) (by rfl)), hte _ fun m => ⟨ha, ?_⟩⟩
      refine ⟨v0, rfl, .ref a, rfl, a, G.ca c, rfl, T.ox, hfn, .inl ⟨ha, fun dx nd da => ?_⟩⟩
      exact q μ H dx [(fn, v0)] (Gr.refl rel) ha off nd da (fun b z => z) (rf1 rv)
    · cases em
variable {pn2 fn2 : Str}
theorem init_two (lk : G.K.lookup f = some ⟨oc, od, .func (PySem.W.ksFn name qual params [.Expr (.Call (.Attribute (.Call (.Name "super" p0) [] [] p1) "__init__" p2) [e] [] p3) p4, .Assign [.Attribute (.Name "self" q1) fn q2] (.Name pn q3) q4, .Assign [.Attribute (.Name "self" q5) fn2 q6] (.Name pn2 q7) q8] scope dV kV doc pm an (.ref cda) ct cc), osl⟩)
    (T : SupTxt G.K mg (G.ca c) f cc cda qual) (S : SupScope ["self", pn, pn2] ["self", pn, pn2] scope) (hfile : ((P.main.file : Str) == ("/claim/cut.py" : Str)) = true) (htop : (P.main.scope.names.lookup ("super" : Str)).isSome = false)
    (har : ∃ ar : Arg, (params.posonlyargs ++ params.args).head? = some ar ∧ ([("self" : Str), pn, pn2]).head? = some ar.arg)
    (hswap : ∀ env : Env, swapsWith (.Call (.Attribute (.Call (.Name "super" p0) [] [] p1) "__init__" p2) [e] [] p3) none p4.line env = pure false)
    (hmeth : ∀ env : Env, eval (.Call (.Attribute (.Call (.Name "super" p0) [] [] p1) "__init__" p2) [e] [] p3) env = (do
      let ov ← attributeBase (.Call (.Name "super" p0) [] [] p1) "__init__" env (eval (.Call (.Name "super" p0) [] [] p1) env)
      standAt p2.atName
      let (f, first) ← holding [ov] (getMethod ov "__init__" (pure false))
      callWith p3 f first (backTo p3 (starEach [e] env)) []))
    (hstar : ∀ env : Env, starEach [e] env = (false, eval e env) :: starEach [] env)
    (hpn : (pn == ("__debug__" : Str)) = false ∧ (pn == ("__classdict__" : Str)) = false) (hpn2 : (pn2 == ("__debug__" : Str)) = false ∧ (pn2 == ("__classdict__" : Str)) = false)
    (hfn : PySem.W.findIn G.K (.ref (G.ca c)) fn = some none) (hfn2 : PySem.W.findIn G.K (.ref (G.ca c)) fn2 = some none) {ok : List U → Prop} {mk : MX} (hmk : ∀ ws h r, mk ws h = some r → ok ws ∧ mk2 fn fn2 ws h = some r)
    (msg : ∀ A outer s H E, Msg (cxS CX P w G.K mg base ["self", pn, pn2] qual scope f (.ref cda) cc A outer s H E) ["self", pn, pn2] e ok G) :
    FnOk P w G.K mg base CX (k + 1) f (PySem.W.ksFn name qual params [.Expr (.Call (.Attribute (.Call (.Name "super" p0) [] [] p1) "__init__" p2) [e] [] p3) p4, .Assign [.Attribute (.Name "self" q1) fn q2] (.Name pn q3) q4, .Assign [.Attribute (.Name "self" q5) fn2 q6] (.Name pn2 q7) q8] scope dV kV doc pm an (.ref cda) ct cc) ["self", pn, pn2] (spX G c 2 mk) := by
  refine fnS_of lk T S hfile htop har (fun vs H Q E z => ?_) hswap hmeth hstar fun A outer s H vs Q E hr hsp => ?_
  · obtain ⟨a, xs, μ, h, ws, fs, h2, rfl, hl, _⟩ := z
    simp [hl]
  · obtain ⟨a, xs, μ, h, ws, fs, h2, rfl, hl, ha, rel, off, rs, em, q⟩ := hsp
    obtain ⟨hok, em⟩ := hmk _ _ _ em
    obtain ⟨te, hpe, hte⟩ := msg A outer s H E μ h H ws xs rel rs hok (.ref a)
    unfold mk2 at em
    split at em
    · rename_i w0 w1
      cases em
      obtain ⟨v0, v1, rfl, rv, rv1⟩ := rus2 rs
      refine ⟨a, te, _, rfl, ha, hpe, pss_cons (ps_ost (pvS (i := 0) rfl (S.par _ (by simp)) (by decide) (by decide)) (pvS (i := 1) rfl (S.par _ (by simp)) hpn.1 hpn.2) (by rfl))
        (pss_one (ps_ost (pvS (i := 0) rfl (S.par _ (by simp)) (by decide) (by decide)) (pvS (i := 2) rfl (S.par _ (by simp)) hpn2.1 hpn2.2) (by rfl))), hte _ fun m => ⟨ha, ?_⟩⟩
      refine ⟨v0, rfl, .ref a, rfl, a, G.ca c, rfl, T.ox, hfn, .inl ⟨ha, fun dx nd da => ?_⟩⟩
      refine ⟨v1, rfl, .ref a, rfl, a, G.ca c, rfl, T.ox, hfn2, .inr ⟨dx, [(fn, v0)], upd_same, by rw [upd_ne da, upd_same], by simp, ?_⟩⟩
      show Q .non (upd (upd (upd H dx (exd dx [(fn, v0)])) a (exo a (G.ca c) (some dx))) dx (exd dx [(fn2, v1), (fn, v0)]))
      rw [heap2 da]
      exact q μ H dx [(fn2, v1), (fn, v0)] (Gr.refl rel) ha off nd da (fun b z => z) (rf2 rv1 rv)
    · cases em
/-- a written message -/
theorem msg_const {X : Cx} {m : Str} {j : Nat} {p : Pos} : Msg X ps (.Constant (.str m) j p) (fun _ => True) G := fun μ h H ws vs _ _ _ a => ⟨_, pe_str, fun Q q => q m⟩
/-- f'text{p}', p the i-th parameter -/
theorem msg_f {X : Cx} {m : Str} {j i : Nat} {p p' p'' p3 : Pos} {x : Str} (hN : X.N[i + 1]? = some x) (hv : X.env.scope.names.lookup x = some .local) (hd : (x == ("__debug__" : Str)) = false) (hcd : (x == ("__classdict__" : Str)) = false) (hm : m.length ≤ 1000) :
    Msg X ps (.JoinedStr [.Constant (.str m) j p, .FormattedValue (.Name x p') (-1) none p''] p3) (fun ws => ∃ s, ws[i]? = some (.str s) ∧ s.length ≤ LIM) G := fun μ h H ws vs rel rs ok a => by
  obtain ⟨s, es, hs⟩ := ok
  obtain ⟨v, ev, rv⟩ := RUs.get rs es
  simp only [RU] at rv
  subst rv
  refine ⟨_, pe_joined (.cons pe_str (.cons (pe_fmt (pvS hN hv hd hcd)) .nil)), fun Q q => ?_⟩
  have hl : i < vs.length := (List.getElem?_eq_some_iff.mp ev).1
  refine ⟨m, rfl, by rw [Str.length_append]; show 0 + m.length ≤ sizeLine; exact Nat.le_trans (by omega) (show 1000 ≤ sizeLine by decide), .str s, ?_, .inl ⟨s, rfl, lim_le hs, s, rfl, ?_, q _⟩⟩
  · unfold L2.start
    rw [List.map_cons, List.cons_append, List.getElem?_cons_succ, List.getElem?_append_left (by simpa using hl), List.getElem?_map, ev]
    rfl
  · rw [Str.length_append, Str.length_append]
    show 0 + m.length + s.length ≤ sizeLine
    have : s.length ≤ 1000000 := hs
    exact Nat.le_trans (by omega) (show 1001000 ≤ sizeLine by decide)
end
end ML

set_option maxHeartbeats 4000000
namespace ML
open PySem L2
section
variable {G : Gm} {Wx : WX} {μ μ' : Nat → Addr} {h h' : Hm} {H H' : Hp} {ρ : Ev} {σ : L2.St}
abbrev W0 : WX := fun _ _ _ _ => False
/-- what raises has no value -/
def noEx {α : Type} : Option (Rz α) → Option (Rz α)
  | some (.ok a h) => some (.ok a h)
  | _ => none
theorem Post.noEx {α : Type} {P : (Nat → Addr) → Hm → Hp → α → Prop} {E E' : XK} {x : Option (Rz α)} (p : Post G P E μ h H (noEx x)) : Post G P E' μ h H x := by
  cases x with
  | none => exact p
  | some r =>
    cases r with
    | ok a h1 => exact p
    | ex c fs h1 => exact False.elim p
def wipeE (ρ : Ev) : List Nat → Ev
  | [] => ρ
  | v :: vs => (wipeE ρ vs).set v none
theorem StOk.wipe (s : StOk G μ ρ h σ H) : ∀ vs : List Nat, StOk G μ (wipeE ρ vs) h (L2.wipe σ vs) H
  | [] => s
  | v :: vs => (StOk.wipe s vs).unset v
theorem set_comm {α : Type} (l : List α) (i j : Nat) (a b : α) (hij : i ≠ j) : (l.set i a).set j b = (l.set j b).set i a := by
  rw [List.set_comm _ _ hij]
theorem wipe_set {σ : L2.St} {i : Nat} {x : V} : ∀ {vs : List Nat}, i ∈ vs → L2.wipe (σ.set i (some x)) vs = L2.wipe σ vs := by
  intro vs
  induction vs generalizing σ with
  | nil => intro h; cases h
  | cons v vs ih =>
    intro hm
    unfold L2.wipe
    by_cases hv : i ∈ vs
    · rw [ih hv]
    · have e : i = v := by
        rcases List.mem_cons.mp hm with e | e
        · exact e
        · exact absurd e hv
      subst e
      have : ∀ (ws : List Nat), i ∉ ws → L2.wipe (σ.set i (some x)) ws = (L2.wipe σ ws).set i (some x) := by
        intro ws
        induction ws with
        | nil => intro _; rfl
        | cons u us ih2 =>
          intro hu
          simp only [List.mem_cons, not_or] at hu
          unfold L2.wipe
          rw [ih2 hu.2, List.set_comm _ _ hu.1]
      rw [this vs hv, List.set_set]
theorem wipe_wipe {σ : L2.St} (vs : List Nat) : L2.wipe (L2.wipe σ vs) vs = L2.wipe σ vs := by
  have key : ∀ (ws : List Nat) (τ : L2.St), (∀ v ∈ ws, v < τ.length → τ[v]? = some none) → L2.wipe τ ws = τ := by
    intro ws
    induction ws with
    | nil => intro τ _; rfl
    | cons u us ih =>
      intro τ h
      unfold L2.wipe
      rw [ih τ fun v hv => h v (List.mem_cons_of_mem _ hv)]
      by_cases hu : u < τ.length
      · have := h u List.mem_cons_self hu
        apply List.ext_getElem?
        intro j
        by_cases hj : u = j
        · subst hj; rw [List.getElem?_set_self hu, this]
        · rw [List.getElem?_set_ne hj]
      · rw [List.set_eq_of_length_le (by omega)]
  have none_at : ∀ (ws : List Nat) (τ : L2.St) v, v ∈ ws → v < (L2.wipe τ ws).length → (L2.wipe τ ws)[v]? = some none := by
    intro ws
    induction ws with
    | nil => intro τ v h; cases h
    | cons u us ih =>
      intro τ v hv hl
      unfold L2.wipe at hl ⊢
      rw [List.length_set] at hl
      by_cases hj : u = v
      · subst hj; rw [List.getElem?_set_self hl]
      · rw [List.getElem?_set_ne hj]
        rcases List.mem_cons.mp hv with e | e
        · exact absurd e.symm hj
        · exact ih τ v e hl
  exact key vs _ fun v hv hl => none_at vs σ v hv hl
/-- a target of plain names -/
inductive NT where
  | one (i : Nat)
  | tup (is : List Nat)
def setAll : List Nat → List U → Ev → Option Ev
  | [], [], ρ => some ρ
  | i :: is, w :: ws, ρ => setAll is ws (ρ.set i (some w))
  | _, _, _ => none
def NT.set : NT → U → Ev → Option Ev
  | .one i, w, ρ => some (ρ.set i (some w))
  | .tup is, .tup ws, ρ => setAll is ws ρ
  | _, _, _ => none
def gNm : List Nat → TGs
  | [] => gNil
  | i :: is => gCons (gName i) (gNm is)
def NT.tg (K : PySem.W.Frag) : NT → TG
  | .one i => gName i
  | .tup is => gTup K is.length (gNm is)
def NT.vs : NT → List Nat
  | .one i => [i]
  | .tup is => is
theorem setAll_ok : ∀ (is : List Nat) {ws : List U} {xs : List V} {ρ ρ1 : Ev} {τ : L2.St} {vs : List Nat} {F : L2.St → Hp → Prop}, setAll is ws ρ = some ρ1 → RUs G.K μ h.length H ws xs → StOk G μ ρ h τ H → (∀ i ∈ is, i ∈ vs) →
    (∀ τ1, StOk G μ ρ1 h τ1 H → L2.wipe τ1 vs = L2.wipe τ vs → F τ1 H) → gNm is xs τ H F
  | [], ws, xs, ρ, ρ1, τ, vs, F, e, r, s, hv, k => by
    cases ws with
    | nil =>
      cases e
      simp only [RUs] at r
      subst r
      exact ⟨rfl, k τ s rfl⟩
    | cons _ _ => cases e
  | i :: is, ws, xs, ρ, ρ1, τ, vs, F, e, r, s, hv, k => by
    cases ws with
    | nil => cases e
    | cons w ws =>
      simp only [RUs] at r
      obtain ⟨y, ys, rfl, r1, rs⟩ := r
      refine ⟨y, ys, rfl, ?_⟩
      show gNm is ys (τ.set i (some y)) H F
      refine setAll_ok is e rs (s.set i r1) (fun j hj => hv j (List.mem_cons_of_mem _ hj)) fun τ1 s1 e1 => k τ1 s1 (by rw [e1, wipe_set (hv i List.mem_cons_self)])
theorem NT.ok {t : NT} {w : U} {x : V} {ρ ρ1 : Ev} {τ : L2.St} {vs : List Nat} {F : L2.St → Hp → Prop} (e : t.set w ρ = some ρ1) (r : RU G.K μ h.length H w x) (s : StOk G μ ρ h τ H) (hv : ∀ i ∈ t.vs, i ∈ vs)
    (k : ∀ τ1, StOk G μ ρ1 h τ1 H → L2.wipe τ1 vs = L2.wipe τ vs → F τ1 H) : t.tg G.K x τ H F := by
  cases t with
  | one i =>
    cases e
    exact k _ (s.set i r) (wipe_set (hv i (by simp [NT.vs])))
  | tup is =>
    cases w <;> first | (cases e; done) | skip
    rename_i ws
    simp only [RU] at r
    obtain ⟨a, xs, rfl, st, rs⟩ := r
    have hl : xs.length = is.length := by
      have : ∀ (is : List Nat) (ws : List U) (ρ : Ev) ρ1, setAll is ws ρ = some ρ1 → ws.length = is.length := by
        intro is
        induction is with
        | nil => intro ws ρ ρ1 e; cases ws <;> first | rfl | cases e
        | cons i is ih => intro ws ρ ρ1 e; cases ws with
          | nil => cases e
          | cons w ws => simp [ih ws _ _ e]
      rw [RUs.length rs]
      exact this is ws ρ ρ1 e
    exact ⟨a, xs, rfl, st, hl, setAll_ok is e rs s hv k⟩

open Classical in
noncomputable def lcGo (chk : Hm → Prop) (t : NT) (tt : MT) (te : ME) (ρ : Ev) (D : Nat) : List U → Hm → Option (Rz U)
  | [], h => if chk h then some (.ok (.ref D) h) else none
  | w :: ws, h => if chk h then match t.set w ρ with
    | none => none
    | some ρ1 => bnd (noEx (tt ρ1 h)) fun b h2 => if b = true then bnd (noEx (te ρ1 h2)) fun y h3 => match h3[D]? with
        | some (.lst acc) => if acc.length < LIM then lcGo chk t tt te ρ D ws (h3.set D (.lst (acc ++ [y]))) else none
        | _ => none
      else lcGo chk t tt te ρ D ws h2
    else none
noncomputable def mLc (it : MI) (t : NT) (tt : MT) (te : ME) (vs : List Nat) : ME := fun ρ h => bnd (it ρ h) fun a h1 => lcGo a.2 t tt te (wipeE ρ vs) h1.length a.1 (h1 ++ [.lst []])
theorem w_lc {it : MI} {t : NT} {tt : MT} {te : ME} {vs : List Nat} (hv : ∀ i ∈ t.vs, i ∈ vs) : ∀ σ H Q, tE G Wx (mLc it t tt te vs) σ H Q → tLc (tI G Wx it) (t.tg G.K) (tT G W0 tt) (tE G W0 te) vs σ H Q := fun σ H Q ⟨μ, ρ, h, s, p⟩ =>
  ⟨μ, ρ, h, s, (Post.bnd p).mono fun μ1 h1 H1 a g1 q J gv D nD => by
    have gD := Gr.new (o := .lst []) (c := .lst []) g1.rel nD ⟨[], upd_same, RUs.nil⟩
    have sW := ((s.on g1).wipe vs)
    have hlD : h1.length < (h1 ++ [Cell.lst []]).length := by simp
    refine ⟨fun i m H => m = a.1.length - i ∧ i ≤ a.1.length ∧ ∃ μ2 h2, Gr G (nu μ1 h1.length D) (h1 ++ [.lst []]) (upd H1 D (.lst [])) μ2 h2 H ∧ Post G (PV G Q) (fun cls d H' => Wx cls d σ H') μ2 h2 H (lcGo a.2 t tt te (wipeE ρ vs) h1.length (a.1.drop i) h2),
      ⟨a.1.length, by simp, Nat.zero_le _, _, _, Gr.refl gD.rel, by rw [List.drop_zero]; exact q.on gD⟩, ?_⟩
    rintro i m H2 ⟨rfl, hi, μ2, h2, g2, p2⟩
    have g12 := gD.trans g2
    have em : μ2 h1.length = D := by rw [g2.mu _ hlD, nu_new]
    by_cases hlt : i < a.1.length
    · have hd : a.1.drop i = a.1[i] :: a.1.drop (i + 1) := List.drop_eq_getElem_cons hlt
      rw [hd] at p2
      unfold lcGo at p2
      by_cases hc : a.2 h2
      · rw [if_pos hc] at p2
        obtain ⟨_, gi⟩ := gv i μ2 h2 H2 g12 hc
        obtain ⟨go, yl⟩ := gi a.1[i] (by simp [hlt])
        cases e1 : t.set a.1[i] (wipeE ρ vs) with
        | none => rw [e1] at p2; exact False.elim p2
        | some ρ1 =>
          rw [e1] at p2
          simp only at p2
          refine .inr ⟨go, fun H' => ∃ μ2 h2, Gr G (nu μ1 h1.length D) (h1 ++ [.lst []]) (upd H1 D (.lst [])) μ2 h2 H' ∧ Post G (PV G Q) (fun cls d H' => Wx cls d σ H') μ2 h2 H' (lcGo a.2 t tt te (wipeE ρ vs) h1.length (a.1.drop (i + 1)) h2), fun H' z => ⟨a.1.length - (i + 1), by omega, rfl, by omega, z⟩, fun x H' y => ?_⟩
          obtain ⟨g3, r3⟩ := yl x H' y
          have s3 : StOk G μ2 (wipeE ρ vs) h2 (L2.wipe σ vs) H' := (sW.on g12).on g3
          refine NT.ok e1 r3 s3 hv fun τ1 s1 ew => ⟨by rw [ew, wipe_wipe], ?_⟩
          have p3 := (Post.bnd (p2.on g3)).noEx (E' := fun cls d H' => W0 cls d τ1 H')
          refine ⟨μ2, ρ1, h2, s1, p3.mono fun μ4 h4 H4 b g4 q4 => ?_⟩
          cases b with
          | false =>
            rw [if_neg Bool.false_ne_true] at q4 ⊢
            exact ⟨μ4, h4, (g2.trans g3).trans g4, q4⟩
          | true =>
            rw [if_pos rfl] at q4 ⊢
            refine ⟨μ4, ρ1, h4, s1.on g4, ((Post.bnd q4).noEx).mono fun μ5 h5 H5 y g5 q5 v rv => ?_⟩
            have g25 := ((g2.trans g3).trans g4).trans g5
            have em5 : μ5 h1.length = D := by rw [g25.mu _ hlD, nu_new]
            split at q5
            · rename_i acc ec
              split at q5
              · rename_i hl
                obtain ⟨xs, sx, rx⟩ := g25.rel.cell _ _ ec
                rw [em5] at sx
                refine ⟨xs, sx, by rw [RUs.length rx]; exact Nat.lt_of_lt_of_le hl (lim_le (Nat.le_refl _)), ?_⟩
                have ts : TS0 G.K H5 (upd H5 D (.lst (xs ++ [v]))) := TS0.write sx rfl
                have gw := Gr.write (o := .lst (xs ++ [v])) (d := .lst (acc ++ [y])) g25.rel ec rfl rfl ⟨_, upd_same, (rx.append (RUs.cons rv RUs.nil)).same (by rw [em5]; exact ts)⟩
                rw [em5] at gw
                exact ⟨μ5, _, g25.trans gw, q5.on gw⟩
              · exact False.elim q5
            · exact False.elim q5
      · rw [if_neg hc] at p2
        exact False.elim p2
    · have e : i = a.1.length := by omega
      subst e
      rw [List.drop_length] at p2
      unfold lcGo at p2
      by_cases hc : a.2 h2
      · rw [if_pos hc] at p2
        refine .inl ⟨(gv _ μ2 h2 H2 g12 hc).1 (Nat.le_refl _), ?_⟩
        refine Post.ok g2.rel p2 _ ?_
        simp only [RU]
        exact ⟨Nat.lt_of_lt_of_le hlD g2.len, by rw [em]⟩
      · rw [if_neg hc] at p2
        exact False.elim p2⟩
/-- y = [..] -/
theorem w_setLc {it : MI} {t : NT} {tt : MT} {te : ME} {vs : List Nat} {i : Nat} (hv : ∀ i ∈ t.vs, i ∈ vs) : ∀ D σ H, tS G Wx (mSet i (mLc it t tt te vs)) D σ H → tAsg (tLc (tI G Wx it) (t.tg G.K) (tT G W0 tt) (tE G W0 te) vs) (gName i) D σ H := fun D σ H z =>
  w_lc hv σ H _ (w_set D σ H z)
def mYes : MT := fun _ h => some (.ok true h)
theorem w_yes : ∀ σ H Q, tT G Wx mYes σ H Q → tYes σ H Q := fun σ H Q ⟨μ, ρ, h, s, p⟩ => Post.ok s.rel p
theorem _root_.L2.PTs.weak {X : Cx} {e : List Expr} {t t' : TT} (h : PTs X e t) (w : ∀ σ H Q, t' σ H Q → t σ H Q) : PTs X e t' := by
  obtain ⟨h⟩ := h
  exact ⟨fun pins s σ H Q I q => h pins s σ H Q I (w σ H Q q)⟩

/-! ### the signs of a text; enumerate; zip -/
def iS (e : ME) : MI := fun ρ h => bnd (e ρ h) fun w h1 => match w with
  | .str x => some (.ok (sItems x, fun _ => True) h1)
  | _ => none
theorem gives_str {x : Str} : Gives G (Its x) (sItems x) (fun _ => True) μ h H := fun j μ2 h2 H2 gr ck => by
  refine ⟨fun hj => by
    show x.cps.size ≤ j
    simpa [sItems] using hj, fun w hw => ?_⟩
  unfold sItems at hw
  rw [List.getElem?_map] at hw
  cases e : x.cps.toList[j]? with
  | none => rw [e] at hw; cases hw
  | some c =>
    rw [e] at hw
    cases hw
    have hj : j < x.cps.size := by
      have := (List.getElem?_eq_some_iff.mp e).1
      simpa using this
    refine ⟨hj, fun v H' y => ?_⟩
    obtain ⟨rfl, c', ec, rfl⟩ := y
    rw [← Array.getElem?_toList, e] at ec
    cases ec
    exact ⟨Gr.refl gr.rel, rfl⟩
theorem w_iS {e : ME} : ∀ σ H R, tI G Wx (iS e) σ H R → iStr (tE G Wx e) σ H R := fun σ H R ⟨μ, ρ, h, s, p⟩ =>
  ⟨μ, ρ, h, s, (Post.bnd p).mono fun μ1 h1 H1 w g q v r => by
    cases w with
    | str x =>
      simp only [RU] at r
      exact ⟨x, r, q μ1 H1 (Gr.refl g.rel) _ gives_str⟩
    | _ => exact False.elim q⟩
def eItems : Nat → List U → List U
  | _, [] => []
  | k, w :: ws => .tup [.int k, w] :: eItems (k + 1) ws
theorem eItems_get : ∀ {ws : List U} {k j : Nat}, (eItems k ws)[j]? = (ws[j]?).map fun w => .tup [.int ((k + j : Nat) : Int), w]
  | [], k, j => by simp [eItems]
  | w :: ws, k, 0 => by simp [eItems]
  | w :: ws, k, j + 1 => by
    simp only [eItems, List.getElem?_cons_succ]
    rw [eItems_get]
    congr 1
    funext w
    congr 3
    omega
theorem eItems_len : ∀ {ws : List U} {k : Nat}, (eItems k ws).length = ws.length
  | [], _ => rfl
  | w :: ws, k => by simp [eItems, eItems_len]
/-- enumerate(list) -/
def iEn (e : ME) : MI := fun ρ h => bnd (e ρ h) fun w h1 => match w with
  | .ref i => match h1[i]? with
    | some (.lst ws) => some (.ok (eItems 0 ws, fun h => h[i]? = some (.lst ws)) h1)
    | some (.frz ws) => some (.ok (eItems 0 ws, fun h => h[i]? = some (.frz ws)) h1)
    | _ => none
  | _ => none
end
end ML

set_option maxHeartbeats 4000000
/-! the rules as they are printed: the layer's rule, then its reading by a computation -/
namespace ML
open PySem L2
def visB (sc : Scope) (x : Str) : Bool := match sc.names.lookup x with
  | some .local => true
  | some .cell => true
  | some .free => true
  | _ => false
theorem visB_ok {sc : Scope} {x : Str} (h : visB sc x = true) : Vis sc x := by
  unfold visB at h
  split at h
  · rename_i e; exact .inl e
  · rename_i e; exact .inr (.inl e)
  · rename_i e; exact .inr (.inr e)
  · cases h
def locB (sc : Scope) (x : Str) : Bool := match sc.names.lookup x with
  | some .local => true
  | some .cell => true
  | _ => false
theorem locB_ok {sc : Scope} {x : Str} (h : locB sc x = true) : Loc sc x := by
  unfold locB at h
  split at h
  · rename_i e; exact .inl e
  · rename_i e; exact .inr e
  · cases h
section
variable {X : Cx} {G : Gm} {Wx : WX} {e a b c o : Expr} {es : List Expr} {st : Stmt} {rest sts : List Stmt} {x : Str} {pos p p' apos : Pos} {ma mb mc mo : ME} {mt mu : MT} {mas : MA} {ms mr : MS}
/-! names, constants -/
theorem dVar (i : Nat) (hN : X.N[i]? = some x) (hv : visB X.env.scope x = true) (hd : (x == ("__debug__" : Str)) = false) (hc : (x == ("__classdict__" : Str)) = false) : PE X (.Name x pos) (tE G Wx (mVar i)) := (pe_var hN (visB_ok hv) hd hc).weak w_var
theorem dInt {i : Int} {j : Nat} : PE X (.Constant (.int i) j pos) (tE G Wx (mC (.int i))) := pe_int.weak w_int
theorem dBl {i : Bool} {j : Nat} : PE X (.Constant (.bool i) j pos) (tE G Wx (mC (.bl i))) := pe_bl.weak w_bl
theorem dNon {j : Nat} : PE X (.Constant .none j pos) (tE G Wx (mC .non)) := pe_non.weak w_non
theorem dStr {i : Str} {j : Nat} : PE X (.Constant (.str i) j pos) (tE G Wx (mC (.str i))) := pe_str.weak w_str
/-- a module's constant -/
structure GlS (mg : Str → Option Value) (x : Str) (s : Str) : Prop where
  at_ : ∃ t, mg x = some (.str s t)
structure GlI (mg : Str → Option Value) (x : Str) (s : Int) : Prop where
  at_ : ∃ t, mg x = some (.int s t)
theorem dGlS {s : Str} (g : GlS X.mg x s) (hg : X.env.kindOf x = some .globalImplicit) (hd : (x == ("__debug__" : Str)) = false) : PE X (.Name x pos) (tE G Wx (mC (.str s))) := by
  obtain ⟨t, e⟩ := g.at_
  exact (pe_glob (v := .str s) hg e ⟨t, rfl⟩ hd).weak w_str
theorem dGlI {s : Int} (g : GlI X.mg x s) (hg : X.env.kindOf x = some .globalImplicit) (hd : (x == ("__debug__" : Str)) = false) : PE X (.Name x pos) (tE G Wx (mC (.int s))) := by
  obtain ⟨t, e⟩ := g.at_
  exact (pe_glob (v := .int s) hg e ⟨t, rfl⟩ hd).weak w_int
/-! operators -/
def oAdd : O2 := fun x y h => match (match oAddI x y h with | some z => some z | none => oAddS x y h) with
  | some z => some z
  | none => match oAddL x y h with | some z => some z | none => oAddT2 x y h
theorem dAdd (hG : X.K = G.K) (ha : PE X a (tE G Wx ma)) (hb : PE X b (tE G Wx mb)) : PE X (.BinOp a .Add b pos) (tE G Wx (mOp oAdd ma mb)) := by
  have r := (op_add (X := X)).or op_add_str
  have r2 := (op_cat (X := X)).or op_catA
  rw [hG] at r2
  exact (pe_op (r.or r2) ha hb).weak (w_op ((oAddI_ok.or oAddS_ok).or (oAddL_ok.or oAddT2_ok)))
theorem dSub (ha : PE X a (tE G Wx ma)) (hb : PE X b (tE G Wx mb)) : PE X (.BinOp a .Sub b pos) (tE G Wx (mOp oSub ma mb)) := (pe_op op_sub ha hb).weak (w_op oSub_ok)
def oMulA : O2 := fun x y h => match oMul x y h with | some z => some z | none => oRep x y h
theorem dMul (ha : PE X a (tE G Wx ma)) (hb : PE X b (tE G Wx mb)) : PE X (.BinOp a .Mult b pos) (tE G Wx (mOp oMulA ma mb)) := (pe_op ((op_mul (X := X)).or op_rep) ha hb).weak (w_op (oMul_ok.or oRep_ok))
theorem dDiv (ha : PE X a (tE G Wx ma)) (hb : PE X b (tE G Wx mb)) : PE X (.BinOp a .FloorDiv b pos) (tE G Wx (mOp oDiv ma mb)) := (pe_op op_fdivN ha hb).weak (w_op oDiv_ok)
theorem dMod (ha : PE X a (tE G Wx ma)) (hb : PE X b (tE G Wx mb)) : PE X (.BinOp a .Mod b pos) (tE G Wx (mOp oMod ma mb)) := (pe_op op_modN ha hb).weak (w_op oMod_ok)
theorem dPow (ha : PE X a (tE G Wx ma)) (hb : PE X b (tE G Wx mb)) : PE X (.BinOp a .Pow b pos) (tE G Wx (mOp oPow ma mb)) := (pe_op op_pow ha hb).weak (w_op oPow_ok)
theorem dNeg (ha : PE X a (tE G Wx ma)) : PE X (.UnaryOp .USub a pos) (tE G Wx (mNeg ma)) := (pe_un un_neg ha).weak w_neg
/-! comparisons: as values, as tests -/
theorem dLt (ha : PE X a (tE G Wx ma)) (hb : PE X b (tE G Wx mb)) : PE X (.Compare a [.Lt] [b] pos) (tE G Wx (mOp oLt ma mb)) := (pe_cmpR op_lt ha hb (nomark _)).weak (w_op oLt_ok)
theorem dLe (ha : PE X a (tE G Wx ma)) (hb : PE X b (tE G Wx mb)) : PE X (.Compare a [.LtE] [b] pos) (tE G Wx (mOp oLe ma mb)) := (pe_cmpR op_le ha hb (nomark _)).weak (w_op oLe_ok)
theorem dGt (ha : PE X a (tE G Wx ma)) (hb : PE X b (tE G Wx mb)) : PE X (.Compare a [.Gt] [b] pos) (tE G Wx (mOp oGt ma mb)) := (pe_cmpR op_gt ha hb (nomark _)).weak (w_op oGt_ok)
theorem dGe (ha : PE X a (tE G Wx ma)) (hb : PE X b (tE G Wx mb)) : PE X (.Compare a [.GtE] [b] pos) (tE G Wx (mOp oGe ma mb)) := (pe_cmpR op_ge ha hb (nomark _)).weak (w_op oGe_ok)
def oEq (n : Nat) : O2 := fun x y h => match oEqS false x y h with | some z => some z | none => oEqD false n x y h
def oNe (n : Nat) : O2 := fun x y h => match oEqS true x y h with | some z => some z | none => oEqD true n x y h
theorem dEq (n : Nat) (hG : X.K = G.K) (hu : X.A.units + 64 < cLine) (ha : PE X a (tE G Wx ma)) (hb : PE X b (tE G Wx mb)) : PE X (.Compare a [.Eq] [b] pos) (tE G Wx (mOp (oEq n) ma mb)) := by
  have r := (op_eq (X := X)).or (op_eqD hu)
  rw [hG] at r
  exact (pe_cmpR r ha hb (nomark _)).weak (w_op (oEqS_ok.or oEqD_ok))
theorem dNe (n : Nat) (hG : X.K = G.K) (hu : X.A.units + 64 < cLine) (ha : PE X a (tE G Wx ma)) (hb : PE X b (tE G Wx mb)) : PE X (.Compare a [.NotEq] [b] pos) (tE G Wx (mOp (oNe n) ma mb)) := by
  have r := (op_ne (X := X)).or (op_neD hu)
  rw [hG] at r
  exact (pe_cmpR r ha hb (nomark _)).weak (w_op (oNeS_ok.or oNeD_ok))
theorem dIsN {j : Nat} (ha : PE X a (tE G Wx ma)) : PE X (.Compare a [.Is] [.Constant .none j p] pos) (tE G Wx (mIsN false ma)) := (pe_cmp (pc_isN ha) rfl).weak w_isN
theorem dNotN {j : Nat} (ha : PE X a (tE G Wx ma)) : PE X (.Compare a [.IsNot] [.Constant .none j p] pos) (tE G Wx (mIsN true ma)) := (pe_cmp (pc_notN ha) rfl).weak w_notN
/-- x in text (one sign), x in a list or tuple -/
def oInA (neg : Bool) : O2 := fun x y h => match oInC neg x y h with | some z => some z | none => oIn neg x y h
theorem oNotInC_ok : OpC G (oInC true) (fun x y H Q => ∃ (c : Nat) (z : Str), x = .str ⟨#[c]⟩ ∧ y = .str z ∧ Q (.bl (!decide (c ∈ z.cps.toList))) H) := fun E μ h H wx wy x y Q rel rx ry p => by
  cases wx with
  | str a =>
    cases wy with
    | str z =>
      simp only [RU] at rx ry
      subst rx ry
      unfold oInC at p
      simp only at p
      split at p
      · rename_i c e
        refine ⟨c, z, by rw [str_one e], rfl, Post.ok rel p _ (by simp [RU])⟩
      · exact False.elim p
    | _ => exact False.elim p
  | _ => exact False.elim p
theorem dIn (hG : X.K = G.K) (ha : PE X a (tE G Wx ma)) (hb : PE X b (tE G Wx mb)) (hm : behindInMarks .In b = false) : PE X (.Compare a [.In] [b] pos) (tE G Wx (mOp (oInA false) ma mb)) := by
  have r := (op_in_sign (X := X)).or op_in_seq
  rw [hG] at r
  exact (pe_cmpR r ha hb hm).weak (w_op (oInC_ok.or oIn_ok))
theorem dNotIn (hG : X.K = G.K) (ha : PE X a (tE G Wx ma)) (hb : PE X b (tE G Wx mb)) (hm : behindInMarks .NotIn b = false) : PE X (.Compare a [.NotIn] [b] pos) (tE G Wx (mOp (oInA true) ma mb)) := by
  have r := (op_notIn_sign (X := X)).or op_notIn_seq
  rw [hG] at r
  exact (pe_cmpR r ha hb hm).weak (w_op (oNotInC_ok.or oIn_ok))
/-- a <= b <= c -/
theorem dLeLe (ha : PE X a (tE G Wx ma)) (hb : PE X b (tE G Wx mb)) (hc : PE X c (tE G Wx mc)) (hm : lastMarks [.LtE, .LtE] [b, c] = false) : PE X (.Compare a [.LtE, .LtE] [b, c] pos) (tE G Wx (mChain oLe oLe ma mb mc)) := (pe_chain op_le op_le ha hb hc hm).weak (w_chain oLe_ok oLe_ok)
theorem qLeLe (ha : PE X a (tE G Wx ma)) (hb : PE X b (tE G Wx mb)) (hc : PE X c (tE G Wx mc)) (hm : lastMarks [.LtE, .LtE] [b, c] = false) : PT X (.Compare a [.LtE, .LtE] [b, c] pos) (tT G Wx (mB (mChain oLe oLe ma mb mc))) := (pt_chain op_le op_le ha hb hc hm).weak (w_testchain oLe_ok oLe_ok)
/-- any comparison as a test -/
theorem qLt (ha : PE X a (tE G Wx ma)) (hb : PE X b (tE G Wx mb)) : PT X (.Compare a [.Lt] [b] pos) (tT G Wx (mB (mOp oLt ma mb))) := (pt_cmpR op_lt ha hb (nomark _)).weak (w_testop oLt_ok)
theorem qLe (ha : PE X a (tE G Wx ma)) (hb : PE X b (tE G Wx mb)) : PT X (.Compare a [.LtE] [b] pos) (tT G Wx (mB (mOp oLe ma mb))) := (pt_cmpR op_le ha hb (nomark _)).weak (w_testop oLe_ok)
theorem qGt (ha : PE X a (tE G Wx ma)) (hb : PE X b (tE G Wx mb)) : PT X (.Compare a [.Gt] [b] pos) (tT G Wx (mB (mOp oGt ma mb))) := (pt_cmpR op_gt ha hb (nomark _)).weak (w_testop oGt_ok)
theorem qGe (ha : PE X a (tE G Wx ma)) (hb : PE X b (tE G Wx mb)) : PT X (.Compare a [.GtE] [b] pos) (tT G Wx (mB (mOp oGe ma mb))) := (pt_cmpR op_ge ha hb (nomark _)).weak (w_testop oGe_ok)
theorem qEq (n : Nat) (hG : X.K = G.K) (hu : X.A.units + 64 < cLine) (ha : PE X a (tE G Wx ma)) (hb : PE X b (tE G Wx mb)) : PT X (.Compare a [.Eq] [b] pos) (tT G Wx (mB (mOp (oEq n) ma mb))) := by
  have r := (op_eq (X := X)).or (op_eqD hu)
  rw [hG] at r
  exact (pt_cmpR r ha hb (nomark _)).weak (w_testop (oEqS_ok.or oEqD_ok))
theorem qNe (n : Nat) (hG : X.K = G.K) (hu : X.A.units + 64 < cLine) (ha : PE X a (tE G Wx ma)) (hb : PE X b (tE G Wx mb)) : PT X (.Compare a [.NotEq] [b] pos) (tT G Wx (mB (mOp (oNe n) ma mb))) := by
  have r := (op_ne (X := X)).or (op_neD hu)
  rw [hG] at r
  exact (pt_cmpR r ha hb (nomark _)).weak (w_testop (oNeS_ok.or oNeD_ok))
theorem qIsN {j : Nat} (ha : PE X a (tE G Wx ma)) : PT X (.Compare a [.Is] [.Constant .none j p] pos) (tT G Wx (mB (mIsN false ma))) := (pt_cmp (pc_isN ha) rfl).weak w_testN
theorem qNotN {j : Nat} (ha : PE X a (tE G Wx ma)) : PT X (.Compare a [.IsNot] [.Constant .none j p] pos) (tT G Wx (mB (mIsN true ma))) := (pt_cmp (pc_notN ha) rfl).weak w_testNN
theorem qIn (hG : X.K = G.K) (ha : PE X a (tE G Wx ma)) (hb : PE X b (tE G Wx mb)) (hm : behindInMarks .In b = false) : PT X (.Compare a [.In] [b] pos) (tT G Wx (mB (mOp (oInA false) ma mb))) := by
  have r := (op_in_sign (X := X)).or op_in_seq
  rw [hG] at r
  exact (pt_cmpR r ha hb hm).weak (w_testop (oInC_ok.or oIn_ok))
theorem qNotIn (hG : X.K = G.K) (ha : PE X a (tE G Wx ma)) (hb : PE X b (tE G Wx mb)) (hm : behindInMarks .NotIn b = false) : PT X (.Compare a [.NotIn] [b] pos) (tT G Wx (mB (mOp (oInA true) ma mb))) := by
  have r := (op_notIn_sign (X := X)).or op_notIn_seq
  rw [hG] at r
  exact (pt_cmpR r ha hb hm).weak (w_testop (oNotInC_ok.or oIn_ok))
/-- a value that is a truth value, as a test -/
theorem qVal (h : PE X e (tE G Wx ma)) (he : ∀ whole, isTrue e X.env whole = (do let v ← whole; standAt e.pos; holding [v] (truthy v))) : PT X e (tT G Wx (mB ma)) := (pt_val h he).weak w_B
theorem qNot (h : PT X a (tT G Wx mt)) : PT X (.UnaryOp .Not a pos) (tT G Wx (mTNot mt)) := (pt_not h).weak w_tnot
theorem qAnd1 (h : PT X a (tT G Wx mt)) : PW X (.BoolOp .And [a] pos) (tT G Wx mt) := pw_and1 h
theorem qOr1 (h : PT X a (tT G Wx mt)) : PW X (.BoolOp .Or [a] pos) (tT G Wx mt) := pw_or1 h
theorem qAnd (h : PT X a (tT G Wx mt)) (k : PW X (.BoolOp .And (b :: es) pos) (tT G Wx mu)) : PW X (.BoolOp .And (a :: b :: es) pos) (tT G Wx (mTAnd mt mu)) := (pw_and h k).weak w_tand
theorem qOr (h : PT X a (tT G Wx mt)) (k : PW X (.BoolOp .Or (b :: es) pos) (tT G Wx mu)) : PW X (.BoolOp .Or (a :: b :: es) pos) (tT G Wx (mTOr mt mu)) := (pw_or h k).weak w_tor
theorem dAnd1 {op : BoolOp} (h : PE X a (tE G Wx ma)) : PE X (.BoolOp op [a] pos) (tE G Wx ma) := pe_one h
theorem dAnd (h : PE X a (tE G Wx ma)) (k : PE X (.BoolOp .And (b :: es) pos) (tE G Wx mb)) : PE X (.BoolOp .And (a :: b :: es) pos) (tE G Wx (mAnd ma mb)) := (pe_and h k).weak w_and
theorem dOr (h : PE X a (tE G Wx ma)) (k : PE X (.BoolOp .Or (b :: es) pos) (tE G Wx mb)) : PE X (.BoolOp .Or (a :: b :: es) pos) (tE G Wx (mOr ma mb)) := (pe_or h k).weak w_or
theorem dNot (h : PE X a (tE G Wx ma)) : PE X (.UnaryOp .Not a pos) (tE G Wx (mNot ma)) := (pe_not h).weak w_not
theorem dIfE (h : PT X c (tT G Wx mt)) (ha : PE X a (tE G Wx ma)) (hb : PE X b (tE G Wx mb)) : PE X (.IfExp c a b pos) (tE G Wx (mIfE mt ma mb)) := (pe_ifExp h ha hb).weak w_ifE
/-! displays, items, slices -/
theorem dNil : PA X [] (tA G Wx mNil) := pa_nil.weak w_nil
theorem dCons (h : PE X e (tE G Wx ma)) (k : PA X es (tA G Wx mas)) (hs : starEach (e :: es) X.env = (false, eval e X.env) :: starEach es X.env) : PA X (e :: es) (tA G Wx (mCons ma mas)) := (pa_cons h k hs).weak w_cons
theorem dTup {x1} (h : PA X es (tA G Wx mas)) : PE X (.Tuple es x1 pos) (tE G Wx (mTup mas)) := (pe_tup h).weak w_tup
theorem dLst (h : PA X es (tA G Wx mas)) : PE X (.List es pos) (tE G Wx (mLst mas)) := (pe_lst h).weak w_lst
theorem dIx (hG : X.K = G.K) (ha : PE X a (tE G Wx ma)) (hb : PE X b (tE G Wx mb)) (hs : PlainIx b) : PE X (.Subscript a b pos) (tE G Wx (mOp oIx ma mb)) := by
  have r := ix_seq (X := X)
  rw [hG] at r
  exact (pe_ix r ha hb hs).weak (w_op oIx_ok)
def oSlS : OS := fun x lo hi h => match x with
  | .str z => if z.length ≤ LIM then some (.ok (.str (cutS z lo hi)) h) else none
  | _ => none
theorem oSlS_ok : SlC G oSlS rSlS := fun E μ h H wx x lo hi Q rel rx p => by
  unfold oSlS at p
  split at p
  · rename_i z
    simp only [RU] at rx
    subst rx
    split at p
    · rename_i hc
      exact ⟨z, rfl, lim_le hc, Post.ok rel p _ rfl⟩
    · exact False.elim p
  · exact False.elim p
theorem SlC.or {f g : OS} {r r' : V → Option Int → Option Int → Hp → VK → Prop} (c : SlC G f r) (d : SlC G g r') : SlC G (fun x lo hi h => match f x lo hi h with | some z => some z | none => g x lo hi h) (fun x lo hi H Q => r x lo hi H Q ∨ r' x lo hi H Q) := fun E μ h H wx x lo hi Q rel rx p => by
  cases e : f wx lo hi h with
  | none => simp only [e] at p; exact .inr (d E μ h H wx x lo hi Q rel rx p)
  | some z => simp only [e] at p; exact .inl (c E μ h H wx x lo hi Q rel rx (by rw [e]; exact p))
def oSl : OS := fun x lo hi h => match oSlS x lo hi h with
  | some z => some z
  | none => match oSlL x lo hi h with | some z => some z | none => oSlT x lo hi h
variable {lo hi : Option Expr} {ml mh : MO}
theorem dSl {p2 : Pos} (hG : X.K = G.K) (h : PE X e (tE G Wx ma)) (hl : PO X lo (tO G Wx ml)) (hh : PO X hi (tO G Wx mh)) : PE X (.Subscript e (.Slice lo hi none p2) pos) (tE G Wx (mSl oSl ma ml mh)) := by
  have r2 := (sl_list (X := X)).or sl_tupA
  rw [hG] at r2
  exact (pe_slice ((sl_str (X := X)).or r2) h hl hh).weak (w_sl (oSlS_ok.or (oSlL_ok.or oSlT_ok)))
theorem dNoP : PO X none (tO G Wx mNoPart) := po_none.weak w_noPart
theorem dPart (h : PE X e (tE G Wx ma)) : PO X (some e) (tO G Wx (mPart ma)) := (po_some h).weak w_part
/-! calls of built-ins -/
structure StarOk (X : Cx) (pos : Pos) (e : Expr) (es : List Expr) : Prop where
  s : starEach (e :: es) X.env = (false, eval e X.env) :: starEach es X.env
  p : (backTo pos (starEach es X.env)).any (·.1) = false
theorem dB {id : String} {f : MF} {r : List V → Hp → VK → Prop} (hc : CallR X (.builtin id) r) (cc : CallC G f r) (hm : X.mg x = none) (hg : X.env.kindOf x = some .globalImplicit) (hv : bootBuiltins x = some (.builtin id)) (ha : PA X (e :: es) (tA G Wx mas)) (hn : x ≠ "__name__") (hd : (x == ("__debug__" : Str)) = false) (so : StarOk X pos e es) :
    PE X (.Call (.Name x p) (e :: es) [] pos) (tE G Wx (mCB f mas)) := (pe_callB hc hg hm hv ha hn hd so.s so.p).weak (w_cb cc)
theorem dTy {T : String} {f : MF} {r : List V → Hp → VK → Prop} (hc : CallR X (.type T) r) (cc : CallC G f r) (hm : X.mg x = none) (hg : X.env.kindOf x = some .globalImplicit) (hv : bootBuiltins x = some (.type T)) (ha : PA X (e :: es) (tA G Wx mas)) (hn : x ≠ "__name__") (hd : (x == ("__debug__" : Str)) = false) (so : StarOk X pos e es) :
    PE X (.Call (.Name x p) (e :: es) [] pos) (tE G Wx (mCB f mas)) := (pe_callTy hc hg hm hv ha hn hd so.s so.p).weak (w_cb cc)
theorem cLen (hG : X.K = G.K) : CallR X (.builtin "len") (fun xs H Q => ∃ x n, xs = [x] ∧ LenV G.K x H n ∧ Q (.int n) H) := by
  have r := call_len (X := X)
  rw [hG] at r
  exact r
theorem cAll (hG : X.K = G.K) (hc : X.calm = true) : CallR X (.builtin "all") (fun vs H Q => ∃ (a : Addr) (bs : List Bool), vs = [V.ref a] ∧ SqL G.K H a (bs.map V.bl) ∧ Q (.bl (bs.all id)) H) := by
  have r := cr_all hc
  rw [hG] at r
  exact r
theorem cAny (hG : X.K = G.K) (hc : X.calm = true) : CallR X (.builtin "any") (fun vs H Q => ∃ (a : Addr) (bs : List Bool), vs = [V.ref a] ∧ SqL G.K H a (bs.map V.bl) ∧ Q (.bl (bs.any id)) H) := by
  have r := cr_any hc
  rw [hG] at r
  exact r
theorem cList (hG : X.K = G.K) : CallR X (.type "list") (fun xs H Q => ∃ p ys, xs = [.ref p] ∧ (SqL G.K H p ys ∨ SqT G.K H p ys) ∧ ∀ l, H l = none → Q (.ref l) (upd H l (.lst ys))) := by
  have r := call_list_of (X := X)
  rw [hG] at r
  exact r
theorem cTuple (hG : X.K = G.K) : CallR X (.type "tuple") (fun xs H Q => ∃ p ys, xs = [.ref p] ∧ ((SqL G.K H p ys ∧ ∀ l, H l = none → Q (.ref l) (upd H l (.tup ys))) ∨ (SqT G.K H p ys ∧ Q (.ref p) H))) := by
  have r := call_tuple_of (X := X)
  rw [hG] at r
  exact r
def fIntA : MF := fun ws h => match fInt ws h with | some z => some z | none => fIntS ws h
theorem CallC.or {f g : MF} {r r' : List V → Hp → VK → Prop} (c : CallC G f r) (d : CallC G g r') : CallC G (fun ws h => match f ws h with | some z => some z | none => g ws h) (fun xs H Q => r xs H Q ∨ r' xs H Q) := fun E μ h H ws vs Q rel rs p => by
  cases e : f ws h with
  | none => simp only [e] at p; exact .inr (d E μ h H ws vs Q rel rs p)
  | some z => simp only [e] at p; exact .inl (c E μ h H ws vs Q rel rs (by rw [e]; exact p))
/-- isinstance(e, C) -/
structure IsA (X : Cx) (G : Gm) (c : Expr) (tab : TyK → Option Bool) : Prop where
  at_ : ∃ cv u, IsiC G tab cv u ∧ PE X c (tC cv)
theorem dIsi {tab : TyK → Option Bool} (hG : X.K = G.K) (t : IsA X G c tab) (ha : PE X a (tE G Wx ma)) (hm : X.mg "isinstance" = none) (hg : X.env.kindOf "isinstance" = some .globalImplicit) (so : StarOk X pos a [c]) (so2 : starEach [c] X.env = (false, eval c X.env) :: starEach [] X.env) :
    PE X (.Call (.Name "isinstance" p) [a, c] [] pos) (tE G Wx (mIsi tab ma)) := by
  obtain ⟨cv, u, i, hc⟩ := t.at_
  have r := (call_isi (X := X)).or call_isV
  rw [hG] at r
  exact (pe_callB r hg hm PyProof.Rows.boot_isinstance (pa_cons ha (pa_cons hc pa_nil so2) so.s) (by decide) (by decide) so.s so.p).weak (w_isi i)
/-! methods of built-in types -/
theorem dAppend (ha : PE X o (tE G Wx mo)) (he : PE X e (tE G Wx ma)) (hG : X.K = G.K) (hs : starEach [e] X.env = (false, eval e X.env) :: starEach [] X.env)
    (hb : PE X (.Call (.Attribute o "append" apos) [e] [] pos) (tBM X.K "list" rAppend (tE G Wx mo) (tA G Wx (mCons ma mNil)))) : PE X (.Call (.Attribute o "append" apos) [e] [] pos) (tE G Wx (mBM kList fAppend mo (mCons ma mNil))) := by
  rw [hG] at hb
  exact hb.weak (w_bm kList_ok fAppend_ok)
def fFind : U → MF := fun x ws h => match x, ws with
  | .str a, [.str b] => some (.ok (.int (Txt.find a b)) h)
  | _, _ => none
theorem w_m1 {f : U → MF} {r : V → List V → Hp → VK → Prop} (c : MtC G "str" f r) : ∀ σ H Q, tE G Wx (mBM kStr f mo (mCons ma mNil)) σ H Q → tM1 r (tE G Wx mo) (tE G Wx ma) σ H Q := fun σ H Q ⟨μ, ρ, h, s, q⟩ =>
  ⟨μ, ρ, h, s, (Post.bnd q).mono fun μ1 h1 H1 wx g1 q1 x rx => by
    split at q1
    · rename_i hk
      cases wx <;> first | (cases hk; done) | skip
      rename_i z
      have rx' := rx
      simp only [RU] at rx'
      subst rx'
      refine ⟨⟨z, rfl⟩, μ1, ρ, h1, s.on g1, (Post.bnd (Post.bnd q1)).mono fun μ2 h2 H2 w g2 q2 y ry => ?_⟩
      exact c _ μ2 h2 H2 _ _ [w] [y] Q g2.rel (g2.ru rx) (RUs.cons ry RUs.nil) (Post.ok (E := fun cls d H' => Wx cls d σ H') g2.rel q2)
    · exact False.elim q1⟩
theorem fFind_ok : MtC G "str" fFind (fun x xs H Q => ∃ a b, x = .str a ∧ xs = [.str b] ∧ Q (.int (Txt.find a b)) H) := fun E μ h H wx x ws vs Q rel rx rs q => by
  unfold fFind at q
  split at q
  · rename_i a b
    simp only [RU] at rx
    subst rx
    obtain ⟨v, rfl, r⟩ := rus1 rs
    simp only [RU] at r
    subst r
    exact ⟨a, b, rfl, rfl, Post.ok rel q _ rfl⟩
  · exact False.elim q
structure BaseOk (X : Cx) (o : Expr) (m : Str) (apos pos : Pos) : Prop where
  b : attributeBase o m X.env (eval o X.env) = eval o X.env
  l : (apos.endLine == pos.line) = true
theorem dFind (ha : PE X o (tE G Wx mo)) (he : PE X e (tE G Wx ma)) (hs : starEach [e] X.env = [(false, eval e X.env)]) (bo : BaseOk X o "find" apos pos) : PE X (.Call (.Attribute o "find" apos) [e] [] pos) (tE G Wx (mBM kStr fFind mo (mCons ma mNil))) :=
  (pe_m1 F.slot_str_find F.type_str_find mt_find ha he hs bo.b bo.l).weak (w_m1 fFind_ok)
def strsOf : List U → Option (List Str)
  | [] => some []
  | .str b :: ws => match strsOf ws with
    | some bs => some (b :: bs)
    | none => none
  | _ :: _ => none
theorem strsOf_ok {K : PySem.W.Frag} {μ : Nat → Addr} {n : Nat} {H : Hp} : ∀ {ws : List U} {vs : List V} {bs : List Str}, strsOf ws = some bs → RUs K μ n H ws vs → vs = bs.map V.str
  | [], vs, bs, e, r => by simp only [RUs] at r; subst r; cases e; rfl
  | w :: ws, vs, bs, e, r => by
    cases w <;> first | (cases e; done) | skip
    rename_i b
    simp only [strsOf] at e
    simp only [RUs] at r
    obtain ⟨y, ys, rfl, r1, rs⟩ := r
    cases e1 : strsOf ws with
    | none => rw [e1] at e; cases e
    | some bs2 =>
      rw [e1] at e
      cases e
      simp only [RU] at r1
      rw [r1, strsOf_ok e1 rs]
      rfl
def fJoin : U → MF := fun x ws h => match x, (match ws with
    | [.ref i] => rd h i
    | [.tup us] => some us
    | _ => none) with
  | .str a, some us => match strsOf us with
    | some ys => if (ys.map (·.length)).sum + ys.length * a.length ≤ 1000000 then some (.ok (.str (Txt.join a ys)) h) else none
    | none => none
  | _, _ => none
theorem fJoin_ok : MtC G "str" fJoin (fun x xs H Q => ∃ a p, ∃ ys : List Str, x = .str a ∧ xs = [.ref p] ∧ (SqL G.K H p (ys.map V.str) ∨ SqT G.K H p (ys.map V.str)) ∧ (ys.map (·.length)).sum + ys.length * a.length ≤ 16777216 ∧ Q (.str (Txt.join a ys)) H) := fun E μ h H wx x ws vs Q rel rx rs q => by
  unfold fJoin at q
  split at q
  · rename_i a us eu
    split at q
    · rename_i ys ey
      split at q
      · rename_i hl
        simp only [RU] at rx
        subst rx
        split at eu
        · rename_i i
          obtain ⟨v, rfl, r⟩ := rus1 rs
          simp only [RU] at r
          obtain ⟨_, rfl⟩ := r
          obtain ⟨xs, sq, rr⟩ := rd_ok rel eu
          have := strsOf_ok ey rr
          subst this
          exact ⟨a, _, ys, rfl, rfl, .inl sq, by omega, Post.ok rel q _ rfl⟩
        · rename_i us'
          cases eu
          obtain ⟨v, rfl, r⟩ := rus1 rs
          simp only [RU] at r
          obtain ⟨b, xs, rfl, st, rr⟩ := r
          have := strsOf_ok ey rr
          subst this
          exact ⟨a, _, ys, rfl, rfl, .inr st, by omega, Post.ok rel q _ rfl⟩
        · cases eu
      · exact False.elim q
    · exact False.elim q
  · exact False.elim q
theorem dJoin (hG : X.K = G.K) (ha : PE X o (tE G Wx mo)) (he : PE X e (tE G Wx ma)) (hs : starEach [e] X.env = [(false, eval e X.env)]) (bo : BaseOk X o "join" apos pos) : PE X (.Call (.Attribute o "join" apos) [e] [] pos) (tE G Wx (mBM kStr fJoin mo (mCons ma mNil))) := by
  have r := mt_join (X := X)
  rw [hG] at r
  exact (pe_m1 F.slot_str_join F.type_str_join r ha he hs bo.b bo.l).weak (w_m1 fJoin_ok)
/-! attributes -/
theorem dAttr {f : Str} {ins exc : Nat → Bool} (hG : X.K = G.K) (t : AtX G f ins exc) (ha : PE X o (tE G Wx mo)) (hb : attributeBase o f X.env (eval o X.env) = eval o X.env) : PE X (.Attribute o f pos) (tE G Wx (mAttrX f ins exc mo)) := by
  have r := pe_fldX (pos := pos) ha hb
  rw [hG] at r
  exact r.weak (w_attrX t)
/-! calls of defs -/
structure Callee (P : Program) (w : World) (G : Gm) (mg : Str → Option Value) (base : Heap) (x : Str) (k : Nat) (ps : List Str) (m : MF) : Prop where
  ex : ∃ a fd, mg x = some (.ref a) ∧ PySem.W.keepIn G.K (.ref a) = true ∧ Binds G.K fd ps [] ∧ FnM P w G mg base k a fd ps m
theorem dCall {k j n : Nat} {ps : List Str} {m : MF} (hG : X.K = G.K) (cl : Callee X.prog X.w G X.mg X.base x k ps m) (hr : Room j X.A) (hk : k ≤ j) (tk : Takes X Wx) (hn : ps.length = n) (ha : PA X (e :: es) (tA G Wx mas)) (al : AL mas n) (hg : X.env.kindOf x = some .globalImplicit) (hd : (x == ("__debug__" : Str)) = false) (so : StarOk X pos e es) :
    PE X (.Call (.Name x p) (e :: es) [] pos) (tE G Wx (mCB m mas)) := by
  obtain ⟨a, fd, hm, kp, hb, F⟩ := cl.ex
  unfold FnM at F
  subst hn
  obtain ⟨K, ca⟩ := G
  subst hG
  exact (pe_callS F (hr.mono hk) hg hm kp hb (passAt tk) ha hd so.s so.p).weak (w_call al)
theorem dCall0 {k j : Nat} {m : MF} (hG : X.K = G.K) (cl : Callee X.prog X.w G X.mg X.base x k [] m) (hr : Room j X.A) (hk : k ≤ j) (tk : Takes X Wx) (hg : X.env.kindOf x = some .globalImplicit) (hd : (x == ("__debug__" : Str)) = false) :
    PE X (.Call (.Name x p) [] [] pos) (tE G Wx (mCB m mNil)) := by
  obtain ⟨a, fd, hm, kp, hb, F⟩ := cl.ex
  unfold FnM at F
  obtain ⟨K, ca⟩ := G
  subst hG
  exact (pe_callS0 F (hr.mono hk) hg hm kp hb (passAt tk) hd).weak w_call0
/-! statements -/
theorem dSkip : PSs X [] (tS G Wx mSkip) := pss_nil.weak w_skip
theorem dSeq (h : PS X st (tS G Wx ms)) (k : PSs X rest (tS G Wx mr)) : PSs X (st :: rest) (tS G Wx (mSeq ms mr)) := (pss_cons h k).weak w_seq
theorem dOne (h : PS X st (tS G Wx ms)) : PSs X [st] (tS G Wx ms) := pss_one h
theorem dPass : PS X (.Pass pos) (tS G Wx mSkip) := ps_pass.weak w_skip
theorem dRet (h : PE X e (tE G Wx ma)) : PS X (.Return (some e) pos) (tS G Wx (mRet ma)) := (ps_ret h).weak w_ret
theorem dRetN : PS X (.Return none pos) (tS G Wx mRetN) := ps_retN.weak w_retN
theorem dExpr (h : PE X e (tE G Wx ma)) (hs : swapsWith e none pos.line X.env = pure false) : PS X (.Expr e pos) (tS G Wx (mDrop ma)) := (ps_expr h hs).weak w_drop
theorem dSet {y : Str} {i : Nat} (h : PE X e (tE G Wx ma)) (hN : X.N.Nodup) (hi : X.N[i]? = some y) (hl : locB X.env.scope y = true) (hs : swapsWith e (some (.Name y p)) pos.line X.env = pure false) (hf : X.fn y = true ∨ X.env.scope.names.lookup y = some .local) : PS X (.Assign [.Name y p] e pos) (tS G Wx (mSet i ma)) :=
  (ps_set hN hi (locB_ok hl) h hs hf).weak w_set
theorem dIf {sa sb : List Stmt} {m1 m2 : MS} (h : PT X c (tT G Wx mt)) (ha : PSs X sa (tS G Wx m1)) (hb : PSs X sb (tS G Wx m2)) : PS X (.If c sa sb pos) (tS G Wx (mIf mt m1 m2)) := (ps_if h ha hb).weak w_if
theorem dBrk : PS X (.Break pos) (tS G Wx mBrk) := ps_break.weak w_brk
theorem dCont : PS X (.Continue pos) (tS G Wx mCont) := ps_continue.weak w_cont
theorem dFor {tg iter : Expr} {body : List Stmt} {mi : MI} {mg : MG} {mb : MS} (hp : PassesOwn (model X.prog X.w) X.A X.env X.xe) (hc : X.calm = true) (hi : PI X tg iter (tI G Wx mi)) (hg : PG X tg (tG G mg)) (hb : PSs X body (tS G Wx mb)) (hs : ∀ x, foldedSetIterable iter X.env x = pure x) : PS X (.For tg iter body [] pos) (tS G Wx (mFor mi mg mb)) :=
  (ps_for hp hc hi hg hb hs).weak w_for
theorem dWhile {body : List Stmt} {mb : MS} (hp : PassesOwn (model X.prog X.w) X.A X.env X.xe) (hc : PT X c (tT G Wx mt)) (hb : PSs X body (tS G Wx mb)) : PS X (.While c body [] pos) (tS G Wx (mWhile mt mb)) := (ps_while hp hc hb).weak w_while
theorem dSetIx {i : Expr} {mi : ME} {p1 : Pos} (he : PE X e (tE G Wx ma)) (ho : PE X o (tE G Wx mo)) (hi : PE X i (tE G Wx mi)) (hs : swapsWithSole [.Subscript o i p1] e pos.line X.env = pure false) (hw : swappedStores [.Subscript o i p1] e X.env = pure none) (ht : ∀ (v : Value), assign (o.Subscript i p1) X.env v = do
      let ov ← holding [v] (eval o X.env)
      let iv ← holding [v, ov] (eval i X.env)
      standAt p1
      holding [v, ov, iv] (setItem ov iv v)
      release [v, ov, iv] []) (h1 : List.map (fun x => x.snd) (assignEach [.Subscript o i p1] X.env) = [assign (.Subscript o i p1) X.env]) : PS X (.Assign [.Subscript o i p1] e pos) (tS G Wx (mSetIx ma mo mi)) :=
  (ps_asg he (pg_sub ho hi set_list ht) hs hw h1).weak w_setIx
theorem dAsg {tg : Expr} {g : MG} (he : PE X e (tE G Wx ma)) (hg : PG X tg (tG G g)) (hs : swapsWithSole [tg] e pos.line X.env = pure false) (hw : swappedStores [tg] e X.env = pure none) (h1 : List.map (fun x => x.snd) (assignEach [tg] X.env) = [assign tg X.env]) : PS X (.Assign [tg] e pos) (tS G Wx (mAsg g ma)) := (ps_asg he hg hs hw h1).weak w_asg
theorem gName {y : Str} {i : Nat} (hN : X.N.Nodup) (hi : X.N[i]? = some y) (hl : locB X.env.scope y = true) (hf : X.fn y = true ∨ X.env.scope.names.lookup y = some .local) : PG X (.Name y pos) (tG G (gN i)) := (pg_name hN hi (locB_ok hl) hf).weak w_gN
theorem gNil' : PGs X [] (tGs G gE) := pgs_nil.weak w_gE
/-! iterators -/
theorem iList' {tg : Expr} (hG : X.K = G.K) (h : PE X e (tE G Wx ma)) : PI X tg e (tI G Wx (iL ma)) := by
  have r := pi_list (tg := tg) h
  rw [hG] at r
  exact r.weak w_iL
theorem iTup' {tg : Expr} (hG : X.K = G.K) (h : PE X e (tE G Wx ma)) : PI X tg e (tI G Wx (iT ma)) := by
  have r := pi_tup (tg := tg) h
  rw [hG] at r
  exact r.weak w_iT
theorem iStr' {tg : Expr} (h : PE X e (tE G Wx ma)) : PI X tg e (tI G Wx (iS ma)) := (pi_str h).weak w_iS
theorem iRange1 {tg : Expr} (h : PE X e (tE G Wx ma)) (hm : X.mg "range" = none) (hg : X.env.kindOf "range" = some .globalImplicit) (hs1 : starEach [e] X.env = (false, eval e X.env) :: starEach [] X.env) (hs : starEach [e] X.env = [(false, eval e X.env)]) : PI X tg (.Call (.Name "range" p) [e] [] pos) (tI G Wx (iR1 ma)) :=
  (pi_range1 hg hm (pa_cons h pa_nil hs1) hs).weak w_iR1
theorem iRange2 {tg : Expr} (ha : PE X a (tE G Wx ma)) (hb : PE X b (tE G Wx mb)) (hm : X.mg "range" = none) (hg : X.env.kindOf "range" = some .globalImplicit) (hs1 : starEach [a, b] X.env = (false, eval a X.env) :: starEach [b] X.env) (hs2 : starEach [b] X.env = (false, eval b X.env) :: starEach [] X.env)
    (hs : starEach [a, b] X.env = [(false, eval a X.env), (false, eval b X.env)]) (hs3 : starEach [b] X.env = [(false, eval b X.env)]) : PI X tg (.Call (.Name "range" p) [a, b] [] pos) (tI G Wx (iR2 ma mb)) :=
  (pi_range2 hg hm (pa_cons ha (pa_cons hb pa_nil hs2) hs1) hs hs3).weak w_iR2
/-! raise, try -/
structure OwnErr (P : Program) (w : World) (G : Gm) (mg : Str → Option Value) (base : Heap) (x : Str) (k c n : Nat) (mk : MX) : Prop where
  ox : OexC G.K (G.ca c)
  gl : mg x = some (.ref (G.ca c))
  ex : ∃ fI fd ps, PySem.W.findIn G.K (.ref (G.ca c)) "__init__" = some (some (.ref fI)) ∧ PySem.W.typeIn G.K (.ref fI) = some (.type "function") ∧ Binds G.K fd ps [] ∧ FnOk P w G.K mg base CX0 k fI fd ps (spX G c n mk)
theorem passE {X : Cx} : Passes CX0 X (fun _ _ _ => False) := fun _ _ _ _ _ _ _ h => h.elim
theorem dRaise {k j c n : Nat} {mk : MX} (hG : X.K = G.K) (oe : OwnErr X.prog X.w G X.mg X.base x k c n mk) (hr : Room j X.A) (hk : k + 1 ≤ j) (tk : Takes X Wx) (hc : X.calm = true) (ha : PA X (e :: es) (tA G Wx mas)) (al : AL mas n) (hn : n ≤ 1000) (hg : X.env.kindOf x = some .globalImplicit) (hd : (x == ("__debug__" : Str)) = false) (so : StarOk X pos e es) :
    PS X (.Raise (some (.Call (.Name x p) (e :: es) [] pos)) none p') (tS G Wx (mRaise c mk mas)) := by
  obtain ⟨fI, fd, ps, h1, h2, hb, F⟩ := oe.ex
  have T := oe.ox
  have gl := oe.gl
  obtain ⟨K, ca⟩ := G
  subst hG
  exact (ps_raise hc tk (pmk_oex T h1 h2 F (hr.mono hk) hb .nil passE hg gl ha hd so.s so.p)).weak (w_raise al hn)
theorem dTry {n : Str} {cv : Value} {i : Nat} {body suite : List Stmt} {b₀ : Stmt} {np pos' : Pos} {tab : Nat → Option Bool} {mb ms : MS} (hG : X.K = G.K) (t : TakC G tab cv) (hs : X.stack = X.env :: X.outer) (hf : X.env.frame = some X.env.locals) (hex : X.ex = []) (hN : X.N.Nodup) (hi : X.N[i]? = some n) (hln : X.env.kindOf n = some .local) (hc : Names X x cv) (tk : Takes X Wx)
    (hb : ∀ (W : WX) (pn : List (Addr × Obj)) (xe : Value → Shared → Prop), Takes (X.tr pn xe) W → PassesOwn (model X.prog X.w) X.A X.env xe → PSs (X.tr pn xe) body (tS G W mb))
    (hsu : ∀ (a : Addr) (pn : List (Addr × Obj)), PSs (X.suite a pn) (b₀ :: suite) (tS G W0 ms)) :
    PS X (.Try body [.ExceptHandler (some (.Name x np)) (some n) (b₀ :: suite) pos'] [] [] pos) (tS G Wx (mTry tab i mb ms)) := by
  have r := ps_try_asT (pos := pos) (pos' := pos') (np := np) (Wout := Wx) (tb := fun W => tS G W mb) hs hf hex hN hi hln hc tk hb hsu
  rw [hG] at r
  exact r.weak (w_try t)
end
end ML

set_option maxHeartbeats 4000000
/-! comprehensions, isinstance, own errors as they are printed -/
namespace ML
open PySem L2
section
variable {X : Cx} {G : Gm} {Wx : WX} {e a b c o elt tg iter : Expr} {es ifs : List Expr} {x : Str} {pos p : Pos} {ma mb mc mo me : ME} {mt : MT} {mi : MI} {scope : Scope} {own : List (Str × Nat)}
theorem dLc (t : NT) (hG : X.K = G.K) (hc : X.calm = true) (hN : X.N.Nodup) (hi : PI X tg iter (tI G Wx mi)) (bk : BlkOk X.N X.env.scope scope own)
    (hg : ∀ (s : Shared) (H : Hp) (C : Addr) (cl : List (Str × Addr)) (fp : List Addr), PG (X.blk s H scope (compEnvC scope cl C X.env) fp) tg (t.tg G.K))
    (ht : ∀ (s : Shared) (H : Hp) (C : Addr) (cl : List (Str × Addr)) (fp : List Addr), PTs (X.blk s H scope (compEnvC scope cl C X.env) fp) ifs (tT G W0 mt))
    (he : ∀ (s : Shared) (H : Hp) (C : Addr) (cl : List (Str × Addr)) (fp : List Addr), PE (X.blk s H scope (compEnvC scope cl C X.env) fp) elt (tE G W0 me))
    (hv : ∀ i ∈ t.vs, i ∈ own.map (·.2)) (hs : ∀ x, foldedSetIterable iter X.env x = pure x) :
    PE X (.ListComp elt [⟨tg, iter, ifs, 0⟩] scope pos) (tE G Wx (mLc mi t mt me (own.map (·.2)))) :=
  (pe_lc hc hN hi bk hg ht he hs).weak (w_lc hv)
theorem dLcSet (t : NT) {i : Nat} {y : Str} {py spos : Pos} (hG : X.K = G.K) (hc : X.calm = true) (hN : X.N.Nodup) (hy : X.N[i]? = some y) (hyl : X.env.scope.names.lookup y = some .local)
    (hsw : swapsWith (.ListComp elt [⟨tg, iter, ifs, 0⟩] scope pos) (some (.Name y py)) spos.line X.env = pure true) (hi : PI X tg iter (tI G Wx mi)) (bk : BlkOk X.N X.env.scope scope own)
    (hg : ∀ (s : Shared) (H : Hp) (C : Addr) (cl : List (Str × Addr)) (fp : List Addr), PG (X.blk s H scope (compEnvC scope cl C X.env) fp) tg (t.tg G.K))
    (ht : ∀ (s : Shared) (H : Hp) (C : Addr) (cl : List (Str × Addr)) (fp : List Addr), PTs (X.blk s H scope (compEnvC scope cl C X.env) fp) ifs (tT G W0 mt))
    (he : ∀ (s : Shared) (H : Hp) (C : Addr) (cl : List (Str × Addr)) (fp : List Addr), PE (X.blk s H scope (compEnvC scope cl C X.env) fp) elt (tE G W0 me))
    (hv : ∀ i ∈ t.vs, i ∈ own.map (·.2)) (hs : ∀ x, foldedSetIterable iter X.env x = pure x) :
    PS X (.Assign [.Name y py] (.ListComp elt [⟨tg, iter, ifs, 0⟩] scope pos) spos) (tS G Wx (mSet i (mLc mi t mt me (own.map (·.2))))) :=
  (ps_setLc hc hN hy hyl hsw hi bk hg ht he hs).weak (w_setLc hv)
theorem dYes : PTs X [] (tT G W0 mYes) := pts_nil.weak w_yes
theorem dIf1 (h : PT X c (tT G W0 mt)) : PTs X [c] (tT G W0 mt) := pts_one h
theorem ntOne {y : Str} {i : Nat} (hN : X.N.Nodup) (hi : X.N[i]? = some y) (hl : locB X.env.scope y = true) (hf : X.fn y = true ∨ X.env.scope.names.lookup y = some .local) : PG X (.Name y pos) ((NT.one i).tg G.K) := pg_name hN hi (locB_ok hl) hf
/-- isinstance by a built-in class: only the plain kinds are answered, own instances and errors where they are told -/
def tabInt : TyK → Option Bool
  | .int => some true
  | .bl => some true
  | .non => some false
  | .str => some false
  | .lst => some false
  | .tup => some false
  | _ => none
def tabBool : TyK → Option Bool
  | .int => some false
  | .bl => some true
  | .non => some false
  | .str => some false
  | .lst => some false
  | .tup => some false
  | _ => none
def tabStr : TyK → Option Bool
  | .int => some false
  | .bl => some false
  | .non => some false
  | .str => some true
  | .lst => some false
  | .tup => some false
  | _ => none
def tabTup : TyK → Option Bool
  | .int => some false
  | .bl => some false
  | .non => some false
  | .str => some false
  | .lst => some false
  | .tup => some true
  | _ => none
theorem isiInt : IsiC G tabInt (.ty "int") (.type "int") := ⟨ClsV.ty _, fun k b h => by cases k <;> cases h <;> exact kit_ty (by decide +kernel), (fun c b h => nomatch h), (fun c b h => nomatch h)⟩
theorem isiBool : IsiC G tabBool (.ty "bool") (.type "bool") := ⟨ClsV.ty _, fun k b h => by cases k <;> cases h <;> exact kit_ty (by decide +kernel), (fun c b h => nomatch h), (fun c b h => nomatch h)⟩
theorem isiStr : IsiC G tabStr (.ty "str") (.type "str") := ⟨ClsV.ty _, fun k b h => by cases k <;> cases h <;> exact kit_ty (by decide +kernel), (fun c b h => nomatch h), (fun c b h => nomatch h)⟩
theorem isiTup : IsiC G tabTup (.ty "tuple") (.type "tuple") := ⟨ClsV.ty _, fun k b h => by cases k <;> cases h <;> exact kit_ty (by decide +kernel), (fun c b h => nomatch h), (fun c b h => nomatch h)⟩
theorem isaTy {n : String} {tab : TyK → Option Bool} (t : IsiC G tab (.ty n) (.type n)) (hg : X.env.kindOf x = some .globalImplicit) (hm : X.mg x = none) (hb : bootBuiltins x = some (.type n)) (hn : x ≠ "__name__") (hd : (x == ("__debug__" : Str)) = false) : IsA X G (.Name x pos) tab :=
  ⟨.ty n, .type n, t, pe_bltn (v := .ty n) hg hm hb (by rfl) hn hd⟩
/-- isinstance by an own class: the told answers -/
structure OwnK (G : Gm) (mg : Str → Option Value) (x : Str) (tab : TyK → Option Bool) : Prop where
  ex : ∃ C, mg x = some (.ref C) ∧ IsiC G tab (.ref C) (.ref C)
theorem isaOwn {tab : TyK → Option Bool} (o : OwnK G X.mg x tab) (hg : X.env.kindOf x = some .globalImplicit) (hd : (x == ("__debug__" : Str)) = false) : IsA X G (.Name x pos) tab := by
  obtain ⟨C, hm, i⟩ := o.ex
  exact ⟨.ref C, .ref C, i, pe_glob (v := .ref C) hg hm (by rfl) hd⟩
theorem cAbs : CallR X (.builtin "abs") (fun xs H Q => ∃ i, xs = [.int i] ∧ Q (.int (if i < 0 then -i else i)) H) := call_abs
theorem cInt : CallR X (.type "int") (fun xs H Q => ((∃ i, xs = [.int i] ∧ Q (.int i) H) ∨ ∃ k, xs = [.bl k] ∧ Q (.int (if k then 1 else 0)) H) ∨ ∃ a n, xs = [.str a] ∧ PySem.intText? a = some n ∧ a.length ≤ 640 ∧ Q (.int n) H) := (call_int1 (X := X)).or call_int_str
theorem fIntA_ok : CallC G fIntA (fun xs H Q => ((∃ i, xs = [.int i] ∧ Q (.int i) H) ∨ ∃ k, xs = [.bl k] ∧ Q (.int (if k then 1 else 0)) H) ∨ ∃ a n, xs = [.str a] ∧ PySem.intText? a = some n ∧ a.length ≤ 640 ∧ Q (.int n) H) := fInt_ok.or fIntS_ok
/-- whatever stands in a row: the kind shows itself -/
def iSeq (e : ME) : MI := fun ρ h => match e ρ h with
  | some (.ok (.str _) _) => iS e ρ h
  | some (.ok (.tup _) _) => iT e ρ h
  | _ => iL e ρ h
theorem iSeq' (hG : X.K = G.K) (h : PE X e (tE G Wx ma)) : PI X tg e (tI G Wx (iSeq ma)) := by
  have r1 : PI X tg e (tI G Wx (iS ma)) := iStr' h
  have r2 : PI X tg e (tI G Wx (iT ma)) := iTup' hG h
  have r3 : PI X tg e (tI G Wx (iL ma)) := iList' hG h
  refine ⟨fun pins s σ H R I ⟨μ, ρ, hm, st, p⟩ => ?_⟩
  unfold iSeq at p
  split at p
  · exact r1.run pins s σ H R I ⟨μ, ρ, hm, st, p⟩
  · exact r2.run pins s σ H R I ⟨μ, ρ, hm, st, p⟩
  · exact r3.run pins s σ H R I ⟨μ, ρ, hm, st, p⟩
theorem qAnd' (h : PT X a (tT G Wx mt)) {mu : MT} (k : PW X (.BoolOp .And (b :: es) pos) (tT G Wx mu)) : PT X (.BoolOp .And (a :: b :: es) pos) (tT G Wx (mTAnd mt mu)) := (qAnd h k).pt
theorem qOr' (h : PT X a (tT G Wx mt)) {mu : MT} (k : PW X (.BoolOp .Or (b :: es) pos) (tT G Wx mu)) : PT X (.BoolOp .Or (a :: b :: es) pos) (tT G Wx (mTOr mt mu)) := (qOr h k).pt
theorem units64 {k : Nat} {A : Around} (hr : Room k A) : A.units + 64 < cLine := by have := hr.un; omega
abbrev fIntA2 : MF := fun ws h => match fInt ws h with | some z => some z | none => fIntS ws h
end
end ML

set_option maxHeartbeats 4000000
/-! the computations, step by step -/
namespace ML
open PySem L2
section
variable {ρ : Ev} {h : Hm} {i j : Int} {a b : Str}
@[simp] theorem ev_oI0 {g : Int → Int → U} : oI0 g (.int i) (.int j) h = some (.ok (g i j) h) := rfl
@[simp] theorem ev_oI {C : Int → Int → Bool} {g : Int → Int → U} : oI C g (.int i) (.int j) h = if C i j = true then some (.ok (g i j) h) else none := rfl
@[simp] theorem ev_addI : oAdd (.int i) (.int j) h = some (.ok (.int (i + j)) h) := rfl
@[simp] theorem ev_addS : oAdd (.str a) (.str b) h = if a.length + b.length ≤ LIM then some (.ok (.str (a ++ b)) h) else none := by
  unfold oAdd oAddS
  by_cases hl : a.length + b.length ≤ LIM
  · simp [hl, oI0]
  · simp [hl, oI0, oAddL, oAddT2]
@[simp] theorem ev_mulA : oMulA (.int i) (.int j) h = if cMul i j = true then some (.ok (.int (i * j)) h) else none := by
  unfold oMulA
  by_cases hl : cMul i j = true
  · simp [hl]
  · simp [hl, oRep]
@[simp] theorem ev_eqI {n : Nat} : oEq n (.int i) (.int j) h = some (.ok (.bl (decide (i = j))) h) := by simp [oEq, oEqS, sEq]
@[simp] theorem ev_eqS {n : Nat} : oEq n (.str a) (.str b) h = some (.ok (.bl (decide (a = b))) h) := by simp [oEq, oEqS, sEq]
@[simp] theorem ev_neS {n : Nat} : oNe n (.str a) (.str b) h = some (.ok (.bl (!decide (a = b))) h) := by simp [oNe, oEqS, sEq]
@[simp] theorem ev_neI {n : Nat} : oNe n (.int i) (.int j) h = some (.ok (.bl (!decide (i = j))) h) := by simp [oNe, oEqS, sEq]
@[simp] theorem ev_int : fIntA2 [.int i] h = some (.ok (.int i) h) := rfl
@[simp] theorem ev_intB {k : Bool} : fIntA2 [.bl k] h = some (.ok (.int (if k then 1 else 0)) h) := rfl
@[simp] theorem ev_abs : fAbs [.int i] h = some (.ok (.int (if i < 0 then -i else i)) h) := rfl
@[simp] theorem ev_rdL {l : Nat} {ws : List U} (e : h[l]? = some (.lst ws)) : rd h l = some ws := by simp [rd, e]
theorem ev_ix {l : Nat} {ws : List U} {w : U} (e : rd h l = some ws) (e2 : atI ws i = some w) : oIx (.ref l) (.int i) h = some (.ok w h) := by simp [oIx, e, e2]
theorem ev_ixT {ws : List U} {w : U} (e2 : atI ws i = some w) : oIx (.tup ws) (.int i) h = some (.ok w h) := by simp [oIx, e2]
theorem ev_ixS {c : Nat} (e2 : atI a.cps.toList i = some c) (hl : a.length ≤ LIM) : oIx (.str a) (.int i) h = some (.ok (.str ⟨#[c]⟩) h) := by simp [oIx, e2, hl]
theorem ev_len {l : Nat} {ws : List U} (e : rd h l = some ws) : fLen [.ref l] h = some (.ok (.int ws.length) h) := by simp [fLen, e]
@[simp] theorem ev_lenS : fLen [.str a] h = if a.length ≤ LIM then some (.ok (.int a.length) h) else none := rfl
@[simp] theorem ev_lenT {ws : List U} : fLen [.tup ws] h = some (.ok (.int ws.length) h) := rfl
theorem atI_0 {α : Type} {x : α} {xs : List α} : atI (x :: xs) 0 = some x := by
  simp [atI, ixN]
end
end ML

set_option maxHeartbeats 4000000
/-! loops and comprehensions whose turns are known; texts -/
namespace ML
open PySem L2
section
variable {ρ : Ev} {h : Hm}
theorem lcGo_pure {chk : Hm → Prop} {t : NT} {te : ME} {D : Nat} {g : U → U} (hD : ∃ h1, ∀ acc, chk (h1 ++ [.lst acc])) : True := trivial
theorem lc_pure {it : MI} {t : NT} {te : ME} {vs : List Nat} {h1 : Hm} {ws : List U} {chk : Hm → Prop} {g : U → U} (hi : it ρ h = some (.ok (ws, chk) h1)) (hc : ∀ acc, chk (h1 ++ [.lst acc]))
    (hl : ws.length ≤ LIM) (ht : ∀ w ∈ ws, ∃ ρ1, t.set w (wipeE ρ vs) = some ρ1 ∧ ∀ acc, te ρ1 (h1 ++ [.lst acc]) = some (.ok (g w) (h1 ++ [.lst acc]))) :
    mLc it t mYes te vs ρ h = some (.ok (.ref h1.length) (h1 ++ [.lst (ws.map g)])) := by
  unfold mLc
  rw [hi]
  simp only [bnd_ok]
  have key : ∀ (us acc : List U), (∀ w ∈ us, w ∈ ws) → acc.length + us.length ≤ LIM → lcGo chk t mYes te (wipeE ρ vs) h1.length us (h1 ++ [.lst acc]) = some (.ok (.ref h1.length) (h1 ++ [.lst (acc ++ us.map g)])) := by
    intro us
    induction us with
    | nil => intro acc _ _; unfold lcGo; rw [if_pos (hc acc)]; simp
    | cons w us ih =>
      intro acc hm hl
      obtain ⟨ρ1, e1, e2⟩ := ht w (hm w List.mem_cons_self)
      unfold lcGo
      rw [if_pos (hc acc), e1]
      simp only [mYes, noEx, bnd_ok, if_true, e2]
      have : (h1 ++ [Cell.lst acc])[h1.length]? = some (.lst acc) := by simp
      rw [this]
      simp only
      simp only [List.length_cons] at hl
      rw [if_pos (by omega)]
      have e3 : (h1 ++ [Cell.lst acc]).set h1.length (.lst (acc ++ [g w])) = h1 ++ [.lst (acc ++ [g w])] := by
        rw [List.set_append_right _ _ (Nat.le_refl _)]
        simp
      rw [e3, ih (acc ++ [g w]) (fun u hu => hm u (List.mem_cons_of_mem _ hu)) (by simp; omega)]
      simp
  have := key ws [] (fun w hw => hw) (by simpa using hl)
  simpa using this
theorem blsOf_map {α : Type} {p : α → Bool} : ∀ (L : List α), blsOf (L.map fun c => .bl (p c)) = some (L.map p)
  | [] => rfl
  | c :: L => by
    show (match blsOf (L.map fun c => U.bl (p c)) with
      | some bs => some (p c :: bs)
      | none => none) = _
    rw [blsOf_map L]
    rfl
/-- a loop each turn of which goes on -/
theorem for_nil {chk : Hm → Prop} {g : MG} {body : MS} (hc : chk h) : forC chk g body [] ρ h = some (.nx ρ h) := by
  unfold forC; rw [if_pos hc]
theorem for_cons {chk : Hm → Prop} {g : MG} {body : MS} {w : U} {ws : List U} {ρ1 ρ2 : Ev} {h2 : Hm} (hc : chk h) (hg : g w ρ = some ρ1) (hb : body ρ1 h = some (.nx ρ2 h2)) : forC chk g body (w :: ws) ρ h = forC chk g body ws ρ2 h2 := by
  conv => lhs; unfold forC
  rw [if_pos hc, hg]
  simp only [hb]
theorem for_rt {chk : Hm → Prop} {g : MG} {body : MS} {w x : U} {ws : List U} {ρ1 : Ev} {h2 : Hm} (hc : chk h) (hg : g w ρ = some ρ1) (hb : body ρ1 h = some (.rt x h2)) : forC chk g body (w :: ws) ρ h = some (.rt x h2) := by
  conv => lhs; unfold forC
  rw [if_pos hc, hg]
  simp only [hb]
theorem str_ext {a b : Str} (h : a.cps.toList = b.cps.toList) : a = b := by
  cases a; cases b
  simp only at h
  congr
  exact Array.toList_inj.mp h
theorem str_eq_iff {a b : Str} : a = b ↔ a.cps.toList = b.cps.toList := ⟨fun h => by rw [h], str_ext⟩
theorem str_len (a : Str) : a.length = a.cps.toList.length := by simp [Str.length]
theorem str_app (a b : Str) : (a ++ b).cps.toList = a.cps.toList ++ b.cps.toList := by
  show (a.cps ++ b.cps).toList = _
  simp
theorem str_app_len (a b : Str) : (a ++ b).length = a.length + b.length := by
  rw [str_len, str_app, List.length_append, ← str_len, ← str_len]
def isDig (c : Nat) : Bool := decide (48 ≤ c) && decide (c ≤ 57)
theorem digs : ("0123456789" : Str).cps.toList = [48, 49, 50, 51, 52, 53, 54, 55, 56, 57] := by decide +kernel
theorem digs_mem (c : Nat) : (decide (c ∈ ("0123456789" : Str).cps.toList)) = isDig c := by
  rw [digs, isDig]
  simp only [List.mem_cons, List.not_mem_nil, or_false]
  by_cases h : 48 ≤ c ∧ c ≤ 57
  · have : c = 48 ∨ c = 49 ∨ c = 50 ∨ c = 51 ∨ c = 52 ∨ c = 53 ∨ c = 54 ∨ c = 55 ∨ c = 56 ∨ c = 57 := by omega
    simp [h.1, h.2, this]
  · have : ¬ (c = 48 ∨ c = 49 ∨ c = 50 ∨ c = 51 ∨ c = 52 ∨ c = 53 ∨ c = 54 ∨ c = 55 ∨ c = 56 ∨ c = 57) := by omega
    simp only [this, decide_false]
    by_cases h1 : 48 ≤ c <;> by_cases h2 : c ≤ 57 <;> simp [h1, h2] at h ⊢
theorem find_one (z : Str) (c : Nat) : (Txt.find z ⟨#[c]⟩ = -1 ∧ c ∉ z.cps.toList) ∨ ∃ i : Nat, Txt.find z ⟨#[c]⟩ = (i : Int) ∧ z.cps.toList[i]? = some c := by
  have at_ : ∀ i, StrLaws.At z ⟨#[c]⟩ z.length i ↔ z.cps.toList[i]? = some c := fun i => by
    unfold StrLaws.At Builtin.Str.subAt
    show i + 1 ≤ z.cps.size ∧ (z.cps.extract i (i + 1) == #[c]) = true ↔ _
    rw [beq_iff_eq]
    constructor
    · rintro ⟨h1, h2⟩
      have : (z.cps.extract i (i + 1))[0]? = some c := by rw [h2]; rfl
      rw [Array.getElem?_extract] at this
      simp at this
      rw [Array.getElem?_toList]
      have := this.2
      simpa using this
    · intro e
      rw [Array.getElem?_toList] at e
      have hi := (Array.getElem?_eq_some_iff.mp e).1
      refine ⟨hi, ?_⟩
      apply Array.ext
      · simp; omega
      · intro j h1 h2
        simp at h2
        subst h2
        simp
        exact (Array.getElem?_eq_some_iff.mp e).2
  rcases PyProof.Rows.find_whole z ⟨#[c]⟩ with ⟨e, no⟩ | ⟨i, e, hi, _⟩
  · refine .inl ⟨e, fun hc => ?_⟩
    obtain ⟨i, hi⟩ := List.getElem?_of_mem hc
    exact no i ((at_ i).mpr hi)
  · exact .inr ⟨i, e, (at_ i).mp hi⟩
theorem find_dig (c : Nat) : Txt.find ("0123456789" : Str) ⟨#[c]⟩ = if isDig c = true then ((c - 48 : Nat) : Int) else -1 := by
  rcases find_one "0123456789" c with ⟨e, no⟩ | ⟨i, e, hi⟩
  · have := digs_mem c
    rw [decide_eq_false no] at this
    rw [e, ← this]
    rfl
  · rw [e]
    rw [digs] at hi
    have hl := (List.getElem?_eq_some_iff.mp hi).1
    have hl : i < 10 := hl
    have : c = 48 + i := by
      rcases i with _ | _ | _ | _ | _ | _ | _ | _ | _ | _ | i <;> first | omega | (simp at hi; omega)
    subst this
    rw [if_pos (by unfold isDig; simp; omega)]
    simp
end
end ML

set_option maxHeartbeats 4000000
/-! raise of an own error that has no __init__ of its own -/
namespace ML
open PySem PySem.Spec PyProof.Rows L2
section
variable {X : Cx} {pos p p' : Pos} {x : Str} {C : Addr}
theorem pmk_bare {bmB : List Value} {B newId initId : String} (F : ExcBaseFacts B newId initId bmB) (q : PySem.W.excIn X.K C bmB newId = true) (gC : X.mg x = some (.ref C)) (kC : PySem.W.keepIn X.K (.ref C) = true) (r : Raises X (.ref C)) (hg : Gl X x)
    (hdb : (x == ("__debug__" : Str)) = false) : PMk X (.Call (.Name x p) [] [] pos) (fun _ H Q => Q (.ref C) none H) := by
  intro pins s σ H Q I h
  refine wpAny_Call_Name_kw (ld_glob I hg gC ?_ hdb)
  obtain ⟨bm, N, nm, qn, bs, hdct, sn, sub, ab, col, dd, k0, k1, k2, k3, k5, mN, hC, hN, hni, T⟩ := exc_obj I.kIn q
  exact PySem.W.callWith_K0 I.kIn kC (wpAny_call_exc_subT F T hC hN hni (fun h' e hm => mk_of I hm r h (I.hok.gone hm.new)) (Nat.zero_le _))
def mRaise0 (c : Nat) : MS := fun ρ h => some (.ex c [] ρ h)
structure BareErr (G : Gm) (mg : Str → Option Value) (x : Str) (c : Nat) : Prop where
  ex : ∃ (bmB : List Value) (B newId initId : String), ExcBaseFacts B newId initId bmB ∧ PySem.W.excIn G.K (G.ca c) bmB newId = true
  gl : mg x = some (.ref (G.ca c))
  kp : PySem.W.keepIn G.K (.ref (G.ca c)) = true
  h1 : PySem.W.subIn G.K (.ref (G.ca c)) (.type "BaseException") = some true
  h2 : PySem.W.typeIn G.K (.ref (G.ca c)) = some (.type "type")
theorem dRaise0 {G : Gm} {Wx : WX} {c : Nat} (hG : X.K = G.K) (b : BareErr G X.mg x c) (tk : Takes X Wx) (hc : X.calm = true) (hg : X.env.kindOf x = some .globalImplicit) (hd : (x == ("__debug__" : Str)) = false) :
    PS X (.Raise (some (.Call (.Name x p) [] [] pos)) none p') (tS G Wx (mRaise0 c)) := by
  obtain ⟨⟨bmB, B, newId, initId, F, q⟩, gl, kp, h1, h2⟩ := b
  obtain ⟨K, ca⟩ := G
  subst hG
  refine (ps_raise hc tk (pmk_bare F q gl kp (raises_own h1 h2) hg hd)).weak fun D σ H ⟨μ, ρ, h, s, p⟩ => ?_
  exact p μ σ H (.ref (ca c)) none (Gr.refl s.rel) s ⟨rfl, .inl ⟨rfl, rfl⟩⟩
end
end ML

set_option maxHeartbeats 4000000
/-! an own error's __init__ that keeps a new list of its argument -/
namespace ML
open PySem L2
def mkL (f : Str) : MX := fun ws h => match (match ws with
    | [.ref i] => rd h i
    | [.tup us] => some us
    | _ => none) with
  | some us => some ([(f, .ref h.length)], h ++ [.lst us])
  | none => none
section
variable {G : Gm} {CX : CXT} {P : Program} {w : World} {mg : Str → Option Value} {base : Heap} {k : Nat} {f cc cda : Addr} {c : Nat} {name qual : Str} {params : Arguments} {m : Str} {j0 : Nat} {p0 p1 p2 p3 p4 p5 q1 q2 q3 q4 q5 q6 : Pos} {scope : Scope} {dV kV doc pm ct oc : Value} {an od : Option Addr}
    {osl : Array (Option Value)} {pn fn : Str}
theorem init_lst (lk : G.K.lookup f = some ⟨oc, od, .func (PySem.W.ksFn name qual params [.Expr (.Call (.Attribute (.Call (.Name "super" p0) [] [] p1) "__init__" p2) [.Constant (.str m) j0 p5] [] p3) p4, .Assign [.Attribute (.Name "self" q1) fn q2] (.Call (.Name "list" q5) [.Name pn q3] [] q6) q4] scope dV kV doc pm an (.ref cda) ct cc), osl⟩)
    (T : SupTxt G.K mg (G.ca c) f cc cda qual) (S : SupScope ["self", pn] ["self", pn] scope) (hfile : ((P.main.file : Str) == ("/claim/cut.py" : Str)) = true) (htop : (P.main.scope.names.lookup ("super" : Str)).isSome = false)
    (har : ∃ ar : Arg, (params.posonlyargs ++ params.args).head? = some ar ∧ ([("self" : Str), pn]).head? = some ar.arg)
    (hswap : ∀ env : Env, swapsWith (.Call (.Attribute (.Call (.Name "super" p0) [] [] p1) "__init__" p2) [.Constant (.str m) j0 p5] [] p3) none p4.line env = pure false)
    (hmeth : ∀ env : Env, eval (.Call (.Attribute (.Call (.Name "super" p0) [] [] p1) "__init__" p2) [.Constant (.str m) j0 p5] [] p3) env = (do
      let ov ← attributeBase (.Call (.Name "super" p0) [] [] p1) "__init__" env (eval (.Call (.Name "super" p0) [] [] p1) env)
      standAt p2.atName
      let (f, first) ← holding [ov] (getMethod ov "__init__" (pure false))
      callWith p3 f first (backTo p3 (starEach [.Constant (.str m) j0 p5] env)) []))
    (hstar : ∀ env : Env, starEach [.Constant (.str m) j0 p5] env = (false, eval (.Constant (.str m) j0 p5) env) :: starEach [] env)
    (hlist : mg "list" = none) (hls : scope.names.lookup ("list" : Str) = some NameKind.globalImplicit) (hsw2 : ∀ env : Env, swapsWith (.Call (.Name "list" q5) [.Name pn q3] [] q6) (some (.Attribute (.Name "self" q1) fn q2)) q4.line env = pure false)
    (hpn : (pn == ("__debug__" : Str)) = false ∧ (pn == ("__classdict__" : Str)) = false) (hfn : PySem.W.findIn G.K (.ref (G.ca c)) fn = some none) :
    FnOk P w G.K mg base CX (k + 1) f (PySem.W.ksFn name qual params [.Expr (.Call (.Attribute (.Call (.Name "super" p0) [] [] p1) "__init__" p2) [.Constant (.str m) j0 p5] [] p3) p4, .Assign [.Attribute (.Name "self" q1) fn q2] (.Call (.Name "list" q5) [.Name pn q3] [] q6) q4] scope dV kV doc pm an (.ref cda) ct cc) ["self", pn] (spX G c 1 (mkL fn)) := by
  refine fnS_of lk T S hfile htop har (fun vs H Q E z => ?_) hswap hmeth hstar fun A outer s H vs Q E hr hsp => ?_
  · obtain ⟨a, xs, μ, h, ws, fs, h2, rfl, hl, _⟩ := z
    simp [hl]
  · obtain ⟨a, xs, μ, h, ws, fs, h2, rfl, hl, ha, rel, off, rs, em, q⟩ := hsp
    have hpe : PE (cxS CX P w G.K mg base ["self", pn] qual scope f (.ref cda) cc A outer s H E) (.Constant (.str m) j0 p5) (tC (.str m)) := pe_str
    refine ⟨a, _, _, rfl, ha, hpe, pss_one (ps_ost (pvS (i := 0) rfl (S.par _ (by simp)) (by decide) (by decide)) (pe_callTy call_list_of hls hlist (by decide +kernel) (pa_cons (pvS (i := 1) rfl (S.par _ (by simp)) hpn.1 hpn.2) pa_nil) (by decide) (by decide)) (hsw2 _)), ha, ?_⟩
    unfold mkL at em
    split at em
    · rename_i us eu
      cases em
      have key : ∃ p ys, xs = [.ref p] ∧ (SqL G.K H p ys ∨ SqT G.K H p ys) ∧ RUs G.K μ h.length H us ys := by
        split at eu
        · rename_i i
          obtain ⟨v, rfl, r⟩ := rus1 rs
          simp only [RU] at r
          obtain ⟨_, rfl⟩ := r
          obtain ⟨ys, sq, rr⟩ := rd_ok rel eu
          exact ⟨_, ys, rfl, .inl sq, rr⟩
        · rename_i us'
          cases eu
          obtain ⟨v, rfl, r⟩ := rus1 rs
          simp only [RU] at r
          obtain ⟨b, ys, rfl, st, rr⟩ := r
          exact ⟨_, ys, rfl, .inr st, rr⟩
        · cases eu
      obtain ⟨p, ys, rfl, sq, rr⟩ := key
      refine ⟨.ref p, rfl, p, ys, rfl, sq, fun l nl => ?_⟩
      have nal : a ≠ l := ne_of_none ha nl
      have ha' : upd H l (.lst ys) a = some (exo a (G.ca c) none) := by rw [upd_ne nal]; exact ha
      have gD := Gr.new (o := .lst ys) (c := .lst us) rel nl ⟨ys, upd_same, RUs.mono (fun i hi => nu_old hi) (Nat.le_succ _) (TS0.fresh nl) _ _ rr⟩
      have off' : ExcOff (nu μ h.length l) (h ++ [.lst us]) a := fun i k fs e => by
        by_cases hi : i < h.length
        · rw [List.getElem?_append_left hi] at e
          rw [nu_old hi]
          exact off i k fs e
        · have h1 := (List.getElem?_eq_some_iff.mp e).1
          have h2 : i = h.length := by simp at h1; omega
          subst h2
          simp at e
      refine ⟨.ref a, rfl, a, G.ca c, rfl, T.ox, hfn, .inl ⟨ha', fun dx nd da => ?_⟩⟩
      exact q _ (upd H l (.lst ys)) dx [(fn, .ref l)] gD ha' off' nd da (fun b z => by
        by_cases hb : b = l
        · rw [hb, upd_same]; simp
        · rw [upd_ne hb]; exact z) (rf1 (by simp only [RU]; exact ⟨by simp, by rw [nu_new]⟩))
    · cases em
end
end ML

set_option maxHeartbeats 4000000
/-! from the function of the law's top to the promise -/
namespace ML
open PySem L2
def spLaw (K : PySem.W.Frag) : Sp := fun vs H Q _ => ∃ (a : Addr) (ns : List Int), vs = [.ref a] ∧ SqL K H a (ns.map V.int) ∧ ns.length ≤ 63 ∧ ∀ H', Q (.bl true) H'
theorem rus_ints {K : PySem.W.Frag} {μ : Nat → Addr} {n : Nat} {H : Hp} : ∀ ns : List Int, RUs K μ n H (ns.map U.int) (ns.map V.int)
  | [] => RUs.nil
  | n :: ns => RUs.cons (by simp only [RU]) (rus_ints ns)
theorem one_cell {G : Gm} {H : Hp} {a : Addr} {c : Cell} (r : RCell G (fun _ => a) 1 H a c) : HRel G (fun _ => a) [c] H := by
  refine ⟨fun i d e => ?_, fun i j d1 d2 e1 e2 _ _ _ => ?_⟩
  · have hi := (List.getElem?_eq_some_iff.mp e).1
    have hi : i = 0 := by simp at hi; exact hi
    subst hi
    cases e
    exact r
  · have hi := (List.getElem?_eq_some_iff.mp e1).1
    have hj := (List.getElem?_eq_some_iff.mp e2).1
    simp at hi hj
    omega
theorem law_to {P : Program} {w : World} {G : Gm} {mg : Str → Option Value} {base : Heap} {k : Nat} {f : Addr} {fd : FuncData} {x : Str} {m : MF} (F : FnM P w G mg base k f fd [x] m)
    (hm : ∀ (ns : List Int) (c : Cell), ns.length ≤ 63 → (c = .lst (ns.map U.int) ∨ c = .frz (ns.map U.int)) → ∃ h', m [.ref 0] [c] = some (.ok (.bl true) h')) : FnOk P w G.K mg base (L2.CX P w) k f fd [x] (spLaw G.K) :=
  FnOk.imp F fun vs H Q E ⟨a, ns, ev, sq, hl, q⟩ => by
    subst ev
    have fin : ∀ c, (c = .lst (ns.map U.int) ∨ c = .frz (ns.map U.int)) → RCell G (fun _ => a) 1 H a c → spM G [x].length m [.ref a] H Q E := fun c hc r => by
      obtain ⟨h', e⟩ := hm ns c hl hc
      refine ⟨fun _ => a, [c], [.ref 0], one_cell r, RUs.cons (by simp [RU]) RUs.nil, rfl, ?_⟩
      rw [e]
      intro μ' H' g v rv
      simp only [RU] at rv
      subst rv
      exact q H'
    rcases sq with (sq | ⟨o, sq⟩) | sq
    · exact fin _ (.inl rfl) ⟨_, sq, rus_ints ns⟩
    · exact fin _ (.inr rfl) ⟨_, .inl ⟨o, sq⟩, rus_ints ns⟩
    · exact fin _ (.inr rfl) ⟨_, .inr sq, rus_ints ns⟩
theorem law_walk {l : PySem.W.OpenLaw} {q : Program} {loose : List Str} {XP : (Str → Option Value) → Heap → Prop} {YP : World → Heap → Prop} {d : DefRec} {K : Params → PySem.W.Frag} {k : Nat} {x : Str} (hn : l.most = some 63) (hdf : d.params.defaults = []) (hk : Room k callerA)
    (hY : ∀ (w : World) (h : Heap), YP w h → (K w.params).In h)
    (F : ∀ (w : World) (mg : Str → Option Value) (fa : Addr) (h : Heap), (K w.params).In h → h.Ns mainGlobals mg → mg d.name = some (.ref fa) →
      ∃ fd : FuncData, (∀ (s : Shared) (u : Value), BindsTo s fd ⟨[u], []⟩ [(x, u)]) ∧ ∀ base : Heap, (K w.params).In base → base.Ns mainGlobals mg → FnOk l.prog w (K w.params) mg base (L2.CX l.prog w) k fa fd [x] (spLaw (K w.params))) :
    PySem.W.WalkO q loose XP YP l.row.toRowW d [] (fun f vs => PySem.call f vs) :=
  L2.walk_of (n := 63) (k := k) (x := x) (CX := fun w => L2.CX l.prog w) (sp := fun w => spLaw (K w.params)) hn (by decide) hdf hk hY F (fun _ _ a ns hl _ hS => ⟨a, ns, rfl, hS, hl, fun _ => rfl⟩)
    fun _ _ _ _ _ ⟨_, _, _, _, _, _, _, _, _, _, _, _, z⟩ => z
theorem mk1_ok {f : Str} : ∀ ws h r, mk1 f ws h = some r → True ∧ mk1 f ws h = some r := fun _ _ _ e => ⟨trivial, e⟩
theorem mk2_ok {f g : Str} : ∀ ws h r, mk2 f g ws h = some r → True ∧ mk2 f g ws h = some r := fun _ _ _ e => ⟨trivial, e⟩
theorem mk2s_ok {f g : Str} : ∀ ws h r, mk2s f g ws h = some r → (∃ s, ws[0]? = some (.str s) ∧ s.length ≤ LIM) ∧ mk2 f g ws h = some r := fun ws h r e => by
  unfold mk2s at e
  split at e
  · rename_i s u
    split at e
    · rename_i hl
      exact ⟨⟨s, rfl, hl⟩, e⟩
    · cases e
  · cases e
theorem mk2t_ok {f g : Str} : ∀ ws h r, mk2t f g ws h = some r → (∃ s, ws[1]? = some (.str s) ∧ s.length ≤ LIM) ∧ mk2 f g ws h = some r := fun ws h r e => by
  unfold mk2t at e
  split at e
  · rename_i w s
    split at e
    · rename_i hl
      exact ⟨⟨s, rfl, hl⟩, e⟩
    · cases e
  · cases e
theorem binds1 {K : PySem.W.Frag} {fd : FuncData} {x y : Str} (h : ∀ a b, bindArgs fd ⟨[a, b], []⟩ = pure [(x, a), (y, b)]) : Binds K fd [x, y] [] := fun s us _ hl => by
  match us, hl with
  | [a, b], _ => exact BindsTo.of_eq (h a b)
theorem binds2 {K : PySem.W.Frag} {fd : FuncData} {x y z : Str} (h : ∀ a b c, bindArgs fd ⟨[a, b, c], []⟩ = pure [(x, a), (y, b), (z, c)]) : Binds K fd [x, y, z] [] := fun s us _ hl => by
  match us, hl with
  | [a, b, c], _ => exact BindsTo.of_eq (h a b c)
theorem exm_of {K : PySem.W.Frag} {S T : Addr} {b : Bool} (h1 : PySem.W.subIn K (.ref S) (.type "BaseException") = some true) (h2 : PySem.W.isClsIn K S = true) (h3 : PySem.W.typeIn K (.ref S) = some (.type "type")) (h4 : PySem.W.subIn K (.ref T) (.ref S) = some b) :
    PySem.W.exmOne K (.ref T) (.ref S) = some b := by
  have h2' : (PySem.W.clsIn K S).isSome = true := h2
  unfold PySem.W.exmOne PySem.W.kitCls
  rw [h1, if_pos (by rfl)]
  simp only
  rw [h2', h3, if_pos (by rfl)]
  exact h4
theorem kit_of {K : PySem.W.Frag} {S T : Addr} {b : Bool} (h2 : PySem.W.isClsIn K S = true) (h3 : PySem.W.typeIn K (.ref S) = some (.type "type")) (h4 : PySem.W.subIn K (.ref T) (.ref S) = some b) (h5 : PySem.W.mroIn K S (.ref S) = some true) :
    PySem.W.kitOne K (.ref T) (.ref S) = some b := by
  have h2' : (PySem.W.clsIn K S).isSome = true := h2
  unfold PySem.W.kitOne
  split
  · rename_i e
    have e := eq_of_beq e
    cases e
    have h4 : PySem.W.mroIn K S (.ref S) = some b := h4
    rw [← h4, h5]
  · unfold PySem.W.kitCls
    simp only
    rw [h2', h3, if_pos (by rfl)]
    exact h4
theorem sup_of {K : PySem.W.Frag} {C D : Addr} {name nm q nm' q' : Str} {N N' : Addr} {bs bs' bm' : List Value} {sn sn' : List Str} {sub sub' : List Value} {ab ab' : Bool} {col col' : Option Bool} {dd dd' : Option Addr} {m0 m1 m2 m3 m5 m0' m1' m2' m3' m5' : Option Value} {w w' : String} {r : Option Value}
    (x : K.lookup C = some (excClassObj nm q C N bs (.ref D :: bm') true sn sub ab col dd m0 m1 m2 m3 m5 w)) (y : K.lookup D = some (excClassObj nm' q' D N' bs' bm' true sn' sub' ab' col' dd' m0' m1' m2' m3' m5' w'))
    (f : PySem.W.findIn K (.ref D) name = some r) : PySem.W.ks_superIn K C C name = some r := by
  unfold PySem.W.ks_superIn PySem.W.clsIn
  unfold PySem.W.findIn at f
  rw [x]
  simp only [excClassObj] at y f ⊢
  rw [y] at f
  simp only at f
  simp only [Option.bind_some]
  have : (Value.ref C != Value.ref C) = false := by simp
  rw [List.dropWhile_cons, this]
  exact f
theorem cls_of {K : PySem.W.Frag} {S : Addr} (h : PySem.W.isClsIn K S = true) : (PySem.W.clsIn K S).isSome = true := h
theorem kit_b {K : PySem.W.Frag} {C : Addr} {T : String} {b : Bool} (hT : PySem.W.kitMeta T = true) (h : PySem.W.subIn K (.ref C) (.type T) = some b) : PySem.W.kitOne K (.ref C) (.type T) = some b := by
  unfold PySem.W.kitOne
  split
  · rename_i e
    have e := eq_of_beq e
    cases e
  · unfold PySem.W.kitCls
    simp only
    rw [if_pos hT]
    exact h
end ML

set_option maxHeartbeats 4000000
/-! tables of own errors, built row by row -/
namespace ML
open PySem L2
section
variable {G : Gm} {f : Str} {a b c : Nat} {cv : Value} {t : Nat → Option Bool} {k : Bool}
def AtE (G : Gm) (f : Str) (a : Nat) : Prop := ExcK G.K (G.ca a) ∧ PySem.W.findIn G.K (.ref (G.ca a)) f = some none
theorem atx0 : AtX G f (fun _ => false) (fun _ => false) := ⟨fun c hc => (nomatch hc), fun c hc => (nomatch hc)⟩
theorem atx1 (h : AtE G f a) : AtX G f (fun _ => false) (fun c => decide (c = a)) := ⟨fun c hc => (nomatch hc), fun c hc => by rw [of_decide_eq_true hc]; exact h⟩
theorem atxN {e : Nat → Bool} (h : AtX G f (fun _ => false) e) (q : AtE G f a) : AtX G f (fun _ => false) (fun c => e c || decide (c = a)) := ⟨fun c hc => (nomatch hc), fun c hc => by
  rcases Bool.or_eq_true_iff.mp hc with hc | hc
  · exact h.exc c hc
  · rw [of_decide_eq_true hc]; exact q⟩
theorem tak_nil : TakC G (fun _ => none) cv := fun k b h => (nomatch h)
theorem tak_cons (h : PySem.W.exmOne G.K (.ref (G.ca a)) cv = some k) (q : TakC G t cv) : TakC G (fun c => if c = a then some k else t c) cv := fun c b e => by
  have e : (if c = a then some k else t c) = some b := e
  by_cases hc : c = a
  · subst hc
    rw [if_pos rfl] at e
    cases e
    exact h
  · rw [if_neg hc] at e
    exact q c b e
def tabX (t : Nat → Option Bool) : TyK → Option Bool
  | .exc c => t c
  | _ => none
/-- what the table says is so -/
def KitT (G : Gm) (t : Nat → Option Bool) (u : Value) : Prop := ∀ c b, t c = some b → PySem.W.kitOne G.K (.ref (G.ca c)) u = some b ∧ ExcK G.K (G.ca c)
theorem kit_nil : KitT G (fun _ => none) cv := fun k b h => (nomatch h)
theorem kit_cons (h : PySem.W.kitOne G.K (.ref (G.ca a)) cv = some k) (e : ExcK G.K (G.ca a)) (q : KitT G t cv) : KitT G (fun c => if c = a then some k else t c) cv := fun c b z => by
  have z : (if c = a then some k else t c) = some b := z
  by_cases hc : c = a
  · subst hc
    rw [if_pos rfl] at z
    cases z
    exact ⟨h, e⟩
  · rw [if_neg hc] at z
    exact q c b z
theorem isi_tab {v : V} (cl : ClsV v cv) (q : KitT G t cv) : IsiC G (tabX t) v cv := ⟨cl, fun k b h => by
  cases k with
  | exc c => exact (q c b h).1
  | _ => (cases h), fun c b h => (nomatch h), fun c b h => (q c b h).2⟩
end
end ML

set_option maxHeartbeats 4000000
/-! own classes: making, methods, attributes, own comparisons, as they are printed -/
namespace ML
open PySem L2
section
variable {X : Cx} {G : Gm} {Wx : WX} {e a b o : Expr} {es : List Expr} {x f m : Str} {pos p p' apos : Pos} {ma mb mo : ME} {mas : MA}
theorem dSetAt {ok : Nat → Bool} (hG : X.K = G.K) (t : AtC G f ok) (he : PE X e (tE G Wx ma)) (ho : PE X o (tE G Wx mo)) (hs : swapsWith e (some (.Attribute o f p')) pos.line X.env = pure false) : PS X (.Assign [.Attribute o f p'] e pos) (tS G Wx (mSetAt f ok mo ma)) := by
  have r := ps_fld ho he hs
  rw [hG] at r
  exact r.weak (w_setAt t)
/-- an own class that is made by its own __init__ -/
structure OwnCls (P : Program) (w : World) (G : Gm) (mg : Str → Option Value) (base : Heap) (x : Str) (k c n : Nat) (m : MF) : Prop where
  gl : mg x = some (.ref (G.ca c))
  ex : ∃ fI fd ps, Mk G.K (G.ca c) fI ∧ Binds G.K fd ps [] ∧ ps.length = n + 1 ∧ FnM P w G mg base k fI fd ps m
theorem dMake {k j c n : Nat} {mf : MF} (hG : X.K = G.K) (oc : OwnCls X.prog X.w G X.mg X.base x k c n mf) (hr : Room j X.A) (hk : k + 1 ≤ j) (tk : Takes X Wx) (ha : PA X (e :: es) (tA G Wx mas)) (al : AL mas n) (hg : X.env.kindOf x = some .globalImplicit) (hd : (x == ("__debug__" : Str)) = false) (so : StarOk X pos e es) :
    PE X (.Call (.Name x p) (e :: es) [] pos) (tE G Wx (mMake c mf mas)) := by
  obtain ⟨fI, fd, ps, M, hb, hl, F⟩ := oc.ex
  have gl := oc.gl
  unfold FnM at F
  rw [hl] at F
  obtain ⟨K, ca⟩ := G
  subst hG
  exact (pe_makeS M F (hr.mono hk) hg gl hb (passAt tk) ha hd so.s so.p).weak (w_make al)
/-- a method of an own class -/
structure OwnMeth (P : Program) (w : World) (G : Gm) (mg : Str → Option Value) (base : Heap) (m : Str) (k c n : Nat) (mf : MF) : Prop where
  cl : Cls G.K (G.ca c)
  ex : ∃ f fd ps, Meth G.K (G.ca c) m f ∧ Binds G.K fd ps [] ∧ ps.length = n + 1 ∧ FnM P w G mg base k f fd ps mf
theorem dMeth {k j c n : Nat} {mf : MF} {pl : Sem Bool} (hG : X.K = G.K) (om : OwnMeth X.prog X.w G X.mg X.base m k c n mf) (hr : Room j X.A) (hk : k ≤ j) (tk : Takes X Wx) (ho : PE X o (tE G Wx mo)) (ha : PA X (e :: es) (tA G Wx mas)) (al : AL mas n) (so : StarOk X pos e es)
    (ht : eval (.Call (.Attribute o m apos) (e :: es) [] pos) X.env = (do
      let ov ← eval o X.env
      standAt apos.atName
      let (f, first) ← holding [ov] (getMethod ov m pl)
      callWith pos f first (backTo pos (starEach (e :: es) X.env)) (backToKw pos (keywordEach [] X.env)))) :
    PE X (.Call (.Attribute o m apos) (e :: es) [] pos) (tE G Wx (mMeth c m mf mo mas)) := by
  obtain ⟨f, fd, ps, M, hb, hl, F⟩ := om.ex
  have cl := om.cl
  unfold FnM at F
  rw [hl] at F
  obtain ⟨K, ca⟩ := G
  subst hG
  exact (pe_methS ho cl M F (hr.mono hk) hb (passAt tk) ha so.s so.p ht).weak (w_meth al)
/-- x op y by an own def of the class of x -/
def rOwnI (K : PySem.W.Frag) (C : Addr) (sp : Sp) : R2 := fun x y H Q => ∃ a dx fs b C' dy gs, x = .ref a ∧ y = .ref b ∧ H a = some (.ins C dx fs) ∧ H b = some (.ins C' dy gs) ∧ PySem.W.notFirst K C (.ref C') = true ∧ sp [x, y] H Q fun _ _ _ => False
theorem typ_ins {pins : List (Addr × Obj)} {σ : L2.St} {H : Hp} {s : Shared} {a C dx : Addr} {fs : List (Str × V)} (I : L2.Inv X pins σ H s) (h : H a = some (.ins C dx fs)) : ∃ od, PySem.W.InstAt s.heap a (PySem.W.instObj C dx) C (some od) := by
  obtain ⟨mA, O, _⟩ := ins_get I.hok h
  obtain ⟨od, J, _⟩ := O.look
  exact ⟨od, J⟩
theorem back_of {P : Value → Shared → Prop} {z : V} {v : Value} {s' : Shared} (r : RelV z v) (h : P v s') : PySem.W.CmpBack P v s' := by
  unfold PySem.W.CmpBack
  split
  · exfalso
    cases z <;> first | (exact Value.noConfusion r; done) | (obtain ⟨t, r⟩ := r; exact Value.noConfusion r; done) | skip
    all_goals (first | (exact Value.noConfusion (show _ = _ from r); done) | (obtain ⟨t, r⟩ := (show ∃ t, _ = _ from r); exact Value.noConfusion r; done) | cases r)
  · exact h
theorem op_ownI {CX : CXT} {C g : Addr} {k : Nat} {fd : FuncData} {ps : List Str} {sp : Sp} {op : CmpOp} (hop : ∀ a b, compareOp op a b = richCompare op a b) (hs : PySem.W.findIn X.K (.ref C) (cmpInfo op).2.1 = some (some (.ref g))) (hf : PySem.W.isFn X.K (.ref g) = true)
    (F : FnOk X.prog X.w X.K X.mg X.base CX k g fd ps sp) (hr : Room k X.A) (hb : Binds X.K fd ps []) (hx : ∀ σ, PassesAt CX X σ fun _ _ _ => False) : OpR X (compareOp op) (rOwnI X.K C sp) := by
  intro pins s σ H x y v u Q I rx ry h
  obtain ⟨a, dx, fs, b, C', dy, gs, rfl, rfl, ha, hb2, hn, q⟩ := h
  obtain rfl : v = Value.ref a := rx
  obtain rfl : u = Value.ref b := ry
  obtain ⟨od, J⟩ := typ_ins I ha
  obtain ⟨od', J'⟩ := typ_ins I hb2
  obtain ⟨m, fr⟩ := I.fr
  rw [hop]
  refine PySem.W.cmp_K hr.units0 fr I.ok.mod.kin J J'.type hn hs hf (wpAny_mono (run_fnS (E := fun _ _ _ _ => False) (us := [.ref a, .ref b]) (vs := [.ref a, .ref b]) F hr hb (hx σ) I (.cons rfl (.cons rfl .nil)) q) (fun w s' z => ?_) fun _ _ z => z)
  obtain ⟨z', H', I', rz, qz⟩ := z
  exact back_of rz ⟨z', H', I', rz, qz⟩
end
end ML

set_option maxHeartbeats 4000000
/-! x != y where the class of x has an own __eq__ alone -/
namespace ML
open PySem PySem.Spec PyProof.Rows L2
section
variable {prog : Program} {w : World} {A : Around} {E : Value → Shared → Prop} {s : Shared} {K : PySem.W.Frag} {x C : Addr} {ox : Obj} {od : Option Obj}
theorem bound_B {M : Model} {name : Str} {id : String} {args : List Value} {Q : Option Value → Shared → Prop} (hK : K.In s.heap) (J : PySem.W.InstAt s.heap x ox C od) (hs : PySem.W.findIn K (.ref C) name = some (some (.builtin id)))
    (hbind : ∀ self, bindSpecial (.builtin id) self = pure (.builtin id, [self])) (h : wpAny M A (call (.builtin id) (.ref x :: args)) (fun v => Q (some v)) E s) : wpAny M A (callSpecialIfBound? (.ref x) name args) Q E s := by
  unfold callSpecialIfBound?
  simp only [bindSpecialIfBound?]
  apply wpAny_holding
  refine wpAny_bind (wpAny_bind (wpAny_bind (J.type.here ((PySem.W.looks_findIn hK hs).here ?_))))
  simp only [hbind]
  refine wpAny_bind (wpAny_askSetting (wpAny_ite ?_))
  have done : wpAny M A (do let v ← call (.builtin id) ([.ref x] ++ args); pure (some v)) Q E s := by
    refine wpAny_bind (wpAny_mono h (fun v s' z => ?_) fun _ _ z => z)
    exact wpAny_pure z
  split
  · exact wpAny_bind (wpAny_pure (wpAny_pure (by exact done)))
  · exact wpAny_tryCatch (wpAny_bind (wpAny_pure (wpAny_pure (by exact done))))
/-- object.__ne__ over an own __eq__ that answers a truth value -/
theorem ne_entry {M : Model} {g : Addr} {b : Value} {Q : Fin → Shared → Prop} (hu : A.units < cLine) (hK : K.In s.heap) (J : PySem.W.InstAt s.heap x ox C od) (hs : PySem.W.findIn K (.ref C) "__eq__" = some (some (.ref g))) (hf : PySem.W.isFn K (.ref g) = true)
    (h : wpAny M A (call (.ref g) [.ref x, b]) (fun v s' => ∃ k, v = .bool k ∧ Q (.done (.ret (.bool !k))) s') E s) : wpAny M A (Builtin.«object.__ne__» ⟨[.ref x, b], []⟩) Q E s := by
  unfold Builtin.«object.__ne__»
  repeat (first | with_reducible refine wpAny_cRoomFor hu ?_ | with_reducible refine PySem.W.ifBound_K hK J hs hf (wpAny_mono h ?_ fun _ _ z => z) | wp_step)
  rintro v s' ⟨k, rfl, q⟩
  repeat wp_step
  exact q
/-- x op y by what the class of x has for it -/
theorem rich_one {op : CmpOp} {Q : Value → Shared → Prop} {b tb : Value} (hu : A.units < cLine) (hK : K.In s.heap) (J : PySem.W.InstAt s.heap x ox C od) (hb : PySem.W.Looks (model prog w) s.heap (typeOf b) tb) (hn : PySem.W.notFirst K C tb = true)
    (one : wpAny (model prog w) A (tryCompare (.ref x) (cmpInfo op).2.1 b) (fun r s' => ∃ v, r = some v ∧ Q v s') E s) : wpAny (model prog w) A (richCompare op (.ref x) b) Q E s := by
  have fin : ∀ {r : Option Value} {s' : Shared}, (∃ v, r = some v ∧ Q v s') → ∃ v, r = some v ∧ Q v s' := fun z => z
  unfold richCompare
  simp only [oneThing_ref]
  apply wpAny_holding
  refine wpAny_bind (wpAny_cRoomFor hu (wpAny_bind (J.type.here (wpAny_bind (hb.here ?_)))))
  split
  · rename_i q
    have e : PySem.W.subIn K tb (.ref C) = some false := by
      unfold PySem.W.notFirst at hn
      rcases Bool.or_eq_true_iff.mp hn with e | e
      · have e := eq_of_beq e
        subst e
        simp at q
      · exact eq_of_beq e
    refine wpAny_bind ((PySem.W.looks_subIn hK e).here ?_)
    simp only [Bool.false_eq_true, if_false]
    refine wpAny_bind (wpAny_mono one (fun r s' z => ?_) fun _ _ z => z)
    obtain ⟨v, rfl, z⟩ := z
    exact wpAny_pure z
  · refine wpAny_bind (wpAny_pure ?_)
    simp only [Bool.false_eq_true, if_false]
    refine wpAny_bind (wpAny_mono one (fun r s' z => ?_) fun _ _ z => z)
    obtain ⟨v, rfl, z⟩ := z
    exact wpAny_pure z
end
section
variable {X : Cx}
def rNeI (K : PySem.W.Frag) (C : Addr) (sp : Sp) : R2 := fun x y H Q => ∃ a dx fs b C' dy gs, x = .ref a ∧ y = .ref b ∧ H a = some (.ins C dx fs) ∧ H b = some (.ins C' dy gs) ∧ PySem.W.notFirst K C (.ref C') = true ∧ sp [x, y] H (fun z H' => ∃ k, z = .bl k ∧ Q (.bl !k) H') fun _ _ _ => False
theorem passN {X : Cx} {E : XK} (hE : ∀ c d H, ¬ E c d H) : Passes (L2.CX X.prog X.w) X E := by
  intro pins σ H s e s' I h
  obtain ⟨_, _, H', cls, d, _, _, _, _, _, _, _, z⟩ := h
  exact (hE _ _ _ z).elim
theorem op_neI {C g : Addr} {k : Nat} {fd : FuncData} {ps : List Str} {sp : Sp} (hne : PySem.W.findIn X.K (.ref C) "__ne__" = some (some (.builtin "object.__ne__"))) (hs : PySem.W.findIn X.K (.ref C) "__eq__" = some (some (.ref g))) (hf : PySem.W.isFn X.K (.ref g) = true)
    (hobj : PySem.W.subIn X.K (.ref C) (.type "object") = some true) (FO : FnOk X.prog X.w X.K X.mg X.base (L2.CX X.prog X.w) k g fd ps sp) (hr : Room (k + 2) X.A) (hb : Binds X.K fd ps []) : OpR X (compareOp .NotEq) (rNeI X.K C sp) := by
  intro pins s σ H x y v u Q I rx ry h
  obtain ⟨a, dx, fs, b, C', dy, gs, rfl, rfl, ha, hb2, hn, q⟩ := h
  obtain rfl : v = Value.ref a := rx
  obtain rfl : u = Value.ref b := ry
  obtain ⟨od, J⟩ := typ_ins I ha
  obtain ⟨od', J'⟩ := typ_ins I hb2
  have hu := hr.units0
  have hr1 : Room (k + 1) X.A.in1 := hr.in1
  have hr2 : Room k X.A.in1.in1 := hr1.in1
  have FR : FnR X.prog X.w X.K X.mg X.base (L2.CX X.prog X.w) k g sp := fun A outer s H us vs Q E r e v z => FO.run A outer s H ⟨us, []⟩ us vs Q E r e (by
    have hl : (us ++ []).length = ps.length := by rw [List.append_nil, ← v.length]; exact FO.len vs H Q E z
    have := hb s us (e.mod.kin.keeps fun b o q => (e.bs b o q).1) hl
    rw [List.append_nil] at this
    exact this) v z
  show wpAny _ _ (richCompare .NotEq (.ref a) (.ref b)) _ _ _
  refine rich_one hu I.kIn J J'.type hn ?_
  unfold tryCompare
  refine wpAny_bind (bound_B I.kIn J hne F.cmp_object.ne.bind ?_)
  refine wpAny_call (codeAny_call_builtin F.cmp_object.ne.plain F.cmpEntry_ne (PySem.W.check_slot F.cmpKind_ne F.cmpSplit_ne (J.type.andThen (PySem.W.looks_subIn I.kIn hobj)) (F.cmpArgs_ne _ _) ?_))
  refine ne_entry (A := X.A.in1) hr1.units0 I.kIn J hs hf (wpAny_mono (wpAny_call (SlX.run_at (us := [.ref a, .ref b]) (ws := [.ref a, .ref b]) FR (hr1.mono (Nat.le_succ _)) I.env0.in1 (passN fun _ _ _ z => z) I (.cons rfl (.cons rfl .nil)) q)) (fun v s' z => ?_) fun _ _ z => z)
  obtain ⟨z', H', I', rz, k', rfl, qz⟩ := z
  obtain rfl : v = Value.bool k' := rz
  refine ⟨k', rfl, ?_⟩
  exact wpAny_pure ⟨_, rfl, .bl !k', H', I', rfl, qz⟩
end
end ML

set_option maxHeartbeats 4000000
/-! == and != by an own __eq__, as computations -/
namespace ML
open PySem L2
def oOwnEq (c : Nat) (nf : Nat → Bool) (mf : MF) : O2 := fun x y h => match x, y with
  | .ref i, .ref j => match h[i]?, h[j]? with
    | some (.ins c1 _), some (.ins c2 _) => if (decide (c1 = c) && nf c2) = true then noEx (mf [.ref i, .ref j] h) else none
    | _, _ => none
  | _, _ => none
def notW (w : U) (h : Hm) : Option (Rz U) := match w with
  | .bl k => some (.ok (.bl !k) h)
  | _ => none
def oOwnNe (c : Nat) (nf : Nat → Bool) (mf : MF) : O2 := fun x y h => match x, y with
  | .ref i, .ref j => match h[i]?, h[j]? with
    | some (.ins c1 _), some (.ins c2 _) => if (decide (c1 = c) && nf c2) = true then bnd (noEx (mf [.ref i, .ref j] h)) notW else none
    | _, _ => none
  | _, _ => none
section
variable {G : Gm} {c : Nat} {nf : Nat → Bool} {mf : MF}
theorem oOwnEq_ok (hn : ∀ d, nf d = true → PySem.W.notFirst G.K (G.ca c) (.ref (G.ca d)) = true) : OpC G (oOwnEq c nf mf) (rOwnI G.K (G.ca c) (spM G 2 mf)) := fun E μ h H wx wy x y Q rel rx ry p => by
  unfold oOwnEq at p
  split at p
  · rename_i i j
    split at p
    · rename_i c1 f1 c2 f2 e1 e2
      split at p
      · rename_i hc
        simp only [Bool.and_eq_true, decide_eq_true_eq] at hc
        obtain ⟨rfl, hc2⟩ := hc
        have rx' := rx
        have ry' := ry
        simp only [RU] at rx' ry'
        obtain ⟨_, rfl⟩ := rx'
        obtain ⟨_, rfl⟩ := ry'
        obtain ⟨dx, gs, ea, _⟩ := rel.cell i _ e1
        obtain ⟨dy, gs2, eb, _⟩ := rel.cell j _ e2
        exact ⟨_, dx, gs, _, _, dy, gs2, rfl, rfl, ea, eb, hn c2 hc2, μ, h, [.ref i, .ref j], rel, RUs.cons rx (RUs.cons ry RUs.nil), rfl, p.noEx⟩
      · exact False.elim p
    · exact False.elim p
  · exact False.elim p
theorem oOwnNe_ok (hn : ∀ d, nf d = true → PySem.W.notFirst G.K (G.ca c) (.ref (G.ca d)) = true) : OpC G (oOwnNe c nf mf) (rNeI G.K (G.ca c) (spM G 2 mf)) := fun E μ h H wx wy x y Q rel rx ry p => by
  unfold oOwnNe at p
  split at p
  · rename_i i j
    split at p
    · rename_i c1 f1 c2 f2 e1 e2
      split at p
      · rename_i hc
        simp only [Bool.and_eq_true, decide_eq_true_eq] at hc
        obtain ⟨rfl, hc2⟩ := hc
        have rx' := rx
        have ry' := ry
        simp only [RU] at rx' ry'
        obtain ⟨_, rfl⟩ := rx'
        obtain ⟨_, rfl⟩ := ry'
        obtain ⟨dx, gs, ea, _⟩ := rel.cell i _ e1
        obtain ⟨dy, gs2, eb, _⟩ := rel.cell j _ e2
        refine ⟨_, dx, gs, _, _, dy, gs2, rfl, rfl, ea, eb, hn c2 hc2, μ, h, [.ref i, .ref j], rel, RUs.cons rx (RUs.cons ry RUs.nil), rfl, ?_⟩
        refine ((Post.bnd p).noEx).mono fun μ' h' H' w g q v rv => ?_
        unfold notW at q
        split at q
        · rename_i k
          simp only [RU] at rv
          exact ⟨k, rv, Post.ok g.rel q _ rfl⟩
        · exact False.elim q
      · exact False.elim p
    · exact False.elim p
  · exact False.elim p
end
/-- an own class with an own __eq__ -/
structure OwnEq (P : Program) (w : World) (G : Gm) (mg : Str → Option Value) (base : Heap) (k c : Nat) (nf : Nat → Bool) (mf : MF) : Prop where
  ex : ∃ f fd ps, PySem.W.findIn G.K (.ref (G.ca c)) "__eq__" = some (some (.ref f)) ∧ PySem.W.isFn G.K (.ref f) = true ∧ Binds G.K fd ps [] ∧ ps.length = 2 ∧ FnM P w G mg base k f fd ps mf
  ne : PySem.W.findIn G.K (.ref (G.ca c)) "__ne__" = some (some (.builtin "object.__ne__"))
  obj : PySem.W.subIn G.K (.ref (G.ca c)) (.type "object") = some true
  nf : ∀ d, nf d = true → PySem.W.notFirst G.K (G.ca c) (.ref (G.ca d)) = true
section
variable {X : Cx} {G : Gm} {Wx : WX} {a b : Expr} {pos : Pos} {ma mb : ME} {k j c : Nat} {nf : Nat → Bool} {mf : MF}
theorem dEqO (hG : X.K = G.K) (oe : OwnEq X.prog X.w G X.mg X.base k c nf mf) (hr : Room j X.A) (hk : k + 2 ≤ j) (ha : PE X a (tE G Wx ma)) (hb : PE X b (tE G Wx mb)) : PE X (.Compare a [.Eq] [b] pos) (tE G Wx (mOp (oOwnEq c nf mf) ma mb)) := by
  obtain ⟨f, fd, ps, h1, h2, hbd, hl, F⟩ := oe.ex
  have hn := oe.nf
  unfold FnM at F
  rw [hl] at F
  obtain ⟨K, ca⟩ := G
  subst hG
  exact (pe_cmpR (op_ownI (fun _ _ => rfl) h1 h2 F (hr.mono (by omega)) hbd fun σ => fun _ _ _ _ _ I h => by
    obtain ⟨_, _, H', cls, d, _, _, _, _, _, _, _, z⟩ := h
    exact z.elim) ha hb (nomark _)).weak (w_op (oOwnEq_ok hn))
theorem dNeO (hG : X.K = G.K) (oe : OwnEq X.prog X.w G X.mg X.base k c nf mf) (hr : Room j X.A) (hk : k + 2 ≤ j) (ha : PE X a (tE G Wx ma)) (hb : PE X b (tE G Wx mb)) : PE X (.Compare a [.NotEq] [b] pos) (tE G Wx (mOp (oOwnNe c nf mf) ma mb)) := by
  obtain ⟨f, fd, ps, h1, h2, hbd, hl, F⟩ := oe.ex
  have hn := oe.nf
  have h3 := oe.ne
  have h4 := oe.obj
  unfold FnM at F
  rw [hl] at F
  obtain ⟨K, ca⟩ := G
  subst hG
  exact (pe_cmpR (op_neI h3 h1 h2 h4 F (hr.mono hk) hbd) ha hb (nomark _)).weak (w_op (oOwnNe_ok hn))
end
end ML

set_option maxHeartbeats 4000000
/-! try with several clauses, each with a name; what is caught is tracked -/
namespace ML
open PySem PySem.Spec PyProof.Rows L2
def wManyT (K : PySem.W.Frag) (Wout : WX) (D : Ends) : List (Value × Nat × TS) → WX
  | [] => Wout
  | (c, i, ts) :: l => fun cls d σ H => ∃ b, PySem.W.exmOne K cls c = some b ∧
    (b = true → ∀ a, H a = none → ts { nx := fun σ' H' => D.nx (σ'.set i none) H', rt := D.rt, bk := fun σ' H' => D.bk (σ'.set i none) H', ct := fun σ' H' => D.ct (σ'.set i none) H' } (σ.set i (some (.ref a))) (upd H a (ExV cls d a))) ∧
    (b = false → wManyT K Wout D l cls d σ H)
inductive HdT (X : Cx) : List ExceptHandler → List (Value × Nat × TS) → Prop where
  | nil : HdT X [] []
  | cons {x n : Str} {c : Value} {i : Nat} {suite : List Stmt} {b₀ : Stmt} {np pos' : Pos} {hds : List ExceptHandler} {l : List (Value × Nat × TS)} {ts : TS} (hc : Names X x c) (hi : X.N[i]? = some n) (hln : X.env.kindOf n = some .local)
      (hsu : ∀ (a : Addr) (pn : List (Addr × Obj)), PSs (X.suite a pn) (b₀ :: suite) ts) (r : HdT X hds l) : HdT X (.ExceptHandler (some (.Name x np)) (some n) (b₀ :: suite) pos' :: hds) ((c, i, ts) :: l)
section
variable {X : Cx} {body : List Stmt} {pos : Pos} {tb : WX → TS} {Wout : WX} {hds : List ExceptHandler} {l : List (Value × Nat × TS)}
theorem ps_try_manyT {h₀ : ExceptHandler} (hs : X.stack = X.env :: X.outer) (hf : X.env.frame = some X.env.locals) (hex : X.ex = []) (hN : X.N.Nodup) (tk : Takes X Wout)
    (hb : ∀ (W : WX) (pn : List (Addr × Obj)) (xe : Value → Shared → Prop), Takes (X.tr pn xe) W → PassesOwn (model X.prog X.w) X.A X.env xe → PSs (X.tr pn xe) body (tb W)) (hh : HdT X (h₀ :: hds) l) :
    PS X (.Try body (h₀ :: hds) [] [] pos) (fun D σ H => tb (wManyT X.K Wout D l) D σ H) := by
  refine ⟨fun pins s σ H D I h => ?_⟩
  have ok := I.ok
  have hfr : X.A.frames = some (X.env :: X.outer) := by rw [ok.frames, hs]
  refine wpAny_Try_except ?_
  refine wpAny_mono ((hb (wManyT X.K Wout D l) (X.pn ++ pins) (fun e s₁ => wpAny (model X.prog X.w) X.A (noteFrame e X.env) (fun _ s₂ => wpAny (model X.prog X.w) X.A (setFlight e none) (fun _ s₃ =>
    wpAny (model X.prog X.w) X.A (handleBy e X.env (h₀ :: hds)) (SP X pins D) X.xe s₃) X.xe s₂) X.xe s₁) (fun u s' xx => ?_) PassesOwn.looking).run [] s σ H D (I.toTry _) h) (fun f s1 hsp => ?_) (fun e s1 he => he)
  · obtain ⟨a, B, sI, pins', σ', H', cls, d, rfl, J', nb, up, sky, na, os, ag, wish⟩ := xx
    have J : Inv X pins σ' H' sI := J'.ofTry ok
    have sky' : Sky B (X.env :: X.outer) a (Zc cls d) X.env.locals s'.heap := by rw [← hs]; exact sky
    show wpAny (model X.prog X.w) X.A (noteFrame (.ref a) X.env) _ _ _
    refine Sky.land Zc.steady hfr hf sky' fun h3 fl3 up3 => ?_
    have J3 : Inv X pins σ' H' { s' with heap := h3 } := J.landed nb fl3.1 (up.trans up3) os ag
    obtain ⟨oe3, vs3, he3, hz3, hd3⟩ := fl3.there
    have notFr : ∀ {h : Heap} {o : Obj} {vs : Array Value}, h.FunFrames B (X.env :: X.outer) → h.get? a = some o → o.data = .fields vs → a ∉ frs (X.env :: X.outer) := fun {h o vs} ff e dd hm => by
      obtain ⟨_, o', e', hnf⟩ := ff.mem hm
      rw [e] at e'; cases e'
      exact hnf _ dd
    have nfr := notFr fl3.2.2.1 he3 hd3
    have nL : a ≠ X.env.locals := fun z => nfr (List.mem_filterMap.mpr ⟨X.env, List.mem_cons_self, by rw [hf, z]⟩)
    have nF : a ∉ X.fs := fun hm => by
      obtain ⟨e, he, q⟩ := List.mem_filterMap.mp hm
      exact nfr (List.mem_filterMap.mpr ⟨e, List.mem_cons_of_mem _ he, q⟩)
    -- it is none of what stood before it was made
    have nI : sI.heap.get? a = none := by
      cases q : sI.heap.get? a with
      | none => rfl
      | some o =>
        have z := nb a o q (by rw [hs]; exact nfr)
        rw [fl3.2.1] at z
        cases z
    have n0 : X.s_0.heap.get? a = none := by
      cases q : X.s_0.heap.get? a with
      | none => rfl
      | some o =>
        obtain ⟨o', z⟩ := J.base.there a o q (by rw [hex]; exact fun z => nomatch z)
        rw [nI] at z
        cases z
    have nP : ∀ p ∈ X.pn ++ pins, p.1 ≠ a := fun p hp z => by
      have q := (J.pin p hp).1
      rw [z, nI] at q
      cases q
    have nC : ∀ x c, X.env.cells.lookup x = some c → c ≠ a := fun x c e z => by
      obtain ⟨v, o, q, _⟩ := J.cell x c e
      rw [z, nI] at q
      cases q
    have key : ∀ {hds : List ExceptHandler} {l : List (Value × Nat × TS)}, HdT X hds l → wManyT X.K Wout D l cls d σ' H' → wpAny (model X.prog X.w) X.A (handleBy (.ref a) X.env hds) (SP X pins D) X.xe { s' with heap := h3 } := by
      intro hds l hh
      induction hh with
      | nil =>
        intro wish
        refine wpAny_handleBy_nil ?_
        obtain ⟨k1, k2, k3, oe, vs, T, oT, ts', he, hz, hd, h1, hr⟩ := id fl3
        unfold PySem.passOn
        refine wpAny_bind (wpAny_field he hd h1 ?_)
        rw [if_neg (show ¬ ((Value.ref T == Value.none) = true) from by simp)]
        have fin : wpAny (model X.prog X.w) X.A (setFlight (.ref a) X.env.frame) (fun _ s4 => wpAny (model X.prog X.w) X.A (throw (.ref a) : Sem Flow) (SP X pins D) X.xe s4) X.xe { s' with heap := h3 } := by
          rw [hf]
          refine HandSPX.setFlight_upZ fl3 fun h4 hh4 up4 => wpAny_throw (tk _ _ ?_)
          exact ⟨a, B, sI, pins, σ', H', cls, d, rfl, J, nb, (up.trans up3).trans up4, .inr (.inr (by rw [hs]; exact hh4)), na, os, ag, wish⟩
        first
          | exact wpAny_bind (wpAny_pure (wpAny_bind fin))
          | exact wpAny_bind fin
      | cons hc hi hln hsu _ ih =>
        rename_i x n c i suite b₀ np pos' hds l ts _r
        intro wish
        obtain ⟨b, hb1, hyes, hno⟩ := wish
        have hloc : Loc X.env.scope n := .inl hln
        refine wpAny_handleBy_cons (codeAny_handlers_test ?_) (by intro q; cases q)
        have LT : PySem.W.Looks (model X.prog X.w) h3 (typeOf (.ref a)) cls := fun A Q E s k q => wpAny_typeOf_ref (k _ _ he3) (by rw [hz3.1]; exact q)
        have LM := PySem.W.exm_one (M := model X.prog X.w) (J3.kIn) LT hb1
        have S3 := J3.suite he3 hd3 na nL nF
        have test : ∀ {Q : Value → Shared → Prop} {E : Value → Shared → Prop}, Q c { s' with heap := h3 } → wpAny (model X.prog X.w) (X.A.mark (some (.ref a))) (eval (.Name x np) X.env) Q E { s' with heap := h3 } := fun {Q E} q => by
          obtain ⟨hg, hdbg, hm | ⟨hm, hv, hnn⟩⟩ := hc
          · exact ld_glob (X := X.suite a ((a, oe3) :: (X.pn ++ pins))) S3 hg hm q hdbg
          · exact ld_blt (X := X.suite a ((a, oe3) :: (X.pn ++ pins))) S3 hg hm hv q hnn hdbg
        refine test (LM.here ?_)
        cases b with
        | true =>
          refine codeAny_handlers_suite_as ?_
          refine HandSPX.lands_againZ fl3 fun h4 fl4 up4 => ?_
          have J4 : Inv X pins σ' H' { s' with heap := h4 } := J.landed nb fl4.1 ((up.trans up3).trans up4) os ag
          obtain ⟨oe4, vs4, he4, hz4, hd4⟩ := fl4.there
          have J5 := Inv.track (o := ExV cls d a) J4 na n0 nP nL nC (exv_ok he4 hz4 hd4)
          have S4 := Inv.suiteT J5 a
          refine store_ok (X := X.suite a (X.pn ++ pins)) (v := .ref a) S4 hN hi hloc rfl (fun s5 S5 => ?_) (.inr hln)
          refine wpAny_mono ((hsu a (X.pn ++ pins)).run [] s5 _ (upd H' a (ExV cls d a)) _ S5 (hyes rfl a na)) (fun f s6 hsp => ?_) (fun _ _ z => False.elim z)
          have end_ : ∀ {σ6 : L2.St} {H6 : Hp} {Q : Shared → Prop}, Inv (X.suite a (X.pn ++ pins)) [] σ6 H6 s6 → (∀ s7, Inv X pins (σ6.set i none) H6 s7 → Q s7) →
              wpAny (model X.prog X.w) X.A (do bindName X.env n .none; unbindBehindTheSuite X.env n pos') (fun _ s7 => Q s7) X.xe s6 := fun {σ6 H6 Q} S6 hq => gone_ok (Inv.unsuiteT S6 ok) hN hi hln hq
          cases f with
          | next =>
            obtain ⟨σ6, H6, S6, q6⟩ := hsp
            exact end_ S6 fun s7 J7 => ⟨_, _, J7, q6⟩
          | brk =>
            obtain ⟨σ6, H6, S6, q6⟩ := hsp
            exact end_ S6 fun s7 J7 => ⟨_, _, J7, q6⟩
          | cont =>
            obtain ⟨σ6, H6, S6, q6⟩ := hsp
            exact end_ S6 fun s7 J7 => ⟨_, _, J7, q6⟩
          | ret u =>
            obtain ⟨v6, σ6, H6, S6, r6, q6⟩ := hsp
            exact end_ S6 fun s7 J7 => ⟨_, _, _, J7, r6, q6⟩
        | false => exact ih (hno rfl)
    exact key hh wish
  · cases f with
    | next =>
      obtain ⟨σ', H', J', q⟩ := hsp
      exact wpAny_execs_nil ⟨σ', H', J'.ofTry ok, q⟩
    | brk =>
      obtain ⟨σ', H', J', q⟩ := hsp
      exact ⟨σ', H', J'.ofTry ok, q⟩
    | cont =>
      obtain ⟨σ', H', J', q⟩ := hsp
      exact ⟨σ', H', J'.ofTry ok, q⟩
    | ret u =>
      obtain ⟨v, σ', H', J', r, q⟩ := hsp
      exact ⟨v, σ', H', J'.ofTry ok, r, q⟩
end

end ML

set_option maxHeartbeats 4000000
/-! several clauses as a computation -/
namespace ML
open PySem L2
structure Row where
  tab : Nat → Option Bool
  i : Nat
  suite : MS
def catchN : List Row → Nat → List (Str × U) → Ev → Hm → Option Sz
  | [], c, fs, ρ, h => some (.ex c fs ρ h)
  | r :: l, c, fs, ρ, h => match r.tab c with
    | some true => match r.suite (ρ.set r.i (some (.ref h.length))) (h ++ [.exc c fs]) with
      | some (.ex _ _ _ _) => none
      | q => tryEnd r.i q
    | some false => catchN l c fs ρ h
    | none => none
def mTryN (l : List Row) (body : MS) : MS := fun ρ h => match body ρ h with
  | some (.ex c fs ρ1 h1) => catchN l c fs ρ1 h1
  | r => r
section
variable {G : Gm} {Wx : WX} {μ : Nat → Addr} {h : Hm} {H : Hp} {ρ : Ev} {σ : L2.St} {D : Ends}
/-- the clauses of the one and of the other -/
inductive RowsOk (G : Gm) : List Row → List (Value × Nat × TS) → Prop where
  | nil : RowsOk G [] []
  | cons {tab : Nat → Option Bool} {i : Nat} {suite : MS} {cv : Value} {l : List Row} {m : List (Value × Nat × TS)} (t : TakC G tab cv) (q : RowsOk G l m) : RowsOk G (⟨tab, i, suite⟩ :: l) ((cv, i, tS G (fun _ _ _ _ => False) suite) :: m)
theorem catch_ok {l : List Row} {m : List (Value × Nat × TS)} (q : RowsOk G l m) : ∀ {μ1 : Nat → Addr} {ρ1 : Ev} {h1 : Hm} {σ1 : L2.St} {H1 : Hp} {k : Nat} {fs : List (Str × U)} {cls : Value} {d : Option Addr}, StOk G μ1 ρ1 h1 σ1 H1 → RX G.K μ1 h1.length H1 G.ca k fs cls d →
    PostS G Wx D μ1 h1 H1 (catchN l k fs ρ1 h1) → wManyT G.K Wx D m cls d σ1 H1 := by
  induction q with
  | nil =>
    intro μ1 ρ1 h1 σ1 H1 k fs cls d s1 rx p
    exact p μ1 σ1 H1 cls d (Gr.refl s1.rel) s1 rx
  | cons t _ ih =>
    rename_i tab i suite cv l m _
    intro μ1 ρ1 h1 σ1 H1 k fs cls d s1 rx p
    unfold catchN at p
    obtain ⟨ecl, rx2⟩ := id rx
    cases et : tab k with
    | none => simp only [et] at p; exact False.elim p
    | some b =>
      simp only [et] at p
      refine ⟨b, by rw [ecl]; exact t k b et, fun hb a na => ?_, fun hb => ?_⟩
      · subst hb
        simp only at p
        have hn : RCell G (nu μ1 h1.length a) (h1.length + 1) (upd H1 a (ExV cls d a)) a (.exc k fs) := by
          refine ⟨cls, d, upd_same, ecl, ?_⟩
          rcases rx2 with z | ⟨dd, gs, e1, e2, z⟩
          · exact .inl z
          · exact .inr ⟨dd, gs, e1, by rw [upd_ne (ne_of_none e2 na)]; exact e2, RFs.mono (fun i hi => nu_old hi) (Nat.le_succ _) (TS0.fresh na) _ _ z⟩
        have g2 := Gr.new (o := ExV cls d a) (c := .exc k fs) s1.rel na hn
        have s2 := (s1.on g2).set (w := .ref h1.length) (v := .ref a) i (by simp only [RU]; exact ⟨by simp, by rw [nu_new]⟩)
        refine ⟨_, _, _, s2, ?_⟩
        cases e3 : suite (ρ1.set i (some (.ref h1.length))) (h1 ++ [.exc k fs]) with
        | none => rw [e3] at p; exact False.elim p
        | some r3 =>
          rw [e3] at p
          cases r3 with
          | nx ρ3 h3 => exact fun μ4 σ4 H4 g4 s4 => p μ4 _ H4 (g2.trans g4) (s4.unset i)
          | bk ρ3 h3 => exact fun μ4 σ4 H4 g4 s4 => p μ4 _ H4 (g2.trans g4) (s4.unset i)
          | ct ρ3 h3 => exact fun μ4 σ4 H4 g4 s4 => p μ4 _ H4 (g2.trans g4) (s4.unset i)
          | rt w h3 => exact fun μ4 H4 v g4 r4 => p μ4 H4 v (g2.trans g4) r4
          | ex k3 fs3 ρ3 h3 => exact False.elim p
      · subst hb
        exact ih s1 rx p
theorem w_tryN {l : List Row} {m : List (Value × Nat × TS)} {body : MS} (q : RowsOk G l m) : ∀ D σ H, tS G Wx (mTryN l body) D σ H → tS G (wManyT G.K Wx D m) body D σ H := fun D σ H ⟨μ, ρ, h, s, p⟩ => by
  refine ⟨μ, ρ, h, s, ?_⟩
  unfold mTryN at p
  cases e : body ρ h with
  | none => rw [e] at p; exact p
  | some r =>
    rw [e] at p
    cases r with
    | nx ρ1 h1 => exact p
    | rt w h1 => exact p
    | bk ρ1 h1 => exact p
    | ct ρ1 h1 => exact p
    | ex k fs ρ1 h1 =>
      intro μ1 σ1 H1 cls d g1 s1 rx
      exact catch_ok q s1 rx (PostS.on p g1)
end
section
variable {X : Cx} {G : Gm} {Wx : WX} {body : List Stmt} {pos : Pos} {h₀ : ExceptHandler} {hds : List ExceptHandler} {l : List Row} {m : List (Value × Nat × TS)} {mb : MS}
theorem dTryN (hG : X.K = G.K) (q : RowsOk G l m) (hs : X.stack = X.env :: X.outer) (hf : X.env.frame = some X.env.locals) (hex : X.ex = []) (hN : X.N.Nodup) (tk : Takes X Wx)
    (hb : ∀ (W : WX) (pn : List (Addr × Obj)) (xe : Value → Shared → Prop), Takes (X.tr pn xe) W → PassesOwn (model X.prog X.w) X.A X.env xe → PSs (X.tr pn xe) body (tS G W mb)) (hh : HdT X (h₀ :: hds) m) :
    PS X (.Try body (h₀ :: hds) [] [] pos) (tS G Wx (mTryN l mb)) := by
  have r := ps_try_manyT (pos := pos) (Wout := Wx) (tb := fun W => tS G W mb) hs hf hex hN tk hb hh
  rw [hG] at r
  exact r.weak (w_tryN q)
end
/-- isinstance(x, C) of instances of C -/
def tabI (c : Nat) : TyK → Option Bool
  | .ins k => if k = c then some true else none
  | _ => none
theorem tabI_some {c : Nat} {k : TyK} {b : Bool} (h : tabI c k = some b) : k = .ins c ∧ b = true := by
  unfold tabI at h
  split at h
  · split at h
    · rename_i e
      subst e
      exact ⟨rfl, (Option.some.inj h).symm⟩
    · exact absurd h (by simp)
  · exact absurd h (by simp)
theorem isi_ins {G : Gm} {c : Nat} {v : V} {u : Value} (cl : ClsV v u) (hk : PySem.W.kitOne G.K (.ref (G.ca c)) u = some true) (hi : InsK G.K (G.ca c)) : IsiC G (tabI c) v u := ⟨cl, (fun k b h => by
  obtain ⟨rfl, rfl⟩ := tabI_some h
  exact hk), (fun j b h => by
  obtain ⟨e, _⟩ := tabI_some h
  cases e
  exact hi), (fun j b h => by
  obtain ⟨e, _⟩ := tabI_some h
  cases e)⟩
theorem atI1 {G : Gm} {f : Str} {a : Nat} (h : Cls G.K (G.ca a) ∧ NoAttr G.K (G.ca a) f) : AtC G f (fun c => decide (c = a)) := fun c hc => by rw [of_decide_eq_true hc]; exact h
theorem atXI {G : Gm} {f : Str} {i e : Nat → Bool} (h : AtC G f i) (q : AtX G f (fun _ => false) e) : AtX G f i e := ⟨h, q.exc⟩
theorem kit_self {K : PySem.W.Frag} {C : Addr} : PySem.W.kitOne K (.ref C) (.ref C) = some true := by
  unfold PySem.W.kitOne
  rw [if_pos (by simp)]
theorem nf_self {K : PySem.W.Frag} {C : Addr} : PySem.W.notFirst K C (.ref C) = true := by
  unfold PySem.W.notFirst
  simp
end ML

set_option maxHeartbeats 4000000
/-! enumerate of a tuple -/
namespace ML
open PySem PySem.Spec PyProof.Rows L2
open Builtin
set_option maxHeartbeats 4000000 in
theorem meets_enum1 {v : Value} {o : Obj} {H : Heap → Prop} (B : Begins v o H) :
    Meets (Builtin.«enumerate.__new__» ⟨[.type "enumerate", v], []⟩) (fun _ R s => H s.heap ∧
      R (.ok (.ret (.ref (s.heap.push o).objs.size))) { s with heap := (s.heap.push o).push { cls := .type "enumerate", data := .fields #[.none, .bool false, .ref s.heap.objs.size, rawInt 0, .none, .none] } }) :=
  .of_wp fun prog w A R s h => by
    obtain ⟨hp, g, d, tk, os⟩ := s; obtain ⟨h1, h⟩ := h
    have hsub := sub_enumerate
    have q1 : ∀ {A' : Around} {E : Value → Shared → Prop} {Q : Value → Shared → Prop}, Q (.ref hp.objs.size) ⟨hp.push o, g, d, tk, os⟩ → wpAny (model prog w) A' (pyIter v) Q E ⟨hp, g, d, tk, os⟩ :=
      fun q => B.iter prog w _ _ ⟨hp, g, d, tk, os⟩ _ h1 q
    wp_walk using q1
    refine wpAny_stack_any fun st => wpAny_pure ?_
    split
    · rename_i c _ _ _ _ _
      cases (c == Value.type "enumerate")
      · wp_walk using q1
        exact ⟨_, rfl, h⟩
      · wp_walk using q1
        exact ⟨_, rfl, h⟩
    · wp_walk using q1
      exact ⟨_, rfl, h⟩
section
variable {prog : Program} {w : World} {A : Around} {E : Value → Shared → Prop} {s : Shared}
theorem enum1_begins {v : Value} {o : Obj} {H : Heap → Prop} {Q : Value → Shared → Prop} (B : Begins v o H) (h1 : H s.heap)
    (h : ∀ h', IsEnum h' (s.heap.objs.size + 1) s.heap.objs.size 0 .none → h'.get? s.heap.objs.size = some o → h'.objs.size = s.heap.objs.size + 2 →
      (∀ b o, s.heap.get? b = some o → h'.get? b = some o) → Q (.ref (s.heap.objs.size + 1)) { s with heap := h' }) :
    wpAny (model prog w) A (call (.type "enumerate") [v]) Q E s := by
  refine callType_new F.called_enumerate (by decide) (F.typeCall_enumerate_1 _) (F.newCall_enumerate_1 _) (fun obj => F.args_object_init_2 obj _) F.entry_enumerate_new
    (meets_enum1 B) ⟨h1, ?_⟩
  have hz : (s.heap.push o).objs.size = s.heap.objs.size + 1 := Heap.size_push ..
  show _ ∧ _
  rw [hz]
  have he : IsEnum ((s.heap.push o).push { cls := .type "enumerate", data := .fields #[.none, .bool false, .ref s.heap.objs.size, rawInt 0, .none, .none] }) (s.heap.objs.size + 1) s.heap.objs.size 0 .none := by
    have := Heap.get?_push_size (s.heap.push o) (o := { cls := .type "enumerate", data := .fields #[.none, .bool false, .ref s.heap.objs.size, rawInt 0, .none, .none] }) rfl
    rw [hz] at this; exact this
  refine ⟨⟨_, he, rfl⟩, h _ he (Heap.get?_push_of_some _ (Heap.get?_push_size _ B.free)) (by rw [Heap.size_push, hz]) fun b o x => Heap.get?_push_of_some _ (Heap.get?_push_of_some _ x)⟩
end
/-- the tuple at a, each item in a new pair -/
def IteT (K : PySem.W.Frag) (a : Addr) : It :=
  ⟨fun i H => ∃ (xs : List V) (x : V), SqT K H a xs ∧ xs[i]? = some x, fun i H v H' => ∃ T x, v = .ref T ∧ H T = none ∧ H' = upd H T (.tup [.int (i : Nat), x]) ∧ ∀ xs, SqT K H a xs → xs[i]? = some x, fun i H => ∃ xs : List V, SqT K H a xs ∧ xs.length ≤ i⟩
theorem turn_enumT {P : Program} {w : World} {K : PySem.W.Frag} {elts : List Expr} {kk : Nat} {tpos : Pos} (a e it : Addr) :
    Turn P w K (.Tuple elts kk tpos) (IteT K a) [e, it] e (fun i h => (∃ old, IsEnum h e it ((i : Nat) : Int) old) ∧ h.IsTupleIter it a i ∧ e ≠ it) where
  mem := by simp
  obj := fun i h st b hb => by
    obtain ⟨⟨old, he⟩, ⟨o, ho, hc, hd⟩, _⟩ := st
    have e' : b = e ∨ b = it := by simpa using hb
    rcases e' with z | z
    · rw [z]; exact ⟨_, he, fun v q => nomatch q⟩
    · rw [z]; exact ⟨o, ho, fun v q => by rw [hd] at q; cases q⟩
  keep := fun i h h' st k => let ⟨⟨old, he⟩, hi, hne⟩ := st; ⟨⟨old, k e (by simp) _ he⟩, hi.at fun o q => k it (by simp) o q, hne⟩
  item := by
    intro X hP hw hK hc i pins s σ H E I hf st hg
    subst hP hw hK
    obtain ⟨⟨old, he⟩, hit, hne⟩ := st
    obtain ⟨xs, x, hq, hx⟩ := hg
    obtain ⟨its, rv, p, hz⟩ := I.tuple hq
    have p' : s.heap.IsTuple a its.toArray := p
    obtain ⟨u, hu, ru⟩ := rv.get hx
    have hel : e < s.heap.objs.size := Heap.lt_size he
    have hil : it < s.heap.objs.size := by obtain ⟨_, q, _⟩ := hit; exact Heap.lt_size q
    have hl := rv.length
    have hlt : i < its.toArray.size := by
      have := (List.getElem?_eq_some_iff.mp hu).1
      simpa using this
    have hai : a ≠ it := by
      rintro rfl
      obtain ⟨o1, g1, c1, _⟩ := p'
      obtain ⟨o2, g2, c2, _⟩ := hit
      rw [g1] at g2; injection g2 with g2; subst g2; rw [c1] at c2; injection c2 with c2; exact absurd c2 (by decide)
    have hea : e ≠ a := by
      rintro rfl
      obtain ⟨o1, g1, c1, _⟩ := p'
      have g2 := he
      unfold IsEnum at g2
      rw [g1] at g2; injection g2 with g2; rw [g2] at c1; injection c1 with c1; exact absurd c1 (by decide)
    have D := Draws.tuple (prog := X.prog) (w := X.w) (A := X.A.in1) (show X.A.in1.handled = none from I.ok.hd hc) it a hai its.toArray
    refine wpAny_pyNext_enum_itemD D he ⟨hit, p'⟩ hlt hne (by simp [hne, hea]) fun x2 h' tk hP ho hst' hT hsz hk => ?_
    have ex2 : x2 = u := by
      have : its.toArray[i]? = some x2 := hP
      rw [List.getElem?_toArray, hu] at this
      cases this; rfl
    subst ex2
    refine ⟨_, rfl, wpAny_letOwnedTupleGo_enum (s := { s with heap := h', toks := tk + 1 }) ho fun h'' he' sb => ?_⟩
    have hT2 : h''.get? s.heap.objs.size = some { cls := .type "tuple", data := .seq #[.int i tk, x2] } := (sb.2 _ (Nat.ne_of_gt hel)).trans hT
    have new : ObjOk X.prog X.w (upd H s.heap.objs.size (.tup [.int (i : Nat), x])) h'' s.heap.objs.size (.tup [.int (i : Nat), x]) :=
      ⟨by show 2 ≤ sizeLine; decide, [.int i tk, x2], .cons ⟨_, rfl⟩ (.cons ru .nil), ⟨_, hT2, rfl, _, rfl⟩⟩
    have I1 : Inv X pins σ (upd H s.heap.objs.size (.tup [.int (i : Nat), x])) { s with heap := h'', toks := tk + 1 } :=
      I.turnedNew (ch := [e, it]) (fun b ob hb q => (sb.2 b (fun z => hb (by simp [z]))).trans (hk b ob (fun z => hb (by simp [z])) (fun z => hb (by simp [z])) q)) hf (Nat.le_refl _) new
    refine ⟨.ref s.heap.objs.size, _, I1, rfl, ⟨_, x, rfl, I.hok.fresh (Nat.le_refl _), rfl, fun ys hy => by rw [I.tuple_inj hy hq]; exact hx⟩, ⟨⟨x2, ?_⟩, hst'.1.at fun o q => (sb.2 it (Ne.symm hne)).trans q, hne⟩, fun b hb => ?_⟩
    · have e1 : ((i + 1 : Nat) : Int) = (i : Int) + 1 := by omega
      rw [e1]; exact he'
    · have hb' : b < s.heap.objs.size := by
        have e' : b = e ∨ b = it := by simpa using hb
        rcases e' with z | z
        · rw [z]; exact hel
        · rw [z]; exact hil
      rw [upd_ne (Nat.ne_of_lt hb')]
      exact (hf b hb).1
  done := by
    intro X hP hw hK hc i pins s σ H E I hf st hg
    subst hP hw hK
    obtain ⟨⟨old, he⟩, hit, hne⟩ := st
    obtain ⟨xs, hq, hx⟩ := hg
    obtain ⟨its, rv, p, hz⟩ := I.tuple hq
    have p' : s.heap.IsTuple a its.toArray := p
    obtain ⟨f0, f1, f2, f3, f4, f5⟩ := hf it (by simp)
    have hl := rv.length
    have D : ∀ (s' : Shared) (Q : Value → Shared → Prop) (E : Value → Shared → Prop), s'.heap.IsTupleIter it a i → s'.heap.IsTuple a its.toArray →
        (∀ h' e, Heap.ExtBut it s'.heap h' → (∃ o, h'.get? e = some o ∧ o.cls = .type "StopIteration") → E (.ref e) { s' with heap := h' }) → wpAny (model X.prog X.w) X.A.in1 (Builtin.SmallTypes.nextOf (.ref it)) Q E s' := fun s' Q E h1 h2 h3 =>
      wpAny_nextOf_tuple_end (show X.A.in1.handled = none from I.ok.hd hc) h1 h2 (by simp; omega) h3
    have hT : s.TypeIs (.ref e) "enumerate" := ⟨_, he, rfl⟩
    unfold pyNext
    refine wpAny_bind (wpAny_attempt (wpAny_callSpecial?_slot (name := Str.ofString "__next__") hT F.slot_enumerate_next
      (wpAny_call_entry F.slot_enumerate_next hT F.entry_enumerate_next ?_ (F.args_enumerate_next_1 _))))
    show wpAny _ _ (field (.ref e) 2 >>= _) _ _ _
    refine wpAny_bind (wpAny_field he rfl (x := .ref it) rfl ?_)
    refine wpAny_bind (D _ _ _ hit p' fun h' x he' hx' => ?_)
    obtain ⟨o, ho, hc'⟩ := hx'
    refine wpAny_bind (wpAny_isInstance (T := "StopIteration") (b := true) ⟨o, ho, hc'⟩ isSubtype_stop ?_)
    exact wpAny_pure ⟨rfl, I.turned (t' := s.toks) (fun b o hb q => he' b o hb q) f0 f1 f3 f4 f5⟩
  self := fun A i s Q E st h => let ⟨⟨_, he⟩, _⟩ := st; wpAny_pyIter_enum he h
def iEnumT (K : PySem.W.Frag) (ta : TA) : TI := fun σ H R => ta σ H fun vs H1 => ∃ a xs, vs = [.ref a] ∧ SqT K H1 a xs ∧ R (IteT K a) H1
theorem pi_enumT {X : Cx} {e : Expr} {ta : TA} {p pos tpos : Pos} {elts : List Expr} {kk : Nat} (hg : Gl X "enumerate") (hm : X.mg "enumerate" = none) (ha : PA X [e] ta) (hs : starEach [e] X.env = [(false, eval e X.env)] := by rfl) :
    PI X (.Tuple elts kk tpos) (.Call (.Name "enumerate" p) [e] [] pos) (iEnumT X.K ta) := by
  refine ⟨fun pins s σ H R I h => ?_⟩
  refine Call_ (ld_blt I hg hm boot_enumerate (PyProof.Rows.callWith_type1 (thn (ha.run pos pins s σ H _ I h) fun us s1 ⟨vs, H1, I1, r1, q1⟩ => ?_) hs rfl))
  obtain ⟨a, xs, ex, hq, q⟩ := q1
  subst ex
  cases r1 with
  | cons r rr =>
    cases rr
    cases r
    obtain ⟨its, rv, p', hz⟩ := I1.tuple hq
    have p'' : s1.heap.IsTuple a its.toArray := p'
    refine enum1_begins (begins_tuple a its.toArray) p'' fun h' he hit hsz hk => wpAny_pyIter_enum he ?_
    have I2 : Inv X pins σ H1 { s1 with heap := h' } := I1.kept (t' := s1.toks) hk
    refine ⟨s1.heap.objs.size + 1, [s1.heap.objs.size + 1, s1.heap.objs.size], _, _, H1, rfl, I2, turn_enumT a (s1.heap.objs.size + 1) s1.heap.objs.size, ⟨⟨.none, he⟩, ⟨_, hit, rfl, rfl⟩, Nat.succ_ne_self _⟩, fun b hb => ?_, q⟩
    have e' : b = s1.heap.objs.size + 1 ∨ b = s1.heap.objs.size := by simpa using hb
    have hle : s1.heap.objs.size ≤ b := by
      rcases e' with z | z
      · rw [z]; exact Nat.le_add_right _ _
      · rw [z]; exact Nat.le_refl _
    exact I1.fpOk hle (I1.hok.fresh hle)

section
variable {G : Gm} {Wx : WX} {μ μ' : Nat → Addr} {h h' : Hm} {H H' : Hp} {ρ : Ev} {σ : L2.St}
theorem gives_enum {i : Nat} {ws : List U} {c : Cell} (hc : c = .lst ws ∨ c = .frz ws) (hi : i < h.length) : Gives G (Ite G.K (μ i)) (eItems 0 ws) (fun h => h[i]? = some c) μ h H := by
  intro j μ2 h2 H2 gr ck
  have em : μ2 i = μ i := gr.mu i hi
  have e2 : h2[i]? = some (.lst ws) ∨ h2[i]? = some (.frz ws) := by
    rcases hc with rfl | rfl
    · exact .inl ck
    · exact .inr ck
  obtain ⟨xs, sq, rs⟩ := rz_sqL gr.rel e2
  rw [em] at sq
  refine ⟨fun hj => ⟨xs, sq, by rw [RUs.length rs]; rw [eItems_len] at hj; exact hj⟩, fun w hw => ?_⟩
  rw [eItems_get] at hw
  cases ew : ws[j]? with
  | none => rw [ew] at hw; cases hw
  | some w0 =>
    rw [ew] at hw
    simp only [Option.map_some, Option.some.injEq, Nat.zero_add] at hw
    subst hw
    obtain ⟨v, ev, rv⟩ := RUs.get rs ew
    refine ⟨⟨xs, v, sq, ev⟩, fun x H' y => ?_⟩
    obtain ⟨T, x0, rfl, nT, rfl, hx⟩ := y
    have := hx xs sq
    rw [ev] at this
    cases this
    have g := Gr.fresh (o := .tup [.int (j : Nat), v]) gr.rel nT
    exact ⟨g, ru_tup (.inl (.inl upd_same)) (RUs.cons (by simp only [RU]) (RUs.cons (g.ru rv) RUs.nil))⟩
theorem gives_enumT {a : Addr} {xs : List V} {ws : List U} (st : SqT G.K H a xs) (rs : RUs G.K μ h.length H ws xs) : Gives G (IteT G.K a) (eItems 0 ws) (fun _ => True) μ h H := by
  intro j μ2 h2 H2 gr ck
  have sq := gr.tup a xs st
  have rs := gr.rus rs
  refine ⟨fun hj => ⟨xs, sq, by rw [RUs.length rs]; rw [eItems_len] at hj; exact hj⟩, fun w hw => ?_⟩
  rw [eItems_get] at hw
  cases ew : ws[j]? with
  | none => rw [ew] at hw; cases hw
  | some w0 =>
    rw [ew] at hw
    simp only [Option.map_some, Option.some.injEq, Nat.zero_add] at hw
    subst hw
    obtain ⟨v, ev, rv⟩ := RUs.get rs ew
    refine ⟨⟨xs, v, sq, ev⟩, fun x H' y => ?_⟩
    obtain ⟨T, x0, rfl, nT, rfl, hx⟩ := y
    have := hx xs sq
    rw [ev] at this
    cases this
    have g := Gr.fresh (o := .tup [.int (j : Nat), v]) gr.rel nT
    exact ⟨g, ru_tup (.inl (.inl upd_same)) (RUs.cons (by simp only [RU]) (RUs.cons (g.ru rv) RUs.nil))⟩
theorem w_iEn {e : ME} : ∀ σ H R, tI G Wx (iEn e) σ H R → iEnum G.K (tCons (tE G Wx e) tNil) σ H R := fun σ H R ⟨μ, ρ, h, s, p⟩ =>
  ⟨μ, ρ, h, s, (Post.bnd p).mono fun μ1 h1 H1 w g q v r => by
    cases w with
    | ref i =>
      simp only at q
      simp only [RU] at r
      obtain ⟨hi, rfl⟩ := r
      cases ec : h1[i]? with
      | none => rw [ec] at q; exact False.elim q
      | some c =>
        rw [ec] at q
        cases c with
        | lst ws =>
          obtain ⟨xs, sq, rs⟩ := rz_sqL g.rel (.inl ec)
          exact ⟨μ1 i, xs, rfl, sq, q μ1 H1 (Gr.refl g.rel) _ (gives_enum (.inl rfl) hi)⟩
        | frz ws =>
          obtain ⟨xs, sq, rs⟩ := rz_sqL g.rel (.inr ec)
          exact ⟨μ1 i, xs, rfl, sq, q μ1 H1 (Gr.refl g.rel) _ (gives_enum (.inr rfl) hi)⟩
        | ins _ _ => exact False.elim q
        | exc _ _ => exact False.elim q
    | _ => exact False.elim q⟩
def iEnT (e : ME) : MI := fun ρ h => bnd (e ρ h) fun w h1 => match w with
  | .tup ws => some (.ok (eItems 0 ws, fun _ => True) h1)
  | _ => none
theorem w_iEnT {e : ME} : ∀ σ H R, tI G Wx (iEnT e) σ H R → iEnumT G.K (tCons (tE G Wx e) tNil) σ H R := fun σ H R ⟨μ, ρ, h, s, p⟩ =>
  ⟨μ, ρ, h, s, (Post.bnd p).mono fun μ1 h1 H1 w g q v r => by
    cases w with
    | tup ws =>
      simp only at q
      simp only [RU] at r
      obtain ⟨a, xs, rfl, st, rs⟩ := r
      exact ⟨a, xs, rfl, st, q μ1 H1 (Gr.refl g.rel) _ (gives_enumT st rs)⟩
    | _ => exact False.elim q⟩
/-- enumerate of a list or a tuple -/
def iEnA (e : ME) : MI := fun ρ h => match e ρ h with
  | some (.ok (.tup _) _) => iEnT e ρ h
  | _ => iEn e ρ h
end
section
variable {X : Cx} {G : Gm} {Wx : WX} {e : Expr} {ma : ME} {p pos tpos : Pos} {elts : List Expr} {kk : Nat} {x : Str}
theorem iEnum' (hG : X.K = G.K) (hx : x = "enumerate") (h : PE X e (tE G Wx ma)) (hg : X.env.kindOf x = some .globalImplicit) (hm : X.mg x = none) (hs1 : starEach [e] X.env = (false, eval e X.env) :: starEach [] X.env) (hs : starEach [e] X.env = [(false, eval e X.env)]) : PI X (.Tuple elts kk tpos) (.Call (.Name x p) [e] [] pos) (tI G Wx (iEnA ma)) := by
  subst hx
  have r1 := pi_enum (X := X) (p := p) (pos := pos) (tpos := tpos) (elts := elts) (kk := kk) hg hm (pa_cons h pa_nil hs1) hs
  have r2 := pi_enumT (X := X) (p := p) (pos := pos) (tpos := tpos) (elts := elts) (kk := kk) hg hm (pa_cons h pa_nil hs1) hs
  rw [hG] at r1 r2
  have r1 := r1.weak w_iEn
  have r2 := r2.weak w_iEnT
  refine ⟨fun pins s σ H R I ⟨μ, ρ, hm, st, p⟩ => ?_⟩
  unfold iEnA at p
  split at p
  · exact r2.run pins s σ H R I ⟨μ, ρ, hm, st, p⟩
  · exact r1.run pins s σ H R I ⟨μ, ρ, hm, st, p⟩
end
end ML

set_option maxHeartbeats 4000000
/-! defs by what they are passed: star parameters, defaults; their calls -/
namespace ML
open PySem L2
def spR (G : Gm) (f : MF) : Sp := fun vs H Q E => ∃ μ h ws, HRel G μ h H ∧ RUs G.K μ h.length H ws vs ∧ Post G (PV G Q) E μ h H (f ws h)
abbrev FnRM (P : Program) (w : World) (G : Gm) (mg : Str → Option Value) (base : Heap) (k : Nat) (f : Addr) (m : MF) : Prop := FnR P w G.K mg base (L2.CX P w) k f (spR G m)
/-- what is left over is a tuple -/
def starOf (n : Nat) (f : MF) : MF := fun ws h => if n ≤ ws.length ∧ ws.length ≤ LIM then f (ws.take n ++ [.tup (ws.drop n)]) h else none
section
variable {P : Program} {w : World} {G : Gm} {mg : Str → Option Value} {base : Heap}
theorem fn_MS {x qual pv : Str} {st : Stmt} {f : Addr} {fd : FuncData} {N ps : List Str} {k : Nat} {m : MS} (F : Fun G.K x qual st f fd) (S : FnScope N (ps ++ [pv]) (defScope st))
    (hb : ∀ (kV doc pm : Value) (an : Option Addr) (cdv ct : Value) (us rest : List Value), us.length = ps.length → bindArgs (PySem.W.fnOf x qual (defArgs st) (defBody st) (defScope st) .none kV doc pm an cdv ct) ⟨us ++ rest, []⟩ = (newTuple rest >>= fun t => pure (ps.zip us ++ [(pv, t)])))
    (hbody : ∀ (cdv : Value) (A : Around) (outer : List Env) (s : Shared) (H : Hp) (E : XK), Room k (A.deeper (PyProof.Rows.envOfC qual (defScope st) s.heap.objs.size f cdv)) →
      Takes (cxOf (L2.CX P w) P w G.K mg base N qual (defScope st) f cdv A outer s H E) (wDef E) →
      PSs (cxOf (L2.CX P w) P w G.K mg base N qual (defScope st) f cdv A outer s H E) (defBody st) (tS G (wDef E) m)) :
    FnRM P w G mg base (k + 1) f (starOf ps.length (mfun (ps.length + 1) N.length m)) := by
  obtain ⟨oc, od, kV, doc, pm, an, cdv, ct, osl, rfl, lk, hcd⟩ := F.ex
  have z := StX.fn_star (sp := spM G (ps.length + 1) (mfun (ps.length + 1) N.length m)) (k := k) (CX := L2.CX P w) (P := P) (w := w) (mg := mg) (base := base) lk hcd S StX.cxUp (hb kV doc pm an cdv ct) (fun A outer s H vs Q E hr hsp => ⟨_, hbody cdv A outer s H E hr (takes_of rfl rfl rfl rfl), ?_⟩)
  · refine z.imp fun vs H Q E ⟨μ, h, ws, rel, rs, p⟩ => ?_
    unfold starOf at p
    split at p
    · rename_i hl
      have hlen := RUs.length rs
      refine ⟨vs.take ps.length, vs.drop ps.length, (List.take_append_drop _ _).symm, by simp; omega, ?_, fun q hq => ?_⟩
      · rw [List.length_drop]; exact Nat.le_trans (Nat.sub_le _ _) (lim_le (by rw [hlen]; exact hl.2))
      · have g := Gr.fresh (o := .tup (vs.drop ps.length)) rel hq
        have r1 := (RUs.take ps.length rs)
        have r2 := (RUs.drop ps.length rs)
        refine ⟨μ, h, _, g.rel, (g.rus r1).append (RUs.cons (ru_tup (.inl (.inl upd_same)) (g.rus r2)) RUs.nil), by simp; omega, p.on g⟩
    · exact False.elim p
  · obtain ⟨μ, h, ws, rel, rs, hl, p⟩ := hsp
    refine ⟨μ, _, h, st_start rel rs hl, ?_⟩
    unfold mfun at p
    have hw : ws.length = ps.length + 1 := by rw [← RUs.length rs]; exact hl
    rw [if_pos hw] at p
    cases e : m (ws.map some ++ List.replicate (N.length - (ps.length + 1)) none) h with
    | none => rw [e] at p; exact p
    | some r =>
      rw [e] at p
      cases r with
      | nx ρ' h1 => exact fun μ' σ' H' g s' => p μ' H' g _ rfl
      | rt w h1 => exact fun μ' H' v g r => p μ' H' g v r
      | bk ρ' h1 => exact False.elim p
      | ct ρ' h1 => exact False.elim p
      | ex c fs ρ' h1 => exact fun μ' σ' H' cls d g s' rx => p μ' H' cls d g rx
end
/-! ### calls by such promises -/
def tMakeRS (C : Addr) (sp : Sp) (E : St → XK) (t : TA) : TE := fun σ H Q => t σ H fun vs H1 => ∀ x dx, H1 x = Option.none → H1 dx = Option.none → dx ≠ x →
  sp (V.ref x :: vs) (upd (upd H1 dx (.own x)) x (.ins C dx [])) (fun v H2 => v = .non ∧ Q (.ref x) H2) (E σ)
section
variable {X : Cx} {CX : CXT} {k : Nat} {f C : Addr} {sp : Sp} {E : St → XK} {x : Str} {e : Expr} {es : List Expr} {t : TA} {p pos : Pos}
theorem run_makeRS {pins : List (Addr × Obj)} {σ : L2.St} {H : Hp} {s : Shared} {Q : VK} {us : List Value} {vs : List V} (M : Mk X.K C f) (F : FnR X.prog X.w X.K X.mg X.base CX k f sp) (hr : Room (k + 1) X.A) (hx : PassesAt CX X σ (E σ)) (I : Inv X pins σ H s) (r : Vals vs us)
    (h : ∀ x dx, H x = Option.none → H dx = Option.none → dx ≠ x → sp (V.ref x :: vs) (upd (upd H dx (.own x)) x (.ins C dx [])) (fun v H2 => v = .non ∧ Q (.ref x) H2) (E σ)) :
    wpAny (model X.prog X.w) X.A (call (.ref C) us) (EP X pins σ Q) X.xe s := by
  have hq := h (s.heap.objs.size + 1) s.heap.objs.size (I.hok.fresh (Nat.le_succ _)) (I.hok.fresh (Nat.le_refl _)) (Nat.ne_of_lt (Nat.lt_succ_self _))
  have I2 := Inv.made (C := C) I
  have r2 : Vals (V.ref (s.heap.objs.size + 1) :: vs) (Value.ref (s.heap.objs.size + 1) :: us) := .cons rfl r
  refine wpAny_call (make_map (f := f) I.kIn M.makes M.init (beq_iff_eq.mp M.fn) (codeAny_mono (F _ X.stack _ _ (Value.ref (s.heap.objs.size + 1) :: us) _ _ (E σ) (hr.make C us []) (I2.env0.make C us []) r2 hq) fun r s' hq' => ?_))
  cases r with
  | error e => exact hx pins _ _ e s' I2 hq'
  | ok fl =>
    cases fl with
    | ret u =>
      obtain ⟨v, H', I3, rv, ev, q3⟩ := I2.after hq'
      subst ev
      exact ⟨rv, ⟨V.ref (s.heap.objs.size + 1), H', I3, rfl, q3⟩⟩
    | next => exact False.elim hq'
    | brk => exact False.elim hq'
    | cont => exact False.elim hq'
theorem pe_makeRS (M : Mk X.K C f) (F : FnR X.prog X.w X.K X.mg X.base CX k f sp) (hr : Room (k + 1) X.A) (hg : Gl X x) (hm : X.mg x = some (.ref C)) (hx : ∀ σ, PassesAt CX X σ (E σ)) (ha : PA X (e :: es) t) (hdb : (x == ("__debug__" : Str)) = false)
    (he : starEach (e :: es) X.env = (false, eval e X.env) :: starEach es X.env) (hpl : (backTo pos (starEach es X.env)).any (·.1) = false) : PE X (.Call (.Name x p) (e :: es) [] pos) (tMakeRS C sp E t) := by
  refine ⟨fun pins s σ H Q I h => ?_⟩
  refine wpAny_Call_Name_kw (ld_glob I hg hm ?_ hdb)
  refine PySem.W.callWith_K (h₀ := X.base) I.ok.mod.kin M.kp (thn (ha.run pos pins s σ H _ I h) fun us s1 ⟨vs, H1, I1, r, q⟩ => ⟨I1.kIn, ?_⟩) he hpl
  exact run_makeRS M F hr (hx σ) I1 r q
theorem run_fnRS {pins : List (Addr × Obj)} {σ : L2.St} {H : Hp} {s : Shared} {Q : VK} {us : List Value} {vs : List V} (F : FnR X.prog X.w X.K X.mg X.base CX k f sp) (hr : Room k X.A) (hx : PassesAt CX X σ (E σ)) (I : Inv X pins σ H s) (r : Vals vs us)
    (h : sp vs H Q (E σ)) : wpAny (model X.prog X.w) X.A (call (.ref f) us) (EP X pins σ Q) X.xe s := by
  refine wpAny_call (codeAny_mono (F X.A X.stack s H us vs Q (E σ) hr I.env0 r h) fun r s' hq => ?_)
  cases r with
  | error e => exact hx pins H s e s' I hq
  | ok fl =>
    cases fl with
    | ret u => exact I.after hq
    | next => exact False.elim hq
    | brk => exact False.elim hq
    | cont => exact False.elim hq
theorem pe_callRS (F : FnR X.prog X.w X.K X.mg X.base CX k f sp) (hr : Room k X.A) (hg : Gl X x) (hm : X.mg x = some (.ref f)) (hk : PySem.W.keepIn X.K (.ref f) = true) (hx : ∀ σ, PassesAt CX X σ (E σ)) (ha : PA X (e :: es) t) (hdb : (x == ("__debug__" : Str)) = false)
    (he : starEach (e :: es) X.env = (false, eval e X.env) :: starEach es X.env) (hpl : (backTo pos (starEach es X.env)).any (·.1) = false) : PE X (.Call (.Name x p) (e :: es) [] pos) (tCallS sp E t) := by
  refine ⟨fun pins s σ H Q I h => ?_⟩
  refine wpAny_Call_Name_kw (ld_glob I hg hm ?_ hdb)
  refine PySem.W.callWith_K (h₀ := X.base) I.ok.mod.kin hk (thn (ha.run pos pins s σ H _ I h) fun us s1 ⟨vs, H1, I1, r, q⟩ => ⟨I1.kIn, ?_⟩) he hpl
  exact run_fnRS F hr (hx σ) I1 r q
end
section
variable {G : Gm} {Wx : WX} {μ μ' : Nat → Addr} {h h' : Hm} {H H' : Hp} {ρ : Ev} {σ : L2.St}
theorem w_callR {f : MF} {es : MA} : ∀ σ H Q, tE G Wx (mCB f es) σ H Q → tCallS (spR G f) (WE Wx) (tA G Wx es) σ H Q := fun σ H Q ⟨μ, ρ, h, s, p⟩ =>
  ⟨μ, ρ, h, s, (Post.bnd p).mono fun μ1 h1 H1 ws g q vs rs => ⟨μ1, h1, ws, g.rel, rs, q⟩⟩
theorem w_makeR {c : Nat} {f : MF} {es : MA} : ∀ σ H Q, tE G Wx (mMake c f es) σ H Q → tMakeRS (G.ca c) (spR G f) (WE Wx) (tA G Wx es) σ H Q := fun σ H Q ⟨μ, ρ, h, s, p⟩ =>
  ⟨μ, ρ, h, s, (Post.bnd p).mono fun μ1 h1 H1 ws g q vs rs x dx nx nd ne => by
    have g1 : Gr G μ1 h1 H1 μ1 h1 (upd H1 dx (.own x)) := Gr.fresh g.rel nd
    have nx' : upd H1 dx (.own x) x = none := by rw [upd_ne ne.symm]; exact nx
    have g2 := Gr.new (o := .ins (G.ca c) dx []) (c := .ins c []) g1.rel nx' ⟨dx, [], upd_same, by simp only [RFs]⟩
    have gg := g1.trans g2
    refine ⟨_, h1 ++ [.ins c []], .ref h1.length :: ws, gg.rel, RUs.cons (by simp only [RU]; exact ⟨by simp, by rw [nu_new]⟩) (gg.rus rs), ?_⟩
    have q : Post G (PV G Q) (fun cls d H' => Wx cls d σ H') (nu μ1 h1.length x) (h1 ++ [.ins c []]) (upd (upd H1 dx (.own x)) x (.ins (G.ca c) dx [])) (bnd (f (.ref h1.length :: ws) (h1 ++ [.ins c []])) (mkEnd h1.length)) := by
      have q' : Post G (PV G Q) (fun cls d H' => Wx cls d σ H') μ1 h1 H1 (bnd (f (.ref h1.length :: ws) (h1 ++ [.ins c []])) (mkEnd h1.length)) := q
      exact q'.on gg
    have q2 := Post.bnd q
    cases er : f (.ref h1.length :: ws) (h1 ++ [.ins c []]) with
    | none => rw [er] at q2; exact q2
    | some r =>
      rw [er] at q2
      cases r with
      | ok w h3 =>
        intro μ' H' g' v rv
        have q3 := q2 μ' H' g'
        cases w with
        | non =>
          simp only [RU] at rv
          subst rv
          refine ⟨rfl, Post.ok g'.rel q3 _ ?_⟩
          simp only [RU]
          have hl : h1.length < (h1 ++ [Cell.ins c []]).length := by simp
          exact ⟨Nat.lt_of_lt_of_le hl g'.len, by rw [g'.mu _ hl, nu_new]⟩
        | _ => exact False.elim q3
      | ex c fs h3 => exact q2⟩
end
/-- a def by what it is passed -/
structure CalleeR (P : Program) (w : World) (G : Gm) (mg : Str → Option Value) (base : Heap) (x : Str) (k : Nat) (m : MF) : Prop where
  ex : ∃ a, mg x = some (.ref a) ∧ PySem.W.keepIn G.K (.ref a) = true ∧ FnRM P w G mg base k a m
structure OwnClsR (P : Program) (w : World) (G : Gm) (mg : Str → Option Value) (base : Heap) (x : Str) (k c : Nat) (m : MF) : Prop where
  gl : mg x = some (.ref (G.ca c))
  ex : ∃ fI, Mk G.K (G.ca c) fI ∧ FnRM P w G mg base k fI m
section
variable {X : Cx} {G : Gm} {Wx : WX} {e : Expr} {es : List Expr} {x : Str} {pos p : Pos} {mas : MA}
theorem dCallR {k j : Nat} {m : MF} (hG : X.K = G.K) (cl : CalleeR X.prog X.w G X.mg X.base x k m) (hr : Room j X.A) (hk : k ≤ j) (tk : Takes X Wx) (ha : PA X (e :: es) (tA G Wx mas)) (hg : X.env.kindOf x = some .globalImplicit) (hd : (x == ("__debug__" : Str)) = false) (so : StarOk X pos e es) :
    PE X (.Call (.Name x p) (e :: es) [] pos) (tE G Wx (mCB m mas)) := by
  obtain ⟨a, hm, kp, F⟩ := cl.ex
  obtain ⟨K, ca⟩ := G
  subst hG
  exact (pe_callRS F (hr.mono hk) hg hm kp (passAt tk) ha hd so.s so.p).weak w_callR
theorem dMakeR {k j c : Nat} {mf : MF} (hG : X.K = G.K) (oc : OwnClsR X.prog X.w G X.mg X.base x k c mf) (hr : Room j X.A) (hk : k + 1 ≤ j) (tk : Takes X Wx) (ha : PA X (e :: es) (tA G Wx mas)) (hg : X.env.kindOf x = some .globalImplicit) (hd : (x == ("__debug__" : Str)) = false) (so : StarOk X pos e es) :
    PE X (.Call (.Name x p) (e :: es) [] pos) (tE G Wx (mMake c mf mas)) := by
  obtain ⟨fI, M, F⟩ := oc.ex
  have gl := oc.gl
  obtain ⟨K, ca⟩ := G
  subst hG
  exact (pe_makeRS M F (hr.mono hk) hg gl (passAt tk) ha hd so.s so.p).weak w_makeR
end
end ML

set_option maxHeartbeats 4000000
/-! targets of several names; rows turned about -/
namespace ML
open PySem L2
section
variable {G : Gm} {Wx : WX} {μ μ' : Nat → Addr} {h h' : Hm} {H H' : Hp} {ρ : Ev} {σ : L2.St}
def mPar2 (i j : Nat) (es : MA) : MS := fun ρ h => bndS ρ (es ρ h) fun ws h1 => match ws with
  | [w, u] => some (.nx ((ρ.set i (some w)).set j (some u)) h1)
  | _ => none
theorem w_par2 {i j : Nat} {es : MA} : ∀ D σ H, tS G Wx (mPar2 i j es) D σ H → tPar i j (tA G Wx es) D σ H := fun D σ H ⟨μ, ρ, h, s, p⟩ =>
  ⟨μ, ρ, h, s, (PostS.bnd s p).mono fun μ1 h1 H1 ws g q vs rs => by
    split at q
    · simp only [RUs] at rs
      obtain ⟨v, _, rfl, r1, u, _, rfl, r2, rfl⟩ := rs
      exact ⟨v, u, rfl, q μ1 _ H1 (Gr.refl g.rel) (((s.on g).set i r1).set j r2)⟩
    · exact False.elim q⟩
def mPar3 (i j l : Nat) (es : MA) : MS := fun ρ h => bndS ρ (es ρ h) fun ws h1 => match ws with
  | [w, u, x] => some (.nx (((ρ.set i (some w)).set j (some u)).set l (some x)) h1)
  | _ => none
theorem w_par3 {i j l : Nat} {es : MA} : ∀ D σ H, tS G Wx (mPar3 i j l es) D σ H → tPar3 i j l (tA G Wx es) D σ H := fun D σ H ⟨μ, ρ, h, s, p⟩ =>
  ⟨μ, ρ, h, s, (PostS.bnd s p).mono fun μ1 h1 H1 ws g q vs rs => by
    split at q
    · simp only [RUs] at rs
      obtain ⟨v, _, rfl, r1, u, _, rfl, r2, y, _, rfl, r3, rfl⟩ := rs
      exact ⟨v, u, y, rfl, q μ1 _ H1 (Gr.refl g.rel) ((((s.on g).set i r1).set j r2).set l r3)⟩
    · exact False.elim q⟩
def mRevL (e : ME) : ME := fun ρ h => bnd (e ρ h) fun w h1 => match w with
  | .ref i => match rd h1 i with
    | some ws => some (.ok (.ref h1.length) (h1 ++ [.lst ws.reverse]))
    | none => none
  | _ => none
theorem RUs.reverse {K : PySem.W.Frag} {n : Nat} : ∀ {ws : List U} {xs : List V}, RUs K μ n H ws xs → RUs K μ n H ws.reverse xs.reverse
  | [], xs, r => by simp only [RUs] at r; subst r; exact RUs.nil
  | w :: ws, xs, r => by
    simp only [RUs] at r
    obtain ⟨y, ys, rfl, r1, rs⟩ := r
    rw [List.reverse_cons, List.reverse_cons]
    exact (RUs.reverse rs).append (RUs.cons r1 RUs.nil)
theorem w_revL {e : ME} : ∀ σ H Q, tE G Wx (mRevL e) σ H Q → tRevL G.K (tE G Wx e) σ H Q := fun σ H Q ⟨μ, ρ, h, s, p⟩ =>
  ⟨μ, ρ, h, s, (Post.bnd p).mono fun μ1 h1 H1 wx g q x rx => by
    cases wx with
    | ref i =>
      simp only [RU] at rx
      obtain ⟨hi, rfl⟩ := rx
      simp only at q
      split at q
      · rename_i ws er
        obtain ⟨xs, sq, rs⟩ := rd_ok g.rel er
        refine ⟨_, xs, rfl, sq, fun l nl => ?_⟩
        have gD := Gr.new (o := .lst xs.reverse) (c := .lst ws.reverse) g.rel nl ⟨_, upd_same, RUs.mono (fun i hi => nu_old hi) (Nat.le_succ _) (TS0.fresh nl) _ _ rs.reverse⟩
        refine q _ _ gD _ ?_
        simp only [RU]
        exact ⟨by simp, by rw [nu_new]⟩
      · exact False.elim q
    | _ => exact False.elim q⟩
end
section
variable {X : Cx} {G : Gm} {Wx : WX} {e a b c : Expr} {es : List Expr} {x y z : Str} {pos p px py pz pt pt2 p1 p2 p3 : Pos} {ma : ME} {mas : MA} {kt k2 : Nat}
theorem dPar2 {i j : Nat} (hc : X.calm = true) (hN : X.N.Nodup) (hi : X.N[i]? = some x) (hj : X.N[j]? = some y) (hij : i ≠ j) (hx : X.env.scope.names.lookup x = some .local) (hy : X.env.scope.names.lookup y = some .local) (ha : PA X [a, b] (tA G Wx mas))
    (hw : swappedStores [.Tuple [.Name x px, .Name y py] kt pt] (.Tuple [a, b] k2 pt2) X.env = pure (some [x, y]))
    (hs : swapsWithSole [.Tuple [.Name x px, .Name y py] kt pt] (.Tuple [a, b] k2 pt2) pos.line X.env = pure false) :
    PS X (.Assign [.Tuple [.Name x px, .Name y py] kt pt] (.Tuple [a, b] k2 pt2) pos) (tS G Wx (mPar2 i j mas)) := (ps_par hc hN hi hj hij hx hy ha hw hs).weak w_par2
theorem dPar3 {i j l : Nat} (hc : X.calm = true) (hN : X.N.Nodup) (hi : X.N[i]? = some x) (hj : X.N[j]? = some y) (hl : X.N[l]? = some z) (hij : i ≠ j) (hil : i ≠ l) (hjl : j ≠ l)
    (hx : X.env.scope.names.lookup x = some .local) (hy : X.env.scope.names.lookup y = some .local) (hz : X.env.scope.names.lookup z = some .local) (ha : PA X [a, b, c] (tA G Wx mas))
    (hw : swappedStores [.Tuple [.Name x px, .Name y py, .Name z pz] kt pt] (.Tuple [a, b, c] k2 pt2) X.env = pure (some [x, y, z]))
    (hs : swapsWithSole [.Tuple [.Name x px, .Name y py, .Name z pz] kt pt] (.Tuple [a, b, c] k2 pt2) pos.line X.env = pure false) :
    PS X (.Assign [.Tuple [.Name x px, .Name y py, .Name z pz] kt pt] (.Tuple [a, b, c] k2 pt2) pos) (tS G Wx (mPar3 i j l mas)) := (ps_par3 hc hN hi hj hl hij hil hjl hx hy hz ha hw hs).weak w_par3
theorem dRevL {k : Nat} (hG : X.K = G.K) (he : PE X e (tE G Wx ma)) : PE X (.Subscript e (.Slice none none (some (.UnaryOp .USub (.Constant (.int 1) k p1) p2)) p3) pos) (tE G Wx (mRevL ma)) := by
  have r := pe_revL (k := k) (p1 := p1) (p2 := p2) (p3 := p3) (pos := pos) he
  rw [hG] at r
  exact r.weak w_revL
theorem gTupD {g : MGs} {n k : Nat} (hG : X.K = G.K) (hc : X.calm = true) (h : PGs X es (tGs G g)) (hn : (assignEach es X.env).length = n) (hst : (assignEach es X.env).findIdx? (·.1) = none) : PG X (.Tuple es k pos) (tG G (gT n g)) := by
  have r := pg_tup (k := k) (pos := pos) hc h hn hst
  rw [hG] at r
  exact r.weak w_gT
theorem gConsD {g : MG} {gs : MGs} (h1 : PG X e (tG G g)) (h2 : PGs X es (tGs G gs)) (hs : (assignEach (e :: es) X.env).map (·.2) = assign e X.env :: (assignEach es X.env).map (·.2)) : PGs X (e :: es) (tGs G (gC g gs)) := (pgs_cons h1 h2 hs).weak w_gC
end
end ML

set_option maxHeartbeats 4000000
/-! single steps of the computations, as facts -/
namespace ML
open PySem L2
section
variable {e a b : ME} {es : MA} {ρ ρ1 : Ev} {h h1 h2 h3 : Hm} {w x y : U} {ws : List U}
theorem cons_e (e1 : e ρ h = some (.ok w h1)) (e2 : es ρ h1 = some (.ok ws h2)) : mCons e es ρ h = some (.ok (w :: ws) h2) := by
  unfold mCons; rw [e1]; simp [e2]
theorem nil_e : mNil ρ h = some (.ok [] h) := rfl
theorem tup_e (e : es ρ h = some (.ok ws h1)) (hl : ws.length ≤ LIM) : mTup es ρ h = some (.ok (.tup ws) h1) := by
  unfold mTup; rw [e]; simp [hl]
theorem lst_e (e : es ρ h = some (.ok ws h1)) (hl : ws.length ≤ LIM) : mLst es ρ h = some (.ok (.ref h1.length) (h1 ++ [.lst ws])) := by
  unfold mLst; rw [e]; simp [hl]
theorem op_e {f : O2} {r : Option (Rz U)} (e1 : a ρ h = some (.ok x h1)) (e2 : b ρ h1 = some (.ok y h2)) (e3 : f x y h2 = r) : mOp f a b ρ h = r := by
  unfold mOp; rw [e1]; simp only [bnd_ok]; rw [e2]; exact e3
theorem var_e {i : Nat} (e : ρ[i]? = some (some w)) : mVar i ρ h = some (.ok w h) := by
  unfold mVar; rw [e]
theorem c_e : mC w ρ h = some (.ok w h) := rfl
theorem neg_e {k : Int} (e1 : e ρ h = some (.ok (.int k) h1)) : mNeg e ρ h = some (.ok (.int (-k)) h1) := by
  unfold mNeg; rw [e1]; rfl
theorem cb_e {f : MF} {r : Option (Rz U)} (e1 : es ρ h = some (.ok ws h1)) (e2 : f ws h1 = r) : mCB f es ρ h = r := by
  unfold mCB; rw [e1]; exact e2
theorem cons_x {c : Nat} {fs : List (Str × U)} (e1 : e ρ h = some (.ex c fs h1)) : mCons e es ρ h = some (.ex c fs h1) := by
  unfold mCons; rw [e1]; rfl
theorem cons_x2 {c : Nat} {fs : List (Str × U)} (e1 : e ρ h = some (.ok w h1)) (e2 : es ρ h1 = some (.ex c fs h2)) : mCons e es ρ h = some (.ex c fs h2) := by
  unfold mCons; rw [e1]; simp [e2]
theorem cb_x {f : MF} {c : Nat} {fs : List (Str × U)} (e1 : es ρ h = some (.ex c fs h1)) : mCB f es ρ h = some (.ex c fs h1) := by
  unfold mCB; rw [e1]; rfl
theorem tst_e {f : O2} {k : Bool} (e1 : a ρ h = some (.ok x h1)) (e2 : b ρ h1 = some (.ok y h2)) (e3 : f x y h2 = some (.ok (.bl k) h3)) : mB (mOp f a b) ρ h = some (.ok k h3) := by
  unfold mB; rw [op_e e1 e2 e3]; rfl
theorem b_e {k : Bool} (e1 : e ρ h = some (.ok (.bl k) h1)) : mB e ρ h = some (.ok k h1) := by
  unfold mB; rw [e1]; rfl
theorem not_e {t : MT} {k : Bool} (e1 : t ρ h = some (.ok k h1)) : mTNot t ρ h = some (.ok (!k) h1) := by
  unfold mTNot; rw [e1]; rfl
theorem or_t {t u : MT} (e1 : t ρ h = some (.ok true h1)) : mTOr t u ρ h = some (.ok true h1) := by
  unfold mTOr; rw [e1]; rfl
theorem or_f {t u : MT} {r : Option (Rz Bool)} (e1 : t ρ h = some (.ok false h1)) (e2 : u ρ h1 = r) : mTOr t u ρ h = r := by
  unfold mTOr; rw [e1]; simp only [bnd_ok]; rw [if_neg (by decide)]; exact e2
theorem and_f {t u : MT} (e1 : t ρ h = some (.ok false h1)) : mTAnd t u ρ h = some (.ok false h1) := by
  unfold mTAnd; rw [e1]; rfl
theorem and_t {t u : MT} {r : Option (Rz Bool)} (e1 : t ρ h = some (.ok true h1)) (e2 : u ρ h1 = r) : mTAnd t u ρ h = r := by
  unfold mTAnd; rw [e1]; simp only [bnd_ok]; rw [if_pos trivial]; exact e2
theorem isn_e {neg : Bool} (e1 : e ρ h = some (.ok x h1)) : mIsN neg e ρ h = some (.ok (.bl (isNon x != neg)) h1) := by
  unfold mIsN; rw [e1]; rfl
theorem isn_b {neg k : Bool} (e1 : e ρ h = some (.ok x h1)) (hk : (isNon x != neg) = k) : mB (mIsN neg e) ρ h = some (.ok k h1) := by
  subst hk; exact b_e (isn_e e1)
theorem ifE_t {t : MT} {r : Option (Rz U)} (e1 : t ρ h = some (.ok true h1)) (e2 : a ρ h1 = r) : mIfE t a b ρ h = r := by
  unfold mIfE; rw [e1]; simp only [bnd_ok]; rw [if_pos trivial]; exact e2
theorem ifE_f {t : MT} {r : Option (Rz U)} (e1 : t ρ h = some (.ok false h1)) (e2 : b ρ h1 = r) : mIfE t a b ρ h = r := by
  unfold mIfE; rw [e1]; simp only [bnd_ok]; rw [if_neg (by decide)]; exact e2
theorem sl_e {f : OS} {lo hi : MO} {l u : Option Int} {r : Option (Rz U)} (e1 : e ρ h = some (.ok x h1)) (e2 : lo ρ h1 = some (.ok l h2)) (e3 : hi ρ h2 = some (.ok u h3)) (e4 : f x l u h3 = r) : mSl f e lo hi ρ h = r := by
  unfold mSl; rw [e1]; simp only [bnd_ok]; rw [e2]; simp only [bnd_ok]; rw [e3]; exact e4
theorem no_e : mNoPart ρ h = some (.ok none h) := rfl
theorem part_e {k : Int} (e1 : e ρ h = some (.ok (.int k) h1)) : mPart e ρ h = some (.ok (some k) h1) := by
  unfold mPart; rw [e1]; rfl
/-! statements -/
theorem set_s {i : Nat} (e1 : e ρ h = some (.ok w h1)) : mSet i e ρ h = some (.nx (ρ.set i (some w)) h1) := by
  unfold mSet; rw [e1]; rfl
theorem asg_s {g : MG} (e1 : e ρ h = some (.ok w h1)) (e2 : g w ρ = some ρ1) : mAsg g e ρ h = some (.nx ρ1 h1) := by
  unfold mAsg; rw [e1]; simp only [bndS_ok]; rw [e2]
theorem drop_s (e1 : e ρ h = some (.ok w h1)) : mDrop e ρ h = some (.nx ρ h1) := by
  unfold mDrop; rw [e1]; rfl
theorem drop_x {c : Nat} {fs : List (Str × U)} (e1 : e ρ h = some (.ex c fs h1)) : mDrop e ρ h = some (.ex c fs ρ h1) := by
  unfold mDrop; rw [e1]; rfl
theorem ret_s (e1 : e ρ h = some (.ok w h1)) : mRet e ρ h = some (.rt w h1) := by
  unfold mRet; rw [e1]; rfl
theorem ret_x {c : Nat} {fs : List (Str × U)} (e1 : e ρ h = some (.ex c fs h1)) : mRet e ρ h = some (.ex c fs ρ h1) := by
  unfold mRet; rw [e1]; rfl
theorem if_t {c : MT} {s t : MS} (e : c ρ h = some (.ok true h1)) : mIf c s t ρ h = s ρ h1 := by
  unfold mIf; rw [e]; rfl
theorem if_f {c : MT} {s t : MS} (e : c ρ h = some (.ok false h1)) : mIf c s t ρ h = t ρ h1 := by
  unfold mIf; rw [e]; rfl
theorem seq_n {s t : MS} (e : s ρ h = some (.nx ρ1 h1)) : mSeq s t ρ h = t ρ1 h1 := by unfold mSeq; rw [e]
theorem seq_x {s t : MS} {c : Nat} {fs : List (Str × U)} (e : s ρ h = some (.ex c fs ρ1 h1)) : mSeq s t ρ h = some (.ex c fs ρ1 h1) := by unfold mSeq; rw [e]
theorem seq_r {s t : MS} (e : s ρ h = some (.rt w h1)) : mSeq s t ρ h = some (.rt w h1) := by unfold mSeq; rw [e]
theorem skip_s : mSkip ρ h = some (.nx ρ h) := rfl
/-! a def's end -/
theorem fun_r {n N : Nat} {body : MS} (hl : ws.length = n) (e : body (ws.map some ++ List.replicate (N - n) none) h = some (.rt w h1)) : mfun n N body ws h = some (.ok w h1) := by
  unfold mfun; rw [if_pos hl, e]
theorem fun_n {n N : Nat} {body : MS} (hl : ws.length = n) (e : body (ws.map some ++ List.replicate (N - n) none) h = some (.nx ρ1 h1)) : mfun n N body ws h = some (.ok .non h1) := by
  unfold mfun; rw [if_pos hl, e]
theorem fun_x {n N : Nat} {body : MS} {c : Nat} {fs : List (Str × U)} (hl : ws.length = n) (e : body (ws.map some ++ List.replicate (N - n) none) h = some (.ex c fs ρ1 h1)) : mfun n N body ws h = some (.ex c fs h1) := by
  unfold mfun; rw [if_pos hl, e]
/-! heaps -/
theorem app_at {H : Hm} {r : Nat} {x : Cell} (e : Hm) (hc : H[r]? = some x) : (H ++ e)[r]? = some x := by
  rw [List.getElem?_append_left (List.getElem?_eq_some_iff.mp hc).1]; exact hc
theorem lst_at {l : Nat} {us : List U} (e : h[l]? = some (.lst us)) : rd h l = some us := ev_rdL e
theorem add_l {i j : Nat} {xs ys : List U} (hi : h[i]? = some (.lst xs)) (hj : h[j]? = some (.lst ys)) (hl : xs.length + ys.length ≤ LIM) : oAdd (.ref i) (.ref j) h = some (.ok (.ref h.length) (h ++ [.lst (xs ++ ys)])) := by
  unfold oAdd
  simp only [oI0, oAddS, oAddL, hi, hj]
  rw [if_pos hl]
theorem cut_l {L : Nat} {xs : List U} {lo hi : Option Int} (e : h[L]? = some (.lst xs)) : oSl (.ref L) lo hi h = some (.ok (.ref h.length) (h ++ [.lst (cut xs lo hi)])) := by
  unfold oSl oSlS oSlL
  simp [rd, e]
theorem cut_hi {xs : List U} (k : Nat) : cut xs none (some (k : Int)) = xs.take k := by
  unfold cut
  rw [HT.sIx_nat, HT.sIx_none]
  simp
theorem cut_lo {xs : List U} (k : Nat) : cut xs (some (k : Int)) none = xs.drop k := by
  unfold cut
  rw [HT.sIx_nat, HT.sIx_none]
  by_cases h : k ≤ xs.length
  · rw [Nat.min_eq_left h, List.take_of_length_le (by simp)]
  · rw [Nat.min_eq_right (by omega), List.drop_of_length_le (Nat.le_refl _), List.drop_of_length_le (by omega)]
    simp
theorem cut_lo' {xs : List U} (k : Nat) (hk : 0 < k) : cut xs (some (-(k : Int))) none = xs.drop (xs.length - k) := by
  unfold cut
  rw [HT.sIx_none]
  unfold HT.sIx
  simp only
  rw [if_pos (by omega), show (-(k : Int) + (xs.length : Int)).toNat = xs.length - k by omega]
  rw [List.take_of_length_le (by simp)]
theorem cut_hi' {xs : List U} (k : Nat) (hk : 0 < k) : cut xs none (some (-(k : Int))) = xs.take (xs.length - k) := by
  unfold cut
  rw [HT.sIx_none]
  unfold HT.sIx
  simp only
  rw [if_pos (by omega), show (-(k : Int) + (xs.length : Int)).toNat = xs.length - k by omega]
  simp
/-- the k-th of a row -/
theorem ix_at {us : List U} {k : Nat} {i : Int} (hi : i = (k : Int)) (e : us[k]? = some w) : atI us i = some w := by
  subst hi
  have hk := (List.getElem?_eq_some_iff.mp e).1
  unfold atI ixN
  rw [if_pos (by omega), if_pos (by omega)]
  simpa using e
theorem ix_l {us : List U} {L k : Nat} {i : Int} (eL : h[L]? = some (.lst us)) (hi : i = (k : Int)) (e : us[k]? = some w) : oIx (.ref L) (.int i) h = some (.ok w h) := ev_ix (ev_rdL eL) (ix_at hi e)
theorem ix_last {us : List U} {L : Nat} (eL : h[L]? = some (.lst (us ++ [w]))) : oIx (.ref L) (.int (-1)) h = some (.ok w h) := by
  refine ev_ix (ev_rdL eL) ?_
  unfold atI ixN
  rw [if_neg (by omega), if_pos (by simp; omega)]
  simp only [Option.bind_some]
  rw [show (-1 + ((us ++ [w]).length : Int)).toNat = us.length by simp; omega]
  simp
theorem len_l {us : List U} {L : Nat} (eL : h[L]? = some (.lst us)) : fLen [.ref L] h = some (.ok (.int us.length) h) := ev_len (ev_rdL eL)
theorem app_l {us : List U} {L : Nat} (e1 : a ρ h = some (.ok (.ref L) h1)) (e2 : b ρ h1 = some (.ok w h2)) (eL : h2[L]? = some (.lst us)) (hl : us.length < LIM) (hk : kList (.ref L) h1 = true) : mBM kList fAppend a (mCons b mNil) ρ h = some (.ok .non (h2.set L (.lst (us ++ [w])))) := by
  unfold mBM
  rw [e1]
  simp only [bnd_ok, hk, if_true]
  rw [cons_e e2 nil_e]
  simp [fAppend, eL, hl]
theorem klist {us : List U} {L : Nat} (eL : h[L]? = some (.lst us)) : kList (.ref L) h = true := by simp [kList, eL]
theorem set_end {c d : Cell} {L : Nat} (hL : L = h.length) : (h ++ [c]).set L d = h ++ [d] := by
  subst hL
  rw [List.set_append_right _ _ (Nat.le_refl _)]
  simp
/-! loops -/
theorem for_e {it : MI} {g : MG} {s : MS} {us : List U} {chk : Hm → Prop} {r : Option Sz} (e1 : it ρ h = some (.ok (us, chk) h1)) (e2 : forC chk g s us ρ h1 = r) : mFor it g s ρ h = r := by
  unfold mFor; rw [e1]; exact e2
theorem it_r1 {n : Int} (e1 : e ρ h = some (.ok (.int n) h1)) (h0 : -1000000000 ≤ n) (hn : n ≤ 1000000000) : iR1 e ρ h = some (.ok (rItems 0 n.toNat, fun _ => True) h1) := by
  unfold iR1; rw [e1]; simp [h0, hn]
theorem it_r2 {i j : Int} (e1 : a ρ h = some (.ok (.int i) h1)) (e2 : b ρ h1 = some (.ok (.int j) h2)) (i0 : -1000000000 ≤ i) (i1 : i ≤ 1000000000) (j0 : -1000000000 ≤ j) (j1 : j ≤ 1000000000) : iR2 a b ρ h = some (.ok (rItems i (j - i).toNat, fun _ => True) h2) := by
  unfold iR2; rw [e1]; simp only [bnd_ok]; rw [e2]; simp [i0, i1, j0, j1]
theorem it_l {us : List U} {L : Nat} (e1 : e ρ h = some (.ok (.ref L) h1)) (eL : h1[L]? = some (.lst us)) : iSeq e ρ h = some (.ok (us, fun h => h[L]? = some (.lst us)) h1) := by
  unfold iSeq iL; rw [e1]; simp [eL]
theorem it_el {us : List U} {L : Nat} (e1 : e ρ h = some (.ok (.ref L) h1)) (eL : h1[L]? = some (.lst us)) : iEnA e ρ h = some (.ok (eItems 0 us, fun h => h[L]? = some (.lst us)) h1) := by
  unfold iEnA iEn; rw [e1]; simp [eL]
theorem it_et {us : List U} (e1 : e ρ h = some (.ok (.tup us) h1)) : iEnA e ρ h = some (.ok (eItems 0 us, fun _ => True) h1) := by
  unfold iEnA iEnT; rw [e1]; simp
theorem it_t {us : List U} (e1 : e ρ h = some (.ok (.tup us) h1)) : iSeq e ρ h = some (.ok (us, fun _ => True) h1) := by
  unfold iSeq iT; rw [e1]; simp
theorem rItems_succ (lo : Int) (n : Nat) : rItems lo (n + 1) = .int lo :: rItems (lo + 1) n := by
  unfold rItems
  rw [List.range_succ_eq_map]
  simp only [List.map_cons, List.map_map]
  congr 1
  · simp
  · refine List.map_congr_left fun j _ => ?_
    simp only [Function.comp]
    congr 1
    omega
theorem rItems_zero (lo : Int) : rItems lo 0 = [] := rfl
end
section
variable {i j : Int} {h : Hm} {n : Nat}
theorem le_t (q : i ≤ j) : oLe (.int i) (.int j) h = some (.ok (.bl true) h) := by show some (Rz.ok (U.bl (decide (i ≤ j))) h) = _; rw [decide_eq_true q]
theorem le_f (q : ¬ i ≤ j) : oLe (.int i) (.int j) h = some (.ok (.bl false) h) := by show some (Rz.ok (U.bl (decide (i ≤ j))) h) = _; rw [decide_eq_false q]
theorem lt_t (q : i < j) : oLt (.int i) (.int j) h = some (.ok (.bl true) h) := by show some (Rz.ok (U.bl (decide (i < j))) h) = _; rw [decide_eq_true q]
theorem lt_f (q : ¬ i < j) : oLt (.int i) (.int j) h = some (.ok (.bl false) h) := by show some (Rz.ok (U.bl (decide (i < j))) h) = _; rw [decide_eq_false q]
theorem ge_t (q : i ≥ j) : oGe (.int i) (.int j) h = some (.ok (.bl true) h) := by show some (Rz.ok (U.bl (decide (j ≤ i))) h) = _; rw [decide_eq_true q]
theorem ge_f (q : ¬ i ≥ j) : oGe (.int i) (.int j) h = some (.ok (.bl false) h) := by show some (Rz.ok (U.bl (decide (j ≤ i))) h) = _; rw [decide_eq_false q]
theorem gt_t (q : i > j) : oGt (.int i) (.int j) h = some (.ok (.bl true) h) := by show some (Rz.ok (U.bl (decide (j < i))) h) = _; rw [decide_eq_true q]
theorem gt_f (q : ¬ i > j) : oGt (.int i) (.int j) h = some (.ok (.bl false) h) := by show some (Rz.ok (U.bl (decide (j < i))) h) = _; rw [decide_eq_false q]
theorem eq_t (q : i = j) : oEq n (.int i) (.int j) h = some (.ok (.bl true) h) := by rw [ev_eqI, decide_eq_true q]
theorem eq_f (q : i ≠ j) : oEq n (.int i) (.int j) h = some (.ok (.bl false) h) := by rw [ev_eqI, decide_eq_false q]
theorem ne_t (q : i ≠ j) : oNe n (.int i) (.int j) h = some (.ok (.bl true) h) := by rw [ev_neI, decide_eq_false q]; rfl
theorem ne_f (q : i = j) : oNe n (.int i) (.int j) h = some (.ok (.bl false) h) := by rw [ev_neI, decide_eq_true q]; rfl
end
theorem attr_x {f : Str} {a b : Nat → Bool} {c j : Nat} {fs : List (Str × U)} {e : ME} {ρ : Ev} {h h1 : Hm} {w : U} (e1 : e ρ h = some (.ok (.ref j) h1)) (e2 : h1[j]? = some (.exc c fs)) (hb : b c = true) (hf : fget f fs = some w) : mAttrX f a b e ρ h = some (.ok w h1) := by
  unfold mAttrX; rw [e1]; simp only [bnd_ok, e2, hb, hf, if_true]
theorem attr_i {f : Str} {a b : Nat → Bool} {c j : Nat} {fs : List (Str × U)} {e : ME} {ρ : Ev} {h h1 : Hm} {w : U} (e1 : e ρ h = some (.ok (.ref j) h1)) (e2 : h1[j]? = some (.ins c fs)) (hb : a c = true) (hf : fget f fs = some w) : mAttrX f a b e ρ h = some (.ok w h1) := by
  unfold mAttrX; rw [e1]; simp only [bnd_ok, e2, hb, hf, if_true]
end ML

set_option maxHeartbeats 4000000
/-! rising maps by rows: the arithmetic, without Python -/
namespace RM
abbrev Row := Int × Int × Bool
/-- the value of a row at a minute -/
def rv (r : Row) (m : Int) : Int := if r.2.2 then r.2.1 + m - r.1 else r.2.1
/-- what is known while minutes are looked at -/
structure S where
  done : List Row
  b : Int
  f : Int
  st : Option Int
  la : Int
def stp (s : S) (m v : Int) : S :=
  if s.st = none ∧ (v - s.la = 0 ∨ v - s.la = 1) then { s with st := some (v - s.la), la := v }
  else if s.st ≠ some (v - s.la) then ⟨s.done ++ [(s.b, s.f, decide (s.st = some 1))], m, v, none, v⟩
  else { s with la := v }
/-- minutes lo, lo + 1, .., n of them -/
def runV (val : Int → Int) : Int → Nat → S → S
  | _, 0, s => s
  | lo, n + 1, s => runV val (lo + 1) n (stp s lo (val lo))
def afterOf : List Row → Row → Int
  | [], r => r.1 + 3
  | n :: _, _ => n.1
/-- one row -/
def runR (r : Row) (after : Int) (s : S) : S :=
  let lo := if r.1 ≥ 1 then r.1 else 1
  let hi := if after ≤ r.1 + 3 then after else r.1 + 3
  { runV (rv r) lo (hi - lo).toNat s with la := rv r (after - 1) }
def runRs : List Row → S → S
  | [], s => s
  | r :: rs, s => runRs rs (runR r (afterOf rs r) s)
def fin (s : S) : List Row := s.done ++ [(s.b, s.f, true)]
def short : List Row → List Row
  | [] => []
  | r :: rs => fin (runRs (r :: rs) ⟨[], 0, r.2.1, none, r.2.1⟩)
theorem stp_len (s : S) (m v : Int) : (stp s m v).done.length ≤ s.done.length + 1 := by
  unfold stp
  split
  · simp
  · split <;> simp
theorem runV_len {val : Int → Int} : ∀ (n : Nat) (lo : Int) (s : S), (runV val lo n s).done.length ≤ s.done.length + n
  | 0, _, _ => Nat.le_refl _
  | n + 1, lo, s => by
    have h1 := runV_len n (lo + 1) (stp s lo (val lo)) (val := val)
    have h2 := stp_len s lo (val lo)
    unfold runV
    omega
theorem runR_len (r : Row) (after : Int) (s : S) : (runR r after s).done.length ≤ s.done.length + 3 := by
  unfold runR
  simp only
  refine Nat.le_trans (runV_len _ _ _) ?_
  split <;> split <;> omega
/-- may stand behind -/
def fol (b r : Row) : Prop := b.1 < r.1 ∧ r.1 - 1 ≤ rv b (r.1 - 1) ∧ rv b (r.1 - 1) ≤ r.2.1
instance (b r : Row) : Decidable (fol b r) := by unfold fol; infer_instance
/-- right rows behind the row b -/
def GoodFrom : Row → List Row → Prop
  | b, [] => b.2.2 = true
  | b, r :: rs => fol b r ∧ r.1 ≤ r.2.1 ∧ GoodFrom r rs
def Good : List Row → Prop
  | [] => False
  | r :: rs => r.1 = 0 ∧ 0 ≤ r.2.1 ∧ GoodFrom r rs
/-- the value behind the row b -/
def valF : Row → List Row → Int → Int
  | b, [], t => rv b t
  | b, r :: rs, t => if t < r.1 then rv b t else valF r rs t
def val : List Row → Int → Int
  | [], t => t
  | r :: rs, t => valF r rs t
end RM

set_option maxHeartbeats 4000000
/-! xs[i::-1] -/
namespace ML
open PySem PySem.Spec PyProof.Rows L2
def revFrom (n : Nat) (v : Int) : Nat := (max (-1) (min (if v < 0 then v + n else v) ((n : Int) - 1)) + 1).toNat
theorem pick_rev (items : Array Value) (v : Int) : slicePick items (some v) none (some (-1)) = (items.toList.take (revFrom items.size v)).reverse.toArray := by
  unfold slicePick
  have hb : sliceBounds (some v) none (some (-1)) items.size = (((revFrom items.size v : Nat) : Int) - 1, -1, -1) := by
    unfold sliceBounds revFrom
    simp
    omega
  rw [hb]
  show ((sliceRange (((revFrom items.size v : Nat) : Int) - 1) (-1) (-1)).filterMap (items[·]?)).toArray = _
  rw [PySem.W.krv_sliceRange, PySem.W.krv_range, List.filterMap_reverse]
  have h := pick_run items 0 (revFrom items.size v)
  have e : (List.range (revFrom items.size v)).map (0 + ·) = List.range (revFrom items.size v) := by
    rw [show ((0 + ·) : Nat → Nat) = id from funext fun k => Nat.zero_add k, List.map_id]
  rw [e, List.drop_zero] at h
  rw [h]
def tRevF (K : PySem.W.Frag) (te : TE) (tl : TO) : TE := fun σ H Q => te σ H fun x H1 => ∃ a, x = .ref a ∧ tl σ H1 fun l H2 => ∃ v xs, l = some v ∧ SqL K H2 a xs ∧ ∀ p, H2 p = none → Q (.ref p) (upd H2 p (.lst (xs.take (revFrom xs.length v)).reverse))
theorem pe_revF {X : Cx} {e lo : Expr} {te : TE} {tl : TO} {k : Nat} {p1 p2 p3 pos : Pos} (he : PE X e te) (hl : PO X (some lo) tl)
    (hops : subscriptTail e (.Slice (some lo) none (some (.UnaryOp .USub (.Constant (.int 1) k p1) p2)) p3) = subscriptTail e (.Slice none none (some (.UnaryOp .USub (.Constant (.int 1) k p1) p2)) p3)) : PE X (.Subscript e (.Slice (some lo) none (some (.UnaryOp .USub (.Constant (.int 1) k p1) p2)) p3) pos) (tRevF X.K te tl) := by
  refine ⟨fun pins s σ H Q I h => ?_⟩
  refine Subscript_ (thn (he.run pins s σ H _ I h) fun v s1 ⟨x, H1, I1, r1, q1⟩ => ?_)
  obtain ⟨a, ex, q⟩ := q1
  subst ex
  cases r1
  have hst : PO X (some (.UnaryOp .USub (.Constant (.int 1) k p1) p2)) (tPart (tUn (rU fun i => .int (-i)) (tC (.int 1)))) := po_some (pe_un un_neg pe_int)
  refine wpAny_Slice (thn (hl.run pins s1 σ H1 _ I1 q) fun vl s2 ⟨l, H2, I2, pl, z⟩ => ?_)
  obtain ⟨lv, xs, el, hx, q⟩ := z
  subst el
  refine thn (po_none.run pins s2 σ H2 (fun o H3 => o = none ∧ H3 = H2) I2 ⟨rfl, rfl⟩) fun vu s3 ⟨u, H3, I3, pu, eu, e3⟩ => ?_
  subst eu e3
  refine thn (hst.run pins s3 σ H3 (fun o H4 => o = some (-1) ∧ H4 = H3) I3 ⟨1, rfl, -1, rfl, rfl, rfl⟩) fun vs s4 ⟨o, H4, I4, ps, eo, e4⟩ => ?_
  subst eo e4
  have I5 : Inv X pins σ H4 { s4 with heap := s4.heap.push { cls := .type "slice", data := .fields #[vl, vu, vs] } } := I4.kept (t' := s4.toks) fun b ob q => Heap.get?_push_of_some _ q
  obtain ⟨its, r, ht, hz⟩ := I5.list hx
  have hlen := r.length
  show wpAny (model X.prog X.w) X.A (subscriptTail e (.Slice (some lo) none (some (.UnaryOp .USub (.Constant (.int 1) k p1) p2)) p3) (.ref a) (.ref s4.heap.objs.size)) (EP X pins σ Q) X.xe { s4 with heap := s4.heap.push { cls := .type "slice", data := .fields #[vl, vu, vs] } }
  rw [hops]
  refine tail_any (ops := [.ref a, .ref s4.heap.objs.size]) ht.isList.typeIs (PySem.slot_list_getitem.lookup) ?_ (by with_unfolding_all rfl)
  refine wpAny_getItem_list_slice ht.isList (Heap.IsSliceOf.new _ vl vu vs) pl pu ps (by decide) ?_ (by rw [List.size_toArray]; omega)
  rw [pick_rev]
  have hsz : its.toArray.size = xs.length := by simp [hlen]
  rw [hsz]
  refine ⟨.ref _, _, I5.laid (t' := s4.toks) (o := .lst (xs.take (revFrom xs.length lv)).reverse) (fun b ob q => Heap.get?_push_of_some _ q) (Nat.le_refl _) ?_, rfl, q _ (I5.hok.fresh (Nat.le_refl _))⟩
  exact ⟨by rw [List.length_reverse, List.length_take]; omega, _, 0, (r.take _).reverse, Heap.get?_push_size _ rfl⟩
section
variable {G : Gm} {Wx : WX}
def mRevF (e : ME) (lo : MO) : ME := fun ρ h => bnd (e ρ h) fun w h1 => match w with
  | .ref i => bnd (lo ρ h1) fun l h2 => match l with
    | some v => match rd h2 i with
      | some ws => some (.ok (.ref h2.length) (h2 ++ [.lst (ws.take (revFrom ws.length v)).reverse]))
      | none => none
    | none => none
  | _ => none
theorem w_revF {e : ME} {lo : MO} : ∀ σ H Q, tE G Wx (mRevF e lo) σ H Q → tRevF G.K (tE G Wx e) (tO G Wx lo) σ H Q := fun σ H Q ⟨μ, ρ, h, s, p⟩ =>
  ⟨μ, ρ, h, s, (Post.bnd p).mono fun μ1 h1 H1 wx g q x rx => by
    cases wx with
    | ref i =>
      simp only [RU] at rx
      obtain ⟨hi, rfl⟩ := rx
      simp only at q
      refine ⟨_, rfl, μ1, ρ, h1, s.on g, (Post.bnd q).mono fun μ2 h2 H2 l g2 q2 => ?_⟩
      split at q2
      · rename_i v
        split at q2
        · rename_i ws er
          obtain ⟨xs, sq, rs⟩ := rd_ok g2.rel er
          rw [g2.mu i hi] at sq
          refine ⟨v, xs, rfl, sq, fun p np => ?_⟩
          rw [RUs.length rs]
          have gD := Gr.new (o := .lst (xs.take (revFrom ws.length v)).reverse) (c := .lst (ws.take (revFrom ws.length v)).reverse) g2.rel np ⟨_, upd_same, RUs.mono (fun i hi => nu_old hi) (Nat.le_succ _) (TS0.fresh np) _ _ (RUs.take _ rs).reverse⟩
          refine q2 _ _ gD _ ?_
          simp only [RU]
          exact ⟨by simp, by rw [nu_new]⟩
        · exact False.elim q2
      · exact False.elim q2
    | _ => exact False.elim q⟩
end
section
variable {X : Cx} {G : Gm} {Wx : WX} {e lo : Expr} {ma : ME} {ml : MO} {k : Nat} {p1 p2 p3 pos : Pos}
theorem dRevF (hG : X.K = G.K) (he : PE X e (tE G Wx ma)) (hl : PO X (some lo) (tO G Wx ml)) (hops : subscriptTail e (.Slice (some lo) none (some (.UnaryOp .USub (.Constant (.int 1) k p1) p2)) p3) = subscriptTail e (.Slice none none (some (.UnaryOp .USub (.Constant (.int 1) k p1) p2)) p3)) : PE X (.Subscript e (.Slice (some lo) none (some (.UnaryOp .USub (.Constant (.int 1) k p1) p2)) p3) pos) (tE G Wx (mRevF ma ml)) := by
  have r := pe_revF (k := k) (p1 := p1) (p2 := p2) (p3 := p3) (pos := pos) he hl hops
  rw [hG] at r
  exact r.weak w_revF
end
end ML

set_option maxHeartbeats 4000000
/-! methods with one keyword-only parameter that has a default -/
namespace ML
open PySem PySem.Spec PyProof.Rows L2
section
variable {X : Cx} {CX : CXT} {k n : Nat} {C f : Addr} {fd : FuncData} {ps ks : List Str} {sp : Sp} {E : L2.St → XK} {m pn : Str} {pos apos kpos : Pos} {o e : Expr} {ta te : TE} {d : Int} {g : List Value → List Value → List Value} {gV : List V → List V → List V}
theorem run_kw {pins : List (Addr × Obj)} {σ : L2.St} {H : Hp} {s : Shared} {Q : VK} {us ws : List Value} {vs zs : List V} (F : FnOk X.prog X.w X.K X.mg X.base CX k f fd ps sp) (hr : Room k X.A) (hb : KBn X.K fd ps n ks g gV) (hx : PassesAt CX X σ (E σ)) (I : L2.Inv X pins σ H s) (r : Vals vs us) (rz : Vals zs ws) (l1 : vs.length = n) (l2 : zs.length = ks.length) (h : sp (gV vs zs) H Q (E σ)) :
    wpAny (model X.prog X.w) X.A (call (.ref f) us (ks.zip ws)) (EP X pins σ Q) X.xe s := by
  have r2 := hb.rel r rz
  refine wpAny_call (codeAny_mono (F.run X.A X.stack s H ⟨us, ks.zip ws⟩ (g us ws) (gV vs zs) Q (E σ) hr I.env0 (hb.to s us ws I.kIn (r.length.symm.trans l1) (rz.length.symm.trans l2)) r2 h) fun r s' hq => ?_)
  cases r with
  | error e => exact hx pins _ _ e s' I hq
  | ok fl =>
    cases fl with
    | ret u => exact I.after hq
    | next => exact False.elim hq
    | brk => exact False.elim hq
    | cont => exact False.elim hq
def tMethK0 (C : Addr) (m : Str) (sp : Sp) (d : Int) (E : L2.St → XK) (ta : TE) : TE := fun σ H Q => ta σ H fun x H1 => ∃ a dx fs, x = .ref a ∧ H1 a = some (.ins C dx fs) ∧ fs.lookup m = none ∧ sp [x, .int d] H1 Q (E σ)
theorem pe_methK0 {pl : Sem Bool} {ds : List Value} (he : PE X o ta) (c : Cls X.K C) (hm : Meth X.K C m f) (F : FnOk X.prog X.w X.K X.mg X.base CX k f fd ps sp) (hr : Room k X.A) (hb : Binds X.K fd ps ds) (hd : Vals [.int d] ds) (hx : ∀ σ, PassesAt CX X σ (E σ))
    (ht : eval (.Call (.Attribute o m apos) [] [] pos) X.env = (do
      let ov ← eval o X.env
      standAt apos.atName
      let (f, first) ← holding [ov] (getMethod ov m pl)
      callWith pos f first (backTo pos (starEach [] X.env)) (backToKw pos (keywordEach [] X.env)))) :
    PE X (.Call (.Attribute o m apos) [] [] pos) (tMethK0 C m sp d E ta) := by
  refine ⟨fun pins s σ H Q I h => ?_⟩
  refine PySem.W.methodCall_KW (pl := pl) (thn (he.run pins s σ H _ I h) fun u s1 ⟨x, H1, I1, rx, a, dx, fs, ex, ea, l, q⟩ => ?_) ht
  subst ex
  obtain rfl : u = Value.ref a := rx
  refine getmeth_ok I1 ea c hm l ?_
  exact PySem.W.callWith_K0 (first := [.ref a]) I1.kIn hm.kp (run_fnSD (us := [.ref a]) (vs := [.ref a]) F hr hb hd (hx σ) I1 (.cons rfl .nil) q)
def tMethK1 (C : Addr) (m : Str) (sp : Sp) (E : L2.St → XK) (ta te : TE) : TE := fun σ H Q => ta σ H fun x H1 => ∃ a dx fs, x = .ref a ∧ H1 a = some (.ins C dx fs) ∧ fs.lookup m = none ∧ te σ H1 fun v H2 => sp [x, v] H2 Q (E σ)
theorem pe_methK1 {pl : Sem Bool} (he : PE X o ta) (hk : PE X e te) (c : Cls X.K C) (hm : Meth X.K C m f) (F : FnOk X.prog X.w X.K X.mg X.base CX k f fd ps sp) (hr : Room k X.A) (hb : KBn X.K fd ps 1 [pn] (fun us ws => us ++ ws) (fun vs zs => vs ++ zs)) (hx : ∀ σ, PassesAt CX X σ (E σ))
    (hall : (backToKw pos (keywordEach [⟨some pn, e, kpos⟩] X.env)).all (·.1.isSome) = true) (hks : (backToKw pos (keywordEach [⟨some pn, e, kpos⟩] X.env)).filterMap (·.1) = [pn]) (hpl : ((backTo pos (starEach [] X.env)).any (·.1) || (backToKw pos (keywordEach [⟨some pn, e, kpos⟩] X.env)).any (·.1.isNone)) = false)
    (ht : eval (.Call (.Attribute o m apos) [] [⟨some pn, e, kpos⟩] pos) X.env = (do
      let ov ← eval o X.env
      standAt apos.atName
      let (f, first) ← holding [ov] (getMethod ov m pl)
      callWith pos f first (backTo pos (starEach [] X.env)) (backToKw pos (keywordEach [⟨some pn, e, kpos⟩] X.env)))) :
    PE X (.Call (.Attribute o m apos) [] [⟨some pn, e, kpos⟩] pos) (tMethK1 C m sp E ta te) := by
  refine ⟨fun pins s σ H Q I h => ?_⟩
  refine PySem.W.methodCall_KW (pl := pl) (thn (he.run pins s σ H _ I h) fun u s1 ⟨x, H1, I1, rx, a, dx, fs, ex, ea, l, q⟩ => ?_) ht
  subst ex
  obtain rfl : u = Value.ref a := rx
  refine getmeth_ok I1 ea c hm l ?_
  refine PySem.W.callWith_KW0 (h₀ := X.base) I.ok.mod.kin hm.kp hall ?_ hpl
  refine thn ((pk_cons (nm := some pn) (kpos := kpos) hk pk_nil).run pos pins s1 σ H1 (fun zs H2 => match zs with | [v] => sp [.ref a, v] H2 Q (E σ) | _ => False) I1 q) fun ws s2 ⟨zs, H2, I2, rz, q2⟩ => ⟨I2.kIn, ?_⟩
  rw [hks]
  match zs, rz, q2 with
  | [v], rz, q2 => exact run_kw (us := [.ref a]) (vs := [.ref a]) F hr hb (hx σ) I2 (.cons rfl .nil) rz rfl rfl q2
end
section
variable {X : Cx} {G : Gm} {Wx : WX} {e o : Expr} {m pn : Str} {pos apos kpos : Pos} {me mo : ME}
/-- a method whose one parameter is keyword-only, with an integer as default -/
structure OwnMethK (P : Program) (w : World) (G : Gm) (mg : Str → Option Value) (base : Heap) (m pn : Str) (d : Int) (k c : Nat) (mf : MF) : Prop where
  cl : Cls G.K (G.ca c)
  ex : ∃ f fd ds, Meth G.K (G.ca c) m f ∧ Vals [V.int d] ds ∧ Binds G.K fd ["self", pn] ds ∧ KBn G.K fd ["self", pn] 1 [pn] (fun us ws => us ++ ws) (fun vs zs => vs ++ zs) ∧ FnM P w G mg base k f fd ["self", pn] mf
theorem dMethK0 {k j c : Nat} {d : Int} {mf : MF} {pl : Sem Bool} (hG : X.K = G.K) (om : OwnMethK X.prog X.w G X.mg X.base m pn d k c mf) (hr : Room j X.A) (hk : k ≤ j) (tk : Takes X Wx) (ho : PE X o (tE G Wx mo))
    (ht : eval (.Call (.Attribute o m apos) [] [] pos) X.env = (do
      let ov ← eval o X.env
      standAt apos.atName
      let (f, first) ← holding [ov] (getMethod ov m pl)
      callWith pos f first (backTo pos (starEach [] X.env)) (backToKw pos (keywordEach [] X.env)))) :
    PE X (.Call (.Attribute o m apos) [] [] pos) (tE G Wx (mMeth c m mf mo (mCons (mC (.int d)) mNil))) := by
  obtain ⟨f, fd, ds, M, hd, hb, _, F⟩ := om.ex
  have cl := om.cl
  unfold FnM at F
  obtain ⟨K, ca⟩ := G
  subst hG
  refine (pe_methK0 ho cl M F (hr.mono hk) hb hd (passAt tk) ht).weak fun σ H Q z => ?_
  obtain ⟨μ, ρ, h, s, p⟩ := w_meth (al_cons al_nil) σ H Q z
  exact ⟨μ, ρ, h, s, p.mono fun μ' h' H' w g q v r => by
    obtain ⟨a, dx, fs, ea, e2, e3, kk⟩ := q v r
    exact ⟨a, dx, fs, ea, e2, e3, w_nil _ _ _ (w_int _ _ _ (w_cons _ _ _ kk))⟩⟩
theorem dMethK1 {k j c : Nat} {d : Int} {mf : MF} {pl : Sem Bool} (hG : X.K = G.K) (om : OwnMethK X.prog X.w G X.mg X.base m pn d k c mf) (hr : Room j X.A) (hk : k ≤ j) (tk : Takes X Wx) (ho : PE X o (tE G Wx mo)) (he : PE X e (tE G Wx me))
    (hall : (backToKw pos (keywordEach [⟨some pn, e, kpos⟩] X.env)).all (·.1.isSome) = true) (hks : (backToKw pos (keywordEach [⟨some pn, e, kpos⟩] X.env)).filterMap (·.1) = [pn]) (hpl : ((backTo pos (starEach [] X.env)).any (·.1) || (backToKw pos (keywordEach [⟨some pn, e, kpos⟩] X.env)).any (·.1.isNone)) = false)
    (ht : eval (.Call (.Attribute o m apos) [] [⟨some pn, e, kpos⟩] pos) X.env = (do
      let ov ← eval o X.env
      standAt apos.atName
      let (f, first) ← holding [ov] (getMethod ov m pl)
      callWith pos f first (backTo pos (starEach [] X.env)) (backToKw pos (keywordEach [⟨some pn, e, kpos⟩] X.env)))) :
    PE X (.Call (.Attribute o m apos) [] [⟨some pn, e, kpos⟩] pos) (tE G Wx (mMeth c m mf mo (mCons me mNil))) := by
  obtain ⟨f, fd, ds, M, hd, _, hb, F⟩ := om.ex
  have cl := om.cl
  unfold FnM at F
  obtain ⟨K, ca⟩ := G
  subst hG
  refine (pe_methK1 ho he cl M F (hr.mono hk) hb (passAt tk) hall hks hpl ht).weak fun σ H Q z => ?_
  obtain ⟨μ, ρ, h, s, p⟩ := w_meth (al_cons al_nil) σ H Q z
  exact ⟨μ, ρ, h, s, p.mono fun μ' h' H' w g q v r => by
    obtain ⟨a, dx, fs, ea, e2, e3, kk⟩ := q v r
    refine ⟨a, dx, fs, ea, e2, e3, ?_⟩
    obtain ⟨μ2, ρ2, h2, s2, p2⟩ := w_cons _ _ _ kk
    exact ⟨μ2, ρ2, h2, s2, p2.mono fun μ3 h3 H3 w3 g3 q3 v3 r3 => w_nil _ _ _ (q3 v3 r3)⟩⟩
theorem ntTup2 {x y : Str} {i j k : Nat} {px py : Pos} (hG : X.K = G.K) (hc : X.calm = true) (h1 : PG X (.Name x px) ((NT.one i).tg G.K)) (h2 : PG X (.Name y py) ((NT.one j).tg G.K)) : PG X (.Tuple [.Name x px, .Name y py] k pos) ((NT.tup [i, j]).tg G.K) := by
  obtain ⟨K, ca⟩ := G
  subst hG
  exact pg_tup hc (pgs_cons h1 (pgs_cons h2 pgs_nil))
def tabList : TyK → Option Bool
  | .int => some false
  | .bl => some false
  | .non => some false
  | .str => some false
  | .lst => some true
  | .tup => some false
  | _ => none
theorem isiList : IsiC G tabList (.ty "list") (.type "list") := ⟨ClsV.ty _, fun k b h => by cases k <;> cases h <;> exact kit_ty (by decide +kernel), (fun c b h => nomatch h), (fun c b h => nomatch h)⟩
end
/-- the promise of the def itself, and how it is called -/
theorem kw_facts {K : PySem.W.Frag} {x qual pn : Str} {st : Stmt} {f kd : Addr} {fd : FuncData} {oc : Value} {od : Option Addr} {doc pm : Value} {an : Option Addr} {cdv ct : Value} {osl : Array (Option Value)} {d : Int} {tk : Tok}
    (hfd : fd = PySem.W.fnOf x qual (defArgs st) (defBody st) (defScope st) .none (.ref kd) doc pm an cdv ct) (lk : K.lookup f = some ⟨oc, od, .func fd, osl⟩) (hc : PySem.W.codeIn K cdv qual = true) (kp : PySem.W.keepIn K (.ref f) = true) (hn : PySem.W.nsIn K kd pn = some (some (.int d tk)))
    (h0 : ∀ (D : Addr) (doc pm : Value) (an : Option Addr) (cdv ct : Value) (us ks : List Value), us.length = 1 → ks.length = 1 → KwChain D ([pn].zip ks) (bindArgs (PySem.W.fnOf x qual (defArgs st) (defBody st) (defScope st) .none (.ref D) doc pm an cdv ct) ⟨us, []⟩) ([("self" : Str), pn].zip (us ++ ks)))
    (h1 : ∀ (D : Addr) (doc pm : Value) (an : Option Addr) (cdv ct : Value) (us mv ws : List Value), us.length = 1 → mv.length = 0 → ws.length = 1 → KwChain D ((([] : List (Str × V)).map (·.1)).zip mv) (bindArgs (PySem.W.fnOf x qual (defArgs st) (defBody st) (defScope st) .none (.ref D) doc pm an cdv ct) ⟨us, [pn].zip ws⟩) ([("self" : Str), pn].zip (us ++ ws))) :
    ∃ ds, Vals [V.int d] ds ∧ Binds K fd ["self", pn] ds ∧ KBn K fd ["self", pn] 1 [pn] (fun us ws => us ++ ws) (fun vs zs => vs ++ zs) := by
  have F : FunD K x qual (defArgs st) (defBody st) (defScope st) [] [(pn, V.int d)] f fd := ⟨⟨oc, od, .none, .ref kd, doc, pm, an, cdv, ct, osl, hfd, lk, hc, .inl ⟨rfl, rfl⟩, .inr ⟨kd, rfl, fun q hq => by rw [List.mem_singleton.mp hq]; exact ⟨_, hn, tk, rfl⟩⟩⟩, kp⟩
  obtain ⟨ds, hv, hb⟩ := F.binds0 (ps := ["self", pn]) 1 (by simp) rfl h0
  obtain ⟨mv, hk⟩ := F.kbinds0 (ps := ["self", pn]) 1 [pn] [] (fun us _ ws => us ++ ws) (by simp) (fun q hq => by cases hq) (fun r1 _ r3 => r1.append r3) h1
  exact ⟨ds, hv, hb, hk⟩
end ML

set_option maxHeartbeats 4000000
/-! rising maps by rows: the shortest rows are those of a walk over the minutes; stretches of one value -/
namespace RM
theorem stp_la (s : S) (m v : Int) : (stp s m v).la = v := by
  unfold stp
  split
  · rfl
  · split <;> rfl
theorem runV_add {A : Int → Int} : ∀ (n k : Nat) (lo : Int) (s : S), runV A lo (n + k) s = runV A (lo + n) k (runV A lo n s)
  | 0, k, lo, s => by simp [runV]
  | n + 1, k, lo, s => by
    rw [show n + 1 + k = (n + k) + 1 by omega]
    show runV A (lo + 1) (n + k) (stp s lo (A lo)) = runV A (lo + (n + 1 : Nat)) k (runV A (lo + 1) n (stp s lo (A lo)))
    rw [runV_add n k (lo + 1), show lo + ((n + 1 : Nat) : Int) = lo + 1 + (n : Int) by omega]
theorem runV_congr {A B : Int → Int} : ∀ (n : Nat) (lo : Int) (s : S), (∀ t, lo ≤ t → t < lo + n → A t = B t) → runV A lo n s = runV B lo n s
  | 0, _, _, _ => rfl
  | n + 1, lo, s, h => by
    show runV A (lo + 1) n (stp s lo (A lo)) = runV B (lo + 1) n (stp s lo (B lo))
    rw [h lo (by omega) (by omega)]
    exact runV_congr n (lo + 1) _ fun t h1 h2 => h t (by omega) (by omega)
theorem runV_la {A : Int → Int} : ∀ (n : Nat) (lo : Int) (s : S), 0 < n → (runV A lo n s).la = A (lo + n - 1)
  | 1, lo, s, _ => by
    show (stp s lo (A lo)).la = _
    rw [stp_la]
    congr 1
    omega
  | n + 2, lo, s, _ => by
    show (runV A (lo + 1) (n + 1) (stp s lo (A lo))).la = _
    rw [runV_la (n + 1) (lo + 1) _ (by omega)]
    congr 1
    omega
theorem la_self (s : S) {x : Int} (h : s.la = x) : { s with la := x } = s := by subst h; rfl
theorem stp_go {s : S} {m v d : Int} (h : s.st = some d) (hv : v - s.la = d) : stp s m v = { s with la := v } := by
  unfold stp
  rw [if_neg (by simp [h]), if_neg (by simp [h, hv])]
theorem stp_first {s : S} {m v d : Int} (h : s.st = none) (hv : v - s.la = d) (hd : d = 0 ∨ d = 1) : stp s m v = { s with st := some d, la := v } := by
  unfold stp
  rw [if_pos ⟨h, by rw [hv]; exact hd⟩, hv]
theorem stp_new {s : S} {m v : Int} (h : s.st ≠ some (v - s.la)) (h2 : s.st = none → v - s.la ≠ 0 ∧ v - s.la ≠ 1) : stp s m v = ⟨s.done ++ [(s.b, s.f, decide (s.st = some 1))], m, v, none, v⟩ := by
  unfold stp
  rw [if_neg (fun q => by have := h2 q.1; omega), if_pos h]
theorem runV_skip {A : Int → Int} {d : Int} : ∀ (n : Nat) (lo : Int) (s : S), s.st = some d → s.la = A (lo - 1) → (∀ t, lo - 1 ≤ t → t < lo + n - 1 → A (t + 1) = A t + d) → runV A lo n s = { s with la := A (lo + n - 1) }
  | 0, lo, s, h1, h2, h3 => (la_self s (by rw [h2]; congr 1; omega)).symm
  | n + 1, lo, s, h1, h2, h3 => by
    show runV A (lo + 1) n (stp s lo (A lo)) = _
    have e := h3 (lo - 1) (by omega) (by omega)
    rw [show lo - 1 + 1 = lo by omega] at e
    rw [stp_go h1 (by rw [h2, e]; omega), runV_skip n (lo + 1) { s with la := A lo } h1 (by show A lo = _; congr 1; omega) (fun t a b => h3 t (by omega) (by omega))]
    have : lo + 1 + (n : Int) - 1 = lo + ((n + 1 : Nat) : Int) - 1 := by omega
    rw [this]
theorem after3 {A : Int → Int} {lo d : Int} {s : S} (hd : d = 0 ∨ d = 1) (e1 : A (lo + 1) = A lo + d) (e2 : A (lo + 1 + 1) = A (lo + 1) + d) : (runV A lo 3 s).st = some d := by
  show (stp (stp (stp s lo (A lo)) (lo + 1) (A (lo + 1))) (lo + 1 + 1) (A (lo + 1 + 1))).st = some d
  have l1 := stp_la s lo (A lo)
  generalize stp s lo (A lo) = s1 at *
  have h2 : (stp s1 (lo + 1) (A (lo + 1))).st = none ∨ (stp s1 (lo + 1) (A (lo + 1))).st = some d := by
    cases hs : s1.st with
    | none => rw [stp_first hs (d := d) (by omega) hd]; exact .inr rfl
    | some x =>
      by_cases hx : x = d
      · subst hx
        rw [stp_go hs (by omega)]
        exact .inr hs
      · rw [stp_new (by rw [hs, show A (lo + 1) - s1.la = d by omega]; simpa using hx) (fun q => by rw [hs] at q; cases q)]
        exact .inl rfl
  have l2 := stp_la s1 (lo + 1) (A (lo + 1))
  generalize stp s1 (lo + 1) (A (lo + 1)) = s2 at *
  rcases h2 with h2 | h2
  · rw [stp_first h2 (d := d) (by omega) hd]
  · rw [stp_go h2 (by omega)]; exact h2
theorem after2 {A : Int → Int} {lo d : Int} {s : S} (hd : d = 0 ∨ d = 1) (hs : s.st = none) (e1 : A lo = s.la + d) (e2 : A (lo + 1) = A lo + d) : (runV A lo 2 s).st = some d := by
  show (stp (stp s lo (A lo)) (lo + 1) (A (lo + 1))).st = some d
  rw [stp_first hs (d := d) (by omega) hd, stp_go (d := d) rfl (by show A (lo + 1) - A lo = d; omega)]
def lo1 (r : Row) : Int := if r.1 ≥ 1 then r.1 else 1
theorem run_row {A : Int → Int} {r : Row} {after : Int} {s : S} (h0 : 0 ≤ r.1) (ha : r.1 < after) (hA : ∀ t, r.1 ≤ t → t < after → A t = rv r t) (hs : r.1 = 0 → s.la = A 0 ∧ s.st = none) : runR r after s = runV A (lo1 r) (after - lo1 r).toNat s := by
  obtain ⟨lo, hlo⟩ : ∃ lo, lo = lo1 r := ⟨_, rfl⟩
  have l1 : r.1 ≤ lo ∧ 1 ≤ lo ∧ (r.1 ≥ 1 → lo = r.1) ∧ (r.1 = 0 → lo = 1) := by
    rw [hlo]; unfold lo1; split <;> omega
  unfold runR
  simp only
  rw [show (if r.1 ≥ 1 then r.1 else 1) = lo from hlo.symm, ← hlo]
  have hla : rv r (after - 1) = A (after - 1) := (hA _ (by omega) (by omega)).symm
  by_cases hc : after ≤ r.1 + 3
  · rw [if_pos hc, runV_congr (A := rv r) (B := A) _ _ _ (fun t a b => (hA t (by omega) (by omega)).symm), hla]
    refine la_self _ ?_
    by_cases hn : 0 < (after - lo).toNat
    · rw [runV_la _ _ _ hn]; congr 1; omega
    · have : r.1 = 0 := by omega
      rw [show (after - lo).toNat = 0 by omega]
      show s.la = _
      rw [(hs this).1]; congr 1; omega
  · rw [if_neg hc, runV_congr (A := rv r) (B := A) _ _ _ (fun t a b => (hA t (by omega) (by omega)).symm), hla]
    obtain ⟨d, hd, hdA⟩ : ∃ d : Int, (d = 0 ∨ d = 1) ∧ ∀ t, r.1 ≤ t → t + 1 < after → A (t + 1) = A t + d := by
      refine ⟨if r.2.2 then 1 else 0, by split <;> simp, fun t a b => ?_⟩
      rw [hA t a (by omega), hA (t + 1) (by omega) (by omega)]
      unfold rv
      split <;> omega
    obtain ⟨k, hk⟩ : ∃ k : Nat, k = (after - (r.1 + 3)).toNat := ⟨_, rfl⟩
    rw [show (after - lo).toNat = (r.1 + 3 - lo).toNat + k by omega, runV_add]
    have hst : (runV A lo (r.1 + 3 - lo).toNat s).st = some d := by
      by_cases hr : r.1 ≥ 1
      · rw [show (r.1 + 3 - lo).toNat = 3 by have := l1.2.2.1 hr; omega]
        exact after3 hd (hdA lo (by omega) (by have := l1.2.2.1 hr; omega)) (hdA (lo + 1) (by omega) (by have := l1.2.2.1 hr; omega))
      · have hr0 : r.1 = 0 := by omega
        have := l1.2.2.2 hr0
        rw [show (r.1 + 3 - lo).toNat = 2 by omega]
        refine after2 hd (hs hr0).2 ?_ (hdA lo (by omega) (by omega))
        have e := hdA 0 (by omega) (by omega)
        rw [(hs hr0).1, this]
        exact e
    rw [runV_skip k _ _ hst (by rw [runV_la _ _ _ (by omega)]) (fun t a b => hdA t (by omega) (by omega))]
    have : lo + ((r.1 + 3 - lo).toNat : Int) + (k : Int) - 1 = after - 1 := by omega
    rw [this]
/-- the rows give the values A, up to the minute m -/
def CovTo (A : Int → Int) : List Row → Int → Prop
  | [], _ => True
  | [r], m => r.1 < m ∧ ∀ t, r.1 ≤ t → t < m → A t = rv r t
  | r :: q :: rest, m => r.1 < q.1 ∧ (∀ t, r.1 ≤ t → t < q.1 → A t = rv r t) ∧ CovTo A (q :: rest) m
def lastS : List Row → Int
  | [] => 0
  | [r] => r.1
  | _ :: q :: rest => lastS (q :: rest)
theorem lastS_snoc : ∀ (xs : List Row) (b : Row), lastS (xs ++ [b]) = b.1
  | [], b => rfl
  | [x], b => rfl
  | x :: y :: xs, b => lastS_snoc (y :: xs) b
theorem CovTo.ext {A : Int → Int} {b : Row} {m m' : Int} (hm : m ≤ m') (hA : ∀ t, m ≤ t → t < m' → A t = rv b t) : ∀ (xs : List Row), CovTo A (xs ++ [b]) m → CovTo A (xs ++ [b]) m'
  | [], h => ⟨by have := h.1; omega, fun t a c => if q : t < m then h.2 t a q else hA t (by omega) c⟩
  | [x], h => ⟨h.1, h.2.1, CovTo.ext hm hA [] h.2.2⟩
  | x :: y :: xs, h => ⟨h.1, h.2.1, CovTo.ext hm hA (y :: xs) h.2.2⟩
theorem CovTo.next {A : Int → Int} {b : Row} {m v : Int} {g : Bool} (hv : A m = v) : ∀ (xs : List Row), CovTo A (xs ++ [b]) m → CovTo A (xs ++ [b] ++ [(m, v, g)]) (m + 1)
  | [], h => ⟨h.1, h.2, by show m < m + 1; omega, fun t a c => by
      have : t = m := by have : m ≤ t := a; omega
      subst this
      rw [hv]
      unfold rv
      split <;> simp⟩
  | [x], h => ⟨h.1, h.2.1, CovTo.next hv [] h.2.2⟩
  | x :: y :: xs, h => ⟨h.1, h.2.1, CovTo.next hv (y :: xs) h.2.2⟩
theorem CovTo.le {A : Int → Int} {m : Int} : ∀ (rs : List Row) (r : Row), CovTo A (r :: rs) m → r.1 ≤ lastS (r :: rs)
  | [], r, h => Int.le_refl _
  | q :: rs, r, h => by
    have := CovTo.le rs q h.2.2
    have := h.1
    show r.1 ≤ lastS (q :: rs)
    omega
theorem run_rows {A : Int → Int} {m : Int} : ∀ (rs : List Row) (r : Row) (s : S), CovTo A (r :: rs) m → m = lastS (r :: rs) + 3 → 0 ≤ r.1 → (r.1 = 0 → s.la = A 0 ∧ s.st = none) → runRs (r :: rs) s = runV A (lo1 r) (m - lo1 r).toNat s
  | [], r, s, h, hm, h0, hs => by
    show runR r (r.1 + 3) s = _
    have hm : m = r.1 + 3 := hm
    rw [run_row h0 (by omega) (fun t a b => h.2 t a (by omega)) hs, hm]
  | q :: rs, r, s, h, hm, h0, hs => by
    show runRs (q :: rs) (runR r q.1 s) = _
    have h1 := h.1
    rw [run_row h0 h1 h.2.1 hs, run_rows rs q _ h.2.2 hm (by omega) (fun z => by omega)]
    have hq : lo1 q = q.1 := by unfold lo1; rw [if_pos (by omega)]
    have hr : 1 ≤ lo1 r ∧ lo1 r ≤ q.1 := by unfold lo1; split <;> omega
    have hle := CovTo.le rs q h.2.2
    have hm2 : m = lastS (q :: rs) + 3 := hm
    rw [hq, show (m - lo1 r).toNat = (q.1 - lo1 r).toNat + (m - q.1).toNat by omega, runV_add]
    congr 1
    omega
/-- the walk -/
def walk (A : Int → Int) (n : Nat) : S := runV A 1 n ⟨[], 0, A 0, none, A 0⟩
theorem short_walk {A : Int → Int} {r : Row} {rs : List Row} {m : Int} (h : CovTo A (r :: rs) m) (hm : m = lastS (r :: rs) + 3) (h0 : r.1 = 0) : short (r :: rs) = fin (walk A (lastS (r :: rs) + 2).toNat) := by
  have ha : A 0 = r.2.1 := by
    have : A 0 = rv r 0 := by
      cases rs with
      | nil => exact h.2 0 (by omega) (by have := h.1; omega)
      | cons q rs => exact h.2.1 0 (by omega) (by have := h.1; omega)
    rw [this]
    unfold rv
    rw [h0]
    split <;> simp
  show fin (runRs (r :: rs) ⟨[], 0, r.2.1, none, r.2.1⟩) = _
  rw [run_rows rs r _ h hm (by omega) (fun _ => ⟨by rw [ha], rfl⟩)]
  unfold walk
  rw [ha, show lo1 r = 1 by unfold lo1; rw [if_neg (by omega)], show (m - 1).toNat = (lastS (r :: rs) + 2).toNat by omega]
/-! stretches -/
def fst1 (p : Option Row) (b f : Int) : Int := match p with
  | some p => if rv p (b - 1) = f then b - 1 else b
  | none => b
def stchs (nx : Int) : Option Row → List Row → List (Int × Int)
  | _, [] => []
  | p, [r] => [(fst1 p r.1 r.2.1, if r.2.2 then r.1 else nx - 1)]
  | p, r :: q :: rest => (fst1 p r.1 r.2.1, if r.2.2 then r.1 else q.1 - 1) :: stchs nx (some r) (q :: rest)
def lastOr : Option Row → List Row → Option Row
  | p, [] => p
  | _, x :: xs => lastOr (some x) xs
theorem lastOr_snoc : ∀ (p : Option Row) (xs : List Row) (r : Row), lastOr p (xs ++ [r]) = some r
  | _, [], _ => rfl
  | _, x :: xs, r => lastOr_snoc (some x) xs r
theorem stchs_snoc {nx : Int} {r : Row} : ∀ (p : Option Row) (xs : List Row), stchs nx p (xs ++ [r]) = stchs r.1 p xs ++ [(fst1 (lastOr p xs) r.1 r.2.1, if r.2.2 then r.1 else nx - 1)]
  | p, [] => rfl
  | p, [x] => rfl
  | p, x :: y :: xs => by
    show (_, _) :: stchs nx (some x) (y :: xs ++ [r]) = _
    rw [stchs_snoc (some x) (y :: xs)]
    rfl
def filt (k : Int) (l : List (Int × Int)) : List (Int × Int) := l.filter fun p => decide (p.2 - p.1 + 1 ≥ k)
theorem filt_app (k : Int) (a b : List (Int × Int)) : filt k (a ++ b) = filt k a ++ filt k b := List.filter_append ..
theorem filt_one (k : Int) (x y : Int) : filt k [(x, y)] = if y - x + 1 ≥ k then [(x, y)] else [] := by
  unfold filt
  rw [List.filter_cons]
  simp
/-- what is due, minute by minute -/
def duS (A : Int → Int) (k m : Int) (p : List (Int × Int) × Int) : List (Int × Int) × Int :=
  if A (m + 1) ≠ A m then ((if m - p.2 + 1 ≥ k then p.1 ++ [(p.2, m)] else p.1), m + 1) else p
def du (A : Int → Int) (k : Int) : Int → Nat → List (Int × Int) × Int → List (Int × Int) × Int
  | _, 0, p => p
  | m, n + 1, p => du A k (m + 1) n (duS A k m p)
structure J (A : Int → Int) (k : Int) (s : S) (m : Int) (p : List (Int × Int) × Int) : Prop where
  la : s.la = A m
  st : (s.st = none ∧ m = s.b ∧ A m = s.f ∧ p.2 = fst1 (lastOr none s.done) s.b s.f ∧ p.1 = filt k (stchs s.b none s.done)) ∨
    (s.st = some 0 ∧ A m = s.f ∧ p.2 = fst1 (lastOr none s.done) s.b s.f ∧ p.1 = filt k (stchs s.b none s.done)) ∨
    (s.st = some 1 ∧ A m = s.f + (m - s.b) ∧ p.2 = m ∧ p.1 = filt k (stchs s.b none s.done ++ [(fst1 (lastOr none s.done) s.b s.f, s.b)]))
theorem J.step {A : Int → Int} {k : Int} (hk : 2 ≤ k) {s : S} {m : Int} {p : List (Int × Int) × Int} (h : J A k s m p) : J A k (stp s (m + 1) (A (m + 1))) (m + 1) (duS A k m p) := by
  refine ⟨stp_la _ _ _, ?_⟩
  have la := h.la
  have fresh : ∀ (g : Bool) (x : List (Int × Int)), A (m + 1) ≠ A m → rv (s.b, s.f, g) m = A m → x = filt k (stchs (m + 1) none (s.done ++ [(s.b, s.f, g)])) →
      (stp s (m + 1) (A (m + 1)) = ⟨s.done ++ [(s.b, s.f, g)], m + 1, A (m + 1), none, A (m + 1)⟩) →
      ((stp s (m + 1) (A (m + 1))).st = none ∧ m + 1 = (stp s (m + 1) (A (m + 1))).b ∧ A (m + 1) = (stp s (m + 1) (A (m + 1))).f ∧ (m + 1 : Int) = fst1 (lastOr none (stp s (m + 1) (A (m + 1))).done) (stp s (m + 1) (A (m + 1))).b (stp s (m + 1) (A (m + 1))).f ∧ x = filt k (stchs (stp s (m + 1) (A (m + 1))).b none (stp s (m + 1) (A (m + 1))).done)) := fun g x hne hrv hx e => by
    rw [e]
    refine ⟨rfl, rfl, rfl, ?_, hx⟩
    show _ = fst1 (lastOr none (s.done ++ [(s.b, s.f, g)])) (m + 1) (A (m + 1))
    rw [lastOr_snoc]
    show _ = if rv (s.b, s.f, g) (m + 1 - 1) = A (m + 1) then _ else _
    rw [show m + 1 - 1 = m by omega, hrv, if_neg (Ne.symm hne)]
  rcases h.st with ⟨h1, h2, h3, h4, h5⟩ | ⟨h1, h3, h4, h5⟩ | ⟨h1, h3, h4, h5⟩
  · by_cases e0 : A (m + 1) - A m = 0
    · rw [stp_first h1 (d := 0) (by omega) (.inl rfl)]
      unfold duS
      rw [if_neg (by omega)]
      exact .inr (.inl ⟨rfl, by show A (m + 1) = s.f; omega, h4, h5⟩)
    · by_cases e1 : A (m + 1) - A m = 1
      · rw [stp_first h1 (d := 1) (by omega) (.inr rfl)]
        unfold duS
        rw [if_pos (by omega)]
        refine .inr (.inr ⟨rfl, by show A (m + 1) = s.f + (m + 1 - s.b); omega, rfl, ?_⟩)
        show (if m - p.2 + 1 ≥ k then p.1 ++ [(p.2, m)] else p.1) = filt k (stchs s.b none s.done ++ [(fst1 (lastOr none s.done) s.b s.f, s.b)])
        rw [filt_app, filt_one, ← h4, ← h5, ← h2]
        split <;> simp
      · have hn := stp_new (s := s) (m := m + 1) (v := A (m + 1)) (by rw [h1]; simp) (fun _ => by omega)
        rw [h1] at hn
        unfold duS
        rw [if_pos (by omega)]
        refine .inl (fresh false _ (by omega) (by unfold rv; simpa using h3.symm) ?_ (by rw [hn]; simp))
        rw [stchs_snoc, filt_app]
        show (if m - p.2 + 1 ≥ k then p.1 ++ [(p.2, m)] else p.1) = filt k (stchs s.b none s.done) ++ filt k [(fst1 (lastOr none s.done) s.b s.f, m + 1 - 1)]
        rw [show m + 1 - 1 = m by omega, filt_one, ← h4, ← h5]
        split <;> simp
  · by_cases e0 : A (m + 1) - A m = 0
    · rw [stp_go h1 (by omega)]
      unfold duS
      rw [if_neg (by omega)]
      exact .inr (.inl ⟨h1, by show A (m + 1) = s.f; omega, h4, h5⟩)
    · have hn := stp_new (s := s) (m := m + 1) (v := A (m + 1)) (by rw [h1]; intro q; have := Option.some.inj q; omega) (fun q => by rw [h1] at q; cases q)
      rw [h1] at hn
      unfold duS
      rw [if_pos (by omega)]
      refine .inl (fresh false _ (by omega) (by unfold rv; simpa using h3.symm) ?_ (by rw [hn]; simp))
      rw [stchs_snoc, filt_app]
      show (if m - p.2 + 1 ≥ k then p.1 ++ [(p.2, m)] else p.1) = filt k (stchs s.b none s.done) ++ filt k [(fst1 (lastOr none s.done) s.b s.f, m + 1 - 1)]
      rw [show m + 1 - 1 = m by omega, filt_one, ← h4, ← h5]
      split <;> simp
  · by_cases e1 : A (m + 1) - A m = 1
    · rw [stp_go h1 (by omega)]
      unfold duS
      rw [if_pos (by omega), h4, if_neg (by omega)]
      exact .inr (.inr ⟨h1, by show A (m + 1) = s.f + (m + 1 - s.b); omega, rfl, h5⟩)
    · have hn := stp_new (s := s) (m := m + 1) (v := A (m + 1)) (by rw [h1]; intro q; have := Option.some.inj q; omega) (fun q => by rw [h1] at q; cases q)
      rw [h1] at hn
      have hrv : rv (s.b, s.f, true) m = A m := by unfold rv; simp; omega
      have hx : p.1 = filt k (stchs (m + 1) none (s.done ++ [(s.b, s.f, true)])) := by rw [stchs_snoc, h5]; rfl
      by_cases e0 : A (m + 1) = A m
      · unfold duS
        rw [if_neg (by simpa using e0), hn]
        refine .inl ⟨rfl, rfl, rfl, ?_, by simpa using hx⟩
        rw [h4]
        show m = fst1 (lastOr none (s.done ++ [(s.b, s.f, _)])) (m + 1) (A (m + 1))
        rw [lastOr_snoc]
        show m = if rv (s.b, s.f, decide (some (1 : Int) = some 1)) (m + 1 - 1) = A (m + 1) then _ else _
        rw [show m + 1 - 1 = m by omega, show decide (some (1 : Int) = some 1) = true by simp, hrv, if_pos e0.symm]
      · unfold duS
        rw [if_pos e0, h4, if_neg (by omega)]
        exact .inl (fresh true _ e0 hrv hx (by rw [hn]; simp))
theorem J.run {A : Int → Int} {k : Int} (hk : 2 ≤ k) : ∀ (n : Nat) (s : S) (m : Int) (p : List (Int × Int) × Int), J A k s m p → J A k (runV A (m + 1) n s) (m + n) (du A k m n p)
  | 0, s, m, p, h => by simpa [runV, du] using h
  | n + 1, s, m, p, h => by
    have := J.run hk n _ (m + 1) _ (h.step hk)
    rw [show m + 1 + (n : Int) = m + ((n + 1 : Nat) : Int) by omega] at this
    exact this
theorem levels_due {A : Int → Int} {k : Int} (hk : 2 ≤ k) {n : Nat} (hs : (walk A n).st = some 1) (nx : Int) : (du A k 0 n ([], 0)).1 = filt k (stchs nx none (fin (walk A n))) := by
  have j : J A k (walk A n) (0 + (n : Int)) (du A k 0 n ([], 0)) := J.run hk n ⟨[], 0, A 0, none, A 0⟩ 0 ([], 0) ⟨rfl, .inl ⟨rfl, rfl, rfl, rfl, rfl⟩⟩
  rcases j.st with ⟨h1, _⟩ | ⟨h1, _⟩ | ⟨h1, h3, h4, h5⟩
  · rw [hs] at h1; cases h1
  · rw [hs] at h1; cases h1
  · rw [h5]
    unfold fin
    rw [stchs_snoc]
    rfl
theorem st_end {A : Int → Int} (ls : Nat) (e1 : A ((ls : Int) + 1) = A ls + 1) (e2 : A ((ls : Int) + 1 + 1) = A ((ls : Int) + 1) + 1) : (walk A (ls + 2)).st = some 1 := by
  unfold walk
  cases ls with
  | zero => exact after2 (.inr rfl) rfl e1 e2
  | succ l =>
    rw [show l + 1 + 2 = l + 3 by omega, runV_add]
    rw [show (1 : Int) + (l : Int) = ((l + 1 : Nat) : Int) by omega]
    exact after3 (.inr rfl) e1 e2
end RM

set_option maxHeartbeats 4000000
/-! instances that are called: own __call__ -/
namespace ML
open PySem PySem.Spec PyProof.Rows L2
section
variable {X : Cx} {CX : CXT} {k : Nat} {C g : Addr} {fd : FuncData} {ps : List Str} {sp : Sp} {E : L2.St → XK} {pos : Pos} {fe e : Expr} {es : List Expr} {tf : TE} {t : TA}
def tCallOS (C : Addr) (sp : Sp) (E : L2.St → XK) (tf : TE) (t : TA) : TE := fun σ H Q => tf σ H fun y H1 => ∃ a, y = V.ref a ∧ t σ H1 fun vs H2 => (∃ dx fs, H2 a = some (.ins C dx fs)) ∧ sp (V.ref a :: vs) H2 Q (E σ)
theorem pe_callOS (hf : PE X fe tf) (c : StX.CallO X.K C g) (F : FnOk X.prog X.w X.K X.mg X.base CX k g fd ps sp) (hr : Room k X.A) (hb : Binds X.K fd ps []) (hx : ∀ σ, PassesAt CX X σ (E σ)) (ha : PA X (e :: es) t)
    (ht : eval (.Call fe (e :: es) [] pos) X.env = (do callWith pos (← eval fe X.env) [] (backTo pos (starEach (e :: es) X.env)) (backToKw pos (keywordEach [] X.env))))
    (he : starEach (e :: es) X.env = (false, eval e X.env) :: starEach es X.env) (hpl : (backTo pos (starEach es X.env)).any (·.1) = false) : PE X (.Call fe (e :: es) [] pos) (tCallOS C sp E tf t) := by
  refine ⟨fun pins s σ H Q I h => ?_⟩
  refine Call_ (thn (hf.run pins s σ H _ I h) fun u s1 ⟨y, H1, I1, ry, a, ey, q⟩ => ?_) ht
  subst ey
  obtain rfl : u = Value.ref a := ry
  refine StX.callO_with (thn (ha.run pos pins s1 σ H1 _ I1 q) fun us s2 ⟨vs, H2, I2, r, ⟨dx, fs, hi⟩, q2⟩ => ?_) he hpl
  obtain ⟨ox, od, J, hd⟩ := StX.insC_at I2 (a := a) (C := C) (.inr ⟨dx, fs, hi⟩)
  have r2 : Vals (V.ref a :: vs) (Value.ref a :: us) := .cons rfl r
  have hl : (Value.ref a :: us).length = ps.length := by
    have e := r2.length
    rw [F.len _ _ _ _ q2] at e
    exact e.symm
  have b := hb s2 (Value.ref a :: us) I2.kIn (by rw [List.append_nil]; exact hl)
  rw [List.append_nil] at b
  refine ⟨⟨C, ox, od, J, hd⟩, wpAny_call (PySem.W.kco_code I2.kIn J hd c.at_ c.fn c.fi (codeAny_mono (F.run X.A X.stack s2 H2 ⟨Value.ref a :: us, []⟩ (Value.ref a :: us) (V.ref a :: vs) Q (E σ) hr I2.env0 b r2 q2) fun r s' hq => ?_))⟩
  cases r with
  | error e => exact hx σ pins _ _ e s' I2 hq
  | ok fl =>
    cases fl with
    | ret u => exact I2.after hq
    | next => exact False.elim hq
    | brk => exact False.elim hq
    | cont => exact False.elim hq
end
section
variable {X : Cx} {G : Gm} {Wx : WX} {fe e : Expr} {es : List Expr} {pos : Pos} {mo : ME} {mas : MA}
def mCallO (c : Nat) (f : MF) (o : ME) (es : MA) : ME := fun ρ h => bnd (o ρ h) fun x h1 => match x with
  | .ref i => bnd (es ρ h1) fun ws h2 => match h2[i]? with
    | some (.ins c' _) => if c' = c then f (.ref i :: ws) h2 else none
    | _ => none
  | _ => none
theorem w_callO {c n : Nat} {f : MF} {o : ME} {es : MA} (a : AL es n) : ∀ σ H Q, tE G Wx (mCallO c f o es) σ H Q → tCallOS (G.ca c) (spM G (n + 1) f) (WE Wx) (tE G Wx o) (tA G Wx es) σ H Q := fun σ H Q ⟨μ, ρ, h, s, p⟩ =>
  ⟨μ, ρ, h, s, (Post.bnd p).mono fun μ1 h1 H1 wx g q x rx => by
    cases wx with
    | ref i =>
      have rx0 := rx
      simp only [RU] at rx
      obtain ⟨hi, rfl⟩ := rx
      simp only at q
      refine ⟨_, rfl, μ1, ρ, h1, s.on g, (Post.bnd q).withEq.mono fun μ2 h2 H2 ws g2 ⟨q2, eq⟩ vs rs => ?_⟩
      have rx2 := g2.ru rx0
      split at q2
      · rename_i c' fs ec
        split at q2
        · rename_i hc
          subst hc
          obtain ⟨dx, gs, ea, rf⟩ := g2.rel.cell i _ ec
          have e0 := rx2
          simp only [RU] at e0
          have hμ : μ1 i = μ2 i := by simpa using e0.2
          rw [← hμ] at ea
          exact ⟨⟨dx, gs, ea⟩, μ2, h2, .ref i :: ws, g2.rel, RUs.cons rx2 rs, by simp [RUs.length rs, a _ _ _ _ eq], q2⟩
        · exact False.elim q2
      · exact False.elim q2
    | _ => exact False.elim q⟩
/-- an own class whose instances are called -/
structure OwnCall (P : Program) (w : World) (G : Gm) (mg : Str → Option Value) (base : Heap) (k c n : Nat) (mf : MF) : Prop where
  ex : ∃ f fd ps, StX.CallO G.K (G.ca c) f ∧ Binds G.K fd ps [] ∧ ps.length = n + 1 ∧ FnM P w G mg base k f fd ps mf
theorem dCallO {k j c n : Nat} {mf : MF} (hG : X.K = G.K) (om : OwnCall X.prog X.w G X.mg X.base k c n mf) (hr : Room j X.A) (hk : k ≤ j) (tk : Takes X Wx) (ho : PE X fe (tE G Wx mo)) (ha : PA X (e :: es) (tA G Wx mas)) (al : AL mas n) (so : StarOk X pos e es)
    (ht : eval (.Call fe (e :: es) [] pos) X.env = (do callWith pos (← eval fe X.env) [] (backTo pos (starEach (e :: es) X.env)) (backToKw pos (keywordEach [] X.env)))) :
    PE X (.Call fe (e :: es) [] pos) (tE G Wx (mCallO c mf mo mas)) := by
  obtain ⟨f, fd, ps, M, hb, hl, F⟩ := om.ex
  unfold FnM at F
  rw [hl] at F
  obtain ⟨K, ca⟩ := G
  subst hG
  exact (pe_callOS ho M F (hr.mono hk) hb (passAt tk) ha ht so.s so.p).weak (w_callO al)
end
end ML

set_option maxHeartbeats 4000000
/-! the laws' own rows of values: row by row, each as long as it goes -/
namespace RM
/-- the last minute of the row, k minutes may follow m -/
def grI (A : Int → Int) (step : Int) : Nat → Int → Int
  | 0, m => m
  | k + 1, m => if step > 1 ∨ A (m + 1) - A m ≠ step then m else grI A step k (m + 1)
def gr (A : Int → Int) (last : Int) : Nat → Int → List Row → List Row
  | 0, _, acc => acc
  | f + 1, st, acc =>
    if st ≥ last then acc ++ [(st, A st, true)]
    else if A (st + 1) - A st = 1 ∧ grI A (A (st + 1) - A st) (last - st).toNat st = last then acc ++ [(st, A st, true)]
    else gr A last f (grI A (A (st + 1) - A st) (last - st).toNat st + 1) (acc ++ [(st, A st, decide (A (st + 1) - A st = 1))])
theorem grI_run {A : Int → Int} {step : Int} (hs : step ≤ 1) : ∀ (k : Nat) (m : Int) (s : S), s.st = some step → s.la = A m →
    ∃ j : Nat, grI A step k m = m + j ∧ j ≤ k ∧ runV A (m + 1) j s = { s with la := A (m + j) } ∧ (j < k → A (m + j + 1) - A (m + j) ≠ step)
  | 0, m, s, h1, h2 => ⟨0, by simp [grI], Nat.le_refl _, by simpa [runV] using (la_self s h2).symm, fun h => by omega⟩
  | k + 1, m, s, h1, h2 => by
    by_cases h : A (m + 1) - A m = step
    · obtain ⟨j, e1, e2, e3, e4⟩ := grI_run hs k (m + 1) { s with la := A (m + 1) } h1 rfl
      refine ⟨j + 1, ?_, by omega, ?_, fun hj => ?_⟩
      · show (if step > 1 ∨ A (m + 1) - A m ≠ step then m else grI A step k (m + 1)) = _
        rw [if_neg (by omega), e1]
        omega
      · show runV A (m + 1 + 1) j (stp s (m + 1) (A (m + 1))) = _
        rw [stp_go h1 (by rw [h2]; exact h), e3]
        have : m + 1 + (j : Int) = m + ((j + 1 : Nat) : Int) := by omega
        rw [this]
      · have := e4 (by omega)
        rw [show m + ((j + 1 : Nat) : Int) = m + 1 + (j : Int) by omega]
        exact this
    · refine ⟨0, ?_, by omega, by simpa [runV] using (la_self s h2).symm, fun _ => by simpa using h⟩
      show (if step > 1 ∨ A (m + 1) - A m ≠ step then m else grI A step k (m + 1)) = _
      rw [if_pos (.inr h)]
      simp
theorem gr_run {A : Int → Int} {last : Int} (hup : ∀ t, 0 ≤ t → A t ≤ A (t + 1)) (hend : ∀ t, last ≤ t → A (t + 1) = A t + 1) : ∀ (f : Nat) (st : Int) (acc : List Row), 0 ≤ st → st ≤ last + 1 → last + 2 - st ≤ f →
    gr A last f st acc = fin (runV A (st + 1) (last + 2 - st).toNat ⟨acc, st, A st, none, A st⟩)
  | 0, st, acc, h0, h1, h2 => by omega
  | f + 1, st, acc, h0, h1, h2 => by
    obtain ⟨s, hs⟩ : ∃ s : S, s = ⟨acc, st, A st, none, A st⟩ := ⟨_, rfl⟩
    have s1 : s.st = none := by rw [hs]
    have s2 : s.la = A st := by rw [hs]
    rw [← hs]
    unfold gr
    by_cases c1 : st ≥ last
    · rw [if_pos c1]
      have e1 := hend st (by omega)
      obtain ⟨n, hn⟩ : ∃ n : Nat, (last + 2 - st).toNat = n + 1 := ⟨(last + 1 - st).toNat, by omega⟩
      rw [hn]
      show _ = fin (runV A (st + 1 + 1) n (stp s (st + 1) (A (st + 1))))
      rw [stp_first s1 (d := 1) (by omega) (.inr rfl), runV_skip (d := 1) n (st + 1 + 1) _ rfl (by show A (st + 1) = _; congr 1; omega) (fun t a b => hend t (by omega)), hs]
      rfl
    · rw [if_neg c1]
      obtain ⟨step, hst⟩ : ∃ step, step = A (st + 1) - A st := ⟨_, rfl⟩
      have hup0 := hup st h0
      rw [← hst]
      by_cases c2 : step > 1
      · have hg : grI A step (last - st).toNat st = st := by
          obtain ⟨k, hk⟩ : ∃ k : Nat, (last - st).toNat = k + 1 := ⟨(last - st - 1).toNat, by omega⟩
          rw [hk]
          show (if step > 1 ∨ A (st + 1) - A st ≠ step then st else grI A step k (st + 1)) = _
          rw [if_pos (.inl c2)]
        rw [hg, if_neg (by omega), gr_run hup hend f (st + 1) _ (by omega) (by omega) (by omega)]
        rw [show (last + 2 - st).toNat = (last + 2 - (st + 1)).toNat + 1 by omega]
        show _ = fin (runV A (st + 1 + 1) _ (stp s (st + 1) (A (st + 1))))
        rw [stp_new (by rw [s1]; simp) (fun _ => by omega), s1, hs, decide_eq_false (by omega)]
        simp
      · have hd : step = 0 ∨ step = 1 := by omega
        have f1 := stp_first (s := s) (m := st + 1) (v := A (st + 1)) (d := step) s1 (by omega) hd
        obtain ⟨j, e1, e2, e3, e4⟩ := grI_run (A := A) (step := step) (by omega) ((last - st).toNat - 1) (st + 1) { s with st := some step, la := A (st + 1) } rfl rfl
        have hg : grI A step (last - st).toNat st = st + 1 + j := by
          obtain ⟨k, hk⟩ : ∃ k : Nat, (last - st).toNat = k + 1 := ⟨(last - st).toNat - 1, by omega⟩
          rw [hk] at e1 ⊢
          rw [Nat.add_sub_cancel] at e1
          show (if step > 1 ∨ A (st + 1) - A st ≠ step then st else grI A step k (st + 1)) = _
          rw [if_neg (by omega), e1]
        rw [hg]
        obtain ⟨e, he⟩ : ∃ e : Int, e = st + 1 + j := ⟨_, rfl⟩
        rw [← he] at e3 e4 ⊢
        have hel : e ≤ last := by omega
        -- the minutes of the row
        have run : ∀ k : Nat, runV A (st + 1) (1 + j + k) s = runV A (e + 1) k { s with st := some step, la := A e } := fun k => by
          rw [runV_add, show (1 + j : Nat) = j + 1 by omega]
          show runV A _ k (runV A (st + 1 + 1) j (stp s (st + 1) (A (st + 1)))) = _
          rw [f1, e3]
          congr 1
          omega
        by_cases c3 : step = 1 ∧ e = last
        · rw [if_pos c3, show (last + 2 - st).toNat = 1 + j + 2 by omega, run, runV_skip (d := 1) 2 (e + 1) _ (by rw [c3.1]) (by show A e = _; congr 1; omega) (fun t a b => hend t (by omega)), hs]
          rfl
        · rw [if_neg c3]
          have hne : A (e + 1) - A e ≠ step := by
            by_cases q : e < last
            · exact e4 (by omega)
            · have h1 := hend e (by omega)
              have : e = last := by omega
              intro z
              exact c3 ⟨by omega, this⟩
          rw [gr_run hup hend f (e + 1) _ (by omega) (by omega) (by omega)]
          rw [show (last + 2 - st).toNat = 1 + j + ((last + 2 - (e + 1)).toNat + 1) by omega, run]
          show _ = fin (runV A (e + 1 + 1) _ (stp _ (e + 1) (A (e + 1))))
          rw [stp_new (by show (some step : Option Int) ≠ some (A (e + 1) - A e); intro z; exact hne (Option.some.inj z).symm) (fun z => by cases z), hs]
          congr 2
          simp
/-- the rows of the law are the rows of the walk -/
theorem gr_walk {A : Int → Int} {last : Int} (h0 : 0 ≤ last) (hup : ∀ t, 0 ≤ t → A t ≤ A (t + 1)) (hend : ∀ t, last ≤ t → A (t + 1) = A t + 1) {f : Nat} (hf : last + 2 ≤ f) : gr A last f 0 [] = fin (walk A (last + 2).toNat) := by
  rw [gr_run hup hend f 0 [] (by omega) (by omega) (by omega)]
  rw [show (last + 2 - 0).toNat = (last + 2).toNat by omega]
  rfl
end RM

set_option maxHeartbeats 4000000
/-! the rows of a walk give the values walked over -/
namespace RM
theorem CovTo.repl {A : Int → Int} {b b' : Row} {m m' : Int} (hb : b'.1 = b.1) (hm : b.1 < m') (hA : ∀ t, b.1 ≤ t → t < m' → A t = rv b' t) : ∀ (xs : List Row), CovTo A (xs ++ [b]) m → CovTo A (xs ++ [b']) m'
  | [], h => ⟨by rw [hb]; exact hm, fun t a c => hA t (by rw [← hb]; exact a) c⟩
  | [x], h => ⟨by have := h.1; show x.1 < b'.1; rw [hb]; exact this, fun t a c => h.2.1 t a (by show t < b.1; rw [← hb]; exact c), CovTo.repl hb hm hA [] h.2.2⟩
  | x :: y :: xs, h => ⟨h.1, h.2.1, CovTo.repl hb hm hA (y :: xs) h.2.2⟩
/-- the open row -/
def openR (s : S) : Row := (s.b, s.f, decide (s.st = some 1))
structure Kv (A : Int → Int) (s : S) (m : Int) : Prop where
  la : s.la = A m
  bm : s.b ≤ m
  no : s.st = none → s.b = m
  dd : ∀ d, s.st = some d → d = 0 ∨ d = 1
  rv_ : rv (openR s) m = A m
  cov : CovTo A (s.done ++ [openR s]) (m + 1)
theorem Kv.step {A : Int → Int} {s : S} {m : Int} (h : Kv A s m) : Kv A (stp s (m + 1) (A (m + 1))) (m + 1) := by
  have la := h.la
  have fresh : s.st ≠ some (A (m + 1) - s.la) → (s.st = none → A (m + 1) - s.la ≠ 0 ∧ A (m + 1) - s.la ≠ 1) → Kv A (stp s (m + 1) (A (m + 1))) (m + 1) := fun h1 h2 => by
    rw [stp_new h1 h2]
    refine ⟨rfl, Int.le_refl _, fun _ => rfl, (fun d z => by cases z), ?_, ?_⟩
    · unfold openR rv; simp
    · have := CovTo.next (g := false) (rfl : A (m + 1) = A (m + 1)) s.done h.cov
      exact this
  cases hs : s.st with
  | none =>
    by_cases c : A (m + 1) - s.la = 0 ∨ A (m + 1) - s.la = 1
    · obtain ⟨d, hd⟩ : ∃ d, d = A (m + 1) - s.la := ⟨_, rfl⟩
      have hb := h.no hs
      have hf : s.f = A m := by
        have := h.rv_
        unfold openR rv at this
        rw [hs] at this
        simpa using this
      rw [stp_first hs (d := d) hd.symm (by omega)]
      have key : ∀ t, s.b ≤ t → t < m + 1 + 1 → A t = rv (s.b, s.f, decide ((some d : Option Int) = some 1)) t := fun t a b => by
        have : t = m ∨ t = m + 1 := by omega
        unfold rv
        rcases this with rfl | rfl <;> by_cases q : d = 1 <;> simp [q] <;> omega
      refine ⟨rfl, by show s.b ≤ m + 1; omega, (fun z => by cases z), (fun d' z => by have := Option.some.inj z; omega), (key (m + 1) (by omega) (by omega)).symm, ?_⟩
      exact CovTo.repl (b := openR s) (b' := (s.b, s.f, decide ((some d : Option Int) = some 1))) (m' := m + 1 + 1) rfl (by show s.b < m + 1 + 1; omega) key s.done h.cov
    · exact fresh (by rw [hs]; simp) (fun _ => by omega)
  | some d =>
    by_cases c : A (m + 1) - s.la = d
    · have hd := h.dd d hs
      rw [stp_go hs c]
      have e : rv (openR s) (m + 1) = A (m + 1) := by
        have := h.rv_
        unfold openR rv at this ⊢
        rw [hs] at this ⊢
        rcases hd with rfl | rfl <;> simp at this ⊢ <;> omega
      refine ⟨rfl, by show s.b ≤ m + 1; have := h.bm; omega, (fun z => by rw [show ({ s with la := A (m + 1) } : S).st = s.st from rfl, hs] at z; cases z), h.dd, e, ?_⟩
      exact CovTo.ext (m := m + 1) (by omega) (fun t a b => by
        have : t = m + 1 := by omega
        rw [this]; exact e.symm) s.done h.cov
    · exact fresh (by rw [hs]; intro z; have := Option.some.inj z; omega) (fun z => by rw [hs] at z; cases z)
theorem Kv.run {A : Int → Int} : ∀ (n : Nat) (s : S) (m : Int), Kv A s m → Kv A (runV A (m + 1) n s) (m + n)
  | 0, s, m, h => by simpa [runV] using h
  | n + 1, s, m, h => by
    have := Kv.run n _ (m + 1) h.step
    rw [show m + 1 + (n : Int) = m + ((n + 1 : Nat) : Int) by omega] at this
    exact this
theorem walk_cov {A : Int → Int} {n : Nat} (hs : (walk A n).st = some 1) : CovTo A (fin (walk A n)) ((n : Int) + 1) := by
  have k : Kv A (walk A n) (0 + (n : Int)) := Kv.run n ⟨[], 0, A 0, none, A 0⟩ 0 ⟨rfl, Int.le_refl _, fun _ => rfl, (fun d z => by cases z), by unfold openR rv; simp, ⟨by show (0 : Int) < 0 + 1; omega, fun t a b => by
    have : t = 0 := by have : (0 : Int) ≤ t := a; omega
    subst this
    unfold openR rv; simp⟩⟩
  have c := k.cov
  unfold openR at c
  rw [hs] at c
  simp only [decide_true] at c
  rw [show (0 : Int) + n + 1 = (n : Int) + 1 by omega] at c
  exact c
/-- the row of a minute -/
theorem CovTo.find {A : Int → Int} {m : Int} : ∀ (rs : List Row) (r : Row), CovTo A (r :: rs) m → ∀ t, r.1 ≤ t → t < m →
    ∃ (p : Nat) (x : Row), (r :: rs)[p]? = some x ∧ rv x t = A t ∧ (∀ (i : Nat) (y : Row), i ≤ p → (r :: rs)[i]? = some y → y.1 ≤ t) ∧ (∀ (i : Nat) (y : Row), p < i → (r :: rs)[i]? = some y → t < y.1)
  | [], r, h, t, h0, h1 => ⟨0, r, rfl, (h.2 t h0 h1).symm, fun i y hi e => by
      have : i = 0 := by omega
      subst this
      cases e
      exact h0, fun i y hi e => by
      obtain ⟨j, rfl⟩ : ∃ j, i = j + 1 := ⟨i - 1, by omega⟩
      simp at e⟩
  | q :: rs, r, h, t, h0, h1 => by
    by_cases c : t < q.1
    · have up : ∀ (rs : List Row) (q : Row), CovTo A (q :: rs) m → ∀ (i : Nat) (y : Row), (q :: rs)[i]? = some y → q.1 ≤ y.1 := by
        intro rs
        induction rs with
        | nil => intro q _ i y e; cases i with
          | zero => cases e; exact Int.le_refl _
          | succ i => simp at e
        | cons z zs ih => intro q hq i y e; cases i with
          | zero => cases e; exact Int.le_refl _
          | succ i =>
            have a1 := ih z hq.2.2 i y (by simpa using e)
            have a2 := hq.1
            omega
      refine ⟨0, r, rfl, (h.2.1 t h0 c).symm, fun i y hi e => ?_, fun i y hi e => ?_⟩
      · have : i = 0 := by omega
        subst this
        cases e
        exact h0
      · obtain ⟨j, rfl⟩ : ∃ j, i = j + 1 := ⟨i - 1, by omega⟩
        have := up rs q h.2.2 j y (by simpa using e)
        omega
    · obtain ⟨p, x, e1, e2, e3, e4⟩ := CovTo.find rs q h.2.2 t (by omega) h1
      refine ⟨p + 1, x, by simpa using e1, e2, fun i y hi e => ?_, fun i y hi e => ?_⟩
      · cases i with
        | zero => cases e; exact h0
        | succ i => exact e3 i y (by omega) (by simpa using e)
      · obtain ⟨j, rfl⟩ : ∃ j, i = j + 1 := ⟨i - 1, by omega⟩
        exact e4 j y (by omega) (by simpa using e)
end RM

set_option maxHeartbeats 4000000
/-! values without a heap: what a computation of the layer does where nothing is changed that others see -/
namespace PL
open PySem L2 ML
inductive P where
  | non | bl (b : Bool) | int (i : Int) | str (x : Str) | tup (ws : List P) | lst (ws : List P)
  | ins (c : Nat) (fs : List Str) (ws : List P) | exc (c : Nat) (fs : List Str) (ws : List P) | scr | st
/-- the script and the state of the draws -/
structure DS where
  ns : List Int
  a : Int
  b : Int
  c : Int
  d : Int
/-- where the script and the state stand -/
structure Xx where
  S : Nat
  D : Nat
abbrev Al := Nat → Prop
mutual
def V (X : Xx) (h : Hm) (A : Al) : P → U → Prop
  | .non, u => u = .non
  | .bl b, u => u = .bl b
  | .int i, u => u = .int i
  | .str x, u => u = .str x
  | .tup ps, u => ∃ us, u = .tup us ∧ Vs X h A ps us
  | .lst ps, u => ∃ i us, u = .ref i ∧ A i ∧ h[i]? = some (.lst us) ∧ Vs X h A ps us
  | .ins c fs ps, u => ∃ i us, u = .ref i ∧ A i ∧ h[i]? = some (.ins c (fs.zip us)) ∧ fs.length = us.length ∧ Vs X h A ps us
  | .exc c fs ps, u => ∃ i us, u = .ref i ∧ A i ∧ h[i]? = some (.exc c (fs.zip us)) ∧ fs.length = us.length ∧ Vs X h A ps us
  | .scr, u => u = .ref X.S
  | .st, u => u = .ref X.D
def Vs (X : Xx) (h : Hm) (A : Al) : List P → List U → Prop
  | [], us => us = []
  | p :: ps, us => ∃ y ys, us = y :: ys ∧ V X h A p y ∧ Vs X h A ps ys
end
section
variable {X : Xx} {h h' h1 h2 : Hm} {A A' A1 A2 : Al}
mutual
theorem V.mono (k : ∀ i, A i → A' i ∧ h'[i]? = h[i]?) : ∀ (p : P) (u : U), V X h A p u → V X h' A' p u
  | .non, u, r => by simpa [V] using r
  | .bl b, u, r => by simpa [V] using r
  | .int i, u, r => by simpa [V] using r
  | .str x, u, r => by simpa [V] using r
  | .scr, u, r => by simpa [V] using r
  | .st, u, r => by simpa [V] using r
  | .tup ps, u, r => by
    simp only [V] at r ⊢
    obtain ⟨us, e, r⟩ := r
    exact ⟨us, e, Vs.mono k ps us r⟩
  | .lst ps, u, r => by
    simp only [V] at r ⊢
    obtain ⟨i, us, e, a, q, r⟩ := r
    exact ⟨i, us, e, (k i a).1, by rw [(k i a).2]; exact q, Vs.mono k ps us r⟩
  | .ins c fs ps, u, r => by
    simp only [V] at r ⊢
    obtain ⟨i, us, e, a, q, l, r⟩ := r
    exact ⟨i, us, e, (k i a).1, by rw [(k i a).2]; exact q, l, Vs.mono k ps us r⟩
  | .exc c fs ps, u, r => by
    simp only [V] at r ⊢
    obtain ⟨i, us, e, a, q, l, r⟩ := r
    exact ⟨i, us, e, (k i a).1, by rw [(k i a).2]; exact q, l, Vs.mono k ps us r⟩
theorem Vs.mono (k : ∀ i, A i → A' i ∧ h'[i]? = h[i]?) : ∀ (ps : List P) (us : List U), Vs X h A ps us → Vs X h' A' ps us
  | [], us, r => by simpa [Vs] using r
  | p :: ps, us, r => by
    simp only [Vs] at r ⊢
    obtain ⟨y, ys, e, r, rs⟩ := r
    exact ⟨y, ys, e, V.mono k p y r, Vs.mono k ps ys rs⟩
end
theorem Vs.length : ∀ {ps : List P} {us : List U}, Vs X h A ps us → us.length = ps.length
  | [], us, r => by simp only [Vs] at r; subst r; rfl
  | p :: ps, us, r => by
    simp only [Vs] at r
    obtain ⟨y, ys, rfl, _, rs⟩ := r
    simp [Vs.length rs]
theorem Vs.nil : Vs X h A [] [] := by simp only [Vs]
theorem Vs.cons {p : P} {u : U} {ps us} (r : V X h A p u) (rs : Vs X h A ps us) : Vs X h A (p :: ps) (u :: us) := by
  simp only [Vs]; exact ⟨u, us, rfl, r, rs⟩
theorem Vs.append : ∀ {ps qs : List P} {us vs : List U}, Vs X h A ps us → Vs X h A qs vs → Vs X h A (ps ++ qs) (us ++ vs)
  | [], qs, us, vs, r, q => by simp only [Vs] at r; subst r; exact q
  | p :: ps, qs, us, vs, r, q => by
    simp only [Vs] at r
    obtain ⟨y, ys, rfl, r, rs⟩ := r
    exact Vs.cons r (Vs.append rs q)
theorem Vs.get : ∀ {ps : List P} {us : List U} {i : Nat} {p : P}, Vs X h A ps us → ps[i]? = some p → ∃ u, us[i]? = some u ∧ V X h A p u
  | [], us, i, p, _, e => by simp at e
  | q :: ps, us, 0, p, r, e => by
    simp only [Vs] at r
    obtain ⟨y, ys, rfl, r, _⟩ := r
    simp at e; subst e
    exact ⟨y, rfl, r⟩
  | q :: ps, us, i + 1, p, r, e => by
    simp only [Vs] at r
    obtain ⟨y, ys, rfl, _, rs⟩ := r
    obtain ⟨u, e1, r1⟩ := Vs.get (i := i) rs (by simpa using e)
    exact ⟨u, by simpa using e1, r1⟩
theorem Vs.get' : ∀ {ps : List P} {us : List U} {i : Nat} {u : U}, Vs X h A ps us → us[i]? = some u → ∃ p, ps[i]? = some p ∧ V X h A p u
  | [], us, i, p, r, e => by simp only [Vs] at r; subst r; simp at e
  | q :: ps, us, 0, p, r, e => by
    simp only [Vs] at r
    obtain ⟨y, ys, rfl, r, _⟩ := r
    simp at e; subst e
    exact ⟨q, rfl, r⟩
  | q :: ps, us, i + 1, p, r, e => by
    simp only [Vs] at r
    obtain ⟨y, ys, rfl, _, rs⟩ := r
    obtain ⟨u, e1, r1⟩ := Vs.get' (i := i) rs (by simpa using e)
    exact ⟨u, by simpa using e1, r1⟩
theorem Vs.take : ∀ {ps : List P} {us : List U} (n : Nat), Vs X h A ps us → Vs X h A (ps.take n) (us.take n)
  | ps, us, 0, r => by simp [Vs]
  | [], us, n + 1, r => by simp only [Vs] at r; subst r; simp [Vs]
  | p :: ps, us, n + 1, r => by
    simp only [Vs] at r
    obtain ⟨y, ys, rfl, r, rs⟩ := r
    exact Vs.cons r (Vs.take n rs)
theorem Vs.drop : ∀ {ps : List P} {us : List U} (n : Nat), Vs X h A ps us → Vs X h A (ps.drop n) (us.drop n)
  | ps, us, 0, r => r
  | [], us, n + 1, r => by simp only [Vs] at r; subst r; simp [Vs]
  | p :: ps, us, n + 1, r => by
    simp only [Vs] at r
    obtain ⟨y, ys, rfl, r, rs⟩ := r
    exact Vs.drop n rs
theorem Vs.reverse : ∀ {ps : List P} {us : List U}, Vs X h A ps us → Vs X h A ps.reverse us.reverse
  | [], us, r => by simp only [Vs] at r; subst r; simp [Vs]
  | p :: ps, us, r => by
    simp only [Vs] at r
    obtain ⟨y, ys, rfl, r, rs⟩ := r
    rw [List.reverse_cons, List.reverse_cons]
    exact Vs.append (Vs.reverse rs) (Vs.cons r Vs.nil)
theorem Vs.set {p : P} {u : U} (r : V X h A p u) : ∀ {ps : List P} {us : List U} (n : Nat), Vs X h A ps us → Vs X h A (ps.set n p) (us.set n u)
  | [], us, n, q => by simp only [Vs] at q; subst q; simp [Vs]
  | x :: ps, us, 0, q => by
    simp only [Vs] at q
    obtain ⟨y, ys, rfl, _, rs⟩ := q
    exact Vs.cons r rs
  | x :: ps, us, n + 1, q => by
    simp only [Vs] at q
    obtain ⟨y, ys, rfl, r1, rs⟩ := q
    exact Vs.cons r1 (Vs.set r n rs)
theorem Vs.flatten {ps : List P} {us : List U} (r : Vs X h A ps us) : ∀ k : Nat, Vs X h A (List.replicate k ps).flatten (List.replicate k us).flatten
  | 0 => by simp [Vs]
  | k + 1 => by
    simp only [List.replicate_succ, List.flatten_cons]
    exact r.append (Vs.flatten r k)
end
/-- the heap stands -/
structure Wf (X : Xx) (h : Hm) (A : Al) (s : DS) : Prop where
  bd : ∀ i, A i → i < h.length ∧ i ≠ X.D
  ds : h[X.D]? = some (.lst [.int s.a, .int s.b, .int s.c, .int s.d])
  sc : rd h X.S = some (s.ns.map U.int)
  sd : X.S ≠ X.D
  aS : A X.S
  a0 : 0 ≤ s.a
/-- from one heap to a later one -/
structure Ex (X : Xx) (h : Hm) (A : Al) (h' : Hm) (A' : Al) : Prop where
  len : h.length ≤ h'.length
  sub : ∀ i, A i → A' i
  new : ∀ i, A' i → A i ∨ h.length ≤ i
  oth : ∀ i, i < h.length → i ≠ X.D → h'[i]? = h[i]?
section
variable {X : Xx} {h h' h1 h2 : Hm} {A A' A1 A2 : Al} {s s' : DS}
theorem Ex.refl : Ex X h A h A := ⟨Nat.le_refl _, fun _ a => a, fun _ a => .inl a, fun _ _ _ => rfl⟩
theorem Ex.trans (a : Ex X h A h1 A1) (b : Ex X h1 A1 h2 A2) : Ex X h A h2 A2 :=
  ⟨Nat.le_trans a.len b.len, fun i q => b.sub i (a.sub i q), fun i q => by
    rcases b.new i q with q | q
    · exact a.new i q
    · exact .inr (Nat.le_trans a.len q), fun i q d => by rw [b.oth i (Nat.lt_of_lt_of_le q a.len) d, a.oth i q d]⟩
theorem Ex.v (w : Wf X h A s) (e : Ex X h A h' A') {p : P} {u : U} (r : V X h A p u) : V X h' A' p u :=
  V.mono (fun i a => ⟨e.sub i a, e.oth i (w.bd i a).1 (w.bd i a).2⟩) p u r
theorem Ex.vs (w : Wf X h A s) (e : Ex X h A h' A') {p : List P} {u : List U} (r : Vs X h A p u) : Vs X h' A' p u :=
  Vs.mono (fun i a => ⟨e.sub i a, e.oth i (w.bd i a).1 (w.bd i a).2⟩) p u r
/-- one more cell -/
theorem Ex.app (c : Cell) : Ex X h A (h ++ [c]) A := ⟨by simp, fun _ a => a, fun _ a => .inl a, fun i q _ => List.getElem?_append_left q⟩
theorem Wf.app (w : Wf X h A s) (c : Cell) : Wf X (h ++ [c]) A s :=
  ⟨fun i a => ⟨by simp; have := (w.bd i a).1; omega, (w.bd i a).2⟩, by rw [List.getElem?_append_left (List.getElem?_eq_some_iff.mp w.ds).1]; exact w.ds,
    by have := (w.bd _ w.aS).1; rw [← w.sc]; unfold rd; rw [List.getElem?_append_left this], w.sd, w.aS, w.a0⟩
def Al.add (A : Al) (j : Nat) : Al := fun i => A i ∨ i = j
theorem Ex.add {h' : Hm} {A' : Al} (e : Ex X h A h' A') {j : Nat} (hj : h.length ≤ j) : Ex X h A h' (A'.add j) :=
  ⟨e.len, fun i a => .inl (e.sub i a), fun i a => by
    rcases a with a | a
    · exact e.new i a
    · exact .inr (by omega), e.oth⟩
theorem Wf.add (w : Wf X h A s) {j : Nat} (hj : j < h.length) (hd : j ≠ X.D) : Wf X h (A.add j) s :=
  ⟨fun i a => by
    rcases a with a | a
    · exact w.bd i a
    · subst a; exact ⟨hj, hd⟩, w.ds, w.sc, w.sd, .inl w.aS, w.a0⟩
theorem Wf.dlt (w : Wf X h A s) : X.D < h.length := (List.getElem?_eq_some_iff.mp w.ds).1
end
/-- what comes of a computation -/
inductive Pz (α : Type) where
  | ok (a : α) (s : DS)
  | ex (c : Nat) (fs : List Str) (ws : List P) (s : DS)
def pb {α β : Type} (x : Option (Pz α)) (k : α → DS → Option (Pz β)) : Option (Pz β) := match x with
  | some (.ok a s) => k a s
  | some (.ex c fs ws s) => some (.ex c fs ws s)
  | none => none
@[simp] theorem pb_ok {α β : Type} (a : α) (s : DS) (k : α → DS → Option (Pz β)) : pb (some (.ok a s)) k = k a s := rfl
@[simp] theorem pb_ex {α β : Type} (c fs ws s) (k : α → DS → Option (Pz β)) : pb (some (.ex c fs ws s)) k = some (.ex c fs ws s) := rfl
@[simp] theorem pb_none {α β : Type} (k : α → DS → Option (Pz β)) : pb none k = none := rfl
def RR {α β : Type} (X : Xx) (rel : Hm → Al → α → β → Prop) (h : Hm) (A : Al) (x : Option (Pz α)) (y : Option (Rz β)) : Prop := match x with
  | none => True
  | some (.ok a s) => ∃ b h' A', y = some (.ok b h') ∧ Ex X h A h' A' ∧ Wf X h' A' s ∧ rel h' A' a b
  | some (.ex c fs ws s) => ∃ us h' A', y = some (.ex c (fs.zip us) h') ∧ fs.length = us.length ∧ Ex X h A h' A' ∧ Wf X h' A' s ∧ Vs X h' A' ws us
section
variable {α β γ δ : Type} {X : Xx} {r1 : Hm → Al → α → β → Prop} {r2 : Hm → Al → γ → δ → Prop} {h : Hm} {A : Al} {x : Option (Pz α)} {y : Option (Rz β)} {k : α → DS → Option (Pz γ)} {l : β → Hm → Option (Rz δ)}
theorem RR.none : RR X r1 h A none y := trivial
theorem RR.ok {a : α} {b : β} {s : DS} (w : Wf X h A s) (r : r1 h A a b) : RR X r1 h A (some (.ok a s)) (some (.ok b h)) := ⟨b, h, A, rfl, Ex.refl, w, r⟩
theorem RR.bnd (H : RR X r1 h A x y) (K : ∀ a b s h' A', Ex X h A h' A' → Wf X h' A' s → r1 h' A' a b → RR X r2 h' A' (k a s) (l b h')) : RR X r2 h A (pb x k) (bnd y l) := by
  cases x with
  | none => trivial
  | some x =>
    cases x with
    | ok a s =>
      obtain ⟨b, h', A', rfl, e, w, r⟩ := H
      have q := K a b s h' A' e w r
      show RR X r2 h A (k a s) (l b h')
      cases hk : k a s with
      | none => trivial
      | some z =>
        rw [hk] at q
        cases z with
        | ok c s2 => obtain ⟨b2, h2, A2, e1, e2, w2, r2⟩ := q; exact ⟨b2, h2, A2, e1, e.trans e2, w2, r2⟩
        | ex c fs ws s2 => obtain ⟨us, h2, A2, e1, ln, e2, w2, r2⟩ := q; exact ⟨us, h2, A2, e1, ln, e.trans e2, w2, r2⟩
    | ex c fs ws s =>
      obtain ⟨us, h', A', rfl, ln, e, w, r⟩ := H
      exact ⟨us, h', A', rfl, ln, e, w, r⟩
theorem RR.mono {r3 : Hm → Al → α → β → Prop} (H : RR X r1 h A x y) (K : ∀ h' A' a b, Ex X h A h' A' → r1 h' A' a b → r3 h' A' a b) : RR X r3 h A x y := by
  cases x with
  | none => trivial
  | some x =>
    cases x with
    | ok a s => obtain ⟨b, h', A', e1, e, w, r⟩ := H; exact ⟨b, h', A', e1, e, w, K _ _ _ _ e r⟩
    | ex c fs ws s => exact H
end
end PL

set_option maxHeartbeats 4000000
namespace PL
open PySem L2 ML
abbrev PEv := List (Option P)
abbrev PE := PEv → DS → Option (Pz P)
abbrev PT := PEv → DS → Option (Pz Bool)
abbrev PA := PEv → DS → Option (Pz (List P))
abbrev PF := List P → DS → Option (Pz P)
abbrev PI := PEv → DS → Option (Pz (List P))
abbrev PO := PEv → DS → Option (Pz (Option Int))
/-- a fresh list: its items -/
abbrev FE := PEv → DS → Option (Pz (List P))
structure RE (X : Xx) (h : Hm) (A : Al) (ρp : PEv) (ρ : Ev) : Prop where
  len : ρ.length = ρp.length
  at_ : ∀ (i : Nat) (p : P), ρp[i]? = some (some p) → ∃ u : U, ρ[i]? = some (some u) ∧ V X h A p u
def EQ {α : Type} : Hm → Al → α → α → Prop := fun _ _ a b => a = b
def IT (X : Xx) : Hm → Al → List P → List U × (Hm → Prop) → Prop := fun h' A' ps z => Vs X h' A' ps z.1 ∧ ∀ h'' : Hm, (∀ i, A' i → h''[i]? = h'[i]?) → z.2 h''
def FR (X : Xx) (n : Nat) : Hm → Al → List P → U → Prop := fun h' A' ps u => ∃ j us, u = .ref j ∧ n ≤ j ∧ j < h'.length ∧ ¬ A' j ∧ h'[j]? = some (.lst us) ∧ Vs X h' A' ps us
def SE (m : ME) (p : PE) : Prop := ∀ ⦃X h A s ρ ρp⦄, Wf X h A s → RE X h A ρp ρ → RR X (V X) h A (p ρp s) (m ρ h)
def ST (m : MT) (p : PT) : Prop := ∀ ⦃X h A s ρ ρp⦄, Wf X h A s → RE X h A ρp ρ → RR X EQ h A (p ρp s) (m ρ h)
def SA (m : MA) (p : PA) : Prop := ∀ ⦃X h A s ρ ρp⦄, Wf X h A s → RE X h A ρp ρ → RR X (Vs X) h A (p ρp s) (m ρ h)
def SO (m : MO) (p : PO) : Prop := ∀ ⦃X h A s ρ ρp⦄, Wf X h A s → RE X h A ρp ρ → RR X EQ h A (p ρp s) (m ρ h)
def SI (m : MI) (p : PI) : Prop := ∀ ⦃X h A s ρ ρp⦄, Wf X h A s → RE X h A ρp ρ → RR X (IT X) h A (p ρp s) (m ρ h)
def SFE (m : ME) (p : FE) : Prop := ∀ ⦃X h A s ρ ρp⦄, Wf X h A s → RE X h A ρp ρ → RR X (FR X h.length) h A (p ρp s) (m ρ h)
def SF (m : MF) (p : PF) : Prop := ∀ ⦃X h A s us ps⦄, Wf X h A s → Vs X h A ps us → RR X (V X) h A (p ps s) (m us h)
abbrev Q2 := P → P → DS → Option (Pz P)
def S2 (f : O2) (g : Q2) : Prop := ∀ ⦃X h A s p q x y⦄, Wf X h A s → V X h A p x → V X h A q y → RR X (V X) h A (g p q s) (f x y h)
section
variable {X : Xx} {h h' : Hm} {A A' : Al} {s s' : DS} {ρ : Ev} {ρp : PEv}
theorem RE.on (r : RE X h A ρp ρ) (w : Wf X h A s) (e : Ex X h A h' A') : RE X h' A' ρp ρ := ⟨r.len, fun i p q => by
  obtain ⟨u, e1, v⟩ := r.at_ i p q
  exact ⟨u, e1, e.v w v⟩⟩
theorem RE.set (r : RE X h A ρp ρ) {p : P} {u : U} (v : V X h A p u) (i : Nat) : RE X h A (ρp.set i (some p)) (ρ.set i (some u)) := ⟨by simp [r.len], fun j q e => by
  by_cases hj : i = j
  · subst hj
    by_cases hl : i < ρp.length
    · rw [List.getElem?_set_self hl] at e
      cases e
      exact ⟨u, by rw [List.getElem?_set_self (by rw [r.len]; exact hl)], v⟩
    · rw [List.getElem?_eq_none (by simpa using hl)] at e
      cases e
  · rw [List.getElem?_set_ne hj] at e ⊢
    exact r.at_ j q e⟩
theorem RE.unset (r : RE X h A ρp ρ) (i : Nat) : RE X h A (ρp.set i none) (ρ.set i none) := ⟨by simp [r.len], fun j q e => by
  by_cases hj : i = j
  · subst hj
    by_cases hl : i < ρp.length
    · rw [List.getElem?_set_self hl] at e
      cases e
    · rw [List.getElem?_eq_none (by simpa using hl)] at e
      cases e
  · rw [List.getElem?_set_ne hj] at e ⊢
    exact r.at_ j q e⟩
end
/-! ### plain ones -/
def pVar (i : Nat) : PE := fun ρ s => match ρ[i]? with
  | some (some p) => some (.ok p s)
  | _ => none
theorem sVar {i : Nat} : SE (mVar i) (pVar i) := fun X h A s ρ ρp w r => by
  unfold pVar mVar
  cases e : ρp[i]? with
  | none => trivial
  | some o =>
    cases o with
    | none => trivial
    | some p =>
      obtain ⟨u, e1, v⟩ := r.at_ i p e
      simp only [e1]
      exact RR.ok w v
inductive Sc0 where
  | non | bl (b : Bool) | int (i : Int) | str (x : Str)
def Sc0.u : Sc0 → U
  | .non => .non | .bl b => .bl b | .int i => .int i | .str x => .str x
def pC (p : P) : PE := fun _ s => some (.ok p s)
theorem sNon : SE (mC .non) (pC .non) := fun X h A s ρ ρp w r => RR.ok w (by simp [V])
theorem sBl {b : Bool} : SE (mC (.bl b)) (pC (.bl b)) := fun X h A s ρ ρp w r => RR.ok w (by simp [V])
theorem sInt {b : Int} : SE (mC (.int b)) (pC (.int b)) := fun X h A s ρ ρp w r => RR.ok w (by simp [V])
theorem sStr {b : Str} : SE (mC (.str b)) (pC (.str b)) := fun X h A s ρ ρp w r => RR.ok w (by simp [V])
def pOp (f : Q2) (a b : PE) : PE := fun ρ s => pb (a ρ s) fun p s1 => pb (b ρ s1) fun q s2 => f p q s2
theorem sOp {f : O2} {g : Q2} {ma mb : ME} {a b : PE} (hf : S2 f g) (ha : SE ma a) (hb : SE mb b) : SE (mOp f ma mb) (pOp g a b) := fun X h A s ρ ρp w r =>
  RR.bnd (ha w r) fun p x s1 h1 A1 e1 w1 v1 => RR.bnd (hb w1 (r.on w e1)) fun q y s2 h2 A2 e2 w2 v2 => hf w2 (e2.v w1 v1) v2
/-! numbers -/
def qI (g : Int → Int → P) : Q2 := fun p q s => match p, q with
  | .int i, .int j => some (.ok (g i j) s)
  | _, _ => none
/-- a test that the kernel does not run -/
noncomputable def opq (b : Bool) : Bool := (Classical.choice (⟨⟨b, rfl⟩⟩ : Nonempty {c : Bool // c = b})).1
theorem opq_eq (b : Bool) : opq b = b := (Classical.choice (⟨⟨b, rfl⟩⟩ : Nonempty {c : Bool // c = b})).2
theorem opq_t {b : Bool} (h : b = true) : opq b = true := (opq_eq b).trans h
noncomputable def qIc (C : Int → Int → Bool) (g : Int → Int → P) : Q2 := fun p q s => match p, q with
  | .int i, .int j => if opq (C i j) = true then some (.ok (g i j) s) else none
  | _, _ => none
theorem s2I {g : Int → Int → U} {g' : Int → Int → P} (hg : ∀ X h A i j, V X h A (g' i j) (g i j)) : S2 (oI0 g) (qI g') := fun X h A s p q x y w v1 v2 => by
  unfold qI
  split
  · simp only [V] at v1 v2
    subst v1 v2
    exact RR.ok w (hg _ _ _ _ _)
  · trivial
theorem s2Ic {C : Int → Int → Bool} {g : Int → Int → U} {g' : Int → Int → P} (hg : ∀ X h A i j, V X h A (g' i j) (g i j)) : S2 (oI C g) (qIc C g') := fun X h A s p q x y w v1 v2 => by
  unfold qIc
  split
  · simp only [V] at v1 v2
    subst v1 v2
    unfold oI
    rw [opq_eq]
    split
    · rename_i hc
      simp only [hc, if_true]
      exact RR.ok w (hg _ _ _ _ _)
    · trivial
  · trivial
abbrev qSub : Q2 := qI fun i j => .int (i - j)
noncomputable abbrev qDiv : Q2 := qIc cDivN fun i j => .int (i.fdiv j)
noncomputable abbrev qMod : Q2 := qIc (fun _ j => decide (j ≠ 0)) fun i j => .int (i.fmod j)
noncomputable abbrev qPow : Q2 := qIc cPow fun i j => .int (i ^ j.toNat)
abbrev qLt : Q2 := qI fun i j => .bl (decide (i < j))
abbrev qLe : Q2 := qI fun i j => .bl (decide (i ≤ j))
abbrev qGt : Q2 := qI fun i j => .bl (decide (j < i))
abbrev qGe : Q2 := qI fun i j => .bl (decide (j ≤ i))
theorem s2Sub : S2 oSub qSub := s2I fun _ _ _ _ _ => by simp [V]
theorem s2Div : S2 oDiv qDiv := s2Ic fun _ _ _ _ _ => by simp [V]
theorem s2Mod : S2 oMod qMod := s2Ic fun _ _ _ _ _ => by simp [V]
theorem s2Pow : S2 oPow qPow := s2Ic fun _ _ _ _ _ => by simp [V]
theorem s2Lt : S2 oLt qLt := s2I fun _ _ _ _ _ => by simp [V]
theorem s2Le : S2 oLe qLe := s2I fun _ _ _ _ _ => by simp [V]
theorem s2Gt : S2 oGt qGt := s2I fun _ _ _ _ _ => by simp [V]
theorem s2Ge : S2 oGe qGe := s2I fun _ _ _ _ _ => by simp [V]
section
variable {X : Xx} {h h' : Hm} {A A' : Al} {s s' : DS} {ρ : Ev} {ρp : PEv}
/-- a fresh list at the end -/
theorem fr_ok {n : Nat} {ps : List P} {us : List U} (w : Wf X h A s) (hn : n ≤ h.length) (r : Vs X h A ps us) : RR X (FR X n) h A (some (.ok ps s)) (some (.ok (.ref h.length) (h ++ [.lst us]))) :=
  ⟨.ref h.length, h ++ [.lst us], A, rfl, Ex.app _, w.app _, h.length, us, rfl, hn, by simp, fun a => Nat.lt_irrefl _ (w.bd _ a).1, by simp, (Ex.app _).vs w r⟩
theorem FR.v {n : Nat} {ps : List P} {u : U} (w : Wf X h A s) (r : FR X n h A ps u) (hn : X.D < n) : ∃ j, n ≤ j ∧ Wf X h (A.add j) s ∧ V X h (A.add j) (.lst ps) u := by
  obtain ⟨j, us, rfl, hj, hl, na, ec, vs⟩ := r
  refine ⟨j, hj, w.add hl (by omega), ?_⟩
  simp only [V]
  exact ⟨j, us, rfl, .inr rfl, ec, Vs.mono (fun i a => ⟨.inl a, rfl⟩) _ _ vs⟩
end
/-- the list as a value -/
def pL (f : FE) : PE := fun ρ s => pb (f ρ s) fun ps s1 => some (.ok (.lst ps) s1)
theorem SFE.se {m : ME} {f : FE} (hf : SFE m f) : SE m (pL f) := fun X h A s ρ ρp w r => by
  have H := hf w r
  unfold pL
  cases e : f ρp s with
  | none => trivial
  | some z =>
    rw [e] at H
    cases z with
    | ok ps s1 =>
      obtain ⟨u, h1, A1, em, e1, w1, fr⟩ := H
      obtain ⟨j, hj, w2, v⟩ := fr.v w1 w.dlt
      exact ⟨u, h1, A1.add j, em, e1.add hj, w2, v⟩
    | ex c fs ws s1 => exact H
/-! sums -/
def qAdd : Q2 := fun p q s => match p, q with
  | .int i, .int j => some (.ok (.int (i + j)) s)
  | .str a, .str b => if a.length + b.length ≤ LIM then some (.ok (.str (a ++ b)) s) else none
  | .tup xs, .tup ys => if xs.length + ys.length ≤ LIM then some (.ok (.tup (xs ++ ys)) s) else none
  | .lst xs, .lst ys => if xs.length + ys.length ≤ LIM then some (.ok (.lst (xs ++ ys)) s) else none
  | _, _ => none
theorem addL_fr {X : Xx} {h : Hm} {A : Al} {s : DS} {n : Nat} {xs ys : List P} {x y : U} (w : Wf X h A s) (hn : n ≤ h.length) (v1 : V X h A (.lst xs) x) (v2 : V X h A (.lst ys) y) (hl : xs.length + ys.length ≤ LIM) : RR X (FR X n) h A (some (.ok (xs ++ ys) s)) (oAdd x y h) := by
  simp only [V] at v1 v2
  obtain ⟨i, us, rfl, ai, ei, ri⟩ := v1
  obtain ⟨j, vs, rfl, aj, ej, rj⟩ := v2
  rw [add_l ei ej (by rw [ri.length, rj.length]; exact hl)]
  exact fr_ok w hn (ri.append rj)
theorem fr_v {X : Xx} {h : Hm} {A : Al} {s : DS} {ps : List P} {y : Option (Rz U)} (w : Wf X h A s) (H : RR X (FR X h.length) h A (some (.ok ps s)) y) : RR X (V X) h A (some (.ok (.lst ps) s)) y := by
  obtain ⟨u, h1, A1, em, e1, w1, fr⟩ := H
  obtain ⟨j, hj, w2, v⟩ := fr.v w1 w.dlt
  exact ⟨u, h1, A1.add j, em, e1.add hj, w2, v⟩
theorem s2Add : S2 oAdd qAdd := fun X h A s p q x y w v1 v2 => by
  unfold qAdd
  split
  · simp only [V] at v1 v2
    subst v1 v2
    exact RR.ok w (by simp [V])
  · simp only [V] at v1 v2
    subst v1 v2
    split
    · rename_i hc
      rw [ev_addS, if_pos hc]
      exact RR.ok w (by simp [V])
    · trivial
  · split
    · rename_i hc
      simp only [V] at v1 v2
      obtain ⟨us, rfl, r1⟩ := v1
      obtain ⟨vs, rfl, r2⟩ := v2
      have : oAdd (.tup us) (.tup vs) h = some (.ok (.tup (us ++ vs)) h) := by
        unfold oAdd oAddT2
        simp only [oI0, oAddS, oAddL]
        rw [if_pos (by rw [r1.length, r2.length]; exact hc)]
      rw [this]
      exact RR.ok w (by simp only [V]; exact ⟨_, rfl, r1.append r2⟩)
    · trivial
  · split
    · rename_i hc
      exact fr_v w (addL_fr w (Nat.le_refl _) v1 v2 hc)
    · trivial
  · trivial
noncomputable def qMul : Q2 := fun p q s => match p, q with
  | .int i, .int j => if opq (cMul i j) = true then some (.ok (.int (i * j)) s) else none
  | .lst xs, .int k => if (decide (k ≤ 1000000) && decide (-1000000 ≤ k)) && decide (xs.length * k.toNat ≤ LIM) = true then some (.ok (.lst (List.replicate k.toNat xs).flatten) s) else none
  | _, _ => none
theorem repL_fr {X : Xx} {h : Hm} {A : Al} {s : DS} {n : Nat} {xs : List P} {k : Int} {x y : U} (w : Wf X h A s) (hn : n ≤ h.length) (v1 : V X h A (.lst xs) x) (v2 : V X h A (.int k) y) (hl : (decide (k ≤ 1000000) && decide (-1000000 ≤ k)) && decide (xs.length * k.toNat ≤ LIM) = true) : RR X (FR X n) h A (some (.ok (List.replicate k.toNat xs).flatten s)) (oMulA x y h) := by
  simp only [V] at v1 v2
  obtain ⟨i, us, rfl, ai, ei, ri⟩ := v1
  subst v2
  have : oMulA (.ref i) (.int k) h = some (.ok (.ref h.length) (h ++ [.lst (List.replicate k.toNat us).flatten])) := by
    unfold oMulA oRep
    simp only [oI, ei]
    rw [if_pos (by rw [ri.length]; exact hl)]
  rw [this]
  exact fr_ok w hn (ri.flatten _)
theorem s2Mul : S2 oMulA qMul := fun X h A s p q x y w v1 v2 => by
  unfold qMul
  split
  · simp only [V] at v1 v2
    subst v1 v2
    rw [opq_eq]
    split
    · rename_i hc
      rw [ev_mulA, if_pos hc]
      exact RR.ok w (by simp [V])
    · trivial
  · split
    · rename_i hc
      exact fr_v w (repL_fr w (Nat.le_refl _) v1 v2 hc)
    · trivial
  · trivial
/-! equality -/
def sEqP : P → P → Option Bool
  | .non, .non => some true
  | .non, .int _ => some false | .int _, .non => some false
  | .non, .bl _ => some false | .bl _, .non => some false
  | .non, .str _ => some false | .str _, .non => some false
  | .int a, .int b => some (decide (a = b))
  | .bl a, .bl b => some (decide (a = b))
  | .str a, .str b => some (decide (a = b))
  | .int _, .str _ => some false | .str _, .int _ => some false
  | .bl _, .str _ => some false | .str _, .bl _ => some false
  | _, _ => none
mutual
def dP (n : Nat) : P → Option PyData
  | .non => some .none
  | .bl b => some (.bool b)
  | .int i => some (.int i)
  | .str x => some (.str x)
  | .tup ws => match dPs n ws with
    | some ds => some (.tuple ds)
    | none => none
  | .lst ws => match n with
    | 0 => none
    | n + 1 => match dPs n ws with
      | some ds => some (.list ds)
      | none => none
  | _ => none
def dPs (n : Nat) : List P → Option (List PyData)
  | [] => some []
  | w :: ws => match dP n w, dPs n ws with
    | some d, some ds => some (d :: ds)
    | _, _ => none
end
mutual
theorem dP_ok {X : Xx} {h : Hm} {A : Al} : ∀ (n : Nat) (p : P) (u : U) (d : PyData), V X h A p u → dP n p = some d → dW (dR n h) u = some d
  | n, .non, u, d, v, e => by simp only [V] at v; subst v; simpa [dP, dW] using e
  | n, .bl b, u, d, v, e => by simp only [V] at v; subst v; simpa [dP, dW] using e
  | n, .int b, u, d, v, e => by simp only [V] at v; subst v; simpa [dP, dW] using e
  | n, .str b, u, d, v, e => by simp only [V] at v; subst v; simpa [dP, dW] using e
  | n, .tup ps, u, d, v, e => by
    simp only [V] at v
    obtain ⟨us, rfl, r⟩ := v
    simp only [dP] at e
    cases e1 : dPs n ps with
    | none => rw [e1] at e; cases e
    | some ds =>
      rw [e1] at e
      simp only [dW, dPs_ok n ps us ds r e1]
      exact e
  | 0, .lst ps, u, d, v, e => by simp [dP] at e
  | n + 1, .lst ps, u, d, v, e => by
    simp only [V] at v
    obtain ⟨i, us, rfl, a, ei, r⟩ := v
    simp only [dP] at e
    cases e1 : dPs n ps with
    | none => rw [e1] at e; cases e
    | some ds =>
      rw [e1] at e
      simp only [dW, dR, ev_rdL ei, dPs_ok n ps us ds r e1]
      exact e
  | n, .ins c fs ps, u, d, v, e => by simp [dP] at e
  | n, .exc c fs ps, u, d, v, e => by simp [dP] at e
  | n, .scr, u, d, v, e => by simp [dP] at e
  | n, .st, u, d, v, e => by simp [dP] at e
theorem dPs_ok {X : Xx} {h : Hm} {A : Al} : ∀ (n : Nat) (ps : List P) (us : List U) (ds : List PyData), Vs X h A ps us → dPs n ps = some ds → dWs (dR n h) us = some ds
  | n, [], us, ds, v, e => by simp only [Vs] at v; subst v; simpa [dPs, dWs] using e
  | n, p :: ps, us, ds, v, e => by
    simp only [Vs] at v
    obtain ⟨y, ys, rfl, r, rs⟩ := v
    simp only [dPs] at e
    cases e1 : dP n p with
    | none => rw [e1] at e; cases e
    | some d =>
      cases e2 : dPs n ps with
      | none => rw [e1, e2] at e; cases e
      | some ds' =>
        rw [e1, e2] at e
        simp only [dWs, dP_ok n p y d r e1, dPs_ok n ps ys ds' rs e2]
        exact e
end
theorem sEqP_ok {X : Xx} {h : Hm} {A : Al} {p q : P} {x y : U} {b : Bool} (v1 : V X h A p x) (v2 : V X h A q y) (e : sEqP p q = some b) : sEq x y = some b := by
  cases p <;> cases q <;> first | (simp [sEqP] at e; done) | (simp only [V] at v1 v2; subst v1 v2; simpa [sEqP, sEq] using e)
/-- x == y (neg false), x != y -/
def qEq (neg : Bool) : Q2 := fun p q s => match sEqP p q with
  | some b => some (.ok (.bl (b != neg)) s)
  | none => match dP 3 p, dP 3 q with
    | some d, some e => if (SeqAt.shaped d && SeqAt.shaped e) = true then some (.ok (.bl (PyData.eqv d e != neg)) s) else none
    | _, _ => none
theorem eqvSym : True := trivial
theorem s2EqG (neg : Bool) {X : Xx} {h : Hm} {A : Al} {s : DS} {p q : P} {x y : U} (w : Wf X h A s) (v1 : V X h A p x) (v2 : V X h A q y) : RR X (V X) h A (qEq neg p q s) (match oEqS neg x y h with | some z => some z | none => oEqD neg 3 x y h) := by
  unfold qEq
  cases e : sEqP p q with
  | some b =>
    simp only [oEqS, sEqP_ok v1 v2 e]
    exact RR.ok w (by simp [V])
  | none =>
    simp only
    cases e1 : dP 3 p with
    | none => trivial
    | some d =>
      cases e2 : dP 3 q with
      | none => trivial
      | some d2 =>
        simp only
        split
        · rename_i hc
          have hs : oEqS neg x y h = none ∨ ∃ b, oEqS neg x y h = some (.ok (.bl b) h) ∧ b = (PyData.eqv d d2 != neg) := by
            have k1 := dP_ok 3 p x d v1 e1
            have k2 := dP_ok 3 q y d2 v2 e2
            left
            unfold oEqS
            have : sEq x y = none := by
              cases p <;> cases q <;> first
                | (simp [sEqP] at e; done)
                | (simp [dP] at e1; done)
                | (simp [dP] at e2; done)
                | skip
              all_goals
                simp only [V] at v1 v2
                first
                  | (subst v1 v2; simp [sEqP] at e; done)
                  | (subst v1 v2; rfl)
                  | (obtain ⟨us, rfl, _⟩ := v1; subst v2; rfl)
                  | (obtain ⟨us, rfl, _⟩ := v2; subst v1; rfl)
                  | (obtain ⟨us, rfl, _⟩ := v1; obtain ⟨vs, rfl, _⟩ := v2; rfl)
                  | (obtain ⟨i, us, rfl, _⟩ := v1; subst v2; rfl)
                  | (obtain ⟨i, us, rfl, _⟩ := v2; subst v1; rfl)
                  | (obtain ⟨i, us, rfl, _⟩ := v1; obtain ⟨vs, rfl, _⟩ := v2; rfl)
                  | (obtain ⟨us, rfl, _⟩ := v1; obtain ⟨i, vs, rfl, _⟩ := v2; rfl)
                  | (obtain ⟨i, us, rfl, _⟩ := v1; obtain ⟨j, vs, rfl, _⟩ := v2; rfl)
            rw [this]
          have k : oEqD neg 3 x y h = some (.ok (.bl (PyData.eqv d d2 != neg)) h) := by
            unfold oEqD
            simp only [dP_ok 3 p x d v1 e1, dP_ok 3 q y d2 v2 e2]
            rw [if_pos hc]
          rcases hs with hs | ⟨b, hs, hb⟩
          · rw [hs]
            simp only [k]
            exact RR.ok w (by simp [V])
          · rw [hs, hb]
            exact RR.ok w (by simp [V])
        · trivial
theorem s2Eq : S2 (oEq 3) (qEq false) := fun X h A s p q x y w v1 v2 => s2EqG false w v1 v2
theorem s2Ne : S2 (oNe 3) (qEq true) := fun X h A s p q x y w v1 v2 => s2EqG true w v1 v2
/-! in -/
def flatP : P → Bool
  | .non => true | .bl _ => true | .int _ => true | .str _ => true
  | _ => false
def eqFP : P → P → Bool
  | .non, .non => true
  | .bl a, .bl b => a == b
  | .bl a, .int b => (if a then 1 else 0) == b
  | .int a, .bl b => a == (if b then 1 else 0)
  | .int a, .int b => a == b
  | .str a, .str b => a == b
  | _, _ => false
def inFP (x : P) (ws : List P) : Bool := ws.any fun y => eqFP y x
theorem flatP_u {X : Xx} {h : Hm} {A : Al} {p : P} {u : U} (v : V X h A p u) (f : flatP p = true) : flatU u = true := by
  cases p <;> first | (simp [flatP] at f; done) | (simp only [V] at v; subst v; rfl)
theorem eqFP_ok {X : Xx} {h : Hm} {A : Al} {p q : P} {x y : U} (v1 : V X h A p x) (v2 : V X h A q y) (f1 : flatP p = true) (f2 : flatP q = true) : eqF x y = eqFP p q := by
  cases p <;> first | (simp [flatP] at f1; done) | (cases q <;> first | (simp [flatP] at f2; done) | (simp only [V] at v1 v2; subst v1 v2; rfl))
theorem inFP_ok {X : Xx} {h : Hm} {A : Al} {p : P} {x : U} (v : V X h A p x) (f : flatP p = true) : ∀ {ws : List P} {us : List U}, Vs X h A ws us → ws.all flatP = true → us.all flatU = true ∧ inF x us = inFP p ws
  | [], us, r, q => by simp only [Vs] at r; subst r; exact ⟨rfl, rfl⟩
  | w :: ws, us, r, q => by
    simp only [Vs] at r
    obtain ⟨y, ys, rfl, r1, rs⟩ := r
    simp only [List.all_cons, Bool.and_eq_true] at q
    obtain ⟨i1, i2⟩ := inFP_ok v f rs q.2
    refine ⟨by simp only [List.all_cons, flatP_u r1 q.1, i1, Bool.and_self], ?_⟩
    unfold inF inFP at *
    simp only [List.any_cons, i2, eqFP_ok r1 v q.1 f]
def qIn (neg : Bool) : Q2 := fun p q s => match p, q with
  | .str a, .str z => match a.cps.toList with
    | [c] => some (.ok (.bl (decide (c ∈ z.cps.toList) != neg)) s)
    | _ => none
  | p, .tup ws => if (flatP p && ws.all flatP) = true then some (.ok (.bl (inFP p ws != neg)) s) else none
  | p, .lst ws => if (flatP p && ws.all flatP) = true then some (.ok (.bl (inFP p ws != neg)) s) else none
  | _, _ => none
theorem s2In {neg : Bool} : S2 (oInA neg) (qIn neg) := fun X h A s p q x y w v1 v2 => by
  unfold qIn
  split
  · simp only [V] at v1 v2
    subst v1 v2
    rename_i a z
    cases e : a.cps.toList with
    | nil => trivial
    | cons c cs =>
      cases cs with
      | cons d ds => trivial
      | nil =>
        simp only
        unfold oInA oInC
        simp only [e]
        exact RR.ok w (by simp [V])
  · rename_i ws
    split
    · rename_i hc
      simp only [Bool.and_eq_true] at hc
      simp only [V] at v2
      obtain ⟨us, rfl, r⟩ := v2
      obtain ⟨i1, i2⟩ := inFP_ok v1 hc.1 r hc.2
      have : oInA neg x (.tup us) h = some (.ok (.bl (inFP p ws != neg)) h) := by
        unfold oInA oInC oIn
        cases x <;> simp [flatP_u v1 hc.1, i1, i2]
      rw [this]
      exact RR.ok w (by simp [V])
    · trivial
  · rename_i ws
    split
    · rename_i hc
      simp only [Bool.and_eq_true] at hc
      simp only [V] at v2
      obtain ⟨i, us, rfl, a, ei, r⟩ := v2
      obtain ⟨i1, i2⟩ := inFP_ok v1 hc.1 r hc.2
      have : oInA neg x (.ref i) h = some (.ok (.bl (inFP p ws != neg)) h) := by
        unfold oInA oInC oIn
        cases x <;> simp [flatP_u v1 hc.1, i1, i2, ev_rdL ei]
      rw [this]
      exact RR.ok w (by simp [V])
    · trivial
  · trivial
/-! items -/
def qIx : Q2 := fun p q s => match p, q with
  | .lst ws, .int i => match atI ws i with
    | some w => some (.ok w s)
    | none => none
  | .tup ws, .int i => match atI ws i with
    | some w => some (.ok w s)
    | none => none
  | .str z, .int i => match atI z.cps.toList i with
    | some c => if z.length ≤ LIM then some (.ok (.str ⟨#[c]⟩) s) else none
    | none => none
  | _, _ => none
theorem atI_v {X : Xx} {h : Hm} {A : Al} {ps : List P} {us : List U} {i : Int} {p : P} (r : Vs X h A ps us) (e : atI ps i = some p) : ∃ u, atI us i = some u ∧ V X h A p u := by
  unfold atI at e ⊢
  rw [r.length]
  cases e1 : ixN ps.length i with
  | none => rw [e1] at e; cases e
  | some k =>
    rw [e1] at e
    simp only [Option.bind_some] at e ⊢
    exact r.get e
theorem s2Ix : S2 oIx qIx := fun X h A s p q x y w v1 v2 => by
  unfold qIx
  split
  · simp only [V] at v1 v2
    obtain ⟨l, us, rfl, a, el, r⟩ := v1
    subst v2
    split
    · rename_i e
      obtain ⟨u, e1, v⟩ := atI_v r e
      rw [ev_ix (ev_rdL el) e1]
      exact RR.ok w v
    · trivial
  · simp only [V] at v1 v2
    obtain ⟨us, rfl, r⟩ := v1
    subst v2
    split
    · rename_i e
      obtain ⟨u, e1, v⟩ := atI_v r e
      rw [ev_ixT e1]
      exact RR.ok w v
    · trivial
  · simp only [V] at v1 v2
    subst v1 v2
    split
    · rename_i e
      split
      · rename_i hl
        rw [ev_ixS e hl]
        exact RR.ok w (by simp [V])
      · trivial
    · trivial
  · trivial
end PL

set_option maxHeartbeats 4000000
namespace PL
open PySem L2 ML
/-! tests -/
def ptoB (p : P) (s : DS) : Option (Pz Bool) := match p with
  | .bl b => some (.ok b s)
  | _ => none
def pB (e : PE) : PT := fun ρ s => pb (e ρ s) ptoB
theorem sB {m : ME} {p : PE} (hp : SE m p) : ST (mB m) (pB p) := fun X h A s ρ ρp w r => RR.bnd (hp w r) fun a b s1 h1 A1 e1 w1 v => by
  cases a with
  | bl k => simp only [V] at v; subst v; exact RR.ok w1 rfl
  | _ => trivial
def pTAnd (a b : PT) : PT := fun ρ s => pb (a ρ s) fun c s1 => if c = true then b ρ s1 else some (.ok false s1)
def pTOr (a b : PT) : PT := fun ρ s => pb (a ρ s) fun c s1 => if c = true then some (.ok true s1) else b ρ s1
def pTNot (a : PT) : PT := fun ρ s => pb (a ρ s) fun c s1 => some (.ok (!c) s1)
theorem sTAnd {m n : MT} {a b : PT} (ha : ST m a) (hb : ST n b) : ST (mTAnd m n) (pTAnd a b) := fun X h A s ρ ρp w r => RR.bnd (ha w r) fun c d s1 h1 A1 e1 w1 v => by
  cases v
  cases c with
  | true => exact hb w1 (r.on w e1)
  | false => exact RR.ok w1 rfl
theorem sTOr {m n : MT} {a b : PT} (ha : ST m a) (hb : ST n b) : ST (mTOr m n) (pTOr a b) := fun X h A s ρ ρp w r => RR.bnd (ha w r) fun c d s1 h1 A1 e1 w1 v => by
  cases v
  cases c with
  | false => exact hb w1 (r.on w e1)
  | true => exact RR.ok w1 rfl
theorem sTNot {m : MT} {a : PT} (ha : ST m a) : ST (mTNot m) (pTNot a) := fun X h A s ρ ρp w r => RR.bnd (ha w r) fun c d s1 h1 A1 e1 w1 v => by
  cases v
  exact RR.ok w1 rfl
def pAnd (a b : PE) : PE := fun ρ s => pb (a ρ s) fun p s1 => match p with
  | .bl c => if c = true then b ρ s1 else some (.ok (.bl false) s1)
  | _ => none
def pOr (a b : PE) : PE := fun ρ s => pb (a ρ s) fun p s1 => match p with
  | .bl c => if c = true then some (.ok (.bl true) s1) else b ρ s1
  | _ => none
def pNot (a : PE) : PE := fun ρ s => pb (a ρ s) fun p s1 => match p with
  | .bl c => some (.ok (.bl (!c)) s1)
  | _ => none
theorem sAnd {m n : ME} {a b : PE} (ha : SE m a) (hb : SE n b) : SE (mAnd m n) (pAnd a b) := fun X h A s ρ ρp w r => RR.bnd (ha w r) fun c d s1 h1 A1 e1 w1 v => by
  cases c with
  | bl k =>
    simp only [V] at v; subst v
    cases k with
    | true => exact hb w1 (r.on w e1)
    | false => exact RR.ok w1 (by simp [V])
  | _ => trivial
theorem sOr {m n : ME} {a b : PE} (ha : SE m a) (hb : SE n b) : SE (mOr m n) (pOr a b) := fun X h A s ρ ρp w r => RR.bnd (ha w r) fun c d s1 h1 A1 e1 w1 v => by
  cases c with
  | bl k =>
    simp only [V] at v; subst v
    cases k with
    | false => exact hb w1 (r.on w e1)
    | true => exact RR.ok w1 (by simp [V])
  | _ => trivial
theorem sNot {m : ME} {a : PE} (ha : SE m a) : SE (mNot m) (pNot a) := fun X h A s ρ ρp w r => RR.bnd (ha w r) fun c d s1 h1 A1 e1 w1 v => by
  cases c with
  | bl k => simp only [V] at v; subst v; exact RR.ok w1 (by simp [V])
  | _ => trivial
def pIfE (c : PT) (a b : PE) : PE := fun ρ s => pb (c ρ s) fun k s1 => if k = true then a ρ s1 else b ρ s1
theorem sIfE {t : MT} {m n : ME} {c : PT} {a b : PE} (hc : ST t c) (ha : SE m a) (hb : SE n b) : SE (mIfE t m n) (pIfE c a b) := fun X h A s ρ ρp w r => RR.bnd (hc w r) fun k d s1 h1 A1 e1 w1 v => by
  cases v
  cases k with
  | true => exact ha w1 (r.on w e1)
  | false => exact hb w1 (r.on w e1)
def pNeg (a : PE) : PE := fun ρ s => pb (a ρ s) fun p s1 => match p with
  | .int i => some (.ok (.int (-i)) s1)
  | _ => none
theorem sNeg {m : ME} {a : PE} (ha : SE m a) : SE (mNeg m) (pNeg a) := fun X h A s ρ ρp w r => RR.bnd (ha w r) fun c d s1 h1 A1 e1 w1 v => by
  cases c with
  | int k => simp only [V] at v; subst v; exact RR.ok w1 (by simp [V])
  | _ => trivial
def isNonP : P → Bool
  | .non => true
  | _ => false
def pIsN (neg : Bool) (a : PE) : PE := fun ρ s => pb (a ρ s) fun p s1 => some (.ok (.bl (isNonP p != neg)) s1)
theorem isNonP_ok {X : Xx} {h : Hm} {A : Al} {p : P} {u : U} (v : V X h A p u) : isNon u = isNonP p := by
  cases p <;> simp only [V] at v
  case tup => obtain ⟨us, rfl, _⟩ := v; rfl
  case lst => obtain ⟨i, us, rfl, _⟩ := v; rfl
  case ins => obtain ⟨i, us, rfl, _⟩ := v; rfl
  case exc => obtain ⟨i, us, rfl, _⟩ := v; rfl
  all_goals (subst v; rfl)
theorem sIsN {neg : Bool} {m : ME} {a : PE} (ha : SE m a) : SE (mIsN neg m) (pIsN neg a) := fun X h A s ρ ρp w r => RR.bnd (ha w r) fun c d s1 h1 A1 e1 w1 v => by
  rw [isNonP_ok v]
  exact RR.ok w1 (by simp [V])
def pChain (f g : Q2) (a b c : PE) : PE := fun ρ s => pb (a ρ s) fun x s1 => pb (b ρ s1) fun y s2 => pb (f x y s2) fun z s3 => match z with
  | .bl k => if k = true then pb (c ρ s3) fun w s4 => g y w s4 else some (.ok (.bl false) s3)
  | _ => none
theorem sChain {f g : O2} {f' g' : Q2} {ma mb mc : ME} {a b c : PE} (hf : S2 f f') (hg : S2 g g') (ha : SE ma a) (hb : SE mb b) (hc : SE mc c) : SE (mChain f g ma mb mc) (pChain f' g' a b c) := fun X h A s ρ ρp w r =>
  RR.bnd (ha w r) fun p x s1 h1 A1 e1 w1 v1 => RR.bnd (hb w1 (r.on w e1)) fun q y s2 h2 A2 e2 w2 v2 => RR.bnd (hf w2 (e2.v w1 v1) v2) fun z u s3 h3 A3 e3 w3 v3 => by
    cases z with
    | bl k =>
      simp only [V] at v3; subst v3
      cases k with
      | true => exact RR.bnd (hc w3 (((r.on w e1).on w1 e2).on w2 e3)) fun t u s4 h4 A4 e4 w4 v4 => hg w4 (e4.v w3 (e3.v w2 v2)) v4
      | false => exact RR.ok w3 (by simp [V])
    | _ => trivial
/-! arguments -/
def pNil : PA := fun _ s => some (.ok [] s)
def pCons (e : PE) (es : PA) : PA := fun ρ s => pb (e ρ s) fun p s1 => pb (es ρ s1) fun ps s2 => some (.ok (p :: ps) s2)
theorem sNil : SA mNil pNil := fun X h A s ρ ρp w r => RR.ok w Vs.nil
theorem sCons {m : ME} {ms : MA} {e : PE} {es : PA} (he : SE m e) (hs : SA ms es) : SA (mCons m ms) (pCons e es) := fun X h A s ρ ρp w r =>
  RR.bnd (he w r) fun p x s1 h1 A1 e1 w1 v1 => RR.bnd (hs w1 (r.on w e1)) fun q y s2 h2 A2 e2 w2 v2 => RR.ok w2 (Vs.cons (e2.v w1 v1) v2)
def pTup (es : PA) : PE := fun ρ s => pb (es ρ s) fun ps s1 => if ps.length ≤ LIM then some (.ok (.tup ps) s1) else none
theorem sTup {ms : MA} {es : PA} (hs : SA ms es) : SE (mTup ms) (pTup es) := fun X h A s ρ ρp w r => RR.bnd (hs w r) fun ps us s1 h1 A1 e1 w1 v => by
  rw [v.length]
  split
  · exact RR.ok w1 (by simp only [V]; exact ⟨us, rfl, v⟩)
  · trivial
def fLst (es : PA) : FE := fun ρ s => pb (es ρ s) fun ps s1 => if ps.length ≤ LIM then some (.ok ps s1) else none
theorem sLst {ms : MA} {es : PA} (hs : SA ms es) : SFE (mLst ms) (fLst es) := fun X h A s ρ ρp w r => RR.bnd (hs w r) fun ps us s1 h1 A1 e1 w1 v => by
  rw [v.length]
  split
  · exact fr_ok w1 e1.len v
  · trivial
def fAddL (a b : PE) : FE := fun ρ s => pb (a ρ s) fun p s1 => pb (b ρ s1) fun q s2 => match p, q with
  | .lst xs, .lst ys => if xs.length + ys.length ≤ LIM then some (.ok (xs ++ ys) s2) else none
  | _, _ => none
theorem sAddL {ma mb : ME} {a b : PE} (ha : SE ma a) (hb : SE mb b) : SFE (mOp oAdd ma mb) (fAddL a b) := fun X h A s ρ ρp w r =>
  RR.bnd (ha w r) fun p x s1 h1 A1 e1 w1 v1 => RR.bnd (hb w1 (r.on w e1)) fun q y s2 h2 A2 e2 w2 v2 => by
    split
    · split
      · rename_i hc
        exact addL_fr w2 (Nat.le_trans e1.len e2.len) (e2.v w1 v1) v2 hc
      · trivial
    · trivial
def fRep (a b : PE) : FE := fun ρ s => pb (a ρ s) fun p s1 => pb (b ρ s1) fun q s2 => match p, q with
  | .lst xs, .int k => if (decide (k ≤ 1000000) && decide (-1000000 ≤ k)) && decide (xs.length * k.toNat ≤ LIM) = true then some (.ok (List.replicate k.toNat xs).flatten s2) else none
  | _, _ => none
theorem sRep {ma mb : ME} {a b : PE} (ha : SE ma a) (hb : SE mb b) : SFE (mOp oMulA ma mb) (fRep a b) := fun X h A s ρ ρp w r =>
  RR.bnd (ha w r) fun p x s1 h1 A1 e1 w1 v1 => RR.bnd (hb w1 (r.on w e1)) fun q y s2 h2 A2 e2 w2 v2 => by
    split
    · split
      · rename_i hc
        exact repL_fr w2 (Nat.le_trans e1.len e2.len) (e2.v w1 v1) v2 hc
      · trivial
    · trivial
/-! slices -/
def pNoPart : PO := fun _ s => some (.ok none s)
def pPart (e : PE) : PO := fun ρ s => pb (e ρ s) fun p s1 => match p with
  | .int i => some (.ok (some i) s1)
  | _ => none
theorem sNoPart : SO mNoPart pNoPart := fun X h A s ρ ρp w r => RR.ok w rfl
theorem sPart {m : ME} {e : PE} (he : SE m e) : SO (mPart m) (pPart e) := fun X h A s ρ ρp w r => RR.bnd (he w r) fun p x s1 h1 A1 e1 w1 v => by
  cases p with
  | int k => simp only [V] at v; subst v; exact RR.ok w1 rfl
  | _ => trivial
def pSl (e : PE) (lo hi : PO) : PE := fun ρ s => pb (e ρ s) fun p s1 => pb (lo ρ s1) fun l s2 => pb (hi ρ s2) fun u s3 => match p with
  | .str z => if z.length ≤ LIM then some (.ok (.str (cutS z l u)) s3) else none
  | .tup ws => some (.ok (.tup (cut ws l u)) s3)
  | .lst ws => some (.ok (.lst (cut ws l u)) s3)
  | _ => none
theorem Vs.cut {X : Xx} {h : Hm} {A : Al} {ps : List P} {us : List U} (r : Vs X h A ps us) (lo hi : Option Int) : Vs X h A (ML.cut ps lo hi) (ML.cut us lo hi) := by
  unfold ML.cut
  rw [r.length]
  exact (r.drop _).take _
theorem slL_fr {X : Xx} {h : Hm} {A : Al} {s : DS} {n : Nat} {xs : List P} {x : U} {lo hi : Option Int} (w : Wf X h A s) (hn : n ≤ h.length) (v : V X h A (.lst xs) x) : RR X (FR X n) h A (some (.ok (cut xs lo hi) s)) (oSl x lo hi h) := by
  simp only [V] at v
  obtain ⟨i, us, rfl, a, ei, r⟩ := v
  rw [cut_l ei]
  exact fr_ok w hn (r.cut _ _)
theorem sSl {m : ME} {ml mh : MO} {e : PE} {lo hi : PO} (he : SE m e) (hl : SO ml lo) (hh : SO mh hi) : SE (mSl oSl m ml mh) (pSl e lo hi) := fun X h A s ρ ρp w r =>
  RR.bnd (he w r) fun p x s1 h1 A1 e1 w1 v1 => RR.bnd (hl w1 (r.on w e1)) fun l l' s2 h2 A2 e2 w2 v2 => RR.bnd (hh w2 ((r.on w e1).on w1 e2)) fun u u' s3 h3 A3 e3 w3 v3 => by
    cases v2; cases v3
    have v1 := e3.v w2 (e2.v w1 v1)
    cases p with
    | str z =>
      simp only [V] at v1; subst v1
      simp only
      split
      · rename_i hc
        unfold oSl oSlS
        simp only [hc, if_true]
        exact RR.ok w3 (by simp [V])
      · trivial
    | tup ws =>
      simp only [V] at v1
      obtain ⟨us, rfl, r1⟩ := v1
      exact RR.ok w3 (by simp only [V]; exact ⟨_, rfl, r1.cut _ _⟩)
    | lst ws => exact fr_v w3 (slL_fr w3 (Nat.le_refl _) v1)
    | _ => trivial
def fSl (e : PE) (lo hi : PO) : FE := fun ρ s => pb (e ρ s) fun p s1 => pb (lo ρ s1) fun l s2 => pb (hi ρ s2) fun u s3 => match p with
  | .lst ws => some (.ok (cut ws l u) s3)
  | _ => none
theorem sfSl {m : ME} {ml mh : MO} {e : PE} {lo hi : PO} (he : SE m e) (hl : SO ml lo) (hh : SO mh hi) : SFE (mSl oSl m ml mh) (fSl e lo hi) := fun X h A s ρ ρp w r =>
  RR.bnd (he w r) fun p x s1 h1 A1 e1 w1 v1 => RR.bnd (hl w1 (r.on w e1)) fun l l' s2 h2 A2 e2 w2 v2 => RR.bnd (hh w2 ((r.on w e1).on w1 e2)) fun u u' s3 h3 A3 e3 w3 v3 => by
    cases v2; cases v3
    have v1 := e3.v w2 (e2.v w1 v1)
    cases p with
    | lst ws => exact slL_fr w3 (Nat.le_trans e1.len (Nat.le_trans e2.len e3.len)) v1
    | _ => trivial
def fRevL (e : PE) : FE := fun ρ s => pb (e ρ s) fun p s1 => match p with
  | .lst ws => some (.ok ws.reverse s1)
  | _ => none
theorem sRevL {m : ME} {e : PE} (he : SE m e) : SFE (mRevL m) (fRevL e) := fun X h A s ρ ρp w r => RR.bnd (he w r) fun p x s1 h1 A1 e1 w1 v => by
  cases p with
  | lst ws =>
    simp only [V] at v
    obtain ⟨i, us, rfl, a, ei, r1⟩ := v
    simp only [ev_rdL ei]
    exact fr_ok w1 e1.len r1.reverse
  | _ => trivial
def fRevF (e : PE) (lo : PO) : FE := fun ρ s => pb (e ρ s) fun p s1 => match p with
  | .lst ws => pb (lo ρ s1) fun l s2 => match l with
    | some v => some (.ok (ws.take (revFrom ws.length v)).reverse s2)
    | none => none
  | _ => none
theorem sRevF {m : ME} {ml : MO} {e : PE} {lo : PO} (he : SE m e) (hl : SO ml lo) : SFE (mRevF m ml) (fRevF e lo) := fun X h A s ρ ρp w r => by
  unfold fRevF mRevF
  refine RR.bnd (he w r) fun p x s1 h1 A1 e1 w1 v => ?_
  cases p with
  | lst ws =>
    simp only [V] at v
    obtain ⟨i, us, rfl, a, ei, r1⟩ := v
    refine RR.bnd (hl w1 (r.on w e1)) fun l l' s2 h2 A2 e2 w2 v2 => ?_
    cases v2
    cases l with
    | none => trivial
    | some v =>
      have ei2 : h2[i]? = some (.lst us) := by rw [e2.oth i (w1.bd i a).1 (w1.bd i a).2]; exact ei
      simp only [ev_rdL ei2]
      rw [r1.length]
      exact fr_ok w2 (Nat.le_trans e1.len e2.len) ((e2.vs w1 r1).take _).reverse
  | _ => trivial
/-! attributes -/
def pget (f : Str) : List Str → List P → Option P
  | g :: fs, p :: ps => if f = g then some p else pget f fs ps
  | _, _ => none
theorem pget_ok {X : Xx} {h : Hm} {A : Al} {f : Str} : ∀ {fs : List Str} {ps : List P} {us : List U}, Vs X h A ps us → fs.length = us.length → (∀ p, pget f fs ps = some p → ∃ u, fget f (fs.zip us) = some u ∧ V X h A p u) ∧ (pget f fs ps = none → fget f (fs.zip us) = none)
  | [], ps, us, r, l => by simp [pget, fget]
  | g :: fs, [], us, r, l => by simp only [Vs] at r; subst r; simp at l
  | g :: fs, p :: ps, us, r, l => by
    simp only [Vs] at r
    obtain ⟨y, ys, rfl, r1, rs⟩ := r
    obtain ⟨i1, i2⟩ := pget_ok (f := f) rs (by simpa using l)
    unfold pget
    simp only [List.zip_cons_cons, fget]
    by_cases hg : f = g
    · rw [if_pos hg, if_pos hg]
      exact ⟨fun q e => by cases e; exact ⟨y, rfl, r1⟩, fun e => by cases e⟩
    · rw [if_neg hg, if_neg hg]
      exact ⟨i1, i2⟩
def pAttr (f : Str) (ins exc : Nat → Bool) (o : PE) : PE := fun ρ s => pb (o ρ s) fun x s1 => match x with
  | .ins c fs ws => if ins c = true then match pget f fs ws with
      | some p => some (.ok p s1)
      | none => none
    else none
  | .exc c fs ws => if exc c = true then match pget f fs ws with
      | some p => some (.ok p s1)
      | none => none
    else none
  | _ => none
theorem sAttr {f : Str} {ins exc : Nat → Bool} {m : ME} {o : PE} (ho : SE m o) : SE (mAttrX f ins exc m) (pAttr f ins exc o) := fun X h A s ρ ρp w r => RR.bnd (ho w r) fun x u s1 h1 A1 e1 w1 v => by
  cases x with
  | ins c fs ws =>
    simp only [V] at v
    obtain ⟨i, us, rfl, a, ei, l, rs⟩ := v
    simp only [ei]
    split
    · rename_i hc
      cases e : pget f fs ws with
      | none => trivial
      | some p =>
        obtain ⟨u, e2, v2⟩ := (pget_ok rs l).1 p e
        simp only [e2]
        exact RR.ok w1 v2
    · trivial
  | exc c fs ws =>
    simp only [V] at v
    obtain ⟨i, us, rfl, a, ei, l, rs⟩ := v
    simp only [ei]
    split
    · rename_i hc
      cases e : pget f fs ws with
      | none => trivial
      | some p =>
        obtain ⟨u, e2, v2⟩ := (pget_ok rs l).1 p e
        simp only [e2]
        exact RR.ok w1 v2
    · trivial
  | _ => trivial
/-! isinstance -/
def pty : P → Option TyK
  | .non => some .non
  | .bl _ => some .bl
  | .int _ => some .int
  | .str _ => some .str
  | .tup _ => some .tup
  | .lst _ => some .lst
  | .ins c _ _ => some (.ins c)
  | .exc c _ _ => some (.exc c)
  | _ => none
def pIsi (tab : TyK → Option Bool) (a : PE) : PE := fun ρ s => pb (a ρ s) fun p s1 => match pty p with
  | some k => match tab k with
    | some b => some (.ok (.bl b) s1)
    | none => none
  | none => none
theorem pty_ok {X : Xx} {h : Hm} {A : Al} {p : P} {u : U} {k : TyK} (v : V X h A p u) (e : pty p = some k) : tyK u h = some k := by
  cases p <;> simp only [V] at v
  case tup => obtain ⟨us, rfl, _⟩ := v; exact e
  case lst => obtain ⟨i, us, rfl, _, ei, _⟩ := v; simp only [tyK, ei]; exact e
  case ins => obtain ⟨i, us, rfl, _, ei, _⟩ := v; simp only [tyK, ei]; exact e
  case exc => obtain ⟨i, us, rfl, _, ei, _⟩ := v; simp only [tyK, ei]; exact e
  all_goals first | (subst v; exact e) | (simp [pty] at e)
theorem sIsi {tab : TyK → Option Bool} {m : ME} {a : PE} (ha : SE m a) : SE (mIsi tab m) (pIsi tab a) := fun X h A s ρ ρp w r => RR.bnd (ha w r) fun x u s1 h1 A1 e1 w1 v => by
  cases e : pty x with
  | none => trivial
  | some k =>
    simp only [pty_ok v e]
    cases e2 : tab k with
    | none => trivial
    | some b => exact RR.ok w1 (by simp [V])
/-! calls -/
def pCB (f : PF) (es : PA) : PE := fun ρ s => pb (es ρ s) fun ps s1 => f ps s1
theorem sCB {m : MF} {ms : MA} {f : PF} {es : PA} (hf : SF m f) (hs : SA ms es) : SE (mCB m ms) (pCB f es) := fun X h A s ρ ρp w r => RR.bnd (hs w r) fun ps us s1 h1 A1 e1 w1 v => hf w1 v
def pMeth (c : Nat) (m : Str) (f : PF) (o : PE) (es : PA) : PE := fun ρ s => pb (o ρ s) fun x s1 => match x with
  | .ins c' fs ws => if c' = c ∧ (pget m fs ws).isNone = true then pb (es ρ s1) fun ps s2 => f (.ins c' fs ws :: ps) s2 else none
  | _ => none
theorem sMeth {c : Nat} {m : Str} {g : MF} {mo : ME} {ms : MA} {f : PF} {o : PE} {es : PA} (hf : SF g f) (ho : SE mo o) (hs : SA ms es) : SE (mMeth c m g mo ms) (pMeth c m f o es) := fun X h A s ρ ρp w r => RR.bnd (ho w r) fun x u s1 h1 A1 e1 w1 v => by
  cases x with
  | ins c' fs ws =>
    have v0 := v
    simp only [V] at v
    obtain ⟨i, us, rfl, a, ei, l, rs⟩ := v
    simp only [ei]
    split
    · rename_i hc
      obtain ⟨hc, hm⟩ := hc
      have hm2 := (pget_ok (f := m) rs l).2 (by simpa using hm)
      rw [if_pos ⟨hc, hm2⟩]
      exact RR.bnd (hs w1 (r.on w e1)) fun ps us2 s2 h2 A2 e2 w2 v2 => hf w2 (Vs.cons (e2.v w1 v0) v2)
    · trivial
  | _ => trivial
def pCallO (c : Nat) (f : PF) (o : PE) (es : PA) : PE := fun ρ s => pb (o ρ s) fun x s1 => match x with
  | .ins c' fs ws => pb (es ρ s1) fun ps s2 => if c' = c then f (.ins c' fs ws :: ps) s2 else none
  | _ => none
theorem sCallO {c : Nat} {g : MF} {mo : ME} {ms : MA} {f : PF} {o : PE} {es : PA} (hf : SF g f) (ho : SE mo o) (hs : SA ms es) : SE (mCallO c g mo ms) (pCallO c f o es) := fun X h A s ρ ρp w r => RR.bnd (ho w r) fun x u s1 h1 A1 e1 w1 v => by
  cases x with
  | ins c' fs ws =>
    have v0 := v
    simp only [V] at v
    obtain ⟨i, us, rfl, a, ei, l, rs⟩ := v
    refine RR.bnd (hs w1 (r.on w e1)) fun ps us2 s2 h2 A2 e2 w2 v2 => ?_
    have ei2 : h2[i]? = some (.ins c' (fs.zip us)) := by rw [e2.oth i (w1.bd i a).1 (w1.bd i a).2]; exact ei
    simp only [ei2]
    split
    · exact hf w2 (Vs.cons (e2.v w1 v0) v2)
    · trivial
  | _ => trivial
abbrev PN := List P → DS → Option (Pz (List Str × List P))
def NW (X : Xx) (c n : Nat) : Hm → Al → List Str × List P → U → Prop := fun h' A' z u => u = .non ∧ ¬ A' n ∧ n < h'.length ∧ ∃ vs, h'[n]? = some (.ins c (z.1.zip vs)) ∧ z.1.length = vs.length ∧ Vs X h' A' z.2 vs
/-- the making of an object -/
def SN (c : Nat) (m : MF) (p : PN) : Prop := ∀ ⦃X h A s us ps⦄, Wf X h A s → Vs X h A ps us → RR X (NW X c h.length) h A (p ps s) (m (.ref h.length :: us) (h ++ [.ins c []]))
def pMake (c : Nat) (f : PN) (es : PA) : PE := fun ρ s => pb (es ρ s) fun ps s1 => pb (f ps s1) fun z s2 => some (.ok (.ins c z.1 z.2) s2)
theorem sMake {c : Nat} {m : MF} {ms : MA} {f : PN} {es : PA} (hf : SN c m f) (hs : SA ms es) : SE (mMake c m ms) (pMake c f es) := fun X h A s ρ ρp w r => RR.bnd (hs w r) fun ps us s1 h1 A1 e1 w1 v => by
  have H := hf w1 v
  cases e : f ps s1 with
  | none => trivial
  | some z =>
    rw [e] at H
    cases z with
    | ok z s2 =>
      obtain ⟨u, h2, A2, em, e2, w2, rfl, na, nl, vs, ec, ln, rv⟩ := H
      rw [em]
      refine ⟨.ref h1.length, h2, A2.add h1.length, rfl, e2.add (Nat.le_refl _), w2.add nl (by have := w1.dlt; omega), ?_⟩
      simp only [V]
      exact ⟨h1.length, vs, rfl, .inr rfl, ec, ln, Vs.mono (fun i a => ⟨.inl a, rfl⟩) _ _ rv⟩
    | ex c2 fs ws s2 =>
      obtain ⟨us2, h2, A2, em, ln, e2, w2, rv⟩ := H
      rw [em]
      exact ⟨us2, h2, A2, rfl, ln, e2, w2, rv⟩
/-! own equality -/
def pnx {α : Type} : Option (Pz α) → Option (Pz α)
  | some (.ok a s) => some (.ok a s)
  | _ => none
theorem RR.noEx {α β : Type} {X : Xx} {rel : Hm → Al → α → β → Prop} {h : Hm} {A : Al} {x : Option (Pz α)} {y : Option (Rz β)} (H : RR X rel h A x y) : RR X rel h A (pnx x) (noEx y) := by
  cases x with
  | none => trivial
  | some z =>
    cases z with
    | ok a s => obtain ⟨b, h', A', rfl, e, w, r⟩ := H; exact ⟨b, h', A', rfl, e, w, r⟩
    | ex c fs ws s => trivial
def qOwnEq (c : Nat) (nf : Nat → Bool) (f : PF) : Q2 := fun p q s => match p, q with
  | .ins c1 fs ws, .ins c2 gs vs => if (decide (c1 = c) && nf c2) = true then pnx (f [.ins c1 fs ws, .ins c2 gs vs] s) else none
  | _, _ => none
theorem s2OwnEq {c : Nat} {nf : Nat → Bool} {m : MF} {f : PF} (hf : SF m f) : S2 (oOwnEq c nf m) (qOwnEq c nf f) := fun X h A s p q x y w v1 v2 => by
  unfold qOwnEq
  split
  · have v10 := v1
    have v20 := v2
    simp only [V] at v1 v2
    obtain ⟨i, us, rfl, a, ei, _⟩ := v1
    obtain ⟨j, us2, rfl, a2, ej, _⟩ := v2
    unfold oOwnEq
    simp only [ei, ej]
    split
    · exact (hf w (Vs.cons v10 (Vs.cons v20 Vs.nil))).noEx
    · trivial
  · trivial
def qOwnNe (c : Nat) (nf : Nat → Bool) (f : PF) : Q2 := fun p q s => match p, q with
  | .ins c1 fs ws, .ins c2 gs vs => if (decide (c1 = c) && nf c2) = true then pb (pnx (f [.ins c1 fs ws, .ins c2 gs vs] s)) fun r s1 => (match r with
      | .bl k => some (.ok (.bl !k) s1)
      | _ => none) else none
  | _, _ => none
theorem s2OwnNe {c : Nat} {nf : Nat → Bool} {m : MF} {f : PF} (hf : SF m f) : S2 (oOwnNe c nf m) (qOwnNe c nf f) := fun X h A s p q x y w v1 v2 => by
  unfold qOwnNe
  split
  · have v10 := v1
    have v20 := v2
    simp only [V] at v1 v2
    obtain ⟨i, us, rfl, a, ei, _⟩ := v1
    obtain ⟨j, us2, rfl, a2, ej, _⟩ := v2
    unfold oOwnNe
    simp only [ei, ej]
    split
    · refine RR.bnd (hf w (Vs.cons v10 (Vs.cons v20 Vs.nil))).noEx fun r u s1 h1 A1 e1 w1 v => ?_
      cases r with
      | bl k => simp only [V] at v; subst v; exact RR.ok w1 (by simp [V])
      | _ => trivial
    · trivial
  · trivial
/-! what Python brings -/
def gLen : PF := fun ps s => match ps with
  | [.lst us] => some (.ok (.int us.length) s)
  | [.tup us] => some (.ok (.int us.length) s)
  | [.str z] => if z.length ≤ LIM then some (.ok (.int z.length) s) else none
  | _ => none
theorem one_v {X : Xx} {h : Hm} {A : Al} {p : P} {us : List U} (r : Vs X h A [p] us) : ∃ u, us = [u] ∧ V X h A p u := by
  simp only [Vs] at r
  obtain ⟨y, ys, rfl, r1, rfl⟩ := r
  exact ⟨y, rfl, r1⟩
theorem two_v {X : Xx} {h : Hm} {A : Al} {p q : P} {us : List U} (r : Vs X h A [p, q] us) : ∃ u v, us = [u, v] ∧ V X h A p u ∧ V X h A q v := by
  simp only [Vs] at r
  obtain ⟨y, ys, rfl, r1, z, zs, rfl, r2, rfl⟩ := r
  exact ⟨y, z, rfl, r1, r2⟩
theorem sLen : SF fLen gLen := fun X h A s us ps w r => by
  unfold gLen
  split
  · obtain ⟨u, rfl, v⟩ := one_v r
    simp only [V] at v
    obtain ⟨i, us, rfl, a, ei, rs⟩ := v
    rw [len_l ei, rs.length]
    exact RR.ok w (by simp [V])
  · obtain ⟨u, rfl, v⟩ := one_v r
    simp only [V] at v
    obtain ⟨us, rfl, rs⟩ := v
    unfold fLen
    rw [← rs.length]
    exact RR.ok w (by simp [V])
  · obtain ⟨u, rfl, v⟩ := one_v r
    simp only [V] at v
    subst v
    unfold fLen
    split
    · rename_i hc
      simp only [hc, if_true]
      exact RR.ok w (by simp [V])
    · trivial
  · trivial
def gAbs : PF := fun ps s => match ps with
  | [.int i] => some (.ok (.int (if i < 0 then -i else i)) s)
  | _ => none
theorem sAbs : SF fAbs gAbs := fun X h A s us ps w r => by
  unfold gAbs
  split
  · obtain ⟨u, rfl, v⟩ := one_v r
    simp only [V] at v; subst v
    exact RR.ok w (by simp [V])
  · trivial
def gMax2 : PF := fun ps s => match ps with
  | [.int i, .int j] => some (.ok (.int (if j > i then j else i)) s)
  | _ => none
def gMin2 : PF := fun ps s => match ps with
  | [.int i, .int j] => some (.ok (.int (if j < i then j else i)) s)
  | _ => none
theorem sMax2 : SF fMax2 gMax2 := fun X h A s us ps w r => by
  unfold gMax2
  split
  · obtain ⟨u, v, rfl, v1, v2⟩ := two_v r
    simp only [V] at v1 v2; subst v1 v2
    exact RR.ok w (by simp [V])
  · trivial
theorem sMin2 : SF fMin2 gMin2 := fun X h A s us ps w r => by
  unfold gMin2
  split
  · obtain ⟨u, v, rfl, v1, v2⟩ := two_v r
    simp only [V] at v1 v2; subst v1 v2
    exact RR.ok w (by simp [V])
  · trivial
def gInt : PF := fun ps s => match ps with
  | [.int i] => some (.ok (.int i) s)
  | [.bl k] => some (.ok (.int (if k then 1 else 0)) s)
  | [.str a] => match PySem.intText? a with
    | some n => if a.length ≤ 640 then some (.ok (.int n) s) else none
    | none => none
  | _ => none
theorem sIntA : SF fIntA2 gInt := fun X h A s us ps w r => by
  unfold gInt
  split
  · obtain ⟨u, rfl, v⟩ := one_v r
    simp only [V] at v; subst v
    exact RR.ok w (by simp [V])
  · obtain ⟨u, rfl, v⟩ := one_v r
    simp only [V] at v; subst v
    exact RR.ok w (by simp [V])
  · obtain ⟨u, rfl, v⟩ := one_v r
    simp only [V] at v; subst v
    rename_i a
    unfold fIntA2 fInt fIntS
    simp only
    cases PySem.intText? a with
    | none => trivial
    | some n =>
      simp only
      split
      · exact RR.ok w (by simp [V])
      · trivial
  · trivial
def gStrI : PF := fun ps s => match ps with
  | [.int i] => if i.natAbs.log2 < 1920 then some (.ok (.str (toString i)) s) else none
  | _ => none
theorem sStrI : SF fStrI gStrI := fun X h A s us ps w r => by
  unfold gStrI
  split
  · obtain ⟨u, rfl, v⟩ := one_v r
    simp only [V] at v; subst v
    unfold fStrI
    split
    · rename_i hc
      simp only [hc, if_true]
      exact RR.ok w (by simp [V])
    · trivial
  · trivial
def blsP : List P → Option (List Bool)
  | [] => some []
  | .bl b :: ws => match blsP ws with
    | some bs => some (b :: bs)
    | none => none
  | _ :: _ => none
theorem blsP_ok {X : Xx} {h : Hm} {A : Al} : ∀ {ps : List P} {us : List U} {bs : List Bool}, Vs X h A ps us → blsP ps = some bs → blsOf us = some bs
  | [], us, bs, r, e => by simp only [Vs] at r; subst r; simpa [blsP, blsOf] using e
  | p :: ps, us, bs, r, e => by
    simp only [Vs] at r
    obtain ⟨y, ys, rfl, r1, rs⟩ := r
    cases p with
    | bl b =>
      simp only [V] at r1; subst r1
      simp only [blsP] at e
      cases e1 : blsP ps with
      | none => rw [e1] at e; cases e
      | some bs' =>
        rw [e1] at e
        simp only [blsOf, blsP_ok rs e1]
        exact e
    | _ => simp [blsP] at e
def gAll (any : Bool) : PF := fun ps s => match ps with
  | [.lst us] => match blsP us with
    | some bs => some (.ok (.bl (if any then bs.any id else bs.all id)) s)
    | none => none
  | _ => none
theorem sAll {any : Bool} : SF (fAll any) (gAll any) := fun X h A s us ps w r => by
  unfold gAll
  split
  · obtain ⟨u, rfl, v⟩ := one_v r
    simp only [V] at v
    obtain ⟨i, us, rfl, a, ei, rs⟩ := v
    split
    · rename_i e
      unfold fAll
      simp only [ev_rdL ei, blsP_ok rs e]
      exact RR.ok w (by simp [V])
    · trivial
  · trivial
def gTuple : PF := fun ps s => match ps with
  | [.lst us] => some (.ok (.tup us) s)
  | [.tup us] => some (.ok (.tup us) s)
  | _ => none
theorem sTuple : SF fTuple gTuple := fun X h A s us ps w r => by
  unfold gTuple
  split
  · obtain ⟨u, rfl, v⟩ := one_v r
    simp only [V] at v
    obtain ⟨i, us, rfl, a, ei, rs⟩ := v
    unfold fTuple
    simp only [ev_rdL ei]
    exact RR.ok w (by simp only [V]; exact ⟨_, rfl, rs⟩)
  · obtain ⟨u, rfl, v⟩ := one_v r
    simp only [V] at v
    obtain ⟨us, rfl, rs⟩ := v
    exact RR.ok w (by simp only [V]; exact ⟨_, rfl, rs⟩)
  · trivial
/-- list(e) -/
def fCopy (e : PE) : FE := fun ρ s => pb (e ρ s) fun p s1 => match p with
  | .lst us => some (.ok us s1)
  | .tup us => some (.ok us s1)
  | _ => none
theorem sCopy {m : ME} {e : PE} (he : SE m e) : SFE (mCB fList (mCons m mNil)) (fCopy e) := fun X h A s ρ ρp w r => by
  have H : RR X (FR X h.length) h A (fCopy e ρp s) (bnd (m ρ h) fun x h1 => fList [x] h1) := by
    refine RR.bnd (he w r) fun p x s1 h1 A1 e1 w1 v => ?_
    cases p with
    | lst us =>
      simp only [V] at v
      obtain ⟨i, us, rfl, a, ei, rs⟩ := v
      unfold fList
      simp only [ev_rdL ei]
      exact fr_ok w1 e1.len rs
    | tup us =>
      simp only [V] at v
      obtain ⟨us, rfl, rs⟩ := v
      unfold fList
      simp only
      exact fr_ok w1 e1.len rs
    | _ => trivial
  have : mCB fList (mCons m mNil) ρ h = bnd (m ρ h) fun x h1 => fList [x] h1 := by
    unfold mCB mCons
    cases m ρ h with
    | none => rfl
    | some z => cases z <;> rfl
  rw [this]
  exact H
end PL

set_option maxHeartbeats 4000000
namespace PL
open PySem L2 ML
/-! what is gone through -/
def pItems (lo : Int) (n : Nat) : List P := (List.range n).map fun (k : Nat) => .int (lo + (k : Int))
theorem pItems_v {X : Xx} {h : Hm} {A : Al} (lo : Int) (n : Nat) : Vs X h A (pItems lo n) (rItems lo n) := by
  unfold pItems rItems
  induction (List.range n) with
  | nil => exact Vs.nil
  | cons a l ih => exact Vs.cons (by simp [V]) ih
def psItems (x : Str) : List P := x.cps.toList.map fun c => .str ⟨#[c]⟩
theorem psItems_v {X : Xx} {h : Hm} {A : Al} (x : Str) : Vs X h A (psItems x) (sItems x) := by
  unfold psItems sItems
  induction x.cps.toList with
  | nil => exact Vs.nil
  | cons a l ih => exact Vs.cons (by simp [V]) ih
def peItems : Nat → List P → List P
  | _, [] => []
  | k, w :: ws => .tup [.int k, w] :: peItems (k + 1) ws
theorem peItems_v {X : Xx} {h : Hm} {A : Al} : ∀ {ps : List P} {us : List U} (k : Nat), Vs X h A ps us → Vs X h A (peItems k ps) (eItems k us)
  | [], us, k, r => by simp only [Vs] at r; subst r; exact Vs.nil
  | p :: ps, us, k, r => by
    simp only [Vs] at r
    obtain ⟨y, ys, rfl, r1, rs⟩ := r
    refine Vs.cons ?_ (peItems_v (k + 1) rs)
    simp only [V]
    exact ⟨_, rfl, Vs.cons (by simp [V]) (Vs.cons r1 Vs.nil)⟩
def pISeq (e : PE) : PI := fun ρ s => pb (e ρ s) fun p s1 => match p with
  | .lst ws => some (.ok ws s1)
  | .tup ws => some (.ok ws s1)
  | .str x => some (.ok (psItems x) s1)
  | _ => none
def pIEn (e : PE) : PI := fun ρ s => pb (e ρ s) fun p s1 => match p with
  | .lst ws => some (.ok (peItems 0 ws) s1)
  | .tup ws => some (.ok (peItems 0 ws) s1)
  | _ => none
def inR0 (j : Int) : Bool := decide (-1000000000 ≤ j) && decide (j ≤ 1000000000)
noncomputable def inR (j : Int) : Bool := opq (inR0 j)
theorem inR_eq (j : Int) : inR j = inR0 j := opq_eq _
theorem inR_of {j : Int} (h1 : -1000000000 ≤ j) (h2 : j ≤ 1000000000) : inR j = true := by rw [inR_eq]; unfold inR0; simp [h1, h2]
noncomputable def pIR1 (e : PE) : PI := fun ρ s => pb (e ρ s) fun p s1 => match p with
  | .int j => if inR j = true then some (.ok (pItems 0 j.toNat) s1) else none
  | _ => none
noncomputable def pIR2 (a b : PE) : PI := fun ρ s => pb (a ρ s) fun p s1 => pb (b ρ s1) fun q s2 => match p, q with
  | .int i, .int j => if (inR i && inR j) = true then some (.ok (pItems i (j - i).toNat) s2) else none
  | _, _ => none
theorem sIR1 {m : ME} {e : PE} (he : SE m e) : SI (iR1 m) (pIR1 e) := fun X h A s ρ ρp w r => RR.bnd (he w r) fun p x s1 h1 A1 e1 w1 v => by
  cases p with
  | int j =>
    simp only [V] at v; subst v
    show RR X _ _ _ (if inR j = true then _ else none) (if inR0 j = true then _ else none)
    rw [inR_eq]
    by_cases hc : inR0 j = true
    · rw [if_pos hc, if_pos hc]
      exact RR.ok w1 (show IT X _ _ _ _ from ⟨pItems_v _ _, fun _ _ => trivial⟩)
    · rw [if_neg hc]; trivial
  | _ => trivial
theorem sIR2 {m n : ME} {a b : PE} (ha : SE m a) (hb : SE n b) : SI (iR2 m n) (pIR2 a b) := fun X h A s ρ ρp w r =>
  RR.bnd (ha w r) fun p x s1 h1 A1 e1 w1 v1 => RR.bnd (hb w1 (r.on w e1)) fun q y s2 h2 A2 e2 w2 v2 => by
    cases p with
    | int i =>
      cases q with
      | int j =>
        simp only [V] at v1 v2; subst v1 v2
        show RR X _ _ _ (if (inR i && inR j) = true then _ else none) (if (inR0 i && inR0 j) = true then _ else none)
        rw [inR_eq, inR_eq]
        by_cases hc : (inR0 i && inR0 j) = true
        · rw [if_pos hc, if_pos hc]
          exact RR.ok w2 (show IT X _ _ _ _ from ⟨pItems_v _ _, fun _ _ => trivial⟩)
        · rw [if_neg hc]; trivial
      | _ => trivial
    | _ => trivial
theorem sISeq {m : ME} {e : PE} (he : SE m e) : SI (iSeq m) (pISeq e) := fun X h A s ρ ρp w r => by
  have H := he w r
  unfold pISeq
  cases e1 : e ρp s with
  | none => trivial
  | some z =>
    rw [e1] at H
    cases z with
    | ok p s1 =>
      obtain ⟨u, h1, A1, em, ex, w1, v⟩ := H
      simp only [pb_ok]
      unfold iSeq
      cases p with
      | lst ws =>
        simp only [V] at v
        obtain ⟨i, us, rfl, a, ei, rs⟩ := v
        simp only [em]
        unfold iL
        simp only [em, bnd_ok, ei]
        exact ⟨_, h1, A1, rfl, ex, w1, rs, fun h2 k => by show h2[i]? = _; rw [k i a]; exact ei⟩
      | tup ws =>
        simp only [V] at v
        obtain ⟨us, rfl, rs⟩ := v
        simp only [em]
        unfold iT
        simp only [em, bnd_ok]
        exact ⟨_, h1, A1, rfl, ex, w1, rs, fun _ _ => trivial⟩
      | str x =>
        simp only [V] at v
        subst v
        simp only [em]
        unfold iS
        simp only [em, bnd_ok]
        exact ⟨_, h1, A1, rfl, ex, w1, psItems_v _, fun _ _ => trivial⟩
      | _ => trivial
    | ex c fs ws s1 =>
      obtain ⟨us, h1, A1, em, ln, ex, w1, v⟩ := H
      simp only [pb_ex]
      unfold iSeq
      simp only [em]
      unfold iL
      simp only [em, bnd_ex]
      exact ⟨us, h1, A1, rfl, ln, ex, w1, v⟩
theorem sIEn {m : ME} {e : PE} (he : SE m e) : SI (iEnA m) (pIEn e) := fun X h A s ρ ρp w r => by
  have H := he w r
  unfold pIEn
  cases e1 : e ρp s with
  | none => trivial
  | some z =>
    rw [e1] at H
    cases z with
    | ok p s1 =>
      obtain ⟨u, h1, A1, em, ex, w1, v⟩ := H
      simp only [pb_ok]
      unfold iEnA
      cases p with
      | lst ws =>
        simp only [V] at v
        obtain ⟨i, us, rfl, a, ei, rs⟩ := v
        simp only [em]
        unfold iEn
        simp only [em, bnd_ok, ei]
        exact ⟨_, h1, A1, rfl, ex, w1, peItems_v 0 rs, fun h2 k => by show h2[i]? = _; rw [k i a]; exact ei⟩
      | tup ws =>
        simp only [V] at v
        obtain ⟨us, rfl, rs⟩ := v
        simp only [em]
        unfold iEnT
        simp only [em, bnd_ok]
        exact ⟨_, h1, A1, rfl, ex, w1, peItems_v 0 rs, fun _ _ => trivial⟩
      | _ => trivial
    | ex c fs ws s1 =>
      obtain ⟨us, h1, A1, em, ln, ex, w1, v⟩ := H
      simp only [pb_ex]
      unfold iEnA
      simp only [em]
      unfold iEn
      simp only [em, bnd_ex]
      exact ⟨us, h1, A1, rfl, ln, ex, w1, v⟩
/-! comprehensions -/
def setAllP : List Nat → List P → PEv → Option PEv
  | [], [], ρ => some ρ
  | i :: is, w :: ws, ρ => setAllP is ws (ρ.set i (some w))
  | _, _, _ => none
def ntP : NT → P → PEv → Option PEv
  | .one i, w, ρ => some (ρ.set i (some w))
  | .tup is, .tup ws, ρ => setAllP is ws ρ
  | _, _, _ => none
section
variable {X : Xx} {h : Hm} {A : Al}
theorem setAllP_ok : ∀ {is : List Nat} {ps : List P} {us : List U} {ρp ρp' : PEv} {ρ : Ev}, RE X h A ρp ρ → Vs X h A ps us → setAllP is ps ρp = some ρp' → ∃ ρ', setAll is us ρ = some ρ' ∧ RE X h A ρp' ρ'
  | [], [], us, ρp, ρp', ρ, r, v, e => by simp only [Vs] at v; subst v; simp [setAllP] at e; subst e; exact ⟨ρ, rfl, r⟩
  | [], p :: ps, us, ρp, ρp', ρ, r, v, e => by simp [setAllP] at e
  | i :: is, [], us, ρp, ρp', ρ, r, v, e => by simp [setAllP] at e
  | i :: is, p :: ps, us, ρp, ρp', ρ, r, v, e => by
    simp only [Vs] at v
    obtain ⟨y, ys, rfl, v1, vs⟩ := v
    have z := setAllP_ok (r.set v1 i) vs (show setAllP is ps (ρp.set i (some p)) = some ρp' from e)
    exact z
theorem ntP_ok {t : NT} {p : P} {u : U} {ρp ρp' : PEv} {ρ : Ev} (r : RE X h A ρp ρ) (v : V X h A p u) (e : ntP t p ρp = some ρp') : ∃ ρ', t.set u ρ = some ρ' ∧ RE X h A ρp' ρ' := by
  cases t with
  | one i => simp [ntP] at e; subst e; exact ⟨_, rfl, r.set v i⟩
  | tup is =>
    cases p with
    | tup ps =>
      simp only [V] at v
      obtain ⟨us, rfl, vs⟩ := v
      exact setAllP_ok r vs e
    | _ => simp [ntP] at e
def wipeP (ρ : PEv) : List Nat → PEv
  | [] => ρ
  | v :: vs => (wipeP ρ vs).set v none
theorem wipe_ok {ρp : PEv} {ρ : Ev} (r : RE X h A ρp ρ) : ∀ vs : List Nat, RE X h A (wipeP ρp vs) (wipeE ρ vs)
  | [] => r
  | v :: vs => (wipe_ok r vs).unset v
theorem Wf.set {s : DS} (w : Wf X h A s) {j : Nat} (hj : ¬ A j) (hd : j ≠ X.D) (c : Cell) : Wf X (h.set j c) A s :=
  ⟨fun i a => by simpa using w.bd i a, by rw [List.getElem?_set_ne hd]; exact w.ds, by
    have : j ≠ X.S := fun e => hj (e ▸ w.aS)
    rw [← w.sc]; unfold rd; rw [List.getElem?_set_ne this], w.sd, w.aS, w.a0⟩
theorem Vs.hset {j : Nat} (hj : ¬ A j) (c : Cell) {ps : List P} {us : List U} (r : Vs X h A ps us) : Vs X (h.set j c) A ps us :=
  Vs.mono (fun i a => ⟨a, List.getElem?_set_ne (by rintro rfl; exact hj a)⟩) _ _ r
theorem V.hset {j : Nat} (hj : ¬ A j) (c : Cell) {ps : P} {us : U} (r : V X h A ps us) : V X (h.set j c) A ps us :=
  V.mono (fun i a => ⟨a, List.getElem?_set_ne (by rintro rfl; exact hj a)⟩) _ _ r
theorem RE.hset {j : Nat} (hj : ¬ A j) (c : Cell) {ρp : PEv} {ρ : Ev} (r : RE X h A ρp ρ) : RE X (h.set j c) A ρp ρ := ⟨r.len, fun i p e => by
  obtain ⟨u, e1, v⟩ := r.at_ i p e
  exact ⟨u, e1, v.hset hj c⟩⟩
end
def pGo (t : NT) (tt : PT) (te : PE) (ρ : PEv) : List P → List P → DS → Option (Pz (List P))
  | acc, [], s => some (.ok acc s)
  | acc, w :: ws, s => match ntP t w ρ with
    | none => none
    | some ρ1 => pb (pnx (tt ρ1 s)) fun b s2 => if b = true then pb (pnx (te ρ1 s2)) fun y s3 => if acc.length < LIM then pGo t tt te ρ (acc ++ [y]) ws s3 else none
      else pGo t tt te ρ acc ws s2
def fLc (it : PI) (t : NT) (tt : PT) (te : PE) (vs : List Nat) : FE := fun ρ s => pb (it ρ s) fun ps s1 => pGo t tt te (wipeP ρ vs) [] ps s1
theorem pnx_ok {α : Type} {x : Option (Pz α)} {a : α} {s : DS} (e : pnx x = some (.ok a s)) : x = some (.ok a s) := by
  cases x with
  | none => cases e
  | some z => cases z <;> first | exact e | cases e
theorem pnx_cases {α : Type} (x : Option (Pz α)) : pnx x = none ∨ ∃ a s, x = some (.ok a s) ∧ pnx x = some (.ok a s) := by
  cases x with
  | none => exact .inl rfl
  | some z => cases z with
    | ok a s => exact .inr ⟨a, s, rfl, rfl⟩
    | ex c fs ws s => exact .inl rfl
theorem lc_go {X : Xx} {t : NT} {mt : MT} {me : ME} {tt : PT} {te : PE} (ht : ST mt tt) (he : SE me te) {h0 : Hm} {A0 : Al} {chk : Hm → Prop} {Dc : Nat} (hD0 : h0.length ≤ Dc) (hXD : X.D < h0.length) :
    ∀ (ps : List P) (us : List U) (acc : List P) (accU : List U) (h : Hm) (A : Al) (s : DS) (ρp : PEv) (ρ : Ev), Wf X h A s → RE X h A ρp ρ → Vs X h A ps us → Dc < h.length → ¬ A Dc → h[Dc]? = some (.lst accU) → Vs X h A acc accU → Ex X h0 A0 h A →
      (∀ h2 : Hm, (∀ i, A i → h2[i]? = h[i]?) → chk h2) → ∀ r s', pGo t tt te ρp acc ps s = some (.ok r s') → ∃ h' A' rU, lcGo chk t mt me ρ Dc us h = some (.ok (.ref Dc) h') ∧ Ex X h0 A0 h' A' ∧ Wf X h' A' s' ∧ Dc < h'.length ∧ ¬ A' Dc ∧ h'[Dc]? = some (.lst rU) ∧ Vs X h' A' r rU
  | [], us, acc, accU, h, A, s, ρp, ρ, w, re, vs, hl, na, hc, va, ex, ck, r, s', e => by
    simp only [Vs] at vs
    subst vs
    simp only [pGo, Option.some.injEq, Pz.ok.injEq] at e
    obtain ⟨rfl, rfl⟩ := e
    refine ⟨h, A, accU, ?_, ex, w, hl, na, hc, va⟩
    unfold lcGo
    rw [if_pos (ck h fun _ _ => rfl)]
  | p :: ps, us, acc, accU, h, A, s, ρp, ρ, w, re, vs, hl, na, hc, va, ex, ck, r, s', e => by
    simp only [Vs] at vs
    obtain ⟨u, us, rfl, v1, vs⟩ := vs
    unfold pGo at e
    cases et : ntP t p ρp with
    | none => rw [et] at e; cases e
    | some ρp1 =>
      rw [et] at e
      simp only at e
      obtain ⟨ρ1, em, re1⟩ := ntP_ok re v1 et
      rcases pnx_cases (tt ρp1 s) with q | ⟨b, s2, q0, q⟩
      · rw [q] at e; cases e
      · rw [q] at e
        simp only [pb_ok] at e
        have H := ht w re1
        rw [q0] at H
        obtain ⟨b', h2, A2, e2, ex2, w2, eb⟩ := H
        cases eb
        have hDD : Dc ≠ X.D := by omega
        have hc2 : h2[Dc]? = some (.lst accU) := by rw [ex2.oth Dc hl hDD]; exact hc
        have na2 : ¬ A2 Dc := fun a => by
          rcases ex2.new Dc a with a | a
          · exact na a
          · omega
        have hl2 : Dc < h2.length := Nat.lt_of_lt_of_le hl ex2.len
        have ckA : ∀ h3 A3, Ex X h A h3 A3 → ∀ h4 : Hm, (∀ i, A3 i → h4[i]? = h3[i]?) → chk h4 := fun h3 A3 x3 h4 k => ck h4 fun i a => by
          rw [k i (x3.sub i a), x3.oth i (w.bd i a).1 (w.bd i a).2]
        cases b with
        | false =>
          simp only [Bool.false_eq_true, if_false] at e
          obtain ⟨h', A', rU, q1, q2⟩ := lc_go ht he hD0 hXD ps us acc accU h2 A2 s2 ρp ρ w2 (re.on w ex2) (ex2.vs w vs) hl2 na2 hc2 (ex2.vs w va) (ex.trans ex2) (ckA _ _ ex2) r s' e
          refine ⟨h', A', rU, ?_, q2⟩
          unfold lcGo
          rw [if_pos (ck h fun _ _ => rfl), em]
          simp only [e2, ML.noEx, bnd_ok, Bool.false_eq_true, if_false]
          exact q1
        | true =>
          simp only [if_true] at e
          rcases pnx_cases (te ρp1 s2) with q | ⟨y, s3, q0, q⟩
          · rw [q] at e; cases e
          · rw [q] at e
            simp only [pb_ok] at e
            split at e
            · rename_i hacc
              have H := he w2 (re1.on w ex2)
              rw [q0] at H
              obtain ⟨yu, h3, A3, e3, ex3, w3, vy⟩ := H
              have hl3 : Dc < h3.length := Nat.lt_of_lt_of_le hl2 ex3.len
              have hc3 : h3[Dc]? = some (.lst accU) := by rw [ex3.oth Dc hl2 hDD]; exact hc2
              have na3 : ¬ A3 Dc := fun a => by
                rcases ex3.new Dc a with a | a
                · exact na2 a
                · omega
              have ex23 := ex2.trans ex3
              have vs3 := (ex23.vs w vs).hset na3 (.lst (accU ++ [yu]))
              have va3 := ((ex23.vs w va).append (Vs.cons vy Vs.nil)).hset na3 (.lst (accU ++ [yu]))
              have x4 : Ex X h0 A0 (h3.set Dc (.lst (accU ++ [yu]))) A3 := by
                have z := ex.trans ex23
                exact ⟨by simpa using z.len, z.sub, z.new, fun i hi hd => by rw [List.getElem?_set_ne (by omega)]; exact z.oth i hi hd⟩
              obtain ⟨h', A', rU, q1, q2⟩ := lc_go ht he hD0 hXD ps us (acc ++ [y]) (accU ++ [yu]) (h3.set Dc (.lst (accU ++ [yu]))) A3 s3 ρp ρ (w3.set na3 hDD _) ((re.on w ex23).hset na3 _) vs3 (by simpa using hl3) na3 (by rw [List.getElem?_set_self hl3]) va3 x4 (fun h4 k => ckA _ _ ex23 h4 fun i a => by rw [k i a, List.getElem?_set_ne (by rintro rfl; exact na3 a)]) r s' e
              refine ⟨h', A', rU, ?_, q2⟩
              unfold lcGo
              rw [if_pos (ck h fun _ _ => rfl), em]
              simp only [e2, ML.noEx, bnd_ok, if_true, e3, hc3]
              rw [if_pos (by rw [va.length]; exact hacc)]
              exact q1
            · cases e
theorem pGo_nex {t : NT} {tt : PT} {te : PE} {ρ : PEv} : ∀ {ps acc : List P} {s : DS} {c fs ws s'}, pGo t tt te ρ acc ps s ≠ some (.ex c fs ws s')
  | [], acc, s, c, fs, ws, s' => by simp [pGo]
  | p :: ps, acc, s, c, fs, ws, s' => by
    unfold pGo
    cases ntP t p ρ with
    | none => simp
    | some ρ1 =>
      simp only
      rcases pnx_cases (tt ρ1 s) with q | ⟨b, s2, q0, q⟩
      · rw [q]; simp
      · rw [q]
        simp only [pb_ok]
        cases b with
        | false => simp only [Bool.false_eq_true, if_false]; exact pGo_nex
        | true =>
          simp only [if_true]
          rcases pnx_cases (te ρ1 s2) with q | ⟨y, s3, q0, q⟩
          · rw [q]; simp
          · rw [q]
            simp only [pb_ok]
            split
            · exact pGo_nex
            · simp
theorem sLc {mi : MI} {t : NT} {mt : MT} {me : ME} {it : PI} {tt : PT} {te : PE} {vs : List Nat} (hi : SI mi it) (ht : ST mt tt) (he : SE me te) : SFE (mLc mi t mt me vs) (fLc it t tt te vs) := fun X h A s ρ ρp w r =>
  RR.bnd (hi w r) fun ps z s1 h1 A1 e1 w1 v => by
    obtain ⟨rs, ck⟩ := v
    cases e : pGo t tt te (wipeP ρp vs) [] ps s1 with
    | none => trivial
    | some q =>
      cases q with
      | ex c fs ws s2 => exact absurd e pGo_nex
      | ok r2 s2 =>
        have w2 := w1.app (.lst [])
        have x2 : Ex X h1 A1 (h1 ++ [.lst []]) A1 := Ex.app _
        obtain ⟨h', A', rU, q1, q2, q3, q4, q5, q6, q7⟩ := lc_go (Dc := h1.length) (chk := z.2) ht he (Nat.le_refl _) w1.dlt ps z.1 [] [] (h1 ++ [.lst []]) A1 s1 _ (wipeE ρ vs) w2 (wipe_ok ((r.on w e1).on w1 x2) vs) (x2.vs w1 rs) (by simp) (fun a => Nat.lt_irrefl _ (w1.bd _ a).1) (by simp) Vs.nil x2 (fun h3 k => ck h3 fun i a => by rw [k i a, x2.oth i (w1.bd i a).1 (w1.bd i a).2]) r2 s2 e
        exact ⟨.ref h1.length, h', A', q1, q2, q3, h1.length, rU, rfl, e1.len, q4, q5, q6, q7⟩
def pYes : PT := fun _ s => some (.ok true s)
theorem sYes : ST mYes pYes := fun X h A s ρ ρp w r => RR.ok w rfl
end PL

set_option maxHeartbeats 4000000
namespace PL
open PySem L2 ML
/-- a slot: a value that others may see, or a list (an object) of its own that nobody else sees -/
inductive Sl where
  | sh (p : P)
  | ow (p : P)
abbrev TEv := List (Option Sl)
def slA : Option Sl → Option P
  | some (.sh p) => some p
  | some (.ow p) => some p
  | none => none
def slH : Option Sl → Option P
  | some (.sh p) => some p
  | _ => none
def vA (ρ : TEv) : PEv := ρ.map slA
def vH (ρ : TEv) : PEv := ρ.map slH
/-- an own object: one level -/
def OC (X : Xx) (h : Hm) (A : Al) (j : Nat) : P → Prop
  | .lst ps => ∃ us, h[j]? = some (.lst us) ∧ Vs X h A ps us
  | .ins c fs ps => ∃ us, h[j]? = some (.ins c (fs.zip us)) ∧ fs.length = us.length ∧ Vs X h A ps us
  | _ => False
structure RT (X : Xx) (h : Hm) (A : Al) (ρp : TEv) (ρ : Ev) : Prop where
  len : ρ.length = ρp.length
  sh : ∀ (i : Nat) (p : P), ρp[i]? = some (some (.sh p)) → ∃ u : U, ρ[i]? = some (some u) ∧ V X h A p u
  ow : ∀ (i : Nat) (p : P), ρp[i]? = some (some (.ow p)) → ∃ j : Nat, ρ[i]? = some (some (.ref j)) ∧ j < h.length ∧ j ≠ X.D ∧ ¬ A j ∧ OC X h A j p
  inj : ∀ (i i' : Nat) (p p' : P) (j : Nat), ρp[i]? = some (some (.ow p)) → ρp[i']? = some (some (.ow p')) → ρ[i]? = some (some (.ref j)) → ρ[i']? = some (some (.ref j)) → i = i'
def Ow (ρp : TEv) (ρ : Ev) : Al := fun j => ∃ (i : Nat) (p : P), ρp[i]? = some (some (.ow p)) ∧ ρ[i]? = some (some (.ref j))
structure St (X : Xx) (h : Hm) (A O : Al) (h' : Hm) (A' O' : Al) : Prop where
  len : h.length ≤ h'.length
  sub : ∀ i, A i → A' i
  new : ∀ i, A' i → A i ∨ O i ∨ h.length ≤ i
  own : ∀ i, O' i → O i ∨ h.length ≤ i
  oth : ∀ i, i < h.length → i ≠ X.D → ¬ O i → h'[i]? = h[i]?
inductive Pq where
  | nx (ρ : TEv) (s : DS)
  | rt (p : P) (s : DS)
  | bk (ρ : TEv) (s : DS)
  | ct (ρ : TEv) (s : DS)
  | ex (c : Nat) (fs : List Str) (ws : List P) (ρ : TEv) (s : DS)
abbrev PS := TEv → DS → Option Pq
def NO : Al := fun _ => False
def RS (X : Xx) (h : Hm) (A O : Al) (x : Option Pq) (y : Option Sz) : Prop := match x with
  | none => True
  | some (.nx ρp s) => ∃ ρ h' A', y = some (.nx ρ h') ∧ Wf X h' A' s ∧ RT X h' A' ρp ρ ∧ St X h A O h' A' (Ow ρp ρ)
  | some (.bk ρp s) => ∃ ρ h' A', y = some (.bk ρ h') ∧ Wf X h' A' s ∧ RT X h' A' ρp ρ ∧ St X h A O h' A' (Ow ρp ρ)
  | some (.ct ρp s) => ∃ ρ h' A', y = some (.ct ρ h') ∧ Wf X h' A' s ∧ RT X h' A' ρp ρ ∧ St X h A O h' A' (Ow ρp ρ)
  | some (.rt p s) => ∃ u h' A', y = some (.rt u h') ∧ Wf X h' A' s ∧ V X h' A' p u ∧ St X h A O h' A' NO
  | some (.ex c fs ws ρp s) => ∃ us ρ h' A', y = some (.ex c (fs.zip us) ρ h') ∧ fs.length = us.length ∧ Wf X h' A' s ∧ RT X h' A' ρp ρ ∧ Vs X h' A' ws us ∧ St X h A O h' A' (Ow ρp ρ)
def SS (m : MS) (p : PS) : Prop := ∀ ⦃X h A s ρ ρp⦄, Wf X h A s → RT X h A ρp ρ → RS X h A (Ow ρp ρ) (p ρp s) (m ρ h)
section
variable {X : Xx} {h h' h1 h2 : Hm} {A A' A1 A2 O O1 O2 : Al} {s s' : DS} {ρ ρ' : Ev} {ρp ρp' : TEv}
theorem St.refl : St X h A O h A O := ⟨Nat.le_refl _, fun _ a => a, fun _ a => .inl a, fun _ a => .inl a, fun _ _ _ _ => rfl⟩
theorem St.trans (a : St X h A O h1 A1 O1) (b : St X h1 A1 O1 h2 A2 O2) : St X h A O h2 A2 O2 :=
  ⟨Nat.le_trans a.len b.len, fun i q => b.sub i (a.sub i q), fun i q => by
    rcases b.new i q with q | q | q
    · exact a.new i q
    · rcases a.own i q with q | q
      · exact .inr (.inl q)
      · exact .inr (.inr q)
    · exact .inr (.inr (Nat.le_trans a.len q)), fun i q => by
    rcases b.own i q with q | q
    · exact a.own i q
    · exact .inr (Nat.le_trans a.len q), fun i q d o => by
    rw [b.oth i (Nat.lt_of_lt_of_le q a.len) d fun z => by
      rcases a.own i z with z | z
      · exact o z
      · omega, a.oth i q d o]⟩
theorem St.of (e : Ex X h A h' A') : St X h A O h' A' O := ⟨e.len, e.sub, fun i a => by
  rcases e.new i a with a | a
  · exact .inl a
  · exact .inr (.inr a), fun i a => .inl a, fun i q d _ => e.oth i q d⟩
theorem St.own' (a : St X h A O h1 A1 O1) (k : ∀ i, O2 i → O1 i ∨ h.length ≤ i) : St X h A O h1 A1 O2 := ⟨a.len, a.sub, a.new, fun i q => by
  rcases k i q with q | q
  · exact a.own i q
  · exact .inr q, a.oth⟩
theorem St.noO (a : St X h A O h1 A1 O1) : St X h A O h1 A1 NO := a.own' fun i q => q.elim
theorem RS.trans {x : Option Pq} {y : Option Sz} (t : St X h A O h1 A1 O1) (H : RS X h1 A1 O1 x y) : RS X h A O x y := by
  cases x with
  | none => trivial
  | some z =>
    cases z with
    | nx ρp s => obtain ⟨ρ, h', A', e, w, r, q⟩ := H; exact ⟨ρ, h', A', e, w, r, t.trans q⟩
    | bk ρp s => obtain ⟨ρ, h', A', e, w, r, q⟩ := H; exact ⟨ρ, h', A', e, w, r, t.trans q⟩
    | ct ρp s => obtain ⟨ρ, h', A', e, w, r, q⟩ := H; exact ⟨ρ, h', A', e, w, r, t.trans q⟩
    | rt p s => obtain ⟨u, h', A', e, w, r, q⟩ := H; exact ⟨u, h', A', e, w, r, t.trans q⟩
    | ex c fs ws ρp s => obtain ⟨us, ρ, h', A', e, ln, w, r, v, q⟩ := H; exact ⟨us, ρ, h', A', e, ln, w, r, v, t.trans q⟩
theorem OC.mono {j : Nat} {p : P} (k : ∀ i, A i → A' i ∧ h'[i]? = h[i]?) (kj : h'[j]? = h[j]?) (o : OC X h A j p) : OC X h' A' j p := by
  cases p with
  | lst ps => obtain ⟨us, e, v⟩ := o; exact ⟨us, by rw [kj]; exact e, Vs.mono k _ _ v⟩
  | ins c fs ps => obtain ⟨us, e, l, v⟩ := o; exact ⟨us, by rw [kj]; exact e, l, Vs.mono k _ _ v⟩
  | _ => exact o.elim
theorem RT.on (r : RT X h A ρp ρ) (w : Wf X h A s) (e : Ex X h A h' A') : RT X h' A' ρp ρ :=
  ⟨r.len, fun i p q => by
    obtain ⟨u, e1, v⟩ := r.sh i p q
    exact ⟨u, e1, e.v w v⟩, fun i p q => by
    obtain ⟨j, e1, jl, jd, ja, o⟩ := r.ow i p q
    refine ⟨j, e1, Nat.lt_of_lt_of_le jl e.len, jd, fun a => ?_, OC.mono (fun i a => ⟨e.sub i a, e.oth i (w.bd i a).1 (w.bd i a).2⟩) (e.oth j jl jd) o⟩
    rcases e.new j a with a | a
    · exact ja a
    · omega, r.inj⟩
theorem RT.re (r : RT X h A ρp ρ) : RE X h A (vH ρp) ρ := ⟨by simp [vH, r.len], fun i p e => by
  unfold vH at e
  rw [List.getElem?_map] at e
  cases e1 : ρp[i]? with
  | none => rw [e1] at e; cases e
  | some o =>
    rw [e1] at e
    cases o with
    | none => simp [slH] at e
    | some z =>
      cases z with
      | sh q => simp [slH] at e; subst e; exact r.sh i _ e1
      | ow q => simp [slH] at e⟩
/-- together with what is own -/
def Al.un (A O : Al) : Al := fun i => A i ∨ O i
def Al.di (A O : Al) : Al := fun i => A i ∧ ¬ O i
theorem RT.wA (r : RT X h A ρp ρ) (w : Wf X h A s) : Wf X h (A.un (Ow ρp ρ)) s := ⟨fun i a => by
  rcases a with a | ⟨k, p, e1, e2⟩
  · exact w.bd i a
  · obtain ⟨j, e3, jl, jd, _, _⟩ := r.ow k p e1
    rw [e3] at e2
    cases e2
    exact ⟨jl, jd⟩, w.ds, w.sc, w.sd, .inl w.aS, w.a0⟩
theorem RT.rA (r : RT X h A ρp ρ) : RE X h (A.un (Ow ρp ρ)) (vA ρp) ρ := ⟨by simp [vA, r.len], fun i p e => by
  unfold vA at e
  rw [List.getElem?_map] at e
  cases e1 : ρp[i]? with
  | none => rw [e1] at e; cases e
  | some o =>
    rw [e1] at e
    cases o with
    | none => simp [slA] at e
    | some z =>
      cases z with
      | sh q =>
        simp [slA] at e; subst e
        obtain ⟨u, e2, v⟩ := r.sh i _ e1
        exact ⟨u, e2, V.mono (fun i a => ⟨.inl a, rfl⟩) _ _ v⟩
      | ow q =>
        simp [slA] at e; subst e
        obtain ⟨j, e2, jl, jd, ja, o⟩ := r.ow i _ e1
        refine ⟨.ref j, e2, ?_⟩
        have hj : Ow ρp ρ j := ⟨i, q, e1, e2⟩
        cases q with
        | lst ps => obtain ⟨us, q1, v⟩ := o; simp only [V]; exact ⟨j, us, rfl, .inr hj, q1, Vs.mono (fun i a => ⟨.inl a, rfl⟩) _ _ v⟩
        | ins c fs ps => obtain ⟨us, q1, l, v⟩ := o; simp only [V]; exact ⟨j, us, rfl, .inr hj, q1, l, Vs.mono (fun i a => ⟨.inl a, rfl⟩) _ _ v⟩
        | _ => exact o.elim⟩
theorem RT.nO (r : RT X h A ρp ρ) {j : Nat} (o : Ow ρp ρ j) : j < h.length ∧ j ≠ X.D ∧ ¬ A j := by
  obtain ⟨i, p, e1, e2⟩ := o
  obtain ⟨k, e3, jl, jd, ja, _⟩ := r.ow i p e1
  rw [e3] at e2
  cases e2
  exact ⟨jl, jd, ja⟩
/-- behind a look at all: what is own stays own -/
theorem RT.exA (r : RT X h A ρp ρ) (e : Ex X h (A.un (Ow ρp ρ)) h' A1) : Ex X h A h' (A1.di (Ow ρp ρ)) :=
  ⟨e.len, fun i a => ⟨e.sub i (.inl a), fun o => (r.nO o).2.2 a⟩, fun i a => by
    rcases e.new i a.1 with (q | q) | q
    · exact .inl q
    · exact absurd q a.2
    · exact .inr q, e.oth⟩
theorem RT.wfA (r : RT X h A ρp ρ) (w0 : Wf X h A s) (e : Ex X h (A.un (Ow ρp ρ)) h' A1) (w : Wf X h' A1 s') : Wf X h' (A1.di (Ow ρp ρ)) s' :=
  ⟨fun i a => w.bd i a.1, w.ds, w.sc, w.sd, ⟨w.aS, fun o => (r.nO o).2.2 w0.aS⟩, w.a0⟩
/-- behind a look at all: all of it is seen from then on -/
theorem St.ofA (e : Ex X h (A.un O) h' A1) : St X h A O h' A1 O1 → St X h A O h' A1 O1 := id
theorem RT.stA (r : RT X h A ρp ρ) (e : Ex X h (A.un (Ow ρp ρ)) h' A1) : St X h A (Ow ρp ρ) h' A1 NO :=
  ⟨e.len, fun i a => e.sub i (.inl a), fun i a => by
    rcases e.new i a with (q | q) | q
    · exact .inl q
    · exact .inr (.inl q)
    · exact .inr (.inr q), fun i q => q.elim, fun i q d _ => e.oth i q d⟩
/-! values that do not reach what is own -/
mutual
def nr : P → Bool
  | .tup ps => nrs ps
  | .lst _ => false
  | .ins _ _ _ => false
  | .exc _ _ _ => false
  | _ => true
def nrs : List P → Bool
  | [] => true
  | p :: ps => nr p && nrs ps
end
mutual
def nl : P → Bool
  | .tup ps => nls ps
  | .lst _ => false
  | .ins _ _ ps => nls ps
  | .exc _ _ ps => nls ps
  | _ => true
def nls : List P → Bool
  | [] => true
  | p :: ps => nl p && nls ps
end
mutual
theorem V.nr : ∀ (p : P) (u : U), V X h A p u → nr p = true → V X h' A' p u
  | .non, u, v, _ => by simpa [V] using v
  | .bl b, u, v, _ => by simpa [V] using v
  | .int b, u, v, _ => by simpa [V] using v
  | .str b, u, v, _ => by simpa [V] using v
  | .scr, u, v, _ => by simpa [V] using v
  | .st, u, v, _ => by simpa [V] using v
  | .tup ps, u, v, e => by
    simp only [V] at v ⊢
    obtain ⟨us, q, r⟩ := v
    exact ⟨us, q, Vs.nr ps us r e⟩
  | .lst ps, u, v, e => by cases e
  | .ins c fs ps, u, v, e => by cases e
  | .exc c fs ps, u, v, e => by cases e
theorem Vs.nr : ∀ (p : List P) (u : List U), Vs X h A p u → nrs p = true → Vs X h' A' p u
  | [], u, v, _ => by simpa [Vs] using v
  | p :: ps, u, v, e => by
    simp only [Vs] at v ⊢
    obtain ⟨y, ys, q, r, rs⟩ := v
    simp only [nrs, Bool.and_eq_true] at e
    exact ⟨y, ys, q, V.nr p y r e.1, Vs.nr ps ys rs e.2⟩
end
mutual
theorem V.nl (k : ∀ i, O i → ∃ us, h[i]? = some (.lst us)) : ∀ (p : P) (u : U), V X h A p u → nl p = true → V X h (A.di O) p u
  | .non, u, v, _ => by simpa [V] using v
  | .bl b, u, v, _ => by simpa [V] using v
  | .int b, u, v, _ => by simpa [V] using v
  | .str b, u, v, _ => by simpa [V] using v
  | .scr, u, v, _ => by simpa [V] using v
  | .st, u, v, _ => by simpa [V] using v
  | .tup ps, u, v, e => by
    simp only [V] at v ⊢
    obtain ⟨us, q, r⟩ := v
    exact ⟨us, q, Vs.nl k ps us r e⟩
  | .lst ps, u, v, e => by cases e
  | .ins c fs ps, u, v, e => by
    simp only [V] at v ⊢
    obtain ⟨i, us, q, a, ei, l, r⟩ := v
    refine ⟨i, us, q, ⟨a, fun o => ?_⟩, ei, l, Vs.nl k ps us r e⟩
    obtain ⟨vs, ev⟩ := k i o
    rw [ev] at ei
    cases ei
  | .exc c fs ps, u, v, e => by
    simp only [V] at v ⊢
    obtain ⟨i, us, q, a, ei, l, r⟩ := v
    refine ⟨i, us, q, ⟨a, fun o => ?_⟩, ei, l, Vs.nl k ps us r e⟩
    obtain ⟨vs, ev⟩ := k i o
    rw [ev] at ei
    cases ei
theorem Vs.nl (k : ∀ i, O i → ∃ us, h[i]? = some (.lst us)) : ∀ (p : List P) (u : List U), Vs X h A p u → nls p = true → Vs X h (A.di O) p u
  | [], u, v, _ => by simpa [Vs] using v
  | p :: ps, u, v, e => by
    simp only [Vs] at v ⊢
    obtain ⟨y, ys, q, r, rs⟩ := v
    simp only [nls, Bool.and_eq_true] at e
    exact ⟨y, ys, q, V.nl k p y r e.1, Vs.nl k ps ys rs e.2⟩
end
def oL : TEv → Bool
  | [] => true
  | some (.ow (.lst _)) :: r => oL r
  | some (.ow _) :: _ => false
  | _ :: r => oL r
theorem oL_at : ∀ {ρp : TEv} {i : Nat} {p : P}, oL ρp = true → ρp[i]? = some (some (.ow p)) → ∃ ps, p = .lst ps
  | [], i, p, _, e => by simp at e
  | o :: r, 0, p, z, e => by
    simp at e; subst e
    cases p with
    | lst ps => exact ⟨ps, rfl⟩
    | _ => simp [oL] at z
  | o :: r, i + 1, p, z, e => by
    refine oL_at (i := i) (ρp := r) ?_ (by simpa using e)
    cases o with
    | none => exact z
    | some q =>
      cases q with
      | sh q => exact z
      | ow q => cases q <;> first | exact z | (simp [oL] at z)
theorem RT.oL (r : RT X h A ρp ρ) (z : PL.oL ρp = true) {j : Nat} (o : Ow ρp ρ j) : ∃ us, h[j]? = some (.lst us) := by
  obtain ⟨i, p, e1, e2⟩ := o
  obtain ⟨ps, rfl⟩ := oL_at z e1
  obtain ⟨k, e3, _, _, _, us, q, _⟩ := r.ow i _ e1
  rw [e3] at e2
  cases e2
  exact ⟨us, q⟩
/-- what may be kept behind a look at all -/
def kp (ρp : TEv) (p : P) : Bool := nr p || (nl p && oL ρp)
def kps (ρp : TEv) (p : List P) : Bool := nrs p || (nls p && oL ρp)
theorem RT.kp (r : RT X h A ρp ρ) (e : Ex X h (A.un (Ow ρp ρ)) h' A1) {p : P} {u : U} (v : V X h' A1 p u) (k : PL.kp ρp p = true) : V X h' (A1.di (Ow ρp ρ)) p u := by
  unfold PL.kp at k
  simp only [Bool.or_eq_true, Bool.and_eq_true] at k
  rcases k with k | k
  · exact V.nr _ _ v k
  · exact V.nl (fun i o => by
      obtain ⟨us, q⟩ := r.oL k.2 o
      exact ⟨us, by rw [e.oth i (r.nO o).1 (r.nO o).2.1]; exact q⟩) _ _ v k.1
theorem RT.kps (r : RT X h A ρp ρ) (e : Ex X h (A.un (Ow ρp ρ)) h' A1) {p : List P} {u : List U} (v : Vs X h' A1 p u) (k : PL.kps ρp p = true) : Vs X h' (A1.di (Ow ρp ρ)) p u := by
  unfold PL.kps at k
  simp only [Bool.or_eq_true, Bool.and_eq_true] at k
  rcases k with k | k
  · exact Vs.nr _ _ v k
  · exact Vs.nl (fun i o => by
      obtain ⟨us, q⟩ := r.oL k.2 o
      exact ⟨us, by rw [e.oth i (r.nO o).1 (r.nO o).2.1]; exact q⟩) _ _ v k.1
/-! changes of slots -/
theorem RT.setS (r : RT X h A ρp ρ) {p : P} {u : U} (v : V X h A p u) (i : Nat) : RT X h A (ρp.set i (some (.sh p))) (ρ.set i (some u)) := by
  refine ⟨by simp [r.len], fun k q e => ?_, fun k q e => ?_, fun k k' q q' j e e' f f' => ?_⟩
  · by_cases hk : i = k
    · subst hk
      by_cases hl : i < ρp.length
      · rw [List.getElem?_set_self hl] at e
        cases e
        exact ⟨u, by rw [List.getElem?_set_self (by rw [r.len]; exact hl)], v⟩
      · rw [List.getElem?_eq_none (by simpa using hl)] at e
        cases e
    · rw [List.getElem?_set_ne hk] at e ⊢
      exact r.sh k q e
  · by_cases hk : i = k
    · subst hk
      by_cases hl : i < ρp.length
      · rw [List.getElem?_set_self hl] at e; cases e
      · rw [List.getElem?_eq_none (by simpa using hl)] at e; cases e
    · rw [List.getElem?_set_ne hk] at e ⊢
      exact r.ow k q e
  · have n1 : i ≠ k := fun z => by
      subst z
      by_cases hl : i < ρp.length
      · rw [List.getElem?_set_self hl] at e; cases e
      · rw [List.getElem?_eq_none (by simpa using hl)] at e; cases e
    have n2 : i ≠ k' := fun z => by
      subst z
      by_cases hl : i < ρp.length
      · rw [List.getElem?_set_self hl] at e'; cases e'
      · rw [List.getElem?_eq_none (by simpa using hl)] at e'; cases e'
    rw [List.getElem?_set_ne n1] at e f
    rw [List.getElem?_set_ne n2] at e' f'
    exact r.inj k k' q q' j e e' f f'
theorem ow_setS {p : P} {u : U} {i : Nat} {j : Nat} (o : Ow (ρp.set i (some (.sh p))) (ρ.set i (some u)) j) : Ow ρp ρ j := by
  obtain ⟨k, q, e, f⟩ := o
  have n : i ≠ k := fun z => by
    subst z
    by_cases hl : i < ρp.length
    · rw [List.getElem?_set_self hl] at e; cases e
    · rw [List.getElem?_eq_none (by simpa using hl)] at e; cases e
  rw [List.getElem?_set_ne n] at e f
  exact ⟨k, q, e, f⟩
theorem RT.unset (r : RT X h A ρp ρ) (i : Nat) : RT X h A (ρp.set i none) (ρ.set i none) := by
  have ne : ∀ {k : Nat} {z : Sl}, (ρp.set i none)[k]? = some (some z) → i ≠ k := fun {k z} e q => by
    subst q
    by_cases hl : i < ρp.length
    · rw [List.getElem?_set_self hl] at e; cases e
    · rw [List.getElem?_eq_none (by simpa using hl)] at e; cases e
  refine ⟨by simp [r.len], fun k q e => ?_, fun k q e => ?_, fun k k' q q' j e e' f f' => ?_⟩
  · have n := ne e
    rw [List.getElem?_set_ne n] at e ⊢
    exact r.sh k q e
  · have n := ne e
    rw [List.getElem?_set_ne n] at e ⊢
    exact r.ow k q e
  · have n1 := ne e
    have n2 := ne e'
    rw [List.getElem?_set_ne n1] at e f
    rw [List.getElem?_set_ne n2] at e' f'
    exact r.inj k k' q q' j e e' f f'
theorem ow_unset {i j : Nat} (o : Ow (ρp.set i none) (ρ.set i none) j) : Ow ρp ρ j := by
  obtain ⟨k, q, e, f⟩ := o
  have n : i ≠ k := fun z => by
    subst z
    by_cases hl : i < ρp.length
    · rw [List.getElem?_set_self hl] at e; cases e
    · rw [List.getElem?_eq_none (by simpa using hl)] at e; cases e
  rw [List.getElem?_set_ne n] at e f
  exact ⟨k, q, e, f⟩
theorem RT.setO (r : RT X h A ρp ρ) {p : P} {j : Nat} (jl : j < h.length) (jd : j ≠ X.D) (ja : ¬ A j) (jo : ¬ Ow ρp ρ j) (o : OC X h A j p) (i : Nat) : RT X h A (ρp.set i (some (.ow p))) (ρ.set i (some (.ref j))) := by
  have cs : ∀ {k : Nat} {z : Sl}, (ρp.set i (some (.ow p)))[k]? = some (some z) → (i = k ∧ i < ρp.length ∧ z = .ow p) ∨ (i ≠ k ∧ ρp[k]? = some (some z)) := fun {k z} e => by
    by_cases hk : i = k
    · subst hk
      by_cases hl : i < ρp.length
      · rw [List.getElem?_set_self hl] at e; cases e; exact .inl ⟨rfl, hl, rfl⟩
      · rw [List.getElem?_eq_none (by simpa using hl)] at e; cases e
    · rw [List.getElem?_set_ne hk] at e; exact .inr ⟨hk, e⟩
  refine ⟨by simp [r.len], fun k q e => ?_, fun k q e => ?_, fun k k' q q' l e e' f f' => ?_⟩
  · rcases cs e with ⟨_, _, z⟩ | ⟨n, e⟩
    · cases z
    · rw [List.getElem?_set_ne n]; exact r.sh k q e
  · rcases cs e with ⟨rfl, hl, z⟩ | ⟨n, e⟩
    · cases z
      exact ⟨j, by rw [List.getElem?_set_self (by rw [r.len]; exact hl)], jl, jd, ja, o⟩
    · rw [List.getElem?_set_ne n]; exact r.ow k q e
  · rcases cs e with ⟨z, hl, _⟩ | ⟨n, e⟩ <;> rcases cs e' with ⟨z', hl', _⟩ | ⟨n', e'⟩
    · exact z.symm.trans z'
    · subst z
      rw [List.getElem?_set_self (by rw [r.len]; exact hl)] at f
      cases f
      rw [List.getElem?_set_ne n'] at f'
      exact absurd ⟨k', q', e', f'⟩ jo
    · subst z'
      rw [List.getElem?_set_self (by rw [r.len]; exact hl')] at f'
      cases f'
      rw [List.getElem?_set_ne n] at f
      exact absurd ⟨k, q, e, f⟩ jo
    · rw [List.getElem?_set_ne n] at f
      rw [List.getElem?_set_ne n'] at f'
      exact r.inj k k' q q' l e e' f f'
theorem ow_setO {p : P} {i j k : Nat} (o : Ow (ρp.set i (some (.ow p))) (ρ.set i (some (.ref j))) k) (hl : ρ.length = ρp.length) : Ow ρp ρ k ∨ k = j := by
  obtain ⟨l, q, e, f⟩ := o
  by_cases hk : i = l
  · subst hk
    by_cases hl2 : i < ρ.length
    · rw [List.getElem?_set_self hl2] at f; cases f; exact .inr rfl
    · rw [List.getElem?_eq_none (by simpa using hl2)] at f; cases f
  · rw [List.getElem?_set_ne hk] at e f
    exact .inl ⟨l, q, e, f⟩
/-- an own object is changed in its place -/
theorem RT.chg (r : RT X h A ρp ρ) {p : P} {i j : Nat} {c : Cell} {q : P} (ei : ρp[i]? = some (some (.ow q))) (ej : ρ[i]? = some (some (.ref j))) (o : OC X (h.set j c) A j p) : RT X (h.set j c) A (ρp.set i (some (.ow p))) ρ := by
  obtain ⟨j', e3, jl, jd, ja, _⟩ := r.ow i q ei
  rw [e3] at ej
  cases ej
  have hil := (List.getElem?_eq_some_iff.mp ei).1
  have cs : ∀ {k : Nat} {z : Sl}, (ρp.set i (some (.ow p)))[k]? = some (some z) → (i = k ∧ z = .ow p) ∨ (i ≠ k ∧ ρp[k]? = some (some z)) := fun {k z} e => by
    by_cases hk : i = k
    · subst hk
      rw [List.getElem?_set_self hil] at e; cases e; exact .inl ⟨rfl, rfl⟩
    · rw [List.getElem?_set_ne hk] at e; exact .inr ⟨hk, e⟩
  refine ⟨by simp [r.len], fun k q e => ?_, fun k q e => ?_, fun k k' q q' l e e' f f' => ?_⟩
  · rcases cs e with ⟨_, z⟩ | ⟨n, e⟩
    · cases z
    · obtain ⟨u, e1, v⟩ := r.sh k q e
      exact ⟨u, e1, v.hset ja c⟩
  · rcases cs e with ⟨rfl, z⟩ | ⟨n, e⟩
    · cases z
      exact ⟨j, e3, by simpa using jl, jd, ja, o⟩
    · obtain ⟨l, e1, ll, ld, la, lo⟩ := r.ow k q e
      have hne : j ≠ l := fun z => by subst z; exact n (r.inj i k _ _ j ei e e3 e1)
      exact ⟨l, e1, by simpa using ll, ld, la, OC.mono (fun i a => ⟨a, List.getElem?_set_ne (by rintro rfl; exact ja a)⟩) (List.getElem?_set_ne hne) lo⟩
  · have g : ∀ {k : Nat} {z : P}, (ρp.set i (some (.ow p)))[k]? = some (some (.ow z)) → ∃ z', ρp[k]? = some (some (.ow z')) := fun {k z} e => by
      rcases cs e with ⟨rfl, _⟩ | ⟨_, e⟩
      · exact ⟨_, ei⟩
      · exact ⟨_, e⟩
    obtain ⟨z, e⟩ := g e
    obtain ⟨z', e'⟩ := g e'
    exact r.inj k k' z z' l e e' f f'
theorem ow_chg {p q : P} {i k : Nat} (ei : ρp[i]? = some (some (.ow q))) (o : Ow (ρp.set i (some (.ow p))) ρ k) : Ow ρp ρ k := by
  obtain ⟨l, z, e, f⟩ := o
  by_cases hk : i = l
  · subst hk; exact ⟨i, q, ei, f⟩
  · rw [List.getElem?_set_ne hk] at e; exact ⟨l, z, e, f⟩
end
/-- what an own slot held is seen by others from now on -/
def frzS : Option Sl → Option Sl
  | some (.ow p) => some (.sh p)
  | o => o
def frz : List Nat → TEv → TEv
  | [], ρ => ρ
  | i :: is, ρ => match ρ[i]? with
    | some o => frz is (ρ.set i (frzS o))
    | none => frz is ρ
section
variable {X : Xx} {h h' h1 h2 : Hm} {A A' A1 A2 O O1 O2 : Al} {s s' : DS} {ρ ρ' : Ev} {ρp ρp' : TEv}
theorem set_eq {α : Type} {l : List α} {i : Nat} {a : α} (e : l[i]? = some a) : l.set i a = l := by
  apply List.ext_getElem?
  intro k
  by_cases hk : i = k
  · subst hk; rw [List.getElem?_set_self (List.getElem?_eq_some_iff.mp e).1, e]
  · rw [List.getElem?_set_ne hk]
theorem RT.frz1 (w : Wf X h A s) (r : RT X h A ρp ρ) {i : Nat} {p : P} (ei : ρp[i]? = some (some (.ow p))) : ∃ A', Wf X h A' s ∧ RT X h A' (ρp.set i (some (.sh p))) ρ ∧ St X h A (Ow ρp ρ) h A' (Ow (ρp.set i (some (.sh p))) ρ) := by
  obtain ⟨j, ej, jl, jd, ja, o⟩ := r.ow i p ei
  have hj : Ow ρp ρ j := ⟨i, p, ei, ej⟩
  have mA : ∀ k, A k → (A.add j) k ∧ h[k]? = h[k]? := fun k a => ⟨.inl a, rfl⟩
  have v : V X h (A.add j) p (.ref j) := by
    cases p with
    | lst ps => obtain ⟨us, q1, v⟩ := o; simp only [V]; exact ⟨j, us, rfl, .inr rfl, q1, Vs.mono mA _ _ v⟩
    | ins c fs ps => obtain ⟨us, q1, l, v⟩ := o; simp only [V]; exact ⟨j, us, rfl, .inr rfl, q1, l, Vs.mono mA _ _ v⟩
    | _ => exact o.elim
  have cs : ∀ {k : Nat} {z : P}, (ρp.set i (some (.sh p)))[k]? = some (some (.ow z)) → i ≠ k ∧ ρp[k]? = some (some (.ow z)) := fun {k z} e => by
    by_cases hk : i = k
    · subst hk
      rw [List.getElem?_set_self (List.getElem?_eq_some_iff.mp ei).1] at e; cases e
    · rw [List.getElem?_set_ne hk] at e; exact ⟨hk, e⟩
  refine ⟨A.add j, w.add jl jd, ⟨by simp [r.len], fun k q e => ?_, fun k q e => ?_, fun k k' q q' l e e' f f' => ?_⟩, ⟨Nat.le_refl _, fun k a => .inl a, fun k a => ?_, fun k o => ?_, fun _ _ _ _ => rfl⟩⟩
  · by_cases hk : i = k
    · subst hk
      rw [List.getElem?_set_self (List.getElem?_eq_some_iff.mp ei).1] at e
      cases e
      exact ⟨_, ej, v⟩
    · rw [List.getElem?_set_ne hk] at e
      obtain ⟨u, e1, v1⟩ := r.sh k q e
      exact ⟨u, e1, V.mono mA _ _ v1⟩
  · obtain ⟨n, e⟩ := cs e
    obtain ⟨l, e1, ll, ld, la, lo⟩ := r.ow k q e
    refine ⟨l, e1, ll, ld, fun a => ?_, OC.mono mA rfl lo⟩
    rcases a with a | a
    · exact la a
    · subst a; exact n (r.inj i k _ _ _ ei e ej e1)
  · exact r.inj k k' q q' l (cs e).2 (cs e').2 f f'
  · rcases a with a | a
    · exact .inl a
    · subst a; exact .inr (.inl hj)
  · obtain ⟨l, z, e, f⟩ := o
    exact .inl ⟨l, z, (cs e).2, f⟩
theorem RT.frz : ∀ (is : List Nat) {A : Al} {ρp : TEv}, Wf X h A s → RT X h A ρp ρ → ∃ A', Wf X h A' s ∧ RT X h A' (PL.frz is ρp) ρ ∧ St X h A (Ow ρp ρ) h A' (Ow (PL.frz is ρp) ρ)
  | [], A, ρp, w, r => ⟨A, w, r, St.refl⟩
  | i :: is, A, ρp, w, r => by
    unfold PL.frz
    cases e : ρp[i]? with
    | none => exact RT.frz is w r
    | some o =>
      simp only
      cases o with
      | none =>
        rw [show ρp.set i (frzS none) = ρp from set_eq e]
        exact RT.frz is w r
      | some z =>
        cases z with
        | sh p =>
          rw [show ρp.set i (frzS (some (.sh p))) = ρp from set_eq e]
          exact RT.frz is w r
        | ow p =>
          obtain ⟨A1, w1, r1, t1⟩ := r.frz1 w e
          obtain ⟨A2, w2, r2, t2⟩ := RT.frz is w1 r1
          exact ⟨A2, w2, r2, t1.trans t2⟩
end
end PL

set_option maxHeartbeats 4000000
namespace PL
open PySem L2 ML
def pbS {α : Type} (ρ : TEv) (x : Option (Pz α)) (k : α → DS → Option Pq) : Option Pq := match x with
  | some (.ok a s) => k a s
  | some (.ex c fs ws s) => if kps ρ ws = true then some (.ex c fs ws ρ s) else none
  | none => none
@[simp] theorem pbS_ok {α : Type} (ρ) (a : α) (s : DS) (k : α → DS → Option Pq) : pbS ρ (some (.ok a s)) k = k a s := rfl
section
variable {α β : Type} {X : Xx} {h h' h1 h2 : Hm} {A A' A1 A2 : Al} {s s' : DS} {ρ ρ' : Ev} {ρp ρp' : TEv}
/-- with all that is own in sight -/
theorem RS.bndA {rel : Hm → Al → α → β → Prop} {x : Option (Pz α)} {y : Option (Rz β)} {k : α → DS → Option Pq} {l : β → Hm → Option Sz} (w : Wf X h A s) (r : RT X h A ρp ρ) (H : RR X rel h (A.un (Ow ρp ρ)) x y)
    (K : ∀ a b s' h' A1, Ex X h (A.un (Ow ρp ρ)) h' A1 → Wf X h' A1 s' → rel h' A1 a b → RS X h A (Ow ρp ρ) (k a s') (l b h')) : RS X h A (Ow ρp ρ) (pbS ρp x k) (bndS ρ y l) := by
  cases x with
  | none => trivial
  | some z =>
    cases z with
    | ok a s1 =>
      obtain ⟨b, h', A1, rfl, e, w1, q⟩ := H
      exact K a b s1 h' A1 e w1 q
    | ex c fs ws s1 =>
      obtain ⟨us, h', A1, rfl, ln, e, w1, v⟩ := H
      unfold pbS
      simp only
      split
      · rename_i hk
        exact ⟨us, ρ, h', A1.di (Ow ρp ρ), rfl, ln, r.wfA w e w1, r.on w (r.exA e), r.kps e v hk, .of (r.exA e)⟩
      · trivial
def pbH {α : Type} (ρ : TEv) (x : Option (Pz α)) (k : α → DS → Option Pq) : Option Pq := match x with
  | some (.ok a s) => k a s
  | some (.ex c fs ws s) => some (.ex c fs ws ρ s)
  | none => none
@[simp] theorem pbH_ok {α : Type} (ρ) (a : α) (s : DS) (k : α → DS → Option Pq) : pbH ρ (some (.ok a s)) k = k a s := rfl
/-- with nothing of it in sight -/
theorem RS.bndH {rel : Hm → Al → α → β → Prop} {x : Option (Pz α)} {y : Option (Rz β)} {k : α → DS → Option Pq} {l : β → Hm → Option Sz} (w : Wf X h A s) (r : RT X h A ρp ρ) (H : RR X rel h A x y)
    (K : ∀ a b s' h' A1, Ex X h A h' A1 → Wf X h' A1 s' → RT X h' A1 ρp ρ → rel h' A1 a b → RS X h' A1 (Ow ρp ρ) (k a s') (l b h')) : RS X h A (Ow ρp ρ) (pbH ρp x k) (bndS ρ y l) := by
  cases x with
  | none => trivial
  | some z =>
    cases z with
    | ok a s1 =>
      obtain ⟨b, h', A1, rfl, e, w1, q⟩ := H
      exact RS.trans (.of e) (K a b s1 h' A1 e w1 (r.on w e) q)
    | ex c fs ws s1 =>
      obtain ⟨us, h', A1, rfl, ln, e, w1, v⟩ := H
      exact ⟨us, ρ, h', A1, rfl, ln, w1, r.on w e, v, .of e⟩
end
section
variable {X : Xx} {h h' : Hm} {A A' : Al} {s s' : DS} {ρ : Ev} {ρp : TEv}
theorem RS.nx {O : Al} {ρp' : TEv} {ρ' : Ev} (w : Wf X h A s) (r : RT X h A ρp' ρ') (k : ∀ j, Ow ρp' ρ' j → O j ∨ h.length ≤ j) : RS X h A O (some (.nx ρp' s)) (some (.nx ρ' h)) :=
  ⟨ρ', h, A, rfl, w, r, St.refl.own' k⟩
end
/-! the statements -/
def pSkip : PS := fun ρ s => some (.nx ρ s)
def pSeq (a b : PS) : PS := fun ρ s => match a ρ s with
  | some (.nx ρ1 s1) => b ρ1 s1
  | r => r
def pRet (e : PE) : PS := fun ρ s => match e (vA ρ) s with
  | some (.ok p s1) => some (.rt p s1)
  | some (.ex c fs ws s1) => if kps ρ ws = true then some (.ex c fs ws ρ s1) else none
  | none => none
def pRetN : PS := fun _ s => some (.rt .non s)
def pDrop (e : PE) : PS := fun ρ s => pbS ρ (e (vA ρ) s) fun _ s1 => some (.nx ρ s1)
/-- a name is given a value that reaches nothing own -/
def pSet (i : Nat) (e : PE) : PS := fun ρ s => pbS ρ (e (vA ρ) s) fun p s1 => if kp ρ p = true then some (.nx (ρ.set i (some (.sh p))) s1) else none
def pSetH (i : Nat) (e : PE) : PS := fun ρ s => pbH ρ (e (vH ρ) s) fun p s1 => some (.nx (ρ.set i (some (.sh p))) s1)
/-- a name is given a list of its own -/
def pSetO (i : Nat) (e : FE) : PS := fun ρ s => pbS ρ (e (vA ρ) s) fun ps s1 => if kps ρ ps = true then some (.nx (ρ.set i (some (.ow (.lst ps)))) s1) else none
def pSetOH (i : Nat) (e : FE) : PS := fun ρ s => pbH ρ (e (vH ρ) s) fun ps s1 => some (.nx (ρ.set i (some (.ow (.lst ps)))) s1)
def pIf (c : PT) (a b : PS) : PS := fun ρ s => pbS ρ (c (vA ρ) s) fun k s1 => if k = true then a ρ s1 else b ρ s1
def pBrk : PS := fun ρ s => some (.bk ρ s)
def pCont : PS := fun ρ s => some (.ct ρ s)
/-- what these slots held is seen from now on -/
def pFz (is : List Nat) (a : PS) : PS := fun ρ s => a (frz is ρ) s
theorem sSkip : SS mSkip pSkip := fun X h A s ρ ρp w r => RS.nx w r fun j o => .inl o
theorem sFz {m : MS} {a : PS} {is : List Nat} (ha : SS m a) : SS m (pFz is a) := fun X h A s ρ ρp w r => by
  obtain ⟨A1, w1, r1, t⟩ := RT.frz is w r
  exact RS.trans t (ha w1 r1)
theorem sSeq {m n : MS} {a b : PS} (ha : SS m a) (hb : SS n b) : SS (mSeq m n) (pSeq a b) := fun X h A s ρ ρp w r => by
  have H := ha w r
  unfold pSeq mSeq
  cases e : a ρp s with
  | none => trivial
  | some z =>
    rw [e] at H
    cases z with
    | nx ρp1 s1 =>
      obtain ⟨ρ1, h1, A1, e1, w1, r1, t⟩ := H
      rw [e1]
      exact RS.trans t (hb w1 r1)
    | rt p s1 => obtain ⟨u, h1, A1, e1, q⟩ := H; rw [e1]; exact ⟨u, h1, A1, rfl, q⟩
    | bk ρp1 s1 => obtain ⟨ρ1, h1, A1, e1, q⟩ := H; rw [e1]; exact ⟨ρ1, h1, A1, rfl, q⟩
    | ct ρp1 s1 => obtain ⟨ρ1, h1, A1, e1, q⟩ := H; rw [e1]; exact ⟨ρ1, h1, A1, rfl, q⟩
    | ex c fs ws ρp1 s1 => obtain ⟨us, ρ1, h1, A1, e1, q⟩ := H; rw [e1]; exact ⟨us, ρ1, h1, A1, rfl, q⟩
theorem sRet {m : ME} {e : PE} (he : SE m e) : SS (mRet m) (pRet e) := fun X h A s ρ ρp w r => by
  have H := he (r.wA w) r.rA
  unfold pRet mRet
  cases e1 : e (vA ρp) s with
  | none => trivial
  | some z =>
    rw [e1] at H
    cases z with
    | ok p s1 =>
      obtain ⟨u, h1, A1, e2, ex, w1, v⟩ := H
      simp only [e2, bndS_ok]
      exact ⟨u, h1, A1, rfl, w1, v, r.stA ex⟩
    | ex c fs ws s1 =>
      obtain ⟨us, h1, A1, e2, ln, ex, w1, v⟩ := H
      simp only [e2, bndS_ex]
      split
      · rename_i hk
        exact ⟨us, ρ, h1, A1.di (Ow ρp ρ), rfl, ln, r.wfA w ex w1, r.on w (r.exA ex), r.kps ex v hk, .of (r.exA ex)⟩
      · trivial
theorem sRetN : SS mRetN pRetN := fun X h A s ρ ρp w r => ⟨.non, h, A, rfl, w, by simp [V], St.refl.noO⟩
theorem sDrop {m : ME} {e : PE} (he : SE m e) : SS (mDrop m) (pDrop e) := fun X h A s ρ ρp w r => RS.bndA w r (he (r.wA w) r.rA) fun p u s1 h1 A1 ex w1 v =>
  ⟨ρ, h1, A1.di (Ow ρp ρ), rfl, r.wfA w ex w1, r.on w (r.exA ex), .of (r.exA ex)⟩
theorem sSet {i : Nat} {m : ME} {e : PE} (he : SE m e) : SS (mSet i m) (pSet i e) := fun X h A s ρ ρp w r => RS.bndA w r (he (r.wA w) r.rA) fun p u s1 h1 A1 ex w1 v => by
  split
  · rename_i hk
    exact ⟨ρ.set i (some u), h1, A1.di (Ow ρp ρ), rfl, r.wfA w ex w1, (r.on w (r.exA ex)).setS (r.kp ex v hk) i, (St.of (r.exA ex)).own' fun j o => .inl (ow_setS o)⟩
  · trivial
theorem sSetH {i : Nat} {m : ME} {e : PE} (he : SE m e) : SS (mSet i m) (pSetH i e) := fun X h A s ρ ρp w r => RS.bndH w r (he w r.re) fun p u s1 h1 A1 ex w1 r1 v =>
  RS.nx w1 (r1.setS v i) fun j o => .inl (ow_setS o)
theorem RT.ofFR {X : Xx} {h h1 : Hm} {A A2 : Al} {s : DS} {ρ : Ev} {ρp : TEv} (r : RT X h A ρp ρ) (r1 : RT X h1 A2 ρp ρ) (w : Wf X h A s) {i : Nat} {ps : List P} {j : Nat} {us : List U} (hj : h.length ≤ j) (hl : j < h1.length) (na : ¬ A2 j) (ec : h1[j]? = some (.lst us)) (vs : Vs X h1 A2 ps us) :
    RT X h1 A2 (ρp.set i (some (.ow (.lst ps)))) (ρ.set i (some (.ref j))) := r1.setO hl (by have := w.dlt; omega) na (fun o => by have := (r.nO o).1; omega) (show OC X h1 A2 j (.lst ps) from ⟨us, ec, vs⟩) i
theorem sSetO {i : Nat} {m : ME} {e : FE} (he : SFE m e) : SS (mSet i m) (pSetO i e) := fun X h A s ρ ρp w r => RS.bndA w r (he (r.wA w) r.rA) fun ps u s1 h1 A1 ex w1 fr => by
  obtain ⟨j, us, rfl, hj, hl, na, ec, vs⟩ := fr
  split
  · rename_i hk
    refine ⟨ρ.set i (some (.ref j)), h1, A1.di (Ow ρp ρ), rfl, r.wfA w ex w1, RT.ofFR r (r.on w (r.exA ex)) w hj hl (fun a => na a.1) ec (r.kps ex vs hk), (St.of (r.exA ex)).own' fun k o => ?_⟩
    rcases ow_setO o r.len with o | rfl
    · exact .inl o
    · exact .inr hj
  · trivial
theorem sSetOH {i : Nat} {m : ME} {e : FE} (he : SFE m e) : SS (mSet i m) (pSetOH i e) := fun X h A s ρ ρp w r => by
  have H := he w r.re
  unfold pSetOH mSet
  cases e1 : e (vH ρp) s with
  | none => trivial
  | some z =>
    rw [e1] at H
    cases z with
    | ok ps s1 =>
      obtain ⟨u, h1, A1, e2, ex, w1, j, us, rfl, hj, hl, na, ec, vs⟩ := H
      simp only [e2, bndS_ok, pbH_ok]
      refine ⟨ρ.set i (some (.ref j)), h1, A1, rfl, w1, RT.ofFR r (r.on w ex) w hj hl na ec vs, (St.of ex).own' fun k o => ?_⟩
      rcases ow_setO o r.len with o | rfl
      · exact .inl o
      · exact .inr hj
    | ex c fs ws s1 =>
      obtain ⟨us, h1, A1, e2, ln, ex, w1, v⟩ := H
      simp only [e2, bndS_ex]
      exact ⟨us, ρ, h1, A1, rfl, ln, w1, r.on w ex, v, .of ex⟩
theorem sIf {t : MT} {m n : MS} {c : PT} {a b : PS} (hc : ST t c) (ha : SS m a) (hb : SS n b) : SS (mIf t m n) (pIf c a b) := fun X h A s ρ ρp w r => RS.bndA w r (hc (r.wA w) r.rA) fun k l s1 h1 A1 ex w1 v => by
  cases v
  refine RS.trans (.of (r.exA ex)) ?_
  cases k with
  | true => exact ha (r.wfA w ex w1) (r.on w (r.exA ex))
  | false => exact hb (r.wfA w ex w1) (r.on w (r.exA ex))
theorem sBrk : SS mBrk pBrk := fun X h A s ρ ρp w r => ⟨ρ, h, A, rfl, w, r, .refl⟩
theorem sCont : SS mCont pCont := fun X h A s ρ ρp w r => ⟨ρ, h, A, rfl, w, r, .refl⟩
/-! an own list grows -/
def pApp (i : Nat) (e : PE) : PS := fun ρ s => match ρ[i]? with
  | some (some (.ow (.lst ps))) => pbS ρ (e (vA ρ) s) fun p s1 => if (kp ρ p && decide (ps.length < LIM)) = true then some (.nx (ρ.set i (some (.ow (.lst (ps ++ [p]))))) s1) else none
  | _ => none
def pAppH (i : Nat) (e : PE) : PS := fun ρ s => match ρ[i]? with
  | some (some (.ow (.lst ps))) => pbH ρ (e (vH ρ) s) fun p s1 => if ps.length < LIM then some (.nx (ρ.set i (some (.ow (.lst (ps ++ [p]))))) s1) else none
  | _ => none
theorem app_run {X : Xx} {h h1 : Hm} {A A1 : Al} {s : DS} {ρ : Ev} {ρp : TEv} {m : ME} {i : Nat} {ps : List P} {p : P} {u : U} (r : RT X h A ρp ρ) (w : Wf X h A s) (ei : ρp[i]? = some (some (.ow (.lst ps)))) (em : m ρ h = some (.ok u h1)) (ex : Ex X h A h1 A1) (w1 : Wf X h1 A1 s) (v : V X h1 A1 p u) (hl : ps.length < LIM) :
    ∃ h2, mDrop (mBM kList fAppend (mVar i) (mCons m mNil)) ρ h = some (.nx ρ h2) ∧ Wf X h2 A1 s ∧ RT X h2 A1 (ρp.set i (some (.ow (.lst (ps ++ [p]))))) ρ ∧ St X h A (Ow ρp ρ) h2 A1 (Ow (ρp.set i (some (.ow (.lst (ps ++ [p]))))) ρ) := by
  obtain ⟨j, ej, jl, jd, ja, us, ec, vs⟩ := r.ow i _ ei
  have r1 := r.on w ex
  obtain ⟨j', ej', jl1, _, ja1, us1, ec1, vs1⟩ := r1.ow i _ ei
  rw [ej] at ej'
  cases ej'
  refine ⟨h1.set j (.lst (us1 ++ [u])), drop_s (app_l (var_e ej) em ec1 (by rw [vs1.length]; exact hl) (klist ec)), w1.set ja1 jd _, r1.chg ei ej ⟨us1 ++ [u], by rw [List.getElem?_set_self jl1], (vs1.append (Vs.cons v Vs.nil)).hset ja1 _⟩, ?_⟩
  have t := St.of (O := Ow ρp ρ) ex
  refine ⟨by simpa using t.len, t.sub, t.new, fun k o => .inl (ow_chg ei o), fun k q d o => ?_⟩
  have : j ≠ k := fun z => o ⟨i, _, ei, by rw [ej, z]⟩
  rw [List.getElem?_set_ne this]
  exact t.oth k q d o
theorem sApp {i : Nat} {m : ME} {e : PE} (he : SE m e) : SS (mDrop (mBM kList fAppend (mVar i) (mCons m mNil))) (pApp i e) := fun X h A s ρ ρp w r => by
  unfold pApp
  split
  · rename_i ps ei
    have H := he (r.wA w) r.rA
    cases e1 : e (vA ρp) s with
    | none => trivial
    | some z =>
      rw [e1] at H
      cases z with
      | ok p s1 =>
        obtain ⟨u, h1, A1, e2, ex, w1, v⟩ := H
        simp only [pbS_ok]
        split
        · rename_i hc
          simp only [Bool.and_eq_true, decide_eq_true_eq] at hc
          have w0 := r.wfA w ex w1
          have wx : Wf X h A s1 → True := fun _ => trivial
          obtain ⟨j, ej, jl, jd, ja, us, ec, vs⟩ := r.ow i _ ei
          have r1 := r.on w (r.exA ex)
          obtain ⟨j', ej', jl1, _, ja1, us1, ec1, vs1⟩ := r1.ow i _ ei
          rw [ej] at ej'
          cases ej'
          refine ⟨ρ, h1.set j (.lst (us1 ++ [u])), A1.di (Ow ρp ρ), drop_s (app_l (var_e ej) e2 ec1 (by rw [vs1.length]; exact hc.2) (klist ec)), w0.set ja1 jd _, r1.chg ei ej ⟨us1 ++ [u], by rw [List.getElem?_set_self jl1], (vs1.append (Vs.cons (r.kp ex v hc.1) Vs.nil)).hset ja1 _⟩, ?_⟩
          have t := St.of (O := Ow ρp ρ) (r.exA ex)
          refine ⟨by simpa using t.len, t.sub, t.new, fun k o => .inl (ow_chg ei o), fun k q d o => ?_⟩
          have : j ≠ k := fun z => o ⟨i, _, ei, by rw [ej, z]⟩
          rw [List.getElem?_set_ne this]
          exact t.oth k q d o
        · trivial
      | ex c fs ws s1 =>
        obtain ⟨us, h1, A1, e2, ln, ex, w1, v⟩ := H
        unfold pbS
        simp only
        split
        · rename_i hk
          obtain ⟨j, ej, jl, jd, ja, us0, ec, vs⟩ := r.ow i _ ei
          refine ⟨us, ρ, h1, A1.di (Ow ρp ρ), ?_, ln, r.wfA w ex w1, r.on w (r.exA ex), r.kps ex v hk, .of (r.exA ex)⟩
          refine drop_x ?_
          unfold mBM
          rw [var_e ej]
          simp only [bnd_ok, klist ec, if_true]
          rw [cons_x e2]
          rfl
        · trivial
  · trivial
theorem sAppH {i : Nat} {m : ME} {e : PE} (he : SE m e) : SS (mDrop (mBM kList fAppend (mVar i) (mCons m mNil))) (pAppH i e) := fun X h A s ρ ρp w r => by
  unfold pAppH
  split
  · rename_i ps ei
    have H := he w r.re
    cases e1 : e (vH ρp) s with
    | none => trivial
    | some z =>
      rw [e1] at H
      cases z with
      | ok p s1 =>
        obtain ⟨u, h1, A1, e2, ex, w1, v⟩ := H
        simp only [pbH_ok]
        split
        · rename_i hl
          obtain ⟨j, ej, jl, jd, ja, us, ec, vs⟩ := r.ow i _ ei
          have r1 := r.on w ex
          obtain ⟨j', ej', jl1, _, ja1, us1, ec1, vs1⟩ := r1.ow i _ ei
          rw [ej] at ej'
          cases ej'
          refine ⟨ρ, h1.set j (.lst (us1 ++ [u])), A1, drop_s (app_l (var_e ej) e2 ec1 (by rw [vs1.length]; exact hl) (klist ec)), w1.set ja1 jd _, r1.chg ei ej ⟨us1 ++ [u], by rw [List.getElem?_set_self jl1], (vs1.append (Vs.cons v Vs.nil)).hset ja1 _⟩, ?_⟩
          have t := St.of (O := Ow ρp ρ) ex
          refine ⟨by simpa using t.len, t.sub, t.new, fun k o => .inl (ow_chg ei o), fun k q d o => ?_⟩
          have : j ≠ k := fun z => o ⟨i, _, ei, by rw [ej, z]⟩
          rw [List.getElem?_set_ne this]
          exact t.oth k q d o
        · trivial
      | ex c fs ws s1 =>
        obtain ⟨us, h1, A1, e2, ln, ex, w1, v⟩ := H
        obtain ⟨j, ej, jl, jd, ja, us0, ec, vs⟩ := r.ow i _ ei
        refine ⟨us, ρ, h1, A1, ?_, ln, w1, r.on w ex, v, .of ex⟩
        refine drop_x ?_
        unfold mBM
        rw [var_e ej]
        simp only [bnd_ok, klist ec, if_true]
        rw [cons_x e2]
        rfl
  · trivial
/-! an own object's attribute -/
def pputF (f : Str) : List Str → List Str
  | [] => [f]
  | g :: fs => if g = f then f :: fs else g :: pputF f fs
def pputW (f : Str) (p : P) : List Str → List P → List P
  | g :: fs, q :: ws => if g = f then p :: ws else q :: pputW f p fs ws
  | _, _ => [p]
def pSetAt (f : Str) (ok : Nat → Bool) (i : Nat) (e : PE) : PS := fun ρ s => match ρ[i]? with
  | some (some (.ow (.ins c fs ws))) => pbH ρ (e (vH ρ) s) fun p s1 => if (ok c && decide (fs.length < 900)) = true then some (.nx (ρ.set i (some (.ow (.ins c (pputF f fs) (pputW f p fs ws))))) s1) else none
  | _ => none
theorem pput_ok {X : Xx} {h : Hm} {A : Al} {f : Str} {p : P} {u : U} (v : V X h A p u) : ∀ {fs : List Str} {ws : List P} {us : List U}, fs.length = us.length → Vs X h A ws us → ∃ us', fput f u (fs.zip us) = (pputF f fs).zip us' ∧ (pputF f fs).length = us'.length ∧ Vs X h A (pputW f p fs ws) us'
  | [], ws, us, l, r => by
    have : us = [] := List.eq_nil_of_length_eq_zero (by simpa using l.symm)
    subst this
    cases ws with
    | nil => exact ⟨[u], rfl, rfl, Vs.cons v Vs.nil⟩
    | cons a b => simp [Vs] at r
  | g :: fs, [], us, l, r => by simp only [Vs] at r; subst r; simp at l
  | g :: fs, q :: ws, us, l, r => by
    simp only [Vs] at r
    obtain ⟨y, ys, rfl, r1, rs⟩ := r
    unfold pputF pputW
    simp only [List.zip_cons_cons, fput]
    by_cases hg : g = f
    · rw [if_pos hg, if_pos hg, if_pos hg]
      exact ⟨u :: ys, rfl, by simpa using l, Vs.cons v rs⟩
    · rw [if_neg hg, if_neg hg, if_neg hg]
      obtain ⟨us', e1, e2, e3⟩ := pput_ok (f := f) v (fs := fs) (by simpa using l) rs
      exact ⟨y :: us', by rw [e1]; rfl, by simpa using e2, Vs.cons r1 e3⟩
theorem sSetAt {f : Str} {ok : Nat → Bool} {i : Nat} {m : ME} {e : PE} (he : SE m e) : SS (mSetAt f ok (mVar i) m) (pSetAt f ok i e) := fun X h A s ρ ρp w r => by
  unfold pSetAt
  split
  · rename_i c fs ws ei
    have H := he w r.re
    cases e1 : e (vH ρp) s with
    | none => trivial
    | some z =>
      rw [e1] at H
      cases z with
      | ok p s1 =>
        obtain ⟨u, h1, A1, e2, ex, w1, v⟩ := H
        simp only [pbH_ok]
        split
        · rename_i hk
          obtain ⟨j, ej, jl, jd, ja, us, ec, ln, vs⟩ := r.ow i _ ei
          have r1 := r.on w ex
          obtain ⟨j', ej', jl1, _, ja1, us1, ec1, ln1, vs1⟩ := r1.ow i _ ei
          rw [ej] at ej'
          cases ej'
          obtain ⟨us', f1, f2, f3⟩ := pput_ok (f := f) v ln1 vs1
          refine ⟨ρ, h1.set j (.ins c (fput f u (fs.zip us1))), A1, ?_, w1.set ja1 jd _, r1.chg ei ej ⟨us', by rw [List.getElem?_set_self jl1, f1], f2, f3.hset ja1 _⟩, ?_⟩
          · unfold mSetAt
            rw [e2]
            simp only [bndS_ok]
            rw [var_e ej]
            simp only [bndS_ok, ec1]
            rw [if_pos (by simpa [List.length_zip, ln1] using hk)]
          · have t := St.of (O := Ow ρp ρ) ex
            refine ⟨by simpa using t.len, t.sub, t.new, fun k o => .inl (ow_chg ei o), fun k q d o => ?_⟩
            have : j ≠ k := fun z => o ⟨i, _, ei, by rw [ej, z]⟩
            rw [List.getElem?_set_ne this]
            exact t.oth k q d o
        · trivial
      | ex c2 fs2 ws2 s1 =>
        obtain ⟨us, h1, A1, e2, ln, ex, w1, v⟩ := H
        refine ⟨us, ρ, h1, A1, ?_, ln, w1, r.on w ex, v, .of ex⟩
        unfold mSetAt
        rw [e2]
        rfl
  · trivial
/-! targets -/
abbrev PG := P → TEv → Option TEv
abbrev PGs := List P → TEv → Option TEv
def SG (m : MG) (g : PG) : Prop := ∀ ⦃X h A ρ ρp p u ρp'⦄, RT X h A ρp ρ → V X h A p u → g p ρp = some ρp' → ∃ ρ', m u ρ = some ρ' ∧ RT X h A ρp' ρ' ∧ ∀ j, Ow ρp' ρ' j → Ow ρp ρ j
def SGs (m : MGs) (g : PGs) : Prop := ∀ ⦃X h A ρ ρp ps us ρp'⦄, RT X h A ρp ρ → Vs X h A ps us → g ps ρp = some ρp' → ∃ ρ', m us ρ = some ρ' ∧ RT X h A ρp' ρ' ∧ ∀ j, Ow ρp' ρ' j → Ow ρp ρ j
def jN (i : Nat) : PG := fun p ρ => some (ρ.set i (some (.sh p)))
def jT (n : Nat) (g : PGs) : PG := fun p ρ => match p with
  | .tup ws => if ws.length = n then g ws ρ else none
  | _ => none
def jE : PGs := fun ws ρ => match ws with
  | [] => some ρ
  | _ => none
def jC (a : PG) (b : PGs) : PGs := fun ws ρ => match ws with
  | w :: r => match a w ρ with
    | some ρ1 => b r ρ1
    | none => none
  | [] => none
theorem sN {i : Nat} : SG (gN i) (jN i) := fun X h A ρ ρp p u ρp' r v e => by
  simp only [jN, Option.some.injEq] at e
  subst e
  exact ⟨_, rfl, r.setS v i, fun j o => ow_setS o⟩
theorem sTE : SGs gE jE := fun X h A ρ ρp p u ρp' r v e => by
  cases p with
  | nil => simp only [Vs] at v; subst v; simp only [jE, Option.some.injEq] at e; subst e; exact ⟨ρ, rfl, r, fun j o => o⟩
  | cons a b => cases e
theorem sTC {a : MG} {b : MGs} {a' : PG} {b' : PGs} (ha : SG a a') (hb : SGs b b') : SGs (gC a b) (jC a' b') := fun X h A ρ ρp p u ρp' r v e => by
  cases p with
  | nil => cases e
  | cons p ps =>
    simp only [Vs] at v
    obtain ⟨y, ys, rfl, v1, vs⟩ := v
    unfold jC at e
    simp only at e
    cases e1 : a' p ρp with
    | none => rw [e1] at e; cases e
    | some ρ1 =>
      rw [e1] at e
      obtain ⟨ρ2, f1, r1, o1⟩ := ha r v1 e1
      obtain ⟨ρ3, f2, r2, o2⟩ := hb r1 vs e
      refine ⟨ρ3, ?_, r2, fun j o => o1 j (o2 j o)⟩
      unfold gC
      simp only [f1]
      exact f2
theorem sTT {n : Nat} {g : MGs} {g' : PGs} (hg : SGs g g') : SG (gT n g) (jT n g') := fun X h A ρ ρp p u ρp' r v e => by
  cases p with
  | tup ws =>
    simp only [V] at v
    obtain ⟨us, rfl, vs⟩ := v
    unfold jT at e
    simp only at e
    split at e
    · rename_i hl
      obtain ⟨ρ', f, r1, o⟩ := hg r vs e
      refine ⟨ρ', ?_, r1, o⟩
      unfold gT
      simp only
      rw [if_pos (by rw [vs.length]; exact hl)]
      exact f
    · cases e
  | _ => cases e
def pAsg (g : PG) (e : PE) : PS := fun ρ s => pbS ρ (e (vA ρ) s) fun p s1 => if kp ρ p = true then match g p ρ with
    | some ρ1 => some (.nx ρ1 s1)
    | none => none
  else none
theorem sAsg {g : MG} {g' : PG} {m : ME} {e : PE} (hg : SG g g') (he : SE m e) : SS (mAsg g m) (pAsg g' e) := fun X h A s ρ ρp w r => RS.bndA w r (he (r.wA w) r.rA) fun p u s1 h1 A1 ex w1 v => by
  split
  · rename_i hk
    cases e1 : g' p ρp with
    | none => trivial
    | some ρp1 =>
      obtain ⟨ρ1, f, r1, o⟩ := hg (r.on w (r.exA ex)) (r.kp ex v hk) e1
      simp only [f]
      exact ⟨ρ1, h1, A1.di (Ow ρp ρ), rfl, r.wfA w ex w1, r1, (St.of (r.exA ex)).own' fun j q => .inl (o j q)⟩
  · trivial
def pAsgH (g : PG) (e : PE) : PS := fun ρ s => pbH ρ (e (vH ρ) s) fun p s1 => match g p ρ with
    | some ρ1 => some (.nx ρ1 s1)
    | none => none
theorem sAsgH {g : MG} {g' : PG} {m : ME} {e : PE} (hg : SG g g') (he : SE m e) : SS (mAsg g m) (pAsgH g' e) := fun X h A s ρ ρp w r => RS.bndH w r (he w r.re) fun p u s1 h1 A1 ex w1 r0 v => by
  cases e1 : g' p ρp with
  | none => trivial
  | some ρp1 =>
    obtain ⟨ρ1, f, r1, o⟩ := hg r0 v e1
    simp only [f]
    exact ⟨ρ1, h1, A1, rfl, w1, r1, St.refl.own' fun j q => .inl (o j q)⟩
def pPar2 (i j : Nat) (es : PA) : PS := fun ρ s => pbS ρ (es (vA ρ) s) fun ps s1 => match ps with
  | [p, q] => if kps ρ [p, q] = true then some (.nx ((ρ.set i (some (.sh p))).set j (some (.sh q))) s1) else none
  | _ => none
theorem sPar2 {i j : Nat} {ms : MA} {es : PA} (hs : SA ms es) : SS (mPar2 i j ms) (pPar2 i j es) := fun X h A s ρ ρp w r => RS.bndA w r (hs (r.wA w) r.rA) fun ps us s1 h1 A1 ex w1 v => by
  split
  · rename_i p q
    split
    · rename_i hk
      have vv := r.kps ex v hk
      obtain ⟨a, b, rfl, v1, v2⟩ := two_v vv
      exact ⟨_, h1, A1.di (Ow ρp ρ), rfl, r.wfA w ex w1, ((r.on w (r.exA ex)).setS v1 i).setS v2 j, (St.of (r.exA ex)).own' fun k o => .inl (ow_setS (ow_setS o))⟩
    · trivial
  · trivial
def pPar3 (i j l : Nat) (es : PA) : PS := fun ρ s => pbS ρ (es (vA ρ) s) fun ps s1 => match ps with
  | [p, q, t] => if kps ρ [p, q, t] = true then some (.nx (((ρ.set i (some (.sh p))).set j (some (.sh q))).set l (some (.sh t))) s1) else none
  | _ => none
theorem three_v {X : Xx} {h : Hm} {A : Al} {p q t : P} {us : List U} (r : Vs X h A [p, q, t] us) : ∃ u v x, us = [u, v, x] ∧ V X h A p u ∧ V X h A q v ∧ V X h A t x := by
  simp only [Vs] at r
  obtain ⟨y, ys, rfl, r1, z, zs, rfl, r2, x, xs, rfl, r3, rfl⟩ := r
  exact ⟨y, z, x, rfl, r1, r2, r3⟩
theorem sPar3 {i j l : Nat} {ms : MA} {es : PA} (hs : SA ms es) : SS (mPar3 i j l ms) (pPar3 i j l es) := fun X h A s ρ ρp w r => RS.bndA w r (hs (r.wA w) r.rA) fun ps us s1 h1 A1 ex w1 v => by
  split
  · rename_i p q t
    split
    · rename_i hk
      have vv := r.kps ex v hk
      obtain ⟨a, b, c, rfl, v1, v2, v3⟩ := three_v vv
      exact ⟨_, h1, A1.di (Ow ρp ρ), rfl, r.wfA w ex w1, (((r.on w (r.exA ex)).setS v1 i).setS v2 j).setS v3 l, (St.of (r.exA ex)).own' fun k o => .inl (ow_setS (ow_setS (ow_setS o)))⟩
    · trivial
  · trivial
/-! for -/
def pForC (g : PG) (body : PS) : List P → PS
  | [], ρ, s => some (.nx ρ s)
  | w :: ws, ρ, s => match g w ρ with
    | none => none
    | some ρ1 => match body ρ1 s with
      | some (.nx ρ2 s2) => pForC g body ws ρ2 s2
      | some (.ct ρ2 s2) => pForC g body ws ρ2 s2
      | some (.bk ρ2 s2) => some (.nx ρ2 s2)
      | r => r
def pFor (it : PI) (g : PG) (body : PS) : PS := fun ρ s => pbH ρ (it (vH ρ) s) fun ps s1 => pForC g body ps ρ s1
theorem for_go {X : Xx} {mg : MG} {mb : MS} {g : PG} {b : PS} (hg : SG mg g) (hb : SS mb b) {chk : Hm → Prop} : ∀ (ps : List P) (us : List U) (h : Hm) (A : Al) (s : DS) (ρp : TEv) (ρ : Ev), Wf X h A s → RT X h A ρp ρ → Vs X h A ps us →
    (∀ h2 : Hm, (∀ i, A i → h2[i]? = h[i]?) → chk h2) → RS X h A (Ow ρp ρ) (pForC g b ps ρp s) (forC chk mg mb us ρ h)
  | [], us, h, A, s, ρp, ρ, w, r, vs, ck => by
    simp only [Vs] at vs
    subst vs
    rw [forC_nil (ck h fun _ _ => rfl)]
    exact RS.nx w r fun j o => .inl o
  | p :: ps, us, h, A, s, ρp, ρ, w, r, vs, ck => by
    simp only [Vs] at vs
    obtain ⟨u, us, rfl, v1, vs⟩ := vs
    unfold pForC
    cases eg : g p ρp with
    | none => trivial
    | some ρp1 =>
      obtain ⟨ρ1, em, r1, o1⟩ := hg r v1 eg
      simp only
      rw [forC_cons (ck h fun _ _ => rfl) em]
      have H := hb w r1
      have t0 : St X h A (Ow ρp ρ) h A (Ow ρp1 ρ1) := St.refl.own' fun j o => .inl (o1 j o)
      have go : ∀ (ρp2 : TEv) (s2 : DS) (ρ2 : Ev) (h2 : Hm) (A2 : Al), Wf X h2 A2 s2 → RT X h2 A2 ρp2 ρ2 → St X h A (Ow ρp1 ρ1) h2 A2 (Ow ρp2 ρ2) → RS X h A (Ow ρp ρ) (pForC g b ps ρp2 s2) (forC chk mg mb us ρ2 h2) := fun ρp2 s2 ρ2 h2 A2 w2 r2 t => by
        have ag : ∀ i, A i → A2 i ∧ h2[i]? = h[i]? := fun i a => ⟨t.sub i a, t.oth i (w.bd i a).1 (w.bd i a).2 fun o => (r1.nO o).2.2 a⟩
        exact RS.trans (t0.trans t) (for_go hg hb ps us h2 A2 s2 ρp2 ρ2 w2 r2 (Vs.mono ag _ _ vs) fun h3 k => ck h3 fun i a => by rw [k i (ag i a).1, (ag i a).2])
      cases eb : b ρp1 s with
      | none => trivial
      | some z =>
        rw [eb] at H
        cases z with
        | nx ρp2 s2 => obtain ⟨ρ2, h2, A2, e2, w2, r2, t⟩ := H; rw [e2]; exact go _ _ _ _ _ w2 r2 t
        | ct ρp2 s2 => obtain ⟨ρ2, h2, A2, e2, w2, r2, t⟩ := H; rw [e2]; exact go _ _ _ _ _ w2 r2 t
        | bk ρp2 s2 => obtain ⟨ρ2, h2, A2, e2, w2, r2, t⟩ := H; rw [e2]; exact ⟨ρ2, h2, A2, rfl, w2, r2, t0.trans t⟩
        | rt q s2 => obtain ⟨u2, h2, A2, e2, w2, v2, t⟩ := H; rw [e2]; exact ⟨u2, h2, A2, rfl, w2, v2, t0.trans t⟩
        | ex c fs ws ρp2 s2 => obtain ⟨us2, ρ2, h2, A2, e2, ln, w2, r2, v2, t⟩ := H; rw [e2]; exact ⟨us2, ρ2, h2, A2, rfl, ln, w2, r2, v2, t0.trans t⟩
theorem sFor {mi : MI} {mg : MG} {mb : MS} {it : PI} {g : PG} {b : PS} (hi : SI mi it) (hg : SG mg g) (hb : SS mb b) : SS (mFor mi mg mb) (pFor it g b) := fun X h A s ρ ρp w r =>
  RS.bndH w r (hi w r.re) fun ps z s1 h1 A1 ex w1 r1 v => for_go hg hb ps z.1 h1 A1 s1 ρp ρ w1 r1 v.1 v.2
/-! while -/
def pWhileN (c : PT) (b : PS) : Nat → PS
  | 0, _, _ => none
  | n + 1, ρ, s => pbS ρ (c (vA ρ) s) fun k s1 => if k = true then match b ρ s1 with
      | some (.nx ρ2 s2) => pWhileN c b n ρ2 s2
      | some (.ct ρ2 s2) => pWhileN c b n ρ2 s2
      | some (.bk ρ2 s2) => some (.nx ρ2 s2)
      | r => r
    else some (.nx ρ s1)
open Classical in
noncomputable def pWhile (c : PT) (b : PS) : PS := fun ρ s => if z : ∃ n, pWhileN c b n ρ s ≠ none then pWhileN c b (choose z) ρ s else none
theorem while_go {X : Xx} {mc : MT} {mb : MS} {c : PT} {b : PS} (hc : ST mc c) (hb : SS mb b) : ∀ (n : Nat) (h : Hm) (A : Al) (s : DS) (ρp : TEv) (ρ : Ev), Wf X h A s → RT X h A ρp ρ → RS X h A (Ow ρp ρ) (pWhileN c b n ρp s) (whileN mc mb n ρ h)
  | 0, h, A, s, ρp, ρ, w, r => trivial
  | n + 1, h, A, s, ρp, ρ, w, r => by
    unfold pWhileN whileN
    refine RS.bndA w r (hc (r.wA w) r.rA) fun k l s1 h1 A1 ex w1 v => ?_
    cases v
    have r1 := r.on w (r.exA ex)
    have w2 := r.wfA w ex w1
    refine RS.trans (.of (r.exA ex)) ?_
    cases k with
    | false => exact RS.nx w2 r1 fun j o => .inl o
    | true =>
      simp only [if_true]
      have H := hb w2 r1
      cases eb : b ρp s1 with
      | none => trivial
      | some z =>
        rw [eb] at H
        cases z with
        | nx ρp2 s2 => obtain ⟨ρ2, h2, A2, e2, w3, r2, t⟩ := H; rw [e2]; exact RS.trans t (while_go hc hb n _ _ _ _ _ w3 r2)
        | ct ρp2 s2 => obtain ⟨ρ2, h2, A2, e2, w3, r2, t⟩ := H; rw [e2]; exact RS.trans t (while_go hc hb n _ _ _ _ _ w3 r2)
        | bk ρp2 s2 => obtain ⟨ρ2, h2, A2, e2, w3, r2, t⟩ := H; rw [e2]; exact ⟨ρ2, h2, A2, rfl, w3, r2, t⟩
        | rt q s2 => obtain ⟨u2, h2, A2, e2, w3, v2, t⟩ := H; rw [e2]; exact ⟨u2, h2, A2, rfl, w3, v2, t⟩
        | ex c fs ws ρp2 s2 => obtain ⟨us2, ρ2, h2, A2, e2, ln, w3, r2, v2, t⟩ := H; rw [e2]; exact ⟨us2, ρ2, h2, A2, rfl, ln, w3, r2, v2, t⟩
theorem RS.ex_some {X : Xx} {h : Hm} {A O : Al} {x : Pq} {y : Option Sz} (H : RS X h A O (some x) y) : ∃ z, y = some z := by
  cases x with
  | nx ρp s => obtain ⟨ρ, h', A', e, _⟩ := H; exact ⟨_, e⟩
  | bk ρp s => obtain ⟨ρ, h', A', e, _⟩ := H; exact ⟨_, e⟩
  | ct ρp s => obtain ⟨ρ, h', A', e, _⟩ := H; exact ⟨_, e⟩
  | rt p s => obtain ⟨ρ, h', A', e, _⟩ := H; exact ⟨_, e⟩
  | ex c fs ws ρp s => obtain ⟨us, ρ, h', A', e, _⟩ := H; exact ⟨_, e⟩
theorem sWhile {mc : MT} {mb : MS} {c : PT} {b : PS} (hc : ST mc c) (hb : SS mb b) : SS (mWhile mc mb) (pWhile c b) := fun X h A s ρ ρp w r => by
  unfold pWhile
  split
  · rename_i z
    generalize Classical.choose z = n
    cases e : pWhileN c b n ρp s with
    | none => trivial
    | some q =>
      have H := while_go hc hb n h A s ρp ρ w r
      rw [e] at H
      obtain ⟨y, ey⟩ := RS.ex_some H
      rw [ey] at H
      rw [mWhile_eq ey]
      exact H
  · trivial
theorem pWhileN_mono {c : PT} {b : PS} : ∀ {n : Nat} {ρ : TEv} {s : DS} {r : Pq}, pWhileN c b n ρ s = some r → pWhileN c b (n + 1) ρ s = some r
  | 0, _, _, _, e => by cases e
  | n + 1, ρ, s, r, e => by
    unfold pWhileN at e ⊢
    cases ec : c (vA ρ) s with
    | none => rw [ec] at e; cases e
    | some rc =>
      rw [ec] at e
      cases rc with
      | ex c1 fs ws h1 => exact e
      | ok k s1 =>
        simp only [pbS_ok] at e ⊢
        cases k with
        | false => exact e
        | true =>
          simp only [if_true] at e ⊢
          cases eb : b ρ s1 with
          | none => rw [eb] at e; cases e
          | some rb =>
            rw [eb] at e
            cases rb with
            | nx ρ2 h2 => exact pWhileN_mono e
            | ct ρ2 h2 => exact pWhileN_mono e
            | bk ρ2 h2 => exact e
            | rt w h2 => exact e
            | ex c fs ws ρ2 h2 => exact e
theorem pWhileN_le {c : PT} {b : PS} {n m : Nat} {ρ : TEv} {s : DS} {r : Pq} (hl : n ≤ m) (e : pWhileN c b n ρ s = some r) : pWhileN c b m ρ s = some r := by
  induction hl with
  | refl => exact e
  | step _ ih => exact pWhileN_mono ih
theorem pWhile_eq {c : PT} {b : PS} {n : Nat} {ρ : TEv} {s : DS} {r : Pq} (e : pWhileN c b n ρ s = some r) : pWhile c b ρ s = some r := by
  have z : ∃ n, pWhileN c b n ρ s ≠ none := ⟨n, by rw [e]; simp⟩
  unfold pWhile
  rw [dif_pos z]
  have q := Classical.choose_spec z
  cases e2 : pWhileN c b (Classical.choose z) ρ s with
  | none => exact absurd e2 q
  | some r2 =>
    rcases Nat.le_total n (Classical.choose z) with l | l
    · rw [pWhileN_le l e] at e2
      exact e2.symm
    · rw [pWhileN_le l e2] at e
      exact e
end PL

set_option maxHeartbeats 4000000
namespace PL
open PySem L2 ML
/-! errors -/
abbrev PX := List P → Option (List Str × List P)
def SX (mk : MX) (px : PX) : Prop := ∀ ⦃X h A s us ps fs ws⦄, Wf X h A s → Vs X h A ps us → px ps = some (fs, ws) → ∃ us' h' A', mk us h = some (fs.zip us', h') ∧ fs.length = us'.length ∧ Ex X h A h' A' ∧ Wf X h' A' s ∧ Vs X h' A' ws us'
def x1 (f : Str) : PX := fun ps => match ps with
  | [p] => some ([f], [p])
  | _ => none
def x2 (f1 f2 : Str) : PX := fun ps => match ps with
  | [p, q] => some ([f2, f1], [q, p])
  | _ => none
def x2s (f1 f2 : Str) : PX := fun ps => match ps with
  | [.str a, q] => if a.length ≤ LIM then some ([f2, f1], [q, .str a]) else none
  | _ => none
def x2t (f1 f2 : Str) : PX := fun ps => match ps with
  | [q, .str a] => if a.length ≤ LIM then some ([f2, f1], [.str a, q]) else none
  | _ => none
def xL (f : Str) : PX := fun ps => match ps with
  | [.lst us] => some ([f], [.lst us])
  | [.tup us] => some ([f], [.lst us])
  | _ => none
theorem sx1 {f : Str} : SX (mk1 f) (x1 f) := fun X h A s us ps fs ws w v e => by
  unfold x1 at e
  split at e
  · cases e
    obtain ⟨u, rfl, v1⟩ := one_v v
    exact ⟨[u], h, A, rfl, rfl, .refl, w, v⟩
  · cases e
theorem sx2 {f1 f2 : Str} : SX (mk2 f1 f2) (x2 f1 f2) := fun X h A s us ps fs ws w v e => by
  unfold x2 at e
  split at e
  · cases e
    obtain ⟨u, x, rfl, v1, v2⟩ := two_v v
    exact ⟨[x, u], h, A, rfl, rfl, .refl, w, Vs.cons v2 (Vs.cons v1 Vs.nil)⟩
  · cases e
theorem sx2s {f1 f2 : Str} : SX (mk2s f1 f2) (x2s f1 f2) := fun X h A s us ps fs ws w v e => by
  unfold x2s at e
  split at e
  · split at e
    · rename_i hl
      cases e
      obtain ⟨u, x, rfl, v1, v2⟩ := two_v v
      have v1' := v1
      simp only [V] at v1
      subst v1
      exact ⟨[x, _], h, A, by unfold mk2s; simp only [hl, if_true]; rfl, rfl, .refl, w, Vs.cons v2 (Vs.cons v1' Vs.nil)⟩
    · cases e
  · cases e
theorem sx2t {f1 f2 : Str} : SX (mk2t f1 f2) (x2t f1 f2) := fun X h A s us ps fs ws w v e => by
  unfold x2t at e
  split at e
  · split at e
    · rename_i hl
      cases e
      obtain ⟨u, x, rfl, v1, v2⟩ := two_v v
      have v2' := v2
      simp only [V] at v2
      subst v2
      exact ⟨[_, u], h, A, by unfold mk2t; simp only [hl, if_true]; rfl, rfl, .refl, w, Vs.cons v2' (Vs.cons v1 Vs.nil)⟩
    · cases e
  · cases e
theorem sxL {f : Str} : SX (mkL f) (xL f) := fun X h A s us ps fs ws w v e => by
  unfold xL at e
  have fin : ∀ {us : List U} {ps : List P}, Vs X h A ps us → ∃ us' h' A', some ([(f, U.ref h.length)], h ++ [.lst us]) = some ([f].zip us', h') ∧ [f].length = us'.length ∧ Ex X h A h' A' ∧ Wf X h' A' s ∧ Vs X h' A' [.lst ps] us' := fun {us ps} r => by
    refine ⟨[.ref h.length], h ++ [.lst us], A.add h.length, rfl, rfl, (Ex.app _).add (Nat.le_refl _), (w.app _).add (by simp) (by have := w.dlt; omega), Vs.cons ?_ Vs.nil⟩
    simp only [V]
    exact ⟨h.length, us, rfl, .inr rfl, by simp, Vs.mono (fun i a => ⟨.inl a, List.getElem?_append_left (w.bd i a).1⟩) _ _ r⟩
  split at e
  · cases e
    obtain ⟨u, rfl, v1⟩ := one_v v
    simp only [V] at v1
    obtain ⟨i, us, rfl, a, ei, r⟩ := v1
    unfold mkL
    simp only [ev_rdL ei]
    exact fin r
  · cases e
    obtain ⟨u, rfl, v1⟩ := one_v v
    simp only [V] at v1
    obtain ⟨us, rfl, r⟩ := v1
    unfold mkL
    simp only
    exact fin r
  · cases e
def pRaise (c : Nat) (px : PX) (es : PA) : PS := fun ρ s => pbS ρ (es (vA ρ) s) fun ps s1 => if kps ρ ps = true then match px ps with
    | some (fs, ws) => some (.ex c fs ws ρ s1)
    | none => none
  else none
def pRaiseH (c : Nat) (px : PX) (es : PA) : PS := fun ρ s => pbH ρ (es (vH ρ) s) fun ps s1 => match px ps with
    | some (fs, ws) => some (.ex c fs ws ρ s1)
    | none => none
theorem sRaise {c : Nat} {mk : MX} {px : PX} {ms : MA} {es : PA} (hx : SX mk px) (hs : SA ms es) : SS (mRaise c mk ms) (pRaise c px es) := fun X h A s ρ ρp w r => RS.bndA w r (hs (r.wA w) r.rA) fun ps us s1 h1 A1 ex w1 v => by
  split
  · rename_i hk
    cases e : px ps with
    | none => trivial
    | some z =>
      obtain ⟨fs, ws⟩ := z
      have w2 := r.wfA w ex w1
      obtain ⟨us', h2, A2, em, ln, ex2, w3, v3⟩ := hx w2 (r.kps ex v hk) e
      simp only [em]
      exact ⟨us', ρ, h2, A2, rfl, ln, w3, (r.on w (r.exA ex)).on w2 ex2, v3, (St.of (r.exA ex)).trans (.of ex2)⟩
  · trivial
theorem sRaiseH {c : Nat} {mk : MX} {px : PX} {ms : MA} {es : PA} (hx : SX mk px) (hs : SA ms es) : SS (mRaise c mk ms) (pRaiseH c px es) := fun X h A s ρ ρp w r => RS.bndH w r (hs w r.re) fun ps us s1 h1 A1 ex w1 r1 v => by
  cases e : px ps with
  | none => trivial
  | some z =>
    obtain ⟨fs, ws⟩ := z
    obtain ⟨us', h2, A2, em, ln, ex2, w3, v3⟩ := hx w1 v e
    simp only [em]
    exact ⟨us', ρ, h2, A2, rfl, ln, w3, r1.on w1 ex2, v3, .of ex2⟩
def pRaise0 (c : Nat) : PS := fun ρ s => some (.ex c [] [] ρ s)
theorem sRaise0 {c : Nat} : SS (mRaise0 c) (pRaise0 c) := fun X h A s ρ ρp w r => ⟨[], ρ, h, A, rfl, rfl, w, r, Vs.nil, .refl⟩
/-! try -/
def pTryEnd (i : Nat) : Option Pq → Option Pq
  | some (.nx ρ s) => some (.nx (ρ.set i none) s)
  | some (.bk ρ s) => some (.bk (ρ.set i none) s)
  | some (.ct ρ s) => some (.ct (ρ.set i none) s)
  | some (.rt p s) => some (.rt p s)
  | _ => none
def pTry (tab : Nat → Option Bool) (i : Nat) (b su : PS) : PS := fun ρ s => match b ρ s with
  | some (.ex c fs ws ρ1 s1) => match tab c with
    | some true => pTryEnd i (su (ρ1.set i (some (.sh (.exc c fs ws)))) s1)
    | some false => some (.ex c fs ws ρ1 s1)
    | none => none
  | r => r
theorem RS.tryEnd {X : Xx} {h : Hm} {A O : Al} {i : Nat} {x : Option Pq} {y : Option Sz} (H : RS X h A O x y) : RS X h A O (pTryEnd i x) (match (generalizing := false) y with | some (.ex _ _ _ _) => none | r => ML.tryEnd i r) := by
  cases x with
  | none => trivial
  | some z =>
    cases z with
    | nx ρp s => obtain ⟨ρ, h', A', rfl, w, r, t⟩ := H; exact ⟨ρ.set i none, h', A', rfl, w, r.unset i, t.own' fun j o => .inl (ow_unset o)⟩
    | bk ρp s => obtain ⟨ρ, h', A', rfl, w, r, t⟩ := H; exact ⟨ρ.set i none, h', A', rfl, w, r.unset i, t.own' fun j o => .inl (ow_unset o)⟩
    | ct ρp s => obtain ⟨ρ, h', A', rfl, w, r, t⟩ := H; exact ⟨ρ.set i none, h', A', rfl, w, r.unset i, t.own' fun j o => .inl (ow_unset o)⟩
    | rt p s => obtain ⟨u, h', A', rfl, w, v, t⟩ := H; exact ⟨u, h', A', rfl, w, v, t⟩
    | ex c fs ws ρp s => trivial
theorem exc_slot {X : Xx} {h h1 : Hm} {A A1 O : Al} {s1 : DS} {ρ1 : Ev} {ρp1 : TEv} {c : Nat} {fs : List Str} {ws : List P} {us : List U} {i : Nat} (ln : fs.length = us.length) (w1 : Wf X h1 A1 s1) (r1 : RT X h1 A1 ρp1 ρ1) (v1 : Vs X h1 A1 ws us) (t : St X h A O h1 A1 (Ow ρp1 ρ1)) :
    Wf X (h1 ++ [.exc c (fs.zip us)]) (A1.add h1.length) s1 ∧ RT X (h1 ++ [.exc c (fs.zip us)]) (A1.add h1.length) (ρp1.set i (some (.sh (.exc c fs ws)))) (ρ1.set i (some (.ref h1.length))) ∧ St X h A O (h1 ++ [.exc c (fs.zip us)]) (A1.add h1.length) (Ow (ρp1.set i (some (.sh (.exc c fs ws)))) (ρ1.set i (some (.ref h1.length)))) := by
  have ex : Ex X h1 A1 (h1 ++ [.exc c (fs.zip us)]) (A1.add h1.length) := (Ex.app _).add (Nat.le_refl _)
  have hd : h1.length ≠ X.D := by have := w1.dlt; omega
  refine ⟨(w1.app _).add (by simp) hd, (r1.on w1 ex).setS ?_ i, (t.trans (.of ex)).own' fun j o => .inl (ow_setS o)⟩
  simp only [V]
  exact ⟨h1.length, us, rfl, .inr rfl, by simp, ln, ex.vs w1 v1⟩
theorem sTry {tab : Nat → Option Bool} {i : Nat} {m n : MS} {b su : PS} (hb : SS m b) (hs : SS n su) : SS (mTry tab i m n) (pTry tab i b su) := fun X h A s ρ ρp w r => by
  have H := hb w r
  unfold pTry mTry
  cases e : b ρp s with
  | none => trivial
  | some z =>
    rw [e] at H
    cases z with
    | nx ρp1 s1 => obtain ⟨ρ1, h1, A1, e1, q⟩ := H; rw [e1]; exact ⟨ρ1, h1, A1, rfl, q⟩
    | bk ρp1 s1 => obtain ⟨ρ1, h1, A1, e1, q⟩ := H; rw [e1]; exact ⟨ρ1, h1, A1, rfl, q⟩
    | ct ρp1 s1 => obtain ⟨ρ1, h1, A1, e1, q⟩ := H; rw [e1]; exact ⟨ρ1, h1, A1, rfl, q⟩
    | rt p s1 => obtain ⟨u, h1, A1, e1, q⟩ := H; rw [e1]; exact ⟨u, h1, A1, rfl, q⟩
    | ex c fs ws ρp1 s1 =>
      obtain ⟨us, ρ1, h1, A1, e1, ln, w1, r1, v1, t⟩ := H
      rw [e1]
      simp only
      cases ht : tab c with
      | none => trivial
      | some k =>
        cases k with
        | false => exact ⟨us, ρ1, h1, A1, rfl, ln, w1, r1, v1, t⟩
        | true =>
          obtain ⟨w2, r2, t2⟩ := exc_slot (c := c) (i := i) ln w1 r1 v1 t
          exact RS.tryEnd (RS.trans t2 (hs w2 r2))
structure PRow where
  tab : Nat → Option Bool
  i : Nat
  suite : PS
def catchP : List PRow → Nat → List Str → List P → TEv → DS → Option Pq
  | [], c, fs, ws, ρ, s => some (.ex c fs ws ρ s)
  | r :: l, c, fs, ws, ρ, s => match r.tab c with
    | some true => pTryEnd r.i (r.suite (ρ.set r.i (some (.sh (.exc c fs ws)))) s)
    | some false => catchP l c fs ws ρ s
    | none => none
def pTryN (l : List PRow) (b : PS) : PS := fun ρ s => match b ρ s with
  | some (.ex c fs ws ρ1 s1) => catchP l c fs ws ρ1 s1
  | r => r
inductive SRows : List Row → List PRow → Prop where
  | nil : SRows [] []
  | cons {tab : Nat → Option Bool} {i : Nat} {m : MS} {p : PS} {l : List Row} {l' : List PRow} (h : SS m p) (r : SRows l l') : SRows (⟨tab, i, m⟩ :: l) (⟨tab, i, p⟩ :: l')
theorem catch_ok {X : Xx} {h h1 : Hm} {A A1 O : Al} {s1 : DS} {ρ1 : Ev} {ρp1 : TEv} {c : Nat} {fs : List Str} {ws : List P} {us : List U} (ln : fs.length = us.length) (w1 : Wf X h1 A1 s1) (r1 : RT X h1 A1 ρp1 ρ1) (v1 : Vs X h1 A1 ws us) (t : St X h A O h1 A1 (Ow ρp1 ρ1)) :
    ∀ {l : List Row} {l' : List PRow}, SRows l l' → RS X h A O (catchP l' c fs ws ρp1 s1) (catchN l c (fs.zip us) ρ1 h1)
  | _, _, .nil => ⟨us, ρ1, h1, A1, rfl, ln, w1, r1, v1, t⟩
  | _, _, .cons (tab := tab) (i := i) hs rr => by
    unfold catchP catchN
    simp only
    cases ht : tab c with
    | none => trivial
    | some k =>
      cases k with
      | false => exact catch_ok ln w1 r1 v1 t rr
      | true =>
        obtain ⟨w2, r2, t2⟩ := exc_slot (c := c) (i := i) ln w1 r1 v1 t
        exact RS.tryEnd (RS.trans t2 (hs w2 r2))
theorem sTryN {l : List Row} {l' : List PRow} {m : MS} {b : PS} (hb : SS m b) (hl : SRows l l') : SS (mTryN l m) (pTryN l' b) := fun X h A s ρ ρp w r => by
  have H := hb w r
  unfold pTryN mTryN
  cases e : b ρp s with
  | none => trivial
  | some z =>
    rw [e] at H
    cases z with
    | nx ρp1 s1 => obtain ⟨ρ1, h1, A1, e1, q⟩ := H; rw [e1]; exact ⟨ρ1, h1, A1, rfl, q⟩
    | bk ρp1 s1 => obtain ⟨ρ1, h1, A1, e1, q⟩ := H; rw [e1]; exact ⟨ρ1, h1, A1, rfl, q⟩
    | ct ρp1 s1 => obtain ⟨ρ1, h1, A1, e1, q⟩ := H; rw [e1]; exact ⟨ρ1, h1, A1, rfl, q⟩
    | rt p s1 => obtain ⟨u, h1, A1, e1, q⟩ := H; rw [e1]; exact ⟨u, h1, A1, rfl, q⟩
    | ex c fs ws ρp1 s1 =>
      obtain ⟨us, ρ1, h1, A1, e1, ln, w1, r1, v1, t⟩ := H
      rw [e1]
      exact catch_ok ln w1 r1 v1 t hl
/-! defs -/
def inE (N n : Nat) (ps : List P) : TEv := ps.map (fun p => some (.sh p)) ++ List.replicate (N - n) none
def pfun (n N : Nat) (b : PS) : PF := fun ps s => if ps.length = n then match b (inE N n ps) s with
    | some (.nx _ s1) => some (.ok .non s1)
    | some (.rt p s1) => some (.ok p s1)
    | some (.ex c fs ws _ s1) => some (.ex c fs ws s1)
    | _ => none
  else none
theorem inE_at {X : Xx} {h : Hm} {A : Al} {ps : List P} {us : List U} {k : Nat} (v : Vs X h A ps us) : RT X h A (ps.map (fun p => some (.sh p)) ++ List.replicate k none) (us.map some ++ List.replicate k none) ∧ ∀ (i : Nat) (p : P), (ps.map (fun p => some (Sl.sh p)) ++ List.replicate k none)[i]? ≠ some (some (.ow p)) := by
  have no : ∀ (i : Nat) (p : P), (ps.map (fun p => some (Sl.sh p)) ++ List.replicate k none)[i]? ≠ some (some (.ow p)) := fun i p e => by
    by_cases hi : i < ps.length
    · rw [List.getElem?_append_left (by simpa using hi), List.getElem?_map] at e
      cases e1 : ps[i]? with
      | none => rw [e1] at e; cases e
      | some q => rw [e1] at e; cases e
    · rw [List.getElem?_append_right (by simpa using hi)] at e
      rw [List.getElem?_replicate] at e
      split at e <;> cases e
  refine ⟨⟨by simp [v.length], fun i p e => ?_, fun i p e => absurd e (no i p), fun i i' p p' j e => absurd e (no i p)⟩, no⟩
  by_cases hi : i < ps.length
  · rw [List.getElem?_append_left (by simpa using hi), List.getElem?_map] at e
    cases e1 : ps[i]? with
    | none => rw [e1] at e; cases e
    | some q =>
      rw [e1] at e
      simp at e
      subst e
      obtain ⟨u, e2, v2⟩ := v.get e1
      exact ⟨u, by rw [List.getElem?_append_left (by simp [v.length]; exact hi), List.getElem?_map, e2]; rfl, v2⟩
  · rw [List.getElem?_append_right (by simpa using hi), List.getElem?_replicate] at e
    split at e <;> cases e
theorem St.ex {X : Xx} {h h' : Hm} {A A' O O' : Al} (t : St X h A O h' A' O') (k : ∀ j, ¬ O j) : Ex X h A h' A' := ⟨t.len, t.sub, fun i a => by
  rcases t.new i a with q | q | q
  · exact .inl q
  · exact absurd q (k i)
  · exact .inr q, fun i q d => t.oth i q d (k i)⟩
theorem sFun {n N : Nat} {m : MS} {b : PS} (hb : SS m b) : SF (mfun n N m) (pfun n N b) := fun X h A s us ps w v => by
  unfold pfun mfun
  rw [v.length]
  split
  · rename_i hn
    obtain ⟨r, no⟩ := inE_at (k := N - n) v
    have H := hb w r
    have nO : ∀ j, ¬ Ow (ps.map (fun p => some (Sl.sh p)) ++ List.replicate (N - n) none) (us.map some ++ List.replicate (N - n) none) j := fun j ⟨i, p, e, _⟩ => no i p e
    show RR X (V X) h A (match b (inE N n ps) s with | some (.nx _ s1) => some (.ok .non s1) | some (.rt p s1) => some (.ok p s1) | some (.ex c fs ws _ s1) => some (.ex c fs ws s1) | _ => none) _
    unfold inE
    cases e : b (ps.map (fun p => some (Sl.sh p)) ++ List.replicate (N - n) none) s with
    | none => trivial
    | some z =>
      rw [e] at H
      cases z with
      | nx ρp1 s1 => obtain ⟨ρ1, h1, A1, e1, w1, r1, t⟩ := H; rw [e1]; exact ⟨.non, h1, A1, rfl, t.ex nO, w1, by simp [V]⟩
      | rt p s1 => obtain ⟨u, h1, A1, e1, w1, v1, t⟩ := H; rw [e1]; exact ⟨u, h1, A1, rfl, t.ex nO, w1, v1⟩
      | ex c fs ws ρp1 s1 => obtain ⟨us1, ρ1, h1, A1, e1, ln, w1, r1, v1, t⟩ := H; rw [e1]; exact ⟨us1, h1, A1, rfl, ln, t.ex nO, w1, v1⟩
      | bk ρp1 s1 => trivial
      | ct ρp1 s1 => trivial
  · trivial
/-! the making of objects -/
def K0 (ρ : Ev) : Sz → Prop
  | .nx ρ' _ => ρ'[0]? = ρ[0]?
  | .bk ρ' _ => ρ'[0]? = ρ[0]?
  | .ct ρ' _ => ρ'[0]? = ρ[0]?
  | .ex _ _ ρ' _ => ρ'[0]? = ρ[0]?
  | .rt _ _ => True
def KP (m : MS) : Prop := ∀ ρ h r, m ρ h = some r → K0 ρ r
theorem kBnd {α : Type} {ρ : Ev} {x : Option (Rz α)} {k : α → Hm → Option Sz} {r : Sz} (hk : ∀ a h r, k a h = some r → K0 ρ r) (e : bndS ρ x k = some r) : K0 ρ r := by
  cases x with
  | none => cases e
  | some z =>
    cases z with
    | ok a h => exact hk a h r e
    | ex c fs h => cases e; exact rfl
theorem kSkip : KP mSkip := fun ρ h r e => by cases e; rfl
theorem kSeq {a b : MS} (ha : KP a) (hb : KP b) : KP (mSeq a b) := fun ρ h r e => by
  unfold mSeq at e
  cases e1 : a ρ h with
  | none => rw [e1] at e; cases e
  | some z =>
    rw [e1] at e
    have q := ha ρ h z e1
    cases z with
    | nx ρ1 h1 =>
      have q2 := hb ρ1 h1 r e
      cases r <;> first | trivial | exact q2.trans q
    | rt u h1 => cases e; trivial
    | bk ρ1 h1 => cases e; exact q
    | ct ρ1 h1 => cases e; exact q
    | ex c fs ρ1 h1 => cases e; exact q
theorem kDrop {e : ME} : KP (mDrop e) := fun ρ h r q => kBnd (fun a h r e => by cases e; rfl) q
theorem kRetN : KP mRetN := fun ρ h r q => by cases q; trivial
theorem kSet {i : Nat} {e : ME} (hi : i ≠ 0) : KP (mSet i e) := fun ρ h r q => kBnd (fun a h r e => by cases e; exact List.getElem?_set_ne hi) q
theorem kIf {c : MT} {a b : MS} (ha : KP a) (hb : KP b) : KP (mIf c a b) := fun ρ h r q => kBnd (fun k h r e => by
  cases k with
  | true => exact ha ρ h r e
  | false => exact hb ρ h r e) q
theorem kSetAt {f : Str} {ok : Nat → Bool} {o e : ME} : KP (mSetAt f ok o e) := fun ρ h r q => kBnd (fun a h r e => kBnd (fun x h2 r e2 => by
  cases x with
  | ref i =>
    simp only at e2
    split at e2
    · split at e2
      · cases e2; rfl
      · cases e2
    · cases e2
  | _ => cases e2) e) q
theorem kRaise {c : Nat} {mk : MX} {es : MA} : KP (mRaise c mk es) := fun ρ h r q => kBnd (fun a h r e => by
  split at e
  · cases e; rfl
  · cases e) q
def KG (g : MG) : Prop := ∀ u ρ ρ', g u ρ = some ρ' → ρ'[0]? = ρ[0]?
def KGs (g : MGs) : Prop := ∀ u ρ ρ', g u ρ = some ρ' → ρ'[0]? = ρ[0]?
theorem kN {i : Nat} (hi : i ≠ 0) : KG (gN i) := fun u ρ ρ' e => by cases e; exact List.getElem?_set_ne hi
theorem kE : KGs gE := fun u ρ ρ' e => by
  cases u with
  | nil => cases e; rfl
  | cons a b => cases e
theorem kC {a : MG} {b : MGs} (ha : KG a) (hb : KGs b) : KGs (gC a b) := fun u ρ ρ' e => by
  cases u with
  | nil => cases e
  | cons x xs =>
    unfold gC at e
    simp only at e
    cases e1 : a x ρ with
    | none => rw [e1] at e; cases e
    | some ρ1 => rw [e1] at e; exact (hb _ _ _ e).trans (ha _ _ _ e1)
theorem kT {n : Nat} {g : MGs} (hg : KGs g) : KG (gT n g) := fun u ρ ρ' e => by
  cases u with
  | tup ws =>
    unfold gT at e
    simp only at e
    split at e
    · exact hg _ _ _ e
    · cases e
  | _ => cases e
theorem kForC {chk : Hm → Prop} {g : MG} {b : MS} (hg : KG g) (hb : KP b) : ∀ (us : List U), KP (forC chk g b us)
  | [], ρ, h, r, e => by
    unfold forC at e
    split at e
    · cases e; rfl
    · cases e
  | u :: us, ρ, h, r, e => by
    unfold forC at e
    split at e
    · cases e1 : g u ρ with
      | none => rw [e1] at e; cases e
      | some ρ1 =>
        rw [e1] at e
        simp only at e
        have q0 := hg _ _ _ e1
        cases e2 : b ρ1 h with
        | none => rw [e2] at e; cases e
        | some z =>
          rw [e2] at e
          have q1 := hb _ _ _ e2
          cases z with
          | nx ρ2 h2 => have q2 := kForC hg hb us ρ2 h2 r e; cases r <;> first | trivial | exact (q2.trans q1).trans q0
          | ct ρ2 h2 => have q2 := kForC hg hb us ρ2 h2 r e; cases r <;> first | trivial | exact (q2.trans q1).trans q0
          | bk ρ2 h2 => cases e; exact q1.trans q0
          | rt v h2 => cases e; trivial
          | ex c fs ρ2 h2 => cases e; exact q1.trans q0
    · cases e
theorem kFor {it : MI} {g : MG} {b : MS} (hg : KG g) (hb : KP b) : KP (mFor it g b) := fun ρ h r q => kBnd (fun a h r e => kForC hg hb a.1 ρ h r e) q
def pinit (c n N : Nat) (b : PS) : PN := fun ps s => if ps.length + 1 = n then match b (some (.ow (.ins c [] [])) :: inE N n ps) s with
    | some (.nx ρ s1) => match (ρ[0]? : Option (Option Sl)) with
      | some (some (.ow (.ins c' fs ws))) => if c' = c then some (.ok (fs, ws) s1) else none
      | _ => none
    | some (.ex c' fs ws _ s1) => some (.ex c' fs ws s1)
    | _ => none
  else none
theorem sInit {c n N : Nat} {m : MS} {b : PS} (hb : SS m b) (hk : KP m) : SN c (mfun n N m) (pinit c n N b) := fun X h A s us ps w v => by
  unfold pinit mfun
  by_cases hn : ps.length + 1 = n
  · rw [if_pos hn, if_pos (by simp [v.length, hn])]
    have x0 : Ex X h A (h ++ [.ins c []]) A := Ex.app _
    obtain ⟨r, no⟩ := inE_at (k := N - n) (x0.vs w v)
    have hd : h.length ≠ X.D := by have := w.dlt; omega
    have na : ¬ A h.length := fun a => Nat.lt_irrefl _ (w.bd _ a).1
    have r2 : RT X (h ++ [.ins c []]) A (some (.ow (.ins c [] [])) :: inE N n ps) (some (.ref h.length) :: (us.map some ++ List.replicate (N - n) none)) := by
      refine ⟨by simp [inE, v.length], fun i p e => ?_, fun i p e => ?_, fun i i' p p' j e e' f f' => ?_⟩
      · cases i with
        | zero => simp at e
        | succ i => simpa using r.sh i p (by simpa [inE] using e)
      · cases i with
        | zero =>
          simp at e
          subst e
          exact ⟨h.length, by simp, by simp, hd, na, [], by simp, rfl, Vs.nil⟩
        | succ i => exact absurd (by simpa [inE] using e) (no i p)
      · cases i with
        | zero =>
          cases i' with
          | zero => rfl
          | succ i' => exact absurd (by simpa [inE] using e') (no i' p')
        | succ i => exact absurd (by simpa [inE] using e) (no i p)
    have H := hb (w.app (.ins c [])) r2
    have oO : ∀ j, Ow (some (.ow (.ins c [] [])) :: inE N n ps) (some (.ref h.length) :: (us.map some ++ List.replicate (N - n) none)) j → j = h.length := fun j ⟨i, p, e, f⟩ => by
      cases i with
      | zero => simp at f; exact f.symm
      | succ i => exact absurd (by simpa [inE] using e) (no i p)
    have exx : ∀ {h' : Hm} {A' O' : Al}, St X (h ++ [.ins c []]) A (Ow (some (.ow (.ins c [] [])) :: inE N n ps) (some (.ref h.length) :: (us.map some ++ List.replicate (N - n) none))) h' A' O' → Ex X h A h' A' := fun {h' A' O'} t =>
      ⟨by have := t.len; simp at this; omega, t.sub, fun i a => by
        rcases t.new i a with q | q | q
        · exact .inl q
        · exact .inr (by rw [oO i q]; exact Nat.le_refl _)
        · simp at q; exact .inr (by omega), fun i q d => by
        rw [t.oth i (by simp; omega) d fun o => by have := oO i o; omega, List.getElem?_append_left q]⟩
    rw [List.map_cons, List.cons_append]
    cases e : b (some (.ow (.ins c [] [])) :: inE N n ps) s with
    | none => trivial
    | some z =>
      rw [e] at H
      cases z with
      | nx ρp1 s1 =>
        obtain ⟨ρ1, h1, A1, e1, w1, r1, t⟩ := H
        rw [e1]
        simp only
        cases e3 : ρp1[0]? with
        | none => trivial
        | some o =>
          cases o with
          | none => trivial
          | some q =>
            cases q with
            | sh p => trivial
            | ow p =>
              cases p with
              | ins c' fs ws =>
                simp only
                split
                · rename_i hc
                  subst hc
                  obtain ⟨j, f1, jl, jd, ja, vs, f2, f3, f4⟩ := r1.ow 0 _ e3
                  have q : ρ1[0]? = _ := hk _ _ _ e1
                  rw [f1] at q
                  have q2 : h.length = j := by simpa using q.symm
                  subst q2
                  exact ⟨.non, h1, A1, rfl, exx t, w1, rfl, ja, jl, vs, f2, f3, f4⟩
                · trivial
              | _ => trivial
      | ex c' fs ws ρp1 s1 =>
        obtain ⟨us1, ρ1, h1, A1, e1, ln, w1, r1, v1, t⟩ := H
        rw [e1]
        exact ⟨us1, h1, A1, rfl, ln, exx t, w1, v1⟩
      | rt p s1 => trivial
      | bk ρp1 s1 => trivial
      | ct ρp1 s1 => trivial
  · rw [if_neg hn]; trivial
/-! *rest -/
def pstar (n : Nat) (f : PF) : PF := fun ps s => if n ≤ ps.length ∧ ps.length ≤ LIM then f (ps.take n ++ [.tup (ps.drop n)]) s else none
theorem sStar {n : Nat} {m : MF} {f : PF} (hf : SF m f) : SF (starOf n m) (pstar n f) := fun X h A s us ps w v => by
  unfold pstar starOf
  rw [v.length]
  split
  · exact hf w ((v.take n).append (Vs.cons (by simp only [V]; exact ⟨_, rfl, v.drop n⟩) Vs.nil))
  · trivial
def pstarN (n : Nat) (f : PN) : PN := fun ps s => if n ≤ ps.length ∧ ps.length + 1 ≤ LIM then f (ps.take n ++ [.tup (ps.drop n)]) s else none
theorem sStarN {c n : Nat} {m : MF} {f : PN} (hf : SN c m f) : SN c (starOf (n + 1) m) (pstarN n f) := fun X h A s us ps w v => by
  unfold pstarN starOf
  by_cases hn : n ≤ ps.length ∧ ps.length + 1 ≤ LIM
  · rw [if_pos hn, if_pos (by simpa [v.length] using hn)]
    exact hf w ((v.take n).append (Vs.cons (by simp only [V]; exact ⟨_, rfl, v.drop n⟩) Vs.nil))
  · rw [if_neg hn]; trivial
/-! an own list's item -/
def pSetIx (i : Nat) (e ix : PE) : PS := fun ρ s => match ρ[i]? with
  | some (some (.ow (.lst ps))) => pbH ρ (e (vH ρ) s) fun p s1 => match ix (vH ρ) s1 with
    | some (.ok (.int k) s2) => match ixN ps.length k with
      | some j => some (.nx (ρ.set i (some (.ow (.lst (ps.set j p))))) s2)
      | none => none
    | _ => none
  | _ => none
theorem sSetIx {i : Nat} {m mi : ME} {e ix : PE} (he : SE m e) (hi : SE mi ix) : SS (mSetIx m (mVar i) mi) (pSetIx i e ix) := fun X h A s ρ ρp w r => by
  unfold pSetIx
  split
  · rename_i ps ei
    refine RS.bndH w r (he w r.re) fun p u s1 h1 A1 ex w1 r1 v => ?_
    have H := hi w1 r1.re
    cases e1 : ix (vH ρp) s1 with
    | none => trivial
    | some z =>
      rw [e1] at H
      cases z with
      | ex c fs ws s2 => trivial
      | ok q s2 =>
        cases q with
        | int k =>
          simp only
          obtain ⟨u2, h2, A2, e2, ex2, w2, v2⟩ := H
          simp only [V] at v2
          subst v2
          have r2 := r1.on w1 ex2
          obtain ⟨j, ej, jl, jd, ja, us, ec, vs⟩ := r2.ow i _ ei
          cases ek : ixN ps.length k with
          | none => trivial
          | some n =>
            refine ⟨ρ, h2.set j (.lst (us.set n u)), A2, ?_, w2.set ja jd _, r2.chg ei ej ⟨us.set n u, by rw [List.getElem?_set_self jl], (Vs.set (ex2.v w1 v) n vs).hset ja _⟩, ?_⟩
            · rw [var_e ej]
              simp only [bndS_ok]
              rw [e2]
              simp only [bndS_ok, ec]
              rw [vs.length, ek]
            · have t := St.of (O := Ow ρp ρ) ex2
              refine ⟨by simpa using t.len, t.sub, t.new, fun k o => .inl (ow_chg ei o), fun k q d o => ?_⟩
              have : j ≠ k := fun z => o ⟨i, _, ei, by rw [ej, z]⟩
              rw [List.getElem?_set_ne this]
              exact t.oth k q d o
        | _ => trivial
  · trivial
end PL

set_option maxHeartbeats 4000000
namespace PL
open PySem L2 ML
/-! the draws -/
def mixA (a cell d : Int) : Int := (a.fmod 2147483647 * 48271 + cell.fmod 2147483629 + 7 * (d + 1) + 11).fmod 2147483647
def mixR (a d lim : Int) : Int := (((a * 69621 + (d + 1)).fmod 2147483629).fdiv 13).fmod lim
def cellS (s : DS) : Int := if s.ns = [] then 0 else (s.ns[(s.c.fmod s.ns.length).toNat]?).getD 0
def drw (s : DS) (lim : Int) : Int × DS :=
  if s.b = 1 ∧ 0 < s.a then (s.a.fmod lim, ⟨s.ns, s.a.fdiv lim, 1, s.c, s.d + 1⟩)
  else (mixR (mixA s.a (cellS s) s.d) s.d lim, ⟨s.ns, mixA s.a (cellS s) s.d, 0, s.c + 1, s.d + 1⟩)
def p__law_draw : PF := fun ps s => match ps with
  | [.scr, .st, .int lim] => if (decide (0 < lim) && decide (lim < 1073741824)) = true then some (.ok (.int (drw s lim).1) (drw s lim).2) else none
  | _ => none
theorem drw_lo {s : DS} {lim : Int} (h : 0 < lim) : 0 ≤ (drw s lim).1 := by
  unfold drw
  split
  · exact Int.fmod_nonneg_of_pos _ h
  · exact Int.fmod_nonneg_of_pos _ h
theorem drw_hi {s : DS} {lim : Int} (h : 0 < lim) : (drw s lim).1 < lim := by
  unfold drw
  split
  · exact Int.fmod_lt_of_pos _ h
  · exact Int.fmod_lt_of_pos _ h
/-- a draw: some number below the limit -/
theorem draw_ex (s : DS) (lim : Int) (h1 : 0 < lim) (h2 : lim < 1073741824) : ∃ (r : Int) (s' : DS), 0 ≤ r ∧ r < lim ∧ p__law_draw [.scr, .st, .int lim] s = some (.ok (.int r) s') := by
  refine ⟨(drw s lim).1, (drw s lim).2, drw_lo h1, drw_hi h1, ?_⟩
  unfold p__law_draw
  simp only
  rw [if_pos (by simp [h1, h2])]
/-- a law's run, from what its rest does -/
theorem law_fin {m0 : MF} {b brest : MS} {prest : PS} {N : Nat} {ns : List Int} {c : Cell} (hc : c = .lst (ns.map U.int) ∨ c = .frz (ns.map U.int))
    (h0 : ∃ a b : Int, 0 ≤ a ∧ m0 [.ref 0] [c] = some (.ok (.ref [c].length) ([c] ++ [.lst [.int a, .int b, .int 1, .int 0]]))) (hs : SS brest prest)
    (hp : ∀ s : DS, ∃ s', prest (some (.sh .scr) :: some (.sh .st) :: List.replicate N none) s = some (.rt (.bl true) s')) (hb : b = mSeq (mSet 1 (mCB m0 (mCons (mVar 0) mNil))) brest) :
    ∃ h', mfun 1 (N + 2) b [.ref 0] [c] = some (.ok (.bl true) h') := by
  obtain ⟨a, b0, ha, e0⟩ := h0
  subst hb
  have hrd : rd [c] 0 = some (ns.map U.int) := by rcases hc with rfl | rfl <;> simp [rd]
  let X : Xx := ⟨0, 1⟩
  let s : DS := ⟨ns, a, b0, 1, 0⟩
  let h1 : Hm := [c] ++ [.lst [.int a, .int b0, .int 1, .int 0]]
  have w : Wf X h1 (fun i => i = 0) s := by
    refine ⟨fun i e => ?_, rfl, ?_, by decide, rfl, ha⟩
    · subst e; exact ⟨by show 0 < 2; decide, by show (0 : Nat) ≠ 1; decide⟩
    · rcases hc with rfl | rfl <;> rfl
  have r : RT X h1 (fun i => i = 0) (some (.sh .scr) :: some (.sh .st) :: List.replicate N none) (some (.ref 0) :: some (.ref 1) :: List.replicate N none) := by
    have no : ∀ (i : Nat) (p : P), (some (Sl.sh .scr) :: some (.sh .st) :: List.replicate N none)[i]? ≠ some (some (.ow p)) := fun i p e => by
      match i with
      | 0 => simp at e
      | 1 => simp at e
      | i + 2 =>
        simp only [List.getElem?_cons_succ, List.getElem?_replicate] at e
        split at e <;> cases e
    refine ⟨by simp, fun i p e => ?_, fun i p e => absurd e (no i p), fun i i' p p' j e => absurd e (no i p)⟩
    match i with
    | 0 => simp at e; subst e; exact ⟨.ref 0, rfl, by simp [V, X]⟩
    | 1 => simp at e; subst e; exact ⟨.ref 1, rfl, by simp [V, X]⟩
    | i + 2 =>
      simp only [List.getElem?_cons_succ, List.getElem?_replicate] at e
      split at e <;> cases e
  have H := hs w r
  obtain ⟨s', es⟩ := hp s
  rw [es] at H
  obtain ⟨u, h', A', e, _, v, _⟩ := H
  simp only [V] at v
  subst v
  refine ⟨h', ?_⟩
  unfold mfun
  rw [if_pos (show [U.ref 0].length = 1 from rfl)]
  have q : mSeq (mSet 1 (mCB m0 (mCons (mVar 0) mNil))) brest ([U.ref 0].map some ++ List.replicate (N + 2 - 1) none) [c] = some (.rt (.bl true) h') := by
    show mSeq _ _ (some (.ref 0) :: List.replicate (N + 1) none) [c] = _
    have e1 : mSet 1 (mCB m0 (mCons (mVar 0) mNil)) (some (.ref 0) :: List.replicate (N + 1) none) [c] = some (.nx (some (.ref 0) :: some (.ref 1) :: List.replicate N none) h1) := by
      unfold mSet mCB mCons mVar mNil
      simp only [List.getElem?_cons_zero, bnd_ok]
      rw [e0]
      rfl
    unfold mSeq
    rw [e1]
    exact e
  rw [q]
end PL

set_option maxHeartbeats 4000000
/-! rising maps: values and rows -/
namespace RM
structure Rf (A : Int → Int) (n : Nat) : Prop where
  lo : ∀ t, 0 ≤ t → t ≤ A t
  up : ∀ t, 0 ≤ t → A t ≤ A (t + 1)
  go : ∀ t, (n : Int) ≤ t → A (t + 1) = A t + 1
def rows (A : Int → Int) (n : Nat) : List Row := fin (walk A (n + 2))
theorem Rf.mono {A : Int → Int} {n m : Nat} (h : Rf A n) (q : n ≤ m) : Rf A m := ⟨h.lo, h.up, fun t ht => h.go t (by omega)⟩
theorem Rf.le {A : Int → Int} {n : Nat} (h : Rf A n) {s t : Int} (h0 : 0 ≤ s) (hs : s ≤ t) : A s ≤ A t := by
  obtain ⟨k, hk⟩ : ∃ k : Nat, t = s + k := ⟨(t - s).toNat, by omega⟩
  subst hk
  clear hs
  induction k with
  | zero => simp
  | succ k ih =>
    have := h.up (s + k) (by omega)
    rw [show s + ((k + 1 : Nat) : Int) = s + k + 1 by omega]
    omega
theorem Rf.far {A : Int → Int} {n : Nat} (h : Rf A n) {s t : Int} (h0 : (n : Int) ≤ s) (hs : s ≤ t) : A t = A s + (t - s) := by
  obtain ⟨k, hk⟩ : ∃ k : Nat, t = s + k := ⟨(t - s).toNat, by omega⟩
  subst hk
  clear hs
  induction k with
  | zero => simp
  | succ k ih =>
    have := h.go (s + k) (by omega)
    rw [show s + ((k + 1 : Nat) : Int) = s + k + 1 by omega]
    omega
theorem Rf.st {A : Int → Int} {n : Nat} (h : Rf A n) : (walk A (n + 2)).st = some 1 := st_end n (h.go _ (by omega)) (h.go _ (by omega))
theorem rows_ext {A : Int → Int} {n m : Nat} (h : Rf A n) (q : n ≤ m) : rows A m = rows A n := by
  obtain ⟨k, rfl⟩ : ∃ k, m = n + k := ⟨m - n, by omega⟩
  unfold rows walk
  rw [show n + k + 2 = (n + 2) + k by omega, runV_add]
  have hs := h.st
  unfold walk at hs
  rw [runV_skip (d := 1) k _ _ hs (by rw [runV_la _ _ _ (by omega)]) fun t a b => h.go t (by omega)]
  rfl
theorem rows_congr {A B : Int → Int} {n : Nat} (h : ∀ t, 0 ≤ t → A t = B t) : rows A n = rows B n := by
  unfold rows walk
  rw [h 0 (by omega), runV_congr (A := A) (B := B) _ _ _ fun t a b => h t (by omega)]
theorem rows_same {A B : Int → Int} {n m : Nat} (h : ∀ t, 0 ≤ t → A t = B t) (ha : Rf A n) (hb : Rf B m) : rows A n = rows B m := by
  rw [← rows_ext ha (Nat.le_max_left n m), ← rows_ext hb (Nat.le_max_right n m)]
  exact rows_congr h
/-- covering rows of rising values are good rows, with these values -/
theorem cov_from {A : Int → Int} {n : Nat} {m : Int} (hr : Rf A n) : ∀ (rs : List Row) (b : Row), 0 ≤ b.1 → CovTo A (b :: rs) m → (b :: rs).getLast?.map (fun r => r.2.2) = some true →
    b.1 ≤ b.2.1 ∧ GoodFrom b rs ∧ (∀ t, b.1 ≤ t → t < m → valF b rs t = A t) ∧ ((n : Int) < m → ∀ t, m ≤ t → valF b rs t = A t)
  | [], b, h0, c, hl => by
    have hv : A b.1 = b.2.1 := by
      rw [c.2 b.1 (Int.le_refl _) c.1]
      unfold rv
      split <;> omega
    have := hr.lo b.1 h0
    have hg : b.2.2 = true := by simpa using hl
    refine ⟨by omega, hg, fun t a q => (c.2 t a q).symm, fun q t a => ?_⟩
    have c1 := c.1
    have c2 := c.2 (m - 1) (by omega) (by omega)
    have c3 := hr.far (s := m - 1) (t := t) (by omega) (by omega)
    show rv b t = A t
    unfold rv at c2 ⊢
    rw [if_pos hg] at c2 ⊢
    omega
  | r :: rs, b, h0, c, hl => by
    have hv : A b.1 = b.2.1 := by
      rw [c.2.1 b.1 (Int.le_refl _) c.1]
      unfold rv
      split <;> omega
    have c1 := c.1
    obtain ⟨i1, i2, i3, i4⟩ := cov_from hr rs r (by omega) c.2.2 (by simpa using hl)
    have hb := hr.lo b.1 h0
    have hrm : r.1 < m := by
      cases rs with
      | nil => exact c.2.2.1
      | cons q rs =>
        have := CovTo.le (q :: rs) r c.2.2
        have h2 : ∀ (rs : List Row) (r : Row), CovTo A (r :: rs) m → r.1 < m := by
          intro rs
          induction rs with
          | nil => intro r h; exact h.1
          | cons q rs ih => intro r h; have := ih q h.2.2; have := h.1; omega
        exact h2 _ _ c.2.2
    have hvr : A r.1 = r.2.1 := by
      rw [← i3 r.1 (Int.le_refl _) hrm]
      cases rs with
      | nil => show rv r r.1 = _; unfold rv; split <;> omega
      | cons q rs =>
        show (if r.1 < q.1 then rv r r.1 else valF q rs r.1) = _
        rw [if_pos i2.1.1]; unfold rv; split <;> omega
    have h1 := hr.lo (r.1 - 1) (by omega)
    have h2 := hr.up (r.1 - 1) (by omega)
    have h3 := c.2.1 (r.1 - 1) (by omega) (by omega)
    rw [show r.1 - 1 + 1 = r.1 by omega] at h2
    refine ⟨by omega, ⟨⟨c1, by omega, by omega⟩, i1, i2⟩, fun t a q => ?_, fun q t a => ?_⟩
    · show (if t < r.1 then rv b t else valF r rs t) = A t
      split
      · exact (c.2.1 t a (by assumption)).symm
      · exact i3 t (by omega) q
    · show (if t < r.1 then rv b t else valF r rs t) = A t
      rw [if_neg (by omega)]
      exact i4 q t a
theorem cov_good {A : Int → Int} {n : Nat} {m : Int} (hr : Rf A n) {r : Row} {rs : List Row} (h0 : r.1 = 0) (c : CovTo A (r :: rs) m) (hl : (r :: rs).getLast?.map (fun r => r.2.2) = some true) (hm : (n : Int) < m) : Good (r :: rs) ∧ ∀ t, 0 ≤ t → val (r :: rs) t = A t := by
  obtain ⟨a, b, e, f⟩ := cov_from hr rs r (by omega) c hl
  refine ⟨⟨h0, by omega, b⟩, fun t ht => ?_⟩
  show valF r rs t = A t
  by_cases q : t < m
  · exact e t (by omega) q
  · exact f hm t (by omega)
theorem val_cov {A : Int → Int} {m : Int} : ∀ (rs : List Row) (b : Row), GoodFrom b rs → lastS (b :: rs) < m → (∀ t, b.1 ≤ t → A t = valF b rs t) → CovTo A (b :: rs) m
  | [], b, g, hm, h => ⟨hm, fun t a _ => h t a⟩
  | r :: rs, b, g, hm, h => by
    have g1 := g.1.1
    refine ⟨g1, fun t a q => ?_, val_cov rs r g.2.2 hm fun t a => ?_⟩
    · rw [h t a]; show (if t < r.1 then rv b t else valF r rs t) = _; rw [if_pos q]
    · rw [h t (by omega)]; show (if t < r.1 then rv b t else valF r rs t) = _; rw [if_neg (by omega)]
theorem from_rf : ∀ (rs : List Row) (b : Row), b.1 ≤ b.2.1 → GoodFrom b rs → ∀ t, b.1 ≤ t → t ≤ valF b rs t ∧ valF b rs t ≤ valF b rs (t + 1) ∧ (lastS (b :: rs) ≤ t → valF b rs (t + 1) = valF b rs t + 1)
  | [], b, hb, g, t, ht => by
    have g : b.2.2 = true := g
    show t ≤ rv b t ∧ rv b t ≤ rv b (t + 1) ∧ (b.1 ≤ t → rv b (t + 1) = rv b t + 1)
    unfold rv
    rw [if_pos g, if_pos g]
    omega
  | r :: rs, b, hb, g, t, ht => by
    obtain ⟨⟨f1, f2, f3⟩, g2, g3⟩ := g
    have ih := from_rf rs r g2 g3
    have hl : r.1 ≤ lastS (r :: rs) := by
      have : ∀ (rs : List Row) (r : Row), GoodFrom r rs → r.1 ≤ lastS (r :: rs) := by
        intro rs
        induction rs with
        | nil => intro r _; exact Int.le_refl _
        | cons q rs ih => intro r h; have := ih q h.2.2; have := h.1.1; show r.1 ≤ lastS (q :: rs); omega
      exact this rs r g3
    show t ≤ (if t < r.1 then rv b t else valF r rs t) ∧ (if t < r.1 then rv b t else valF r rs t) ≤ (if t + 1 < r.1 then rv b (t + 1) else valF r rs (t + 1)) ∧ (lastS (r :: rs) ≤ t → (if t + 1 < r.1 then rv b (t + 1) else valF r rs (t + 1)) = (if t < r.1 then rv b t else valF r rs t) + 1)
    by_cases q : t < r.1
    · rw [if_pos q]
      have k1 : t ≤ rv b t := by
        unfold rv at f2 ⊢
        split at f2 <;> rename_i hg
        · rw [if_pos hg]; omega
        · rw [if_neg hg]; omega
      refine ⟨k1, ?_, fun z => by omega⟩
      by_cases q2 : t + 1 < r.1
      · rw [if_pos q2]; unfold rv; split <;> omega
      · rw [if_neg q2]
        have e : t = r.1 - 1 := by omega
        have hv : valF r rs r.1 = r.2.1 := by
          cases rs with
          | nil => show rv r r.1 = _; unfold rv; split <;> omega
          | cons x xs =>
            show (if r.1 < x.1 then rv r r.1 else valF x xs r.1) = _
            rw [if_pos g3.1.1]; unfold rv; split <;> omega
        rw [show t + 1 = r.1 by omega, hv, e]
        exact f3
    · rw [if_neg q, if_neg (by omega)]
      exact ih t (by omega)
theorem good_rf {rs : List Row} (g : Good rs) : Rf (val rs) (lastS rs).toNat := by
  cases rs with
  | nil => exact g.elim
  | cons r rs =>
    obtain ⟨g0, g1, g2⟩ := g
    have k := from_rf rs r (by omega) g2
    refine ⟨fun t ht => (k t (by omega)).1, fun t ht => (k t (by omega)).2.1, fun t ht => ?_⟩
    exact (k t (by omega)).2.2 (by omega)
theorem short_rows {rs : List Row} (g : Good rs) {A : Int → Int} {n : Nat} (hr : Rf A n) (hv : ∀ t, 0 ≤ t → val rs t = A t) : short rs = rows A n := by
  cases rs with
  | nil => exact g.elim
  | cons r rs =>
    have rf := good_rf g
    obtain ⟨g0, g1, g2⟩ := g
    have c := val_cov (A := val (r :: rs)) (m := lastS (r :: rs) + 3) rs r g2 (by omega) fun t _ => rfl
    rw [short_walk c rfl g0]
    have hl : 0 ≤ lastS (r :: rs) := by
      have := CovTo.le rs r c
      omega
    rw [show (lastS (r :: rs) + 2).toNat = (lastS (r :: rs)).toNat + 2 by omega]
    exact rows_same hv rf hr
theorem fin_ne (s : S) : ∃ r rs, fin s = r :: rs := by
  unfold fin
  cases s.done with
  | nil => exact ⟨_, _, rfl⟩
  | cons a b => exact ⟨_, _, rfl⟩
theorem runV_head {A : Int → Int} {n : Nat} : ∀ (lo : Int) (s : S), (∀ r, (fin s).head? = some r → r.1 = 0) → ∀ r, (fin (runV A lo n s)).head? = some r → r.1 = 0 := by
  induction n with
  | zero => intro lo s h; exact h
  | succ n ih =>
    intro lo s h
    refine ih (lo + 1) _ ?_
    have k : ∀ (d : List Row) (b f : Int) (g : Bool), (fin s).head? = some ((s.done ++ [(s.b, s.f, true)]).head?.getD (0, 0, true)) := fun _ _ _ _ => by
      unfold fin; cases s.done <;> rfl
    unfold stp
    split
    · exact h
    · split
      · intro r hr
        unfold fin at h hr
        cases hd : s.done with
        | nil =>
          rw [hd] at h hr
          simp at h hr
          rw [← hr]; exact h
        | cons a b =>
          rw [hd] at h hr
          simp at h hr
          rw [← hr]; exact h
      · exact h
theorem rows_facts {A : Int → Int} {n : Nat} (h : Rf A n) : Good (rows A n) ∧ (∀ t, 0 ≤ t → val (rows A n) t = A t) := by
  have c := walk_cov (A := A) h.st
  have hd : ∀ r, (rows A n).head? = some r → r.1 = 0 := fun r hr => by
    refine runV_head (A := A) (n := n + 2) 1 ⟨[], 0, A 0, none, A 0⟩ ?_ r hr
    intro r hr
    simp [fin] at hr
    rw [← hr]
  have hl : (rows A n).getLast?.map (fun r => r.2.2) = some true := by
    unfold rows fin
    simp
  obtain ⟨r, rs, e⟩ := fin_ne (walk A (n + 2))
  unfold rows at *
  rw [e] at c hd hl ⊢
  exact cov_good h (hd r rfl) c hl (by omega)
theorem rows_inj {A B : Int → Int} {n m : Nat} (ha : Rf A n) (hb : Rf B m) (e : rows A n = rows B m) : ∀ t, 0 ≤ t → A t = B t := fun t ht => by
  rw [← (rows_facts ha).2 t ht, ← (rows_facts hb).2 t ht, e]
theorem rows_len {A : Int → Int} {n : Nat} : (rows A n).length ≤ n + 3 := by
  unfold rows fin walk
  have := runV_len (val := A) (n + 2) 1 ⟨[], 0, A 0, none, A 0⟩
  simp at this ⊢
  omega
end RM

set_option maxHeartbeats 4000000
namespace PL
open PySem L2 ML
section
variable {a b : PS} {ρ ρ1 : TEv} {s s1 : DS} {p : P} {c : Nat} {fs : List Str} {ws : List P}
theorem seq_nx (e : a ρ s = some (.nx ρ1 s1)) : pSeq a b ρ s = b ρ1 s1 := by unfold pSeq; rw [e]
theorem seq_rt (e : a ρ s = some (.rt p s1)) : pSeq a b ρ s = some (.rt p s1) := by unfold pSeq; rw [e]
theorem seq_ex (e : a ρ s = some (.ex c fs ws ρ1 s1)) : pSeq a b ρ s = some (.ex c fs ws ρ1 s1) := by unfold pSeq; rw [e]
theorem pfor_eq {it : PI} {g : PG} {ps : List P} (e : it (vH ρ) s = some (.ok ps s1)) : pFor it g b ρ s = pForC g b ps ρ s1 := by unfold pFor; rw [e]; rfl
theorem pforC_nil {g : PG} : pForC g b [] ρ s = some (.nx ρ s) := rfl
theorem pforC_nx {g : PG} {w : P} {ws : List P} {ρ2 : TEv} {s2 : DS} (e : g w ρ = some ρ1) (eb : b ρ1 s = some (.nx ρ2 s2)) : pForC g b (w :: ws) ρ s = pForC g b ws ρ2 s2 := by
  conv => lhs; unfold pForC
  simp only [e, eb]
theorem pforC_ct {g : PG} {w : P} {ws : List P} {ρ2 : TEv} {s2 : DS} (e : g w ρ = some ρ1) (eb : b ρ1 s = some (.ct ρ2 s2)) : pForC g b (w :: ws) ρ s = pForC g b ws ρ2 s2 := by
  conv => lhs; unfold pForC
  simp only [e, eb]
theorem pforC_bk {g : PG} {w : P} {ws : List P} {ρ2 : TEv} {s2 : DS} (e : g w ρ = some ρ1) (eb : b ρ1 s = some (.bk ρ2 s2)) : pForC g b (w :: ws) ρ s = some (.nx ρ2 s2) := by
  conv => lhs; unfold pForC
  simp only [e, eb]
theorem pforC_rt {g : PG} {w : P} {ws : List P} {q : P} {s2 : DS} (e : g w ρ = some ρ1) (eb : b ρ1 s = some (.rt q s2)) : pForC g b (w :: ws) ρ s = some (.rt q s2) := by
  conv => lhs; unfold pForC
  simp only [e, eb]
theorem fun_rt {n N : Nat} {ps : List P} (hn : ps.length = n) (e : b (inE N n ps) s = some (.rt p s1)) : pfun n N b ps s = some (.ok p s1) := by
  unfold pfun; rw [if_pos hn, e]
theorem fun_ex {n N : Nat} {ps : List P} (hn : ps.length = n) (e : b (inE N n ps) s = some (.ex c fs ws ρ1 s1)) : pfun n N b ps s = some (.ex c fs ws s1) := by
  unfold pfun; rw [if_pos hn, e]
theorem fun_nx {n N : Nat} {ps : List P} (hn : ps.length = n) (e : b (inE N n ps) s = some (.nx ρ1 s1)) : pfun n N b ps s = some (.ok .non s1) := by
  unfold pfun; rw [if_pos hn, e]
end
theorem slA_sh {p : P} : slA (some (.sh p)) = some p := rfl
theorem slA_ow {p : P} : slA (some (.ow p)) = some p := rfl
theorem slA_no : slA none = none := rfl
theorem slH_sh {p : P} : slH (some (.sh p)) = some p := rfl
theorem slH_ow {p : P} : slH (some (.ow p)) = none := rfl
theorem slH_no : slH none = none := rfl
theorem gLen_lst {us : List P} {s : DS} : gLen [.lst us] s = some (.ok (.int us.length) s) := rfl
theorem gLen_tup {us : List P} {s : DS} : gLen [.tup us] s = some (.ok (.int us.length) s) := rfl
theorem pitems_succ (lo : Int) (n : Nat) : pItems lo (n + 1) = .int lo :: pItems (lo + 1) n := by
  unfold pItems
  rw [List.range_succ_eq_map]
  simp only [List.map_cons, List.map_map]
  congr 1
  · simp
  · refine List.map_congr_left fun j _ => ?_
    simp only [Function.comp]
    congr 1
    omega
theorem pitems_zero (lo : Int) : pItems lo 0 = [] := rfl
theorem atI_n {α : Type} {us : List α} {k : Nat} {w : α} (e : us[k]? = some w) : atI us (k : Int) = some w := by
  have hk := (List.getElem?_eq_some_iff.mp e).1
  unfold atI ixN
  rw [if_pos (by omega), if_pos (by omega)]
  simpa using e
theorem atI_i {α : Type} {us : List α} {i : Int} {k : Nat} {w : α} (hi : i = (k : Int)) (e : us[k]? = some w) : atI us i = some w := by subst hi; exact atI_n e
theorem atI_last {α : Type} {us : List α} {w : α} : atI (us ++ [w]) (-1) = some w := by
  unfold atI ixN
  rw [if_neg (by omega), if_pos (by simp; omega)]
  simp only [Option.bind_some]
  rw [show (-1 + ((us ++ [w]).length : Int)).toNat = us.length by simp; omega]
  simp
end PL

set_option maxHeartbeats 4000000
namespace PL
open PySem L2 ML
/-! rows of like things, compared -/
structure Dt {α : Type} [DecidableEq α] (f : α → P) (g : α → PyData) (k : Nat) : Prop where
  dp : ∀ (n : Nat) (a : α), dP n (f a) = some (g a)
  lay : ∀ a, PyData.canLay0 (g a) = true
  dep : ∀ a, PyData.depth (g a) ≤ k
  eqv : ∀ a b, PyData.eqv (g a) (g b) = decide (a = b)
section
variable {α : Type} [DecidableEq α] {f : α → P} {g : α → PyData} {k : Nat}
theorem Dt.dps (h : Dt f g k) (n : Nat) : ∀ l : List α, dPs n (l.map f) = some (l.map g)
  | [] => rfl
  | a :: l => by
    show dPs n (f a :: l.map f) = _
    unfold dPs
    rw [h.dp n a, h.dps n l]
    rfl
theorem Dt.lays (h : Dt f g k) : ∀ l : List α, PyData.canLayAll0 (l.map g) = true
  | [] => rfl
  | a :: l => by
    show PyData.canLayAll0 (g a :: l.map g) = true
    unfold PyData.canLayAll0
    rw [h.lay a, h.lays l]
    rfl
theorem Dt.deps (h : Dt f g k) : ∀ l : List α, PyData.depthAll (l.map g) ≤ k
  | [] => by simp [PyData.depthAll]
  | a :: l => by
    show PyData.depthAll (g a :: l.map g) ≤ k
    unfold PyData.depthAll
    have := h.deps l
    have := h.dep a
    omega
theorem Dt.eqvs (h : Dt f g k) : ∀ l m : List α, PyData.eqvAll (l.map g) (m.map g) = decide (l = m)
  | [], [] => rfl
  | [], b :: m => by simp [PyData.eqvAll]
  | a :: l, [] => by simp [PyData.eqvAll]
  | a :: l, b :: m => by
    show PyData.eqvAll (g a :: l.map g) (g b :: m.map g) = _
    unfold PyData.eqvAll
    rw [h.eqv a b, h.eqvs l m]
    by_cases q : a = b <;> by_cases q2 : l = m <;> simp [q, q2]
theorem Dt.shL (h : Dt f g k) (hk : k ≤ 60) (l : List α) : SeqAt.shaped (.list (l.map g)) = true := by
  unfold SeqAt.shaped
  have h1 : PyData.canLay0 (.list (l.map g)) = true := by unfold PyData.canLay0; exact h.lays l
  have h2 : PyData.depth (.list (l.map g)) ≤ 64 := by unfold PyData.depth; have := h.deps l; omega
  rw [h1, decide_eq_true h2]
  rfl
theorem Dt.shT (h : Dt f g k) (hk : k ≤ 60) (l : List α) : SeqAt.shaped (.tuple (l.map g)) = true := by
  unfold SeqAt.shaped
  have h1 : PyData.canLay0 (.tuple (l.map g)) = true := by unfold PyData.canLay0; exact h.lays l
  have h2 : PyData.depth (.tuple (l.map g)) ≤ 64 := by unfold PyData.depth; have := h.deps l; omega
  rw [h1, decide_eq_true h2]
  rfl
theorem Dt.eqL (h : Dt f g k) (hk : k ≤ 60) (neg : Bool) (l m : List α) (s : DS) : qEq neg (.lst (l.map f)) (.lst (m.map f)) s = some (.ok (.bl (decide (l = m) != neg)) s) := by
  have e : ∀ l : List α, dP 3 (.lst (l.map f)) = some (.list (l.map g)) := fun l => by unfold dP; show (match dPs 2 (l.map f) with | some ds => some (PyData.list ds) | none => none) = _; rw [h.dps]
  unfold qEq
  simp only [sEqP, e, h.shL hk, Bool.and_self, if_true]
  unfold PyData.eqv
  rw [h.eqvs]
theorem Dt.eqT (h : Dt f g k) (hk : k ≤ 60) (neg : Bool) (l m : List α) (s : DS) : qEq neg (.tup (l.map f)) (.tup (m.map f)) s = some (.ok (.bl (decide (l = m) != neg)) s) := by
  have e : ∀ l : List α, dP 3 (.tup (l.map f)) = some (.tuple (l.map g)) := fun l => by unfold dP; rw [h.dps]
  unfold qEq
  simp only [sEqP, e, h.shT hk, Bool.and_self, if_true]
  unfold PyData.eqv
  rw [h.eqvs]
end
theorem dt_int : Dt P.int PyData.int 0 := ⟨fun _ _ => rfl, fun _ => rfl, fun a => by simp [PyData.depth], fun a b => by simp [PyData.eqv]; by_cases h : a = b <;> simp [h]⟩
def rowF (r : RM.Row) : P := .tup [.int r.1, .int r.2.1, .bl r.2.2]
def rowD (r : RM.Row) : PyData := .tuple [.int r.1, .int r.2.1, .bool r.2.2]
theorem dt_row : Dt rowF rowD 1 := ⟨fun _ _ => rfl, fun _ => rfl, fun a => by simp [rowD, PyData.depth, PyData.depthAll], fun a b => by
  obtain ⟨a1, a2, a3⟩ := a
  obtain ⟨b1, b2, b3⟩ := b
  simp [rowD, PyData.eqv, PyData.eqvAll]
  by_cases h1 : a1 = b1 <;> by_cases h2 : a2 = b2 <;> by_cases h3 : a3 = b3 <;> simp [h1, h2, h3]⟩
theorem eq_ii (neg : Bool) (a b : Int) (s : DS) : qEq neg (.int a) (.int b) s = some (.ok (.bl (decide (a = b) != neg)) s) := rfl
/-! draws in a comprehension -/
theorem comp_draws {i : Nat} {te : PE} {ρ : PEv} {lim : Int} (h0 : 0 < lim) (h1 : lim < 1073741824) (ht : ∀ v s, te (ρ.set i (some v)) s = p__law_draw [.scr, .st, .int lim] s) : ∀ (ps acc : List P) (s : DS), acc.length + ps.length ≤ 900000 →
    ∃ (vs : List Int) (s' : DS), pGo (.one i) pYes te ρ acc ps s = some (.ok (acc ++ vs.map P.int) s') ∧ vs.length = ps.length ∧ ∀ v ∈ vs, 0 ≤ v ∧ v < lim
  | [], acc, s, hl => ⟨[], s, by simp [pGo], rfl, fun v hv => by simp at hv⟩
  | p :: ps, acc, s, hl => by
    obtain ⟨r, s1, r0, r1, e⟩ := draw_ex s lim h0 h1
    simp only [List.length_cons] at hl
    obtain ⟨vs, s2, e2, l2, b2⟩ := comp_draws h0 h1 ht ps (acc ++ [.int r]) s1 (by simp; omega)
    refine ⟨r :: vs, s2, ?_, by simp [l2], fun v hv => by
      rcases List.mem_cons.mp hv with rfl | hv
      · exact ⟨r0, r1⟩
      · exact b2 v hv⟩
    unfold pGo
    simp only [ntP, pYes, pnx, pb_ok, if_true]
    rw [ht p s, e]
    simp only [pnx, pb_ok]
    rw [if_pos (by show acc.length < 1000000; omega), e2]
    simp
theorem pItems_len (lo : Int) (n : Nat) : (pItems lo n).length = n := by unfold pItems; simp
theorem nls_map {α : Type} {f : α → P} (h : ∀ a, nl (f a) = true) : ∀ l : List α, nls (l.map f) = true
  | [] => rfl
  | a :: l => by
    show (nl (f a) && nls (l.map f)) = true
    rw [h a, nls_map h l]
    rfl
theorem nrs_map {α : Type} {f : α → P} (h : ∀ a, nr (f a) = true) : ∀ l : List α, nrs (l.map f) = true
  | [] => rfl
  | a :: l => by
    show (nr (f a) && nrs (l.map f)) = true
    rw [h a, nrs_map h l]
    rfl
end PL

set_option maxHeartbeats 4000000
/-! ways by slots: values and rows -/
namespace RM
def sA (len : Int) : Int → List Int → Int → Int
  | _, [], t => t
  | _, [r], t => t + r
  | st, r :: q :: rest, t => if t < st + len then (if t + r ≤ sA len (st + len) (q :: rest) (st + len) then t + r else sA len (st + len) (q :: rest) (st + len)) else sA len (st + len) (q :: rest) t
def sR (len : Int) : Int → List Int → List Row
  | _, [] => []
  | st, [r] => [(st, st + r, true)]
  | st, r :: q :: rest =>
    if st + r ≥ sA len (st + len) (q :: rest) (st + len) then (st, sA len (st + len) (q :: rest) (st + len), false) :: sR len (st + len) (q :: rest)
    else if sA len (st + len) (q :: rest) (st + len) - r < st + len then (st, st + r, true) :: (sA len (st + len) (q :: rest) (st + len) - r, sA len (st + len) (q :: rest) (st + len), false) :: sR len (st + len) (q :: rest)
    else (st, st + r, true) :: sR len (st + len) (q :: rest)
/-- the riding time of a slot; slots are counted from st on -/
def rid (len st : Int) (ms : List Int) (u : Int) : Int := (ms[min ((u - st) / len).toNat (ms.length - 1)]?).getD 0
section
variable {len : Int}
theorem sR_head {st r : Int} : ∀ (ms : List Int), ∃ v g rest, sR len st (r :: ms) = (st, v, g) :: rest ∧ v = sA len st (r :: ms) st ∨ len ≤ 0
  | [] => ⟨st + r, true, [], .inl ⟨rfl, rfl⟩⟩
  | q :: ms => by
    by_cases hl : len ≤ 0
    · exact ⟨0, true, [], .inr hl⟩
    · unfold sR
      have e : sA len st (r :: q :: ms) st = if st + r ≤ sA len (st + len) (q :: ms) (st + len) then st + r else sA len (st + len) (q :: ms) (st + len) := by
        show (if st < st + len then _ else _) = _
        rw [if_pos (by omega)]
      split
      · refine ⟨_, _, _, .inl ⟨rfl, ?_⟩⟩
        rw [e]; split <;> omega
      · split
        · refine ⟨_, _, _, .inl ⟨rfl, ?_⟩⟩
          rw [e, if_pos (by omega)]
        · refine ⟨_, _, _, .inl ⟨rfl, ?_⟩⟩
          rw [e, if_pos (by omega)]
theorem sA_rf (hlen : 1 ≤ len) : ∀ (ms : List Int) (r st : Int), (∀ x ∈ r :: ms, 0 ≤ x) → ∀ t, st ≤ t → t ≤ sA len st (r :: ms) t ∧ sA len st (r :: ms) t ≤ sA len st (r :: ms) (t + 1) ∧ (st + len * ms.length ≤ t → sA len st (r :: ms) (t + 1) = sA len st (r :: ms) t + 1)
  | [], r, st, h, t, ht => by
    have := h r List.mem_cons_self
    show t ≤ t + r ∧ t + r ≤ t + 1 + r ∧ (_ → t + 1 + r = t + r + 1)
    exact ⟨by omega, by omega, fun _ => by omega⟩
  | q :: ms, r, st, h, t, ht => by
    have ih := sA_rf hlen ms q (st + len) (fun x hx => h x (List.mem_cons_of_mem _ hx))
    have h0 := h r List.mem_cons_self
    obtain ⟨b, hb⟩ : ∃ b, b = sA len (st + len) (q :: ms) (st + len) := ⟨_, rfl⟩
    have ib := (ih (st + len) (Int.le_refl _)).1
    rw [← hb] at ib
    have hL : st + len * ((q :: ms).length : Int) = st + len + len * (ms.length : Int) := by
      simp only [List.length_cons]
      rw [show ((ms.length + 1 : Nat) : Int) = (ms.length : Int) + 1 by omega, Int.mul_add, Int.mul_one]
      omega
    have hp : 0 ≤ len * (ms.length : Int) := Int.mul_nonneg (by omega) (by omega)
    show t ≤ (if t < st + len then (if t + r ≤ sA len (st + len) (q :: ms) (st + len) then t + r else sA len (st + len) (q :: ms) (st + len)) else sA len (st + len) (q :: ms) t) ∧ (if t < st + len then (if t + r ≤ sA len (st + len) (q :: ms) (st + len) then t + r else sA len (st + len) (q :: ms) (st + len)) else sA len (st + len) (q :: ms) t) ≤ (if t + 1 < st + len then (if t + 1 + r ≤ sA len (st + len) (q :: ms) (st + len) then t + 1 + r else sA len (st + len) (q :: ms) (st + len)) else sA len (st + len) (q :: ms) (t + 1)) ∧ (st + len * ((q :: ms).length : Int) ≤ t → (if t + 1 < st + len then (if t + 1 + r ≤ sA len (st + len) (q :: ms) (st + len) then t + 1 + r else sA len (st + len) (q :: ms) (st + len)) else sA len (st + len) (q :: ms) (t + 1)) = (if t < st + len then (if t + r ≤ sA len (st + len) (q :: ms) (st + len) then t + r else sA len (st + len) (q :: ms) (st + len)) else sA len (st + len) (q :: ms) t) + 1)
    rw [hL, ← hb]
    by_cases c : t < st + len
    · rw [if_pos c]
      by_cases c2 : t + 1 < st + len
      · rw [if_pos c2]
        refine ⟨by split <;> omega, by split <;> split <;> omega, fun z => by omega⟩
      · have : t + 1 = st + len := by omega
        rw [if_neg c2, this, ← hb]
        refine ⟨by split <;> omega, by split <;> omega, fun z => by omega⟩
    · rw [if_neg c, if_neg (by omega)]
      exact ih t (by omega)
theorem sA_all (hlen : 1 ≤ len) {ms : List Int} (hn : ms ≠ []) (h : ∀ x ∈ ms, 0 ≤ x) : Rf (sA len 0 ms) (len * (ms.length - 1 : Nat)).toNat := by
  cases ms with
  | nil => exact absurd rfl hn
  | cons r ms =>
    have k := sA_rf hlen ms r 0 h
    refine ⟨fun t ht => (k t ht).1, fun t ht => (k t ht).2.1, fun t ht => (k t (by omega)).2.2 ?_⟩
    have : 0 ≤ len * (ms.length : Int) := Int.mul_nonneg (by omega) (by omega)
    simp only [List.length_cons, Nat.add_sub_cancel] at ht
    omega
theorem CovTo.cons {A : Int → Int} {b r : Row} {rs : List Row} {m : Int} (h1 : b.1 < r.1) (h2 : ∀ t, b.1 ≤ t → t < r.1 → A t = rv b t) (h3 : CovTo A (r :: rs) m) : CovTo A (b :: r :: rs) m := ⟨h1, h2, h3⟩
theorem CovTo.cong {A B : Int → Int} {m : Int} : ∀ (rs : List Row) (r : Row), CovTo A (r :: rs) m → (∀ t, r.1 ≤ t → B t = A t) → CovTo B (r :: rs) m
  | [], r, h, e => ⟨h.1, fun t a b => by rw [e t a]; exact h.2 t a b⟩
  | q :: rs, r, h, e => ⟨h.1, fun t a b => by rw [e t a]; exact h.2.1 t a b, CovTo.cong rs q h.2.2 fun t a => e t (by have := h.1; omega)⟩
theorem sR_cov (hlen : 1 ≤ len) : ∀ (ms : List Int) (r st m : Int), (∀ x ∈ r :: ms, 0 ≤ x) → st + len * ms.length < m → CovTo (sA len st (r :: ms)) (sR len st (r :: ms)) m
  | [], r, st, m, h, hm => ⟨by show st < m; simpa using hm, fun t a _ => by show t + r = rv (st, st + r, true) t; unfold rv; simp; omega⟩
  | q :: ms, r, st, m, h, hm => by
    have hL : st + len * ((q :: ms).length : Int) = st + len + len * (ms.length : Int) := by
      simp only [List.length_cons]
      rw [show ((ms.length + 1 : Nat) : Int) = (ms.length : Int) + 1 by omega, Int.mul_add, Int.mul_one]
      omega
    have ih := sR_cov hlen ms q (st + len) m (fun x hx => h x (List.mem_cons_of_mem _ hx)) (by omega)
    have rf := (sA_rf hlen ms q (st + len) (fun x hx => h x (List.mem_cons_of_mem _ hx)) (st + len) (Int.le_refl _)).1
    obtain ⟨v, g, rest, hh⟩ := sR_head (len := len) (st := st + len) (r := q) ms
    rcases hh with ⟨h1, hv⟩ | hh
    · obtain ⟨b, hb⟩ : ∃ b, b = sA len (st + len) (q :: ms) (st + len) := ⟨_, rfl⟩
      rw [← hb] at rf hv
      have eA1 : ∀ t, t < st + len → sA len st (r :: q :: ms) t = if t + r ≤ b then t + r else b := fun t ht => by
        show (if t < st + len then _ else _) = _
        rw [if_pos ht, ← hb]
      have eA2 : ∀ t, st + len ≤ t → sA len st (r :: q :: ms) t = sA len (st + len) (q :: ms) t := fun t ht => by
        show (if t < st + len then _ else _) = _
        rw [if_neg (by omega)]
      have ih2 : CovTo (sA len st (r :: q :: ms)) ((st + len, v, g) :: rest) m := by
        rw [h1] at ih
        exact CovTo.cong rest _ ih fun t a => eA2 t a
      unfold sR
      rw [h1, ← hb]
      split
      · rename_i c
        refine CovTo.cons (by show st < st + len; omega) (fun t a z => ?_) ih2
        have z : t < st + len := z
        have a : st ≤ t := a
        rw [eA1 t z]
        unfold rv
        simp
        omega
      · rename_i c
        split
        · rename_i c2
          refine CovTo.cons (by show st < b - r; omega) (fun t a z => ?_) (CovTo.cons (by show b - r < st + len; omega) (fun t a z => ?_) ih2)
          · have z : t < b - r := z
            have a : st ≤ t := a
            rw [eA1 t (by omega), if_pos (by omega)]
            unfold rv
            simp
            omega
          · have z : t < st + len := z
            have a : b - r ≤ t := a
            rw [eA1 t z]
            unfold rv
            simp
            omega
        · refine CovTo.cons (by show st < st + len; omega) (fun t a z => ?_) ih2
          have z : t < st + len := z
          have a : st ≤ t := a
          rw [eA1 t z, if_pos (by omega)]
          unfold rv
          simp
          omega
    · omega
theorem sR_last : ∀ (ms : List Int) (r st : Int), (sR len st (r :: ms)).getLast?.map (fun x => x.2.2) = some true
  | [], r, st => rfl
  | q :: ms, r, st => by
    have ih := sR_last ms q (st + len)
    have k : ∀ (x : Row) (l : List Row), l.getLast?.map (fun x => x.2.2) = some true → (x :: l).getLast?.map (fun x => x.2.2) = some true := fun x l e => by
      cases l with
      | nil => simp at e
      | cons y ys => simpa [List.getLast?_cons_cons] using e
    unfold sR
    split
    · exact k _ _ ih
    · split
      · exact k _ _ (k _ _ ih)
      · exact k _ _ ih
theorem sR_good (hlen : 1 ≤ len) {ms : List Int} (hn : ms ≠ []) (h : ∀ x ∈ ms, 0 ≤ x) : Good (sR len 0 ms) ∧ ∀ t, 0 ≤ t → val (sR len 0 ms) t = sA len 0 ms t := by
  have rf := sA_all hlen hn h
  cases ms with
  | nil => exact absurd rfl hn
  | cons r ms =>
    obtain ⟨v, g, rest, hh⟩ := sR_head (len := len) (st := 0) (r := r) ms
    rcases hh with ⟨h1, hv⟩ | hh
    · have c := sR_cov hlen ms r 0 (len * (ms.length : Int) + 1) h (by omega)
      have l := sR_last (len := len) ms r 0
      rw [h1] at c l ⊢
      refine cov_good rf rfl c l ?_
      have : 0 ≤ len * (ms.length : Int) := Int.mul_nonneg (by omega) (by omega)
      simp only [List.length_cons, Nat.add_sub_cancel]
      omega
    · omega
theorem sR_len : ∀ (ms : List Int) (st : Int), (sR len st ms).length ≤ 2 * ms.length
  | [], st => by simp [sR]
  | [r], st => by simp [sR]
  | r :: q :: ms, st => by
    have ih := sR_len (q :: ms) (st + len)
    unfold sR
    split
    · simp at ih ⊢; omega
    · split
      · simp at ih ⊢; omega
      · simp at ih ⊢; omega
theorem sR_bd (hlen : 1 ≤ len) : ∀ (ms : List Int) (r st : Int), (∀ x ∈ r :: ms, 0 ≤ x) → ∀ x ∈ sR len st (r :: ms), x.1 ≤ st + len * ms.length
  | [], r, st, h, x, hx => by
    simp [sR] at hx
    subst hx
    simp
  | q :: ms, r, st, h, x, hx => by
    have hL : st + len * ((q :: ms).length : Int) = st + len + len * (ms.length : Int) := by
      simp only [List.length_cons]
      rw [show ((ms.length + 1 : Nat) : Int) = (ms.length : Int) + 1 by omega, Int.mul_add, Int.mul_one]
      omega
    have hp : 0 ≤ len * (ms.length : Int) := Int.mul_nonneg (by omega) (by omega)
    have ih := sR_bd hlen ms q (st + len) (fun x hx => h x (List.mem_cons_of_mem _ hx))
    rw [hL]
    unfold sR at hx
    split at hx
    · rcases List.mem_cons.mp hx with rfl | hx
      · show st ≤ _; omega
      · exact ih x hx
    · split at hx
      · rename_i c
        rcases List.mem_cons.mp hx with rfl | hx
        · show st ≤ _; omega
        · rcases List.mem_cons.mp hx with rfl | hx
          · show _ - r ≤ _; omega
          · exact ih x hx
      · rcases List.mem_cons.mp hx with rfl | hx
        · show st ≤ _; omega
        · exact ih x hx
/-! the least of all leavings from then on -/
theorem rid_first {st r : Int} {ms : List Int} {u : Int} (hlen : 1 ≤ len) (h0 : st ≤ u) (h : u < st + len ∨ ms = []) : rid len st (r :: ms) u = r := by
  unfold rid
  rcases h with h | rfl
  · have : (u - st) / len = 0 := Int.ediv_eq_zero_of_lt (by omega) (by omega)
    rw [this]
    simp
  · simp
theorem rid_next {st r q : Int} {ms : List Int} {u : Int} (hlen : 1 ≤ len) (h : st + len ≤ u) : rid len st (r :: q :: ms) u = rid len (st + len) (q :: ms) u := by
  unfold rid
  have e : (u - st) / len = (u - (st + len)) / len + 1 := by
    rw [show u - st = (u - (st + len)) + 1 * len by omega, Int.add_mul_ediv_right _ _ (by omega)]
  have e0 : 0 ≤ (u - (st + len)) / len := Int.ediv_nonneg (by omega) (by omega)
  rw [e, show ((u - (st + len)) / len + 1).toNat = ((u - (st + len)) / len).toNat + 1 by omega]
  simp only [List.length_cons, Nat.add_sub_cancel]
  rw [show min (((u - (st + len)) / len).toNat + 1) (ms.length + 1) = min ((u - (st + len)) / len).toNat ms.length + 1 by omega]
  simp
theorem sA_low (hlen : 1 ≤ len) : ∀ (ms : List Int) (r st : Int), ∀ t u, st ≤ t → t ≤ u → sA len st (r :: ms) t ≤ u + rid len st (r :: ms) u
  | [], r, st, t, u, h1, h2 => by
    rw [rid_first hlen (by omega) (.inr rfl)]
    show t + r ≤ u + r
    omega
  | q :: ms, r, st, t, u, h1, h2 => by
    have ih := sA_low hlen ms q (st + len)
    show (if t < st + len then (if t + r ≤ sA len (st + len) (q :: ms) (st + len) then t + r else sA len (st + len) (q :: ms) (st + len)) else sA len (st + len) (q :: ms) t) ≤ _
    by_cases c : u < st + len
    · rw [rid_first hlen (by omega) (.inl c), if_pos (by omega)]
      split <;> omega
    · rw [rid_next hlen (by omega)]
      have i1 := ih (st + len) u (Int.le_refl _) (by omega)
      by_cases c2 : t < st + len
      · rw [if_pos c2]; split <;> omega
      · rw [if_neg c2]; exact ih t u (by omega) h2
/-- it is met: at once, or at a later slot's start -/
theorem sA_met (hlen : 1 ≤ len) : ∀ (ms : List Int) (r st : Int), ∀ t, st ≤ t → sA len st (r :: ms) t = t + rid len st (r :: ms) t ∨ ∃ k : Nat, k < (r :: ms).length ∧ t < st + len * k ∧ sA len st (r :: ms) t = (st + len * k) + rid len st (r :: ms) (st + len * k)
  | [], r, st, t, h1 => .inl (by rw [rid_first hlen h1 (.inr rfl)]; rfl)
  | q :: ms, r, st, t, h1 => by
    have ih := sA_met hlen ms q (st + len)
    have up : ∀ k : Nat, st + len * ((k + 1 : Nat) : Int) = st + len + len * (k : Int) := fun k => by
      rw [show ((k + 1 : Nat) : Int) = (k : Int) + 1 by omega, Int.mul_add, Int.mul_one]; omega
    have pos : ∀ k : Nat, 0 ≤ len * (k : Int) := fun k => Int.mul_nonneg (by omega) (by omega)
    have eA : sA len st (r :: q :: ms) t = if t < st + len then (if t + r ≤ sA len (st + len) (q :: ms) (st + len) then t + r else sA len (st + len) (q :: ms) (st + len)) else sA len (st + len) (q :: ms) t := rfl
    rw [eA]
    by_cases c : t < st + len
    · rw [if_pos c]
      split
      · exact .inl (by rw [rid_first hlen h1 (.inl c)])
      · right
        rcases ih (st + len) (Int.le_refl _) with e | ⟨k, hk, hk2, e⟩
        · refine ⟨1, by simp, by omega, ?_⟩
          have := up 0
          simp only [Nat.zero_add, Int.natCast_zero, Int.mul_zero] at this
          rw [Int.add_zero] at this
          rw [this, rid_next hlen (by omega), e]
        · refine ⟨k + 1, by simpa using hk, by rw [up k]; have := pos k; omega, ?_⟩
          rw [up k, rid_next hlen (by have := pos k; omega), e]
    · rw [if_neg c]
      rcases ih t (by omega) with e | ⟨k, hk, hk2, e⟩
      · exact .inl (by rw [rid_next hlen (by omega), e])
      · refine .inr ⟨k + 1, by simpa using hk, by rw [up k]; exact hk2, ?_⟩
        rw [up k, rid_next hlen (by have := pos k; omega), e]
end
end RM

set_option maxHeartbeats 4000000
namespace K09
open PySem L2 ML
def topS (i : Nat) : Stmt := PySem.Challenge.pw_laterways_k09_whole_ways_by_slots.main.body.getD i (.Pass ⟨0, 0, 0, 0⟩)
def tk_CalendarError : Nat → Option Bool := fun c => if c = 1 then some true else if c = 2 then some true else none
def tk_BadNumber : Nat → Option Bool := fun c => if c = 1 then some true else if c = 2 then some false else none
def tk_BadRows : Nat → Option Bool := fun c => if c = 1 then some false else if c = 2 then some true else none
def at_rows_i : Nat → Bool := fun c => decide (c = 3)
def at_rows_e : Nat → Bool := fun _ => false
def tab_Rising : TyK → Option Bool := tabI 3
abbrev n_CalendarError : Nat := 0
abbrev n_BadNumber : Nat := 1
abbrev n_BadRows : Nat := 2
abbrev n_Rising : Nat := 3
def nf_Rising : Nat → Bool := fun c => decide (c = 3)
structure Fx (G : Gm) (mg : Str → Option Value) : Prop where
  b_abs : mg "abs" = none
  b_bool : mg "bool" = none
  b_enumerate : mg "enumerate" = none
  b_int : mg "int" = none
  b_isinstance : mg "isinstance" = none
  b_len : mg "len" = none
  b_list : mg "list" = none
  b_max : mg "max" = none
  b_min : mg "min" = none
  b_range : mg "range" = none
  b_tuple : mg "tuple" = none
  c_LONGEST_RIDE : GlI mg "LONGEST_RIDE" 600
  c_LONGEST_SLOT : GlI mg "LONGEST_SLOT" 720
  c_MOST_SLOTS : GlI mg "MOST_SLOTS" 48
  a_rows : AtX G "rows" at_rows_i at_rows_e
  s_rows : AtC G "rows" at_rows_i
  o_Rising : OwnK G mg "Rising" tab_Rising
  t_CalendarError : TakC G tk_CalendarError (.ref (G.ca 0))
  g_CalendarError : mg "CalendarError" = some (.ref (G.ca 0))
  t_BadNumber : TakC G tk_BadNumber (.ref (G.ca 1))
  g_BadNumber : mg "BadNumber" = some (.ref (G.ca 1))
  t_BadRows : TakC G tk_BadRows (.ref (G.ca 2))
  g_BadRows : mg "BadRows" = some (.ref (G.ca 2))
section
variable {P : Program} {w : World} {G : Gm} {mg : Str → Option Value} {base : Heap} {f : Addr} {fd : FuncData}
abbrev t_is_integer : Stmt := topS 6
theorem sc_is_integer : FnScope ["value"] ["value"] (defScope t_is_integer) := ⟨rfl, rfl, rfl, by decide +kernel, rfl, by decide +kernel, by decide +kernel⟩
noncomputable def b_is_integer : MS :=
    (mRet (mAnd (mIsi tabInt (mVar 0)) (mNot (mIsi tabBool (mVar 0)))))
noncomputable def m_is_integer : MF := mfun 1 1 b_is_integer
theorem ok_is_integer (fx : Fx G mg) (F : Fun G.K "is_integer" "is_integer" t_is_integer f fd) : FnM P w G mg base 1 f fd ["value"] m_is_integer :=
  fn_M (k := 0) F sc_is_integer fun cdv A outer s H E hr tk => by
  exact (dOne (dRet (dAnd (dIsi rfl (isaTy isiInt (by kernel_rfl) fx.b_int (by kernel_rfl) (by decide +kernel) (by kernel_rfl)) (dVar 0 (by kernel_rfl) (by kernel_rfl) (by kernel_rfl) (by kernel_rfl)) fx.b_isinstance (by kernel_rfl) ⟨(by kernel_rfl), (by kernel_rfl)⟩ (by kernel_rfl)) (dAnd1 (dNot (dIsi rfl (isaTy isiBool (by kernel_rfl) fx.b_bool (by kernel_rfl) (by decide +kernel) (by kernel_rfl)) (dVar 0 (by kernel_rfl) (by kernel_rfl) (by kernel_rfl) (by kernel_rfl)) fx.b_isinstance (by kernel_rfl) ⟨(by kernel_rfl), (by kernel_rfl)⟩ (by kernel_rfl)))))))
abbrev t_check_integer : Stmt := topS 7
theorem sc_check_integer : FnScope ["what", "value"] ["what", "value"] (defScope t_check_integer) := ⟨rfl, rfl, rfl, by decide +kernel, rfl, by decide +kernel, by decide +kernel⟩
noncomputable def b_check_integer : MS :=
    (mSeq (mIf (mTNot (mB (mCB m_is_integer (mCons (mVar 1) mNil))))
    (mRaise 1 (mk2s ("what" : Str) ("value" : Str)) (mCons (mVar 0) (mCons (mVar 1) mNil)))
    mSkip)
    (mRet (mVar 1)))
noncomputable def m_check_integer : MF := mfun 2 2 b_check_integer
theorem ok_check_integer (fx : Fx G mg) (c_is_integer : Callee P w G mg base "is_integer" 1 ["value"] m_is_integer) (e_BadNumber : OwnErr P w G mg base "BadNumber" 1 1 2 (mk2s ("what" : Str) ("value" : Str))) (F : Fun G.K "check_integer" "check_integer" t_check_integer f fd) : FnM P w G mg base 3 f fd ["what", "value"] m_check_integer :=
  fn_M (k := 2) F sc_check_integer fun cdv A outer s H E hr tk => by
  exact (dSeq (dIf (qNot (qVal (dCall (n := 1) rfl c_is_integer hr (by decide) tk rfl (dCons (dVar 1 (by kernel_rfl) (by kernel_rfl) (by kernel_rfl) (by kernel_rfl)) dNil (by kernel_rfl)) (al_cons al_nil) (by kernel_rfl) (by kernel_rfl) ⟨(by kernel_rfl), (by kernel_rfl)⟩) (fun _ => rfl)))
    (dOne (dRaise (n := 2) rfl e_BadNumber hr (by decide) tk rfl (dCons (dVar 0 (by kernel_rfl) (by kernel_rfl) (by kernel_rfl) (by kernel_rfl)) (dCons (dVar 1 (by kernel_rfl) (by kernel_rfl) (by kernel_rfl) (by kernel_rfl)) dNil (by kernel_rfl)) (by kernel_rfl)) (al_cons (al_cons al_nil)) (by decide) (by kernel_rfl) (by kernel_rfl) ⟨(by kernel_rfl), (by kernel_rfl)⟩))
    dSkip)
    (dOne (dRet (dVar 1 (by kernel_rfl) (by kernel_rfl) (by kernel_rfl) (by kernel_rfl)))))
abbrev t_check_number : Stmt := topS 8
theorem sc_check_number : FnScope ["what", "value", "low", "high"] ["what", "value", "low", "high"] (defScope t_check_number) := ⟨rfl, rfl, rfl, by decide +kernel, rfl, by decide +kernel, by decide +kernel⟩
noncomputable def b_check_number : MS :=
    (mSeq (mDrop (mCB m_check_integer (mCons (mVar 0) (mCons (mVar 1) mNil))))
    (mSeq (mIf (mTOr (mB (mOp oLt (mVar 1) (mVar 2))) (mTAnd (mB (mIsN true (mVar 3))) (mB (mOp oGt (mVar 1) (mVar 3)))))
    (mRaise 1 (mk2s ("what" : Str) ("value" : Str)) (mCons (mVar 0) (mCons (mVar 1) mNil)))
    mSkip)
    (mRet (mVar 1))))
noncomputable def m_check_number : MF := mfun 4 4 b_check_number
theorem ok_check_number (fx : Fx G mg) (c_check_integer : Callee P w G mg base "check_integer" 3 ["what", "value"] m_check_integer) (e_BadNumber : OwnErr P w G mg base "BadNumber" 1 1 2 (mk2s ("what" : Str) ("value" : Str))) (F : Fun G.K "check_number" "check_number" t_check_number f fd) : FnM P w G mg base 4 f fd ["what", "value", "low", "high"] m_check_number :=
  fn_M (k := 3) F sc_check_number fun cdv A outer s H E hr tk => by
  exact (dSeq (dExpr (dCall (n := 2) rfl c_check_integer hr (by decide) tk rfl (dCons (dVar 0 (by kernel_rfl) (by kernel_rfl) (by kernel_rfl) (by kernel_rfl)) (dCons (dVar 1 (by kernel_rfl) (by kernel_rfl) (by kernel_rfl) (by kernel_rfl)) dNil (by kernel_rfl)) (by kernel_rfl)) (al_cons (al_cons al_nil)) (by kernel_rfl) (by kernel_rfl) ⟨(by kernel_rfl), (by kernel_rfl)⟩) (by kernel_rfl))
    (dSeq (dIf (qOr' (qLt (dVar 1 (by kernel_rfl) (by kernel_rfl) (by kernel_rfl) (by kernel_rfl)) (dVar 2 (by kernel_rfl) (by kernel_rfl) (by kernel_rfl) (by kernel_rfl))) (qOr1 (qAnd' (qNotN (dVar 3 (by kernel_rfl) (by kernel_rfl) (by kernel_rfl) (by kernel_rfl))) (qAnd1 (qGt (dVar 1 (by kernel_rfl) (by kernel_rfl) (by kernel_rfl) (by kernel_rfl)) (dVar 3 (by kernel_rfl) (by kernel_rfl) (by kernel_rfl) (by kernel_rfl)))))))
    (dOne (dRaise (n := 2) rfl e_BadNumber hr (by decide) tk rfl (dCons (dVar 0 (by kernel_rfl) (by kernel_rfl) (by kernel_rfl) (by kernel_rfl)) (dCons (dVar 1 (by kernel_rfl) (by kernel_rfl) (by kernel_rfl) (by kernel_rfl)) dNil (by kernel_rfl)) (by kernel_rfl)) (al_cons (al_cons al_nil)) (by decide) (by kernel_rfl) (by kernel_rfl) ⟨(by kernel_rfl), (by kernel_rfl)⟩))
    dSkip)
    (dOne (dRet (dVar 1 (by kernel_rfl) (by kernel_rfl) (by kernel_rfl) (by kernel_rfl))))))
abbrev t_row_value : Stmt := topS 12
theorem sc_row_value : FnScope ["row", "minute", "start", "value", "grows"] ["row", "minute"] (defScope t_row_value) := ⟨rfl, rfl, rfl, by decide +kernel, rfl, by decide +kernel, by decide +kernel⟩
noncomputable def b_row_value : MS :=
    (mSeq (mAsg (gT 3 (gC (gN 2) (gC (gN 3) (gC (gN 4) gE)))) (mVar 0))
    (mRet (mIfE (mB (mVar 4)) (mOp oSub (mOp oAdd (mVar 3) (mVar 1)) (mVar 2)) (mVar 3))))
noncomputable def m_row_value : MF := mfun 2 5 b_row_value
theorem ok_row_value (fx : Fx G mg) (F : Fun G.K "row_value" "row_value" t_row_value f fd) : FnM P w G mg base 1 f fd ["row", "minute"] m_row_value :=
  fn_M (k := 0) F sc_row_value fun cdv A outer s H E hr tk => by
  exact (dSeq (dAsg (dVar 0 (by kernel_rfl) (by kernel_rfl) (by kernel_rfl) (by kernel_rfl)) (gTupD rfl rfl (gConsD (gName sc_row_value.nd (by kernel_rfl) (by kernel_rfl) (Or.inl rfl)) (gConsD (gName sc_row_value.nd (by kernel_rfl) (by kernel_rfl) (Or.inl rfl)) (gConsD (gName sc_row_value.nd (by kernel_rfl) (by kernel_rfl) (Or.inl rfl)) gNil' (by kernel_rfl)) (by kernel_rfl)) (by kernel_rfl)) (by kernel_rfl) (by kernel_rfl)) (by kernel_rfl) (by kernel_rfl) (by kernel_rfl))
    (dOne (dRet (dIfE (qVal (dVar 4 (by kernel_rfl) (by kernel_rfl) (by kernel_rfl) (by kernel_rfl)) (fun _ => rfl)) (dSub (dAdd rfl (dVar 3 (by kernel_rfl) (by kernel_rfl) (by kernel_rfl) (by kernel_rfl)) (dVar 1 (by kernel_rfl) (by kernel_rfl) (by kernel_rfl) (by kernel_rfl))) (dVar 2 (by kernel_rfl) (by kernel_rfl) (by kernel_rfl) (by kernel_rfl))) (dVar 3 (by kernel_rfl) (by kernel_rfl) (by kernel_rfl) (by kernel_rfl))))))
abbrev t_last_place : Stmt := topS 14
theorem sc_last_place : FnScope ["rows", "part", "limit", "low", "high", "middle"] ["rows", "part", "limit"] (defScope t_last_place) := ⟨rfl, rfl, rfl, by decide +kernel, rfl, by decide +kernel, by decide +kernel⟩
noncomputable def b_last_place : MS :=
    (mSeq (mSet 3 (mC (.int 0)))
    (mSeq (mSet 4 (mCB fLen (mCons (mVar 0) mNil)))
    (mSeq (mWhile (mB (mOp oLt (mVar 3) (mVar 4)))
    (mSeq (mSet 5 (mOp oDiv (mOp oAdd (mVar 3) (mVar 4)) (mC (.int 2))))
    (mIf (mB (mOp oLe (mOp oIx (mOp oIx (mVar 0) (mVar 5)) (mVar 1)) (mVar 2)))
    (mSet 3 (mOp oAdd (mVar 5) (mC (.int 1))))
    (mSet 4 (mVar 5)))))
    (mRet (mOp oSub (mVar 3) (mC (.int 1)))))))
noncomputable def m_last_place : MF := mfun 3 6 b_last_place
theorem ok_last_place (fx : Fx G mg) (F : Fun G.K "last_place" "last_place" t_last_place f fd) : FnM P w G mg base 1 f fd ["rows", "part", "limit"] m_last_place :=
  fn_M (k := 0) F sc_last_place fun cdv A outer s H E hr tk => by
  exact (dSeq (dSet dInt sc_last_place.nd (by kernel_rfl) (by kernel_rfl) (by kernel_rfl) (Or.inl rfl))
    (dSeq (dSet (dB (cLen rfl) fLen_ok fx.b_len (by kernel_rfl) (by kernel_rfl) (dCons (dVar 0 (by kernel_rfl) (by kernel_rfl) (by kernel_rfl) (by kernel_rfl)) dNil (by kernel_rfl)) (by decide +kernel) (by kernel_rfl) ⟨(by kernel_rfl), (by kernel_rfl)⟩) sc_last_place.nd (by kernel_rfl) (by kernel_rfl) (by kernel_rfl) (Or.inl rfl))
    (dSeq (dWhile PassesOwn.leaving (qLt (dVar 3 (by kernel_rfl) (by kernel_rfl) (by kernel_rfl) (by kernel_rfl)) (dVar 4 (by kernel_rfl) (by kernel_rfl) (by kernel_rfl) (by kernel_rfl)))
    (dSeq (dSet (dDiv (dAdd rfl (dVar 3 (by kernel_rfl) (by kernel_rfl) (by kernel_rfl) (by kernel_rfl)) (dVar 4 (by kernel_rfl) (by kernel_rfl) (by kernel_rfl) (by kernel_rfl))) dInt) sc_last_place.nd (by kernel_rfl) (by kernel_rfl) (by kernel_rfl) (Or.inl rfl))
    (dOne (dIf (qLe (dIx rfl (dIx rfl (dVar 0 (by kernel_rfl) (by kernel_rfl) (by kernel_rfl) (by kernel_rfl)) (dVar 5 (by kernel_rfl) (by kernel_rfl) (by kernel_rfl) (by kernel_rfl)) (fun _ _ => rfl)) (dVar 1 (by kernel_rfl) (by kernel_rfl) (by kernel_rfl) (by kernel_rfl)) (fun _ _ => rfl)) (dVar 2 (by kernel_rfl) (by kernel_rfl) (by kernel_rfl) (by kernel_rfl)))
    (dOne (dSet (dAdd rfl (dVar 5 (by kernel_rfl) (by kernel_rfl) (by kernel_rfl) (by kernel_rfl)) dInt) sc_last_place.nd (by kernel_rfl) (by kernel_rfl) (by kernel_rfl) (Or.inl rfl)))
    (dOne (dSet (dVar 5 (by kernel_rfl) (by kernel_rfl) (by kernel_rfl) (by kernel_rfl)) sc_last_place.nd (by kernel_rfl) (by kernel_rfl) (by kernel_rfl) (Or.inl rfl)))))))
    (dOne (dRet (dSub (dVar 3 (by kernel_rfl) (by kernel_rfl) (by kernel_rfl) (by kernel_rfl)) dInt))))))
abbrev t_Rising___call__ : Stmt := inClass (topS 25) 4
theorem sc_Rising___call__ : FnScope ["self", "t"] ["self", "t"] (defScope t_Rising___call__) := ⟨rfl, rfl, rfl, by decide +kernel, rfl, by decide +kernel, by decide +kernel⟩
noncomputable def b_Rising___call__ : MS :=
    (mSeq (mDrop (mCB m_check_number (mCons (mC (.str ("minute" : Str))) (mCons (mVar 1) (mCons (mC (.int 0)) (mCons (mC .non) mNil))))))
    (mRet (mCB m_row_value (mCons (mOp oIx (mAttrX ("rows" : Str) at_rows_i at_rows_e (mVar 0)) (mCB m_last_place (mCons (mAttrX ("rows" : Str) at_rows_i at_rows_e (mVar 0)) (mCons (mC (.int 0)) (mCons (mVar 1) mNil))))) (mCons (mVar 1) mNil)))))
noncomputable def m_Rising___call__ : MF := mfun 2 2 b_Rising___call__
theorem ok_Rising___call__ (fx : Fx G mg) (c_check_number : Callee P w G mg base "check_number" 4 ["what", "value", "low", "high"] m_check_number) (c_last_place : Callee P w G mg base "last_place" 1 ["rows", "part", "limit"] m_last_place) (c_row_value : Callee P w G mg base "row_value" 1 ["row", "minute"] m_row_value) (F : Fun G.K "__call__" "Rising.__call__" t_Rising___call__ f fd) : FnM P w G mg base 5 f fd ["self", "t"] m_Rising___call__ :=
  fn_M (k := 4) F sc_Rising___call__ fun cdv A outer s H E hr tk => by
  exact (dSeq (dExpr (dCall (n := 4) rfl c_check_number hr (by decide) tk rfl (dCons dStr (dCons (dVar 1 (by kernel_rfl) (by kernel_rfl) (by kernel_rfl) (by kernel_rfl)) (dCons dInt (dCons dNon dNil (by kernel_rfl)) (by kernel_rfl)) (by kernel_rfl)) (by kernel_rfl)) (al_cons (al_cons (al_cons (al_cons al_nil)))) (by kernel_rfl) (by kernel_rfl) ⟨(by kernel_rfl), (by kernel_rfl)⟩) (by kernel_rfl))
    (dOne (dRet (dCall (n := 2) rfl c_row_value hr (by decide) tk rfl (dCons (dIx rfl (dAttr rfl fx.a_rows (dVar 0 (by kernel_rfl) (by kernel_rfl) (by kernel_rfl) (by kernel_rfl)) (by kernel_rfl)) (dCall (n := 3) rfl c_last_place hr (by decide) tk rfl (dCons (dAttr rfl fx.a_rows (dVar 0 (by kernel_rfl) (by kernel_rfl) (by kernel_rfl) (by kernel_rfl)) (by kernel_rfl)) (dCons dInt (dCons (dVar 1 (by kernel_rfl) (by kernel_rfl) (by kernel_rfl) (by kernel_rfl)) dNil (by kernel_rfl)) (by kernel_rfl)) (by kernel_rfl)) (al_cons (al_cons (al_cons al_nil))) (by kernel_rfl) (by kernel_rfl) ⟨(by kernel_rfl), (by kernel_rfl)⟩) (fun _ _ => rfl)) (dCons (dVar 1 (by kernel_rfl) (by kernel_rfl) (by kernel_rfl) (by kernel_rfl)) dNil (by kernel_rfl)) (by kernel_rfl)) (al_cons (al_cons al_nil)) (by kernel_rfl) (by kernel_rfl) ⟨(by kernel_rfl), (by kernel_rfl)⟩))))
abbrev t__law_start : Stmt := topS 34
theorem sc__law_start : FnScope ["_law_script", "_law_first"] ["_law_script"] (defScope t__law_start) := ⟨rfl, rfl, rfl, by decide +kernel, rfl, by decide +kernel, by decide +kernel⟩
noncomputable def b__law_start : MS :=
    (mSeq (mSet 1 (mC (.int 0)))
    (mSeq (mIf (mB (mOp oGt (mCB fLen (mCons (mVar 0) mNil)) (mC (.int 0))))
    (mSet 1 (mOp oIx (mVar 0) (mC (.int 0))))
    mSkip)
    (mRet (mLst (mCons (mCB fAbs (mCons (mCB fIntA2 (mCons (mVar 1) mNil)) mNil)) (mCons (mCB fIntA2 (mCons (mOp oGe (mCB fAbs (mCons (mCB fIntA2 (mCons (mVar 1) mNil)) mNil)) (mOp oPow (mC (.int 10)) (mC (.int 18)))) mNil)) (mCons (mC (.int 1)) (mCons (mC (.int 0)) mNil))))))))
noncomputable def m__law_start : MF := mfun 1 2 b__law_start
theorem ok__law_start (fx : Fx G mg) (F : Fun G.K "_law_start" "_law_start" t__law_start f fd) : FnM P w G mg base 1 f fd ["_law_script"] m__law_start :=
  fn_M (k := 0) F sc__law_start fun cdv A outer s H E hr tk => by
  exact (dSeq (dSet dInt sc__law_start.nd (by kernel_rfl) (by kernel_rfl) (by kernel_rfl) (Or.inl rfl))
    (dSeq (dIf (qGt (dB (cLen rfl) fLen_ok fx.b_len (by kernel_rfl) (by kernel_rfl) (dCons (dVar 0 (by kernel_rfl) (by kernel_rfl) (by kernel_rfl) (by kernel_rfl)) dNil (by kernel_rfl)) (by decide +kernel) (by kernel_rfl) ⟨(by kernel_rfl), (by kernel_rfl)⟩) dInt)
    (dOne (dSet (dIx rfl (dVar 0 (by kernel_rfl) (by kernel_rfl) (by kernel_rfl) (by kernel_rfl)) dInt (fun _ _ => rfl)) sc__law_start.nd (by kernel_rfl) (by kernel_rfl) (by kernel_rfl) (Or.inl rfl)))
    dSkip)
    (dOne (dRet (dLst (dCons (dB cAbs fAbs_ok fx.b_abs (by kernel_rfl) (by kernel_rfl) (dCons (dTy cInt fIntA_ok fx.b_int (by kernel_rfl) (by kernel_rfl) (dCons (dVar 1 (by kernel_rfl) (by kernel_rfl) (by kernel_rfl) (by kernel_rfl)) dNil (by kernel_rfl)) (by decide +kernel) (by kernel_rfl) ⟨(by kernel_rfl), (by kernel_rfl)⟩) dNil (by kernel_rfl)) (by decide +kernel) (by kernel_rfl) ⟨(by kernel_rfl), (by kernel_rfl)⟩) (dCons (dTy cInt fIntA_ok fx.b_int (by kernel_rfl) (by kernel_rfl) (dCons (dGe (dB cAbs fAbs_ok fx.b_abs (by kernel_rfl) (by kernel_rfl) (dCons (dTy cInt fIntA_ok fx.b_int (by kernel_rfl) (by kernel_rfl) (dCons (dVar 1 (by kernel_rfl) (by kernel_rfl) (by kernel_rfl) (by kernel_rfl)) dNil (by kernel_rfl)) (by decide +kernel) (by kernel_rfl) ⟨(by kernel_rfl), (by kernel_rfl)⟩) dNil (by kernel_rfl)) (by decide +kernel) (by kernel_rfl) ⟨(by kernel_rfl), (by kernel_rfl)⟩) (dPow dInt dInt)) dNil (by kernel_rfl)) (by decide +kernel) (by kernel_rfl) ⟨(by kernel_rfl), (by kernel_rfl)⟩) (dCons dInt (dCons dInt dNil (by kernel_rfl)) (by kernel_rfl)) (by kernel_rfl)) (by kernel_rfl)))))))
abbrev t__law_draw : Stmt := topS 35
theorem sc__law_draw : FnScope ["_law_script", "_law_state", "_law_limit", "_law_number", "_law_cell", "_law_mixed"] ["_law_script", "_law_state", "_law_limit"] (defScope t__law_draw) := ⟨rfl, rfl, rfl, by decide +kernel, rfl, by decide +kernel, by decide +kernel⟩
noncomputable def b__law_draw : MS :=
    (mSeq (mSetIx (mOp oAdd (mOp oIx (mVar 1) (mC (.int 3))) (mC (.int 1))) (mVar 1) (mC (.int 3)))
    (mSeq (mIf (mTAnd (mB (mOp (oEq 3) (mOp oIx (mVar 1) (mC (.int 1))) (mC (.int 1)))) (mB (mOp oGt (mOp oIx (mVar 1) (mC (.int 0))) (mC (.int 0)))))
    (mSeq (mSet 3 (mOp oMod (mCB fIntA2 (mCons (mOp oIx (mVar 1) (mC (.int 0))) mNil)) (mVar 2)))
    (mSeq (mSetIx (mOp oDiv (mOp oIx (mVar 1) (mC (.int 0))) (mVar 2)) (mVar 1) (mC (.int 0)))
    (mRet (mVar 3))))
    mSkip)
    (mSeq (mSetIx (mC (.int 0)) (mVar 1) (mC (.int 1)))
    (mSeq (mSet 4 (mC (.int 0)))
    (mSeq (mIf (mB (mOp oGt (mCB fLen (mCons (mVar 0) mNil)) (mC (.int 0))))
    (mSet 4 (mOp oIx (mVar 0) (mOp oMod (mCB fIntA2 (mCons (mOp oIx (mVar 1) (mC (.int 2))) mNil)) (mCB fLen (mCons (mVar 0) mNil)))))
    mSkip)
    (mSeq (mSetIx (mOp oAdd (mOp oIx (mVar 1) (mC (.int 2))) (mC (.int 1))) (mVar 1) (mC (.int 2)))
    (mSeq (mSet 5 (mOp oMulA (mOp oMod (mCB fIntA2 (mCons (mOp oIx (mVar 1) (mC (.int 0))) mNil)) (mC (.int 2147483647))) (mC (.int 48271))))
    (mSeq (mSet 5 (mOp oAdd (mOp oAdd (mOp oAdd (mVar 5) (mOp oMod (mCB fIntA2 (mCons (mVar 4) mNil)) (mC (.int 2147483629)))) (mOp oMulA (mC (.int 7)) (mOp oIx (mVar 1) (mC (.int 3))))) (mC (.int 11))))
    (mSeq (mSetIx (mOp oMod (mCB fIntA2 (mCons (mVar 5) mNil)) (mC (.int 2147483647))) (mVar 1) (mC (.int 0)))
    (mSeq (mSet 5 (mOp oMod (mCB fIntA2 (mCons (mOp oAdd (mOp oMulA (mOp oIx (mVar 1) (mC (.int 0))) (mC (.int 69621))) (mOp oIx (mVar 1) (mC (.int 3)))) mNil)) (mC (.int 2147483629))))
    (mRet (mOp oMod (mCB fIntA2 (mCons (mOp oDiv (mVar 5) (mC (.int 13))) mNil)) (mVar 2)))))))))))))
noncomputable def m__law_draw : MF := mfun 3 6 b__law_draw
theorem ok__law_draw (fx : Fx G mg) (F : Fun G.K "_law_draw" "_law_draw" t__law_draw f fd) : FnM P w G mg base 1 f fd ["_law_script", "_law_state", "_law_limit"] m__law_draw :=
  fn_M (k := 0) F sc__law_draw fun cdv A outer s H E hr tk => by
  exact (dSeq (dSetIx (dAdd rfl (dIx rfl (dVar 1 (by kernel_rfl) (by kernel_rfl) (by kernel_rfl) (by kernel_rfl)) dInt (fun _ _ => rfl)) dInt) (dVar 1 (by kernel_rfl) (by kernel_rfl) (by kernel_rfl) (by kernel_rfl)) dInt (by kernel_rfl) (by kernel_rfl) (fun _ => rfl) rfl)
    (dSeq (dIf (qAnd' (qEq 3 rfl (units64 hr) (dIx rfl (dVar 1 (by kernel_rfl) (by kernel_rfl) (by kernel_rfl) (by kernel_rfl)) dInt (fun _ _ => rfl)) dInt) (qAnd1 (qGt (dIx rfl (dVar 1 (by kernel_rfl) (by kernel_rfl) (by kernel_rfl) (by kernel_rfl)) dInt (fun _ _ => rfl)) dInt)))
    (dSeq (dSet (dMod (dTy cInt fIntA_ok fx.b_int (by kernel_rfl) (by kernel_rfl) (dCons (dIx rfl (dVar 1 (by kernel_rfl) (by kernel_rfl) (by kernel_rfl) (by kernel_rfl)) dInt (fun _ _ => rfl)) dNil (by kernel_rfl)) (by decide +kernel) (by kernel_rfl) ⟨(by kernel_rfl), (by kernel_rfl)⟩) (dVar 2 (by kernel_rfl) (by kernel_rfl) (by kernel_rfl) (by kernel_rfl))) sc__law_draw.nd (by kernel_rfl) (by kernel_rfl) (by kernel_rfl) (Or.inl rfl))
    (dSeq (dSetIx (dDiv (dIx rfl (dVar 1 (by kernel_rfl) (by kernel_rfl) (by kernel_rfl) (by kernel_rfl)) dInt (fun _ _ => rfl)) (dVar 2 (by kernel_rfl) (by kernel_rfl) (by kernel_rfl) (by kernel_rfl))) (dVar 1 (by kernel_rfl) (by kernel_rfl) (by kernel_rfl) (by kernel_rfl)) dInt (by kernel_rfl) (by kernel_rfl) (fun _ => rfl) rfl)
    (dOne (dRet (dVar 3 (by kernel_rfl) (by kernel_rfl) (by kernel_rfl) (by kernel_rfl))))))
    dSkip)
    (dSeq (dSetIx dInt (dVar 1 (by kernel_rfl) (by kernel_rfl) (by kernel_rfl) (by kernel_rfl)) dInt (by kernel_rfl) (by kernel_rfl) (fun _ => rfl) rfl)
    (dSeq (dSet dInt sc__law_draw.nd (by kernel_rfl) (by kernel_rfl) (by kernel_rfl) (Or.inl rfl))
    (dSeq (dIf (qGt (dB (cLen rfl) fLen_ok fx.b_len (by kernel_rfl) (by kernel_rfl) (dCons (dVar 0 (by kernel_rfl) (by kernel_rfl) (by kernel_rfl) (by kernel_rfl)) dNil (by kernel_rfl)) (by decide +kernel) (by kernel_rfl) ⟨(by kernel_rfl), (by kernel_rfl)⟩) dInt)
    (dOne (dSet (dIx rfl (dVar 0 (by kernel_rfl) (by kernel_rfl) (by kernel_rfl) (by kernel_rfl)) (dMod (dTy cInt fIntA_ok fx.b_int (by kernel_rfl) (by kernel_rfl) (dCons (dIx rfl (dVar 1 (by kernel_rfl) (by kernel_rfl) (by kernel_rfl) (by kernel_rfl)) dInt (fun _ _ => rfl)) dNil (by kernel_rfl)) (by decide +kernel) (by kernel_rfl) ⟨(by kernel_rfl), (by kernel_rfl)⟩) (dB (cLen rfl) fLen_ok fx.b_len (by kernel_rfl) (by kernel_rfl) (dCons (dVar 0 (by kernel_rfl) (by kernel_rfl) (by kernel_rfl) (by kernel_rfl)) dNil (by kernel_rfl)) (by decide +kernel) (by kernel_rfl) ⟨(by kernel_rfl), (by kernel_rfl)⟩)) (fun _ _ => rfl)) sc__law_draw.nd (by kernel_rfl) (by kernel_rfl) (by kernel_rfl) (Or.inl rfl)))
    dSkip)
    (dSeq (dSetIx (dAdd rfl (dIx rfl (dVar 1 (by kernel_rfl) (by kernel_rfl) (by kernel_rfl) (by kernel_rfl)) dInt (fun _ _ => rfl)) dInt) (dVar 1 (by kernel_rfl) (by kernel_rfl) (by kernel_rfl) (by kernel_rfl)) dInt (by kernel_rfl) (by kernel_rfl) (fun _ => rfl) rfl)
    (dSeq (dSet (dMul (dMod (dTy cInt fIntA_ok fx.b_int (by kernel_rfl) (by kernel_rfl) (dCons (dIx rfl (dVar 1 (by kernel_rfl) (by kernel_rfl) (by kernel_rfl) (by kernel_rfl)) dInt (fun _ _ => rfl)) dNil (by kernel_rfl)) (by decide +kernel) (by kernel_rfl) ⟨(by kernel_rfl), (by kernel_rfl)⟩) dInt) dInt) sc__law_draw.nd (by kernel_rfl) (by kernel_rfl) (by kernel_rfl) (Or.inl rfl))
    (dSeq (dSet (dAdd rfl (dAdd rfl (dAdd rfl (dVar 5 (by kernel_rfl) (by kernel_rfl) (by kernel_rfl) (by kernel_rfl)) (dMod (dTy cInt fIntA_ok fx.b_int (by kernel_rfl) (by kernel_rfl) (dCons (dVar 4 (by kernel_rfl) (by kernel_rfl) (by kernel_rfl) (by kernel_rfl)) dNil (by kernel_rfl)) (by decide +kernel) (by kernel_rfl) ⟨(by kernel_rfl), (by kernel_rfl)⟩) dInt)) (dMul dInt (dIx rfl (dVar 1 (by kernel_rfl) (by kernel_rfl) (by kernel_rfl) (by kernel_rfl)) dInt (fun _ _ => rfl)))) dInt) sc__law_draw.nd (by kernel_rfl) (by kernel_rfl) (by kernel_rfl) (Or.inl rfl))
    (dSeq (dSetIx (dMod (dTy cInt fIntA_ok fx.b_int (by kernel_rfl) (by kernel_rfl) (dCons (dVar 5 (by kernel_rfl) (by kernel_rfl) (by kernel_rfl) (by kernel_rfl)) dNil (by kernel_rfl)) (by decide +kernel) (by kernel_rfl) ⟨(by kernel_rfl), (by kernel_rfl)⟩) dInt) (dVar 1 (by kernel_rfl) (by kernel_rfl) (by kernel_rfl) (by kernel_rfl)) dInt (by kernel_rfl) (by kernel_rfl) (fun _ => rfl) rfl)
    (dSeq (dSet (dMod (dTy cInt fIntA_ok fx.b_int (by kernel_rfl) (by kernel_rfl) (dCons (dAdd rfl (dMul (dIx rfl (dVar 1 (by kernel_rfl) (by kernel_rfl) (by kernel_rfl) (by kernel_rfl)) dInt (fun _ _ => rfl)) dInt) (dIx rfl (dVar 1 (by kernel_rfl) (by kernel_rfl) (by kernel_rfl) (by kernel_rfl)) dInt (fun _ _ => rfl))) dNil (by kernel_rfl)) (by decide +kernel) (by kernel_rfl) ⟨(by kernel_rfl), (by kernel_rfl)⟩) dInt) sc__law_draw.nd (by kernel_rfl) (by kernel_rfl) (by kernel_rfl) (Or.inl rfl))
    (dOne (dRet (dMod (dTy cInt fIntA_ok fx.b_int (by kernel_rfl) (by kernel_rfl) (dCons (dDiv (dVar 5 (by kernel_rfl) (by kernel_rfl) (by kernel_rfl) (by kernel_rfl)) dInt) dNil (by kernel_rfl)) (by decide +kernel) (by kernel_rfl) ⟨(by kernel_rfl), (by kernel_rfl)⟩) (dVar 2 (by kernel_rfl) (by kernel_rfl) (by kernel_rfl) (by kernel_rfl)))))))))))))))
abbrev t__law_riding : Stmt := topS 38
theorem sc__law_riding : FnScope ["_law_script", "_law_state", "_law_slots", "_law_length", "_law_most", "_law_many", "_law_size", "_law_k"] ["_law_script", "_law_state", "_law_slots", "_law_length", "_law_most"] (defScope t__law_riding) := ⟨rfl, rfl, rfl, by decide +kernel, rfl, by decide +kernel, by decide +kernel⟩
noncomputable def b__law_riding : MS :=
    (mSeq (mSet 5 (mOp oAdd (mC (.int 1)) (mCB m__law_draw (mCons (mVar 0) (mCons (mVar 1) (mCons (mVar 2) mNil))))))
    (mSeq (mSet 6 (mOp oAdd (mC (.int 1)) (mCB m__law_draw (mCons (mVar 0) (mCons (mVar 1) (mCons (mVar 3) mNil))))))
    (mRet (mTup (mCons (mVar 6) (mCons (mLc (iR1 (mVar 5)) (NT.one 7) mYes (mCB m__law_draw (mCons (mVar 0) (mCons (mVar 1) (mCons (mOp oAdd (mVar 4) (mC (.int 1))) mNil)))) ([(("_law_k" : Str), 7)].map (·.2))) mNil))))))
noncomputable def m__law_riding : MF := mfun 5 8 b__law_riding
theorem ok__law_riding (fx : Fx G mg) (c__law_draw : Callee P w G mg base "_law_draw" 1 ["_law_script", "_law_state", "_law_limit"] m__law_draw) (F : Fun G.K "_law_riding" "_law_riding" t__law_riding f fd) : FnM P w G mg base 2 f fd ["_law_script", "_law_state", "_law_slots", "_law_length", "_law_most"] m__law_riding :=
  fn_M (k := 1) F sc__law_riding fun cdv A outer s H E hr tk => by
  exact (dSeq (dSet (dAdd rfl dInt (dCall (n := 3) rfl c__law_draw hr (by decide) tk rfl (dCons (dVar 0 (by kernel_rfl) (by kernel_rfl) (by kernel_rfl) (by kernel_rfl)) (dCons (dVar 1 (by kernel_rfl) (by kernel_rfl) (by kernel_rfl) (by kernel_rfl)) (dCons (dVar 2 (by kernel_rfl) (by kernel_rfl) (by kernel_rfl) (by kernel_rfl)) dNil (by kernel_rfl)) (by kernel_rfl)) (by kernel_rfl)) (al_cons (al_cons (al_cons al_nil))) (by kernel_rfl) (by kernel_rfl) ⟨(by kernel_rfl), (by kernel_rfl)⟩)) sc__law_riding.nd (by kernel_rfl) (by kernel_rfl) (by kernel_rfl) (Or.inl rfl))
    (dSeq (dSet (dAdd rfl dInt (dCall (n := 3) rfl c__law_draw hr (by decide) tk rfl (dCons (dVar 0 (by kernel_rfl) (by kernel_rfl) (by kernel_rfl) (by kernel_rfl)) (dCons (dVar 1 (by kernel_rfl) (by kernel_rfl) (by kernel_rfl) (by kernel_rfl)) (dCons (dVar 3 (by kernel_rfl) (by kernel_rfl) (by kernel_rfl) (by kernel_rfl)) dNil (by kernel_rfl)) (by kernel_rfl)) (by kernel_rfl)) (al_cons (al_cons (al_cons al_nil))) (by kernel_rfl) (by kernel_rfl) ⟨(by kernel_rfl), (by kernel_rfl)⟩)) sc__law_riding.nd (by kernel_rfl) (by kernel_rfl) (by kernel_rfl) (Or.inl rfl))
    (dOne (dRet (dTup (dCons (dVar 6 (by kernel_rfl) (by kernel_rfl) (by kernel_rfl) (by kernel_rfl)) (dCons (dLc (own := [(("_law_k" : Str), 7)]) (NT.one 7) rfl rfl sc__law_riding.nd (iRange1 (dVar 5 (by kernel_rfl) (by kernel_rfl) (by kernel_rfl) (by kernel_rfl)) fx.b_range (by kernel_rfl) (by kernel_rfl) (by kernel_rfl)) (blkOk_by (N := ["_law_script", "_law_state", "_law_slots", "_law_length", "_law_most", "_law_many", "_law_size", "_law_k"]) (sc := defScope t__law_riding) (by decide +kernel)) (fun _ _ _ _ _ => ntOne sc__law_riding.nd (by kernel_rfl) (by kernel_rfl) (Or.inr (by kernel_rfl))) (fun _ _ _ _ _ => dYes) (fun _ _ _ _ _ => (dCall (n := 3) rfl c__law_draw hr (by decide) takes0 rfl (dCons (dVar 0 (by kernel_rfl) (by kernel_rfl) (by kernel_rfl) (by kernel_rfl)) (dCons (dVar 1 (by kernel_rfl) (by kernel_rfl) (by kernel_rfl) (by kernel_rfl)) (dCons (dAdd rfl (dVar 4 (by kernel_rfl) (by kernel_rfl) (by kernel_rfl) (by kernel_rfl)) dInt) dNil (by kernel_rfl)) (by kernel_rfl)) (by kernel_rfl)) (al_cons (al_cons (al_cons al_nil))) (by kernel_rfl) (by kernel_rfl) ⟨(by kernel_rfl), (by kernel_rfl)⟩)) (by decide +kernel) (fun _ => rfl)) dNil (by kernel_rfl)) (by kernel_rfl)))))))
abbrev t_start_of : Stmt := topS 13
theorem sc_start_of : FnScope ["rows", "place"] ["rows", "place"] (defScope t_start_of) := ⟨rfl, rfl, rfl, by decide +kernel, rfl, by decide +kernel, by decide +kernel⟩
noncomputable def b_start_of : MS :=
    (mRet (mIfE (mB (mOp oLt (mVar 1) (mCB fLen (mCons (mVar 0) mNil)))) (mOp oIx (mOp oIx (mVar 0) (mVar 1)) (mC (.int 0))) (mC .non)))
noncomputable def m_start_of : MF := mfun 2 2 b_start_of
theorem ok_start_of (fx : Fx G mg) (F : Fun G.K "start_of" "start_of" t_start_of f fd) : FnM P w G mg base 1 f fd ["rows", "place"] m_start_of :=
  fn_M (k := 0) F sc_start_of fun cdv A outer s H E hr tk => by
  exact (dOne (dRet (dIfE (qLt (dVar 1 (by kernel_rfl) (by kernel_rfl) (by kernel_rfl) (by kernel_rfl)) (dB (cLen rfl) fLen_ok fx.b_len (by kernel_rfl) (by kernel_rfl) (dCons (dVar 0 (by kernel_rfl) (by kernel_rfl) (by kernel_rfl) (by kernel_rfl)) dNil (by kernel_rfl)) (by decide +kernel) (by kernel_rfl) ⟨(by kernel_rfl), (by kernel_rfl)⟩)) (dIx rfl (dIx rfl (dVar 0 (by kernel_rfl) (by kernel_rfl) (by kernel_rfl) (by kernel_rfl)) (dVar 1 (by kernel_rfl) (by kernel_rfl) (by kernel_rfl) (by kernel_rfl)) (fun _ _ => rfl)) dInt (fun _ _ => rfl)) dNon)))
abbrev t_greater : Stmt := topS 10
theorem sc_greater : FnScope ["first", "second"] ["first", "second"] (defScope t_greater) := ⟨rfl, rfl, rfl, by decide +kernel, rfl, by decide +kernel, by decide +kernel⟩
noncomputable def b_greater : MS :=
    (mRet (mIfE (mB (mOp oGe (mVar 0) (mVar 1))) (mVar 0) (mVar 1)))
noncomputable def m_greater : MF := mfun 2 2 b_greater
theorem ok_greater (fx : Fx G mg) (F : Fun G.K "greater" "greater" t_greater f fd) : FnM P w G mg base 1 f fd ["first", "second"] m_greater :=
  fn_M (k := 0) F sc_greater fun cdv A outer s H E hr tk => by
  exact (dOne (dRet (dIfE (qGe (dVar 0 (by kernel_rfl) (by kernel_rfl) (by kernel_rfl) (by kernel_rfl)) (dVar 1 (by kernel_rfl) (by kernel_rfl) (by kernel_rfl) (by kernel_rfl))) (dVar 0 (by kernel_rfl) (by kernel_rfl) (by kernel_rfl) (by kernel_rfl)) (dVar 1 (by kernel_rfl) (by kernel_rfl) (by kernel_rfl) (by kernel_rfl)))))
abbrev t_lesser : Stmt := topS 9
theorem sc_lesser : FnScope ["first", "second"] ["first", "second"] (defScope t_lesser) := ⟨rfl, rfl, rfl, by decide +kernel, rfl, by decide +kernel, by decide +kernel⟩
noncomputable def b_lesser : MS :=
    (mRet (mIfE (mB (mOp oLe (mVar 0) (mVar 1))) (mVar 0) (mVar 1)))
noncomputable def m_lesser : MF := mfun 2 2 b_lesser
theorem ok_lesser (fx : Fx G mg) (F : Fun G.K "lesser" "lesser" t_lesser f fd) : FnM P w G mg base 1 f fd ["first", "second"] m_lesser :=
  fn_M (k := 0) F sc_lesser fun cdv A outer s H E hr tk => by
  exact (dOne (dRet (dIfE (qLe (dVar 0 (by kernel_rfl) (by kernel_rfl) (by kernel_rfl) (by kernel_rfl)) (dVar 1 (by kernel_rfl) (by kernel_rfl) (by kernel_rfl) (by kernel_rfl))) (dVar 0 (by kernel_rfl) (by kernel_rfl) (by kernel_rfl) (by kernel_rfl)) (dVar 1 (by kernel_rfl) (by kernel_rfl) (by kernel_rfl) (by kernel_rfl)))))
abbrev t_shortest : Stmt := topS 18
theorem sc_shortest : FnScope ["rows", "done", "begin", "first", "step", "last", "place", "row", "after", "minute", "value", "rise"] ["rows"] (defScope t_shortest) := ⟨rfl, rfl, rfl, by decide +kernel, rfl, by decide +kernel, by decide +kernel⟩
noncomputable def b_shortest : MS :=
    (mSeq (mSet 1 (mLst mNil))
    (mSeq (mAsg (gT 4 (gC (gN 2) (gC (gN 3) (gC (gN 4) (gC (gN 5) gE))))) (mTup (mCons (mC (.int 0)) (mCons (mOp oIx (mOp oIx (mVar 0) (mC (.int 0))) (mC (.int 1))) (mCons (mC .non) (mCons (mOp oIx (mOp oIx (mVar 0) (mC (.int 0))) (mC (.int 1))) mNil))))))
    (mSeq (mFor (iEnA (mVar 0)) (gT 2 (gC (gN 6) (gC (gN 7) gE)))
    (mSeq (mSet 8 (mCB m_start_of (mCons (mVar 0) (mCons (mOp oAdd (mVar 6) (mC (.int 1))) mNil))))
    (mSeq (mIf (mB (mIsN false (mVar 8)))
    (mSet 8 (mOp oAdd (mOp oIx (mVar 7) (mC (.int 0))) (mC (.int 3))))
    mSkip)
    (mSeq (mFor (iR2 (mCB m_greater (mCons (mOp oIx (mVar 7) (mC (.int 0))) (mCons (mC (.int 1)) mNil))) (mCB m_lesser (mCons (mVar 8) (mCons (mOp oAdd (mOp oIx (mVar 7) (mC (.int 0))) (mC (.int 3))) mNil)))) (gN 9)
    (mSeq (mSet 10 (mCB m_row_value (mCons (mVar 7) (mCons (mVar 9) mNil))))
    (mSeq (mSet 11 (mOp oSub (mVar 10) (mVar 5)))
    (mSeq (mIf (mTAnd (mB (mIsN false (mVar 4))) (mB (mOp (oInA false) (mVar 11) (mTup (mCons (mC (.int 0)) (mCons (mC (.int 1)) mNil))))))
    (mSet 4 (mVar 11))
    (mIf (mB (mOp (oNe 3) (mVar 11) (mVar 4)))
    (mSeq (mDrop (mBM kList fAppend (mVar 1) (mCons (mTup (mCons (mVar 2) (mCons (mVar 3) (mCons (mOp (oEq 3) (mVar 4) (mC (.int 1))) mNil)))) mNil)))
    (mPar3 2 3 4 (mCons (mVar 9) (mCons (mVar 10) (mCons (mC .non) mNil)))))
    mSkip))
    (mSet 5 (mVar 10))))))
    (mSet 5 (mCB m_row_value (mCons (mVar 7) (mCons (mOp oSub (mVar 8) (mC (.int 1))) mNil))))))))
    (mSeq (mDrop (mBM kList fAppend (mVar 1) (mCons (mTup (mCons (mVar 2) (mCons (mVar 3) (mCons (mC (.bl true)) mNil)))) mNil)))
    (mRet (mCB fTuple (mCons (mVar 1) mNil)))))))
noncomputable def m_shortest : MF := mfun 1 12 b_shortest
theorem ok_shortest (fx : Fx G mg) (c_start_of : Callee P w G mg base "start_of" 1 ["rows", "place"] m_start_of) (c_greater : Callee P w G mg base "greater" 1 ["first", "second"] m_greater) (c_lesser : Callee P w G mg base "lesser" 1 ["first", "second"] m_lesser) (c_row_value : Callee P w G mg base "row_value" 1 ["row", "minute"] m_row_value) (F : Fun G.K "shortest" "shortest" t_shortest f fd) : FnM P w G mg base 2 f fd ["rows"] m_shortest :=
  fn_M (k := 1) F sc_shortest fun cdv A outer s H E hr tk => by
  exact (dSeq (dSet (dLst dNil) sc_shortest.nd (by kernel_rfl) (by kernel_rfl) (by kernel_rfl) (Or.inl rfl))
    (dSeq (dAsg (dTup (dCons dInt (dCons (dIx rfl (dIx rfl (dVar 0 (by kernel_rfl) (by kernel_rfl) (by kernel_rfl) (by kernel_rfl)) dInt (fun _ _ => rfl)) dInt (fun _ _ => rfl)) (dCons dNon (dCons (dIx rfl (dIx rfl (dVar 0 (by kernel_rfl) (by kernel_rfl) (by kernel_rfl) (by kernel_rfl)) dInt (fun _ _ => rfl)) dInt (fun _ _ => rfl)) dNil (by kernel_rfl)) (by kernel_rfl)) (by kernel_rfl)) (by kernel_rfl))) (gTupD rfl rfl (gConsD (gName sc_shortest.nd (by kernel_rfl) (by kernel_rfl) (Or.inl rfl)) (gConsD (gName sc_shortest.nd (by kernel_rfl) (by kernel_rfl) (Or.inl rfl)) (gConsD (gName sc_shortest.nd (by kernel_rfl) (by kernel_rfl) (Or.inl rfl)) (gConsD (gName sc_shortest.nd (by kernel_rfl) (by kernel_rfl) (Or.inl rfl)) gNil' (by kernel_rfl)) (by kernel_rfl)) (by kernel_rfl)) (by kernel_rfl)) (by kernel_rfl) (by kernel_rfl)) (by kernel_rfl) (by kernel_rfl) (by kernel_rfl))
    (dSeq (dFor PassesOwn.leaving rfl (iEnum' rfl rfl (dVar 0 (by kernel_rfl) (by kernel_rfl) (by kernel_rfl) (by kernel_rfl)) (by kernel_rfl) fx.b_enumerate (by kernel_rfl) (by kernel_rfl)) (gTupD rfl rfl (gConsD (gName sc_shortest.nd (by kernel_rfl) (by kernel_rfl) (Or.inl rfl)) (gConsD (gName sc_shortest.nd (by kernel_rfl) (by kernel_rfl) (Or.inl rfl)) gNil' (by kernel_rfl)) (by kernel_rfl)) (by kernel_rfl) (by kernel_rfl))
    (dSeq (dSet (dCall (n := 2) rfl c_start_of hr (by decide) tk rfl (dCons (dVar 0 (by kernel_rfl) (by kernel_rfl) (by kernel_rfl) (by kernel_rfl)) (dCons (dAdd rfl (dVar 6 (by kernel_rfl) (by kernel_rfl) (by kernel_rfl) (by kernel_rfl)) dInt) dNil (by kernel_rfl)) (by kernel_rfl)) (al_cons (al_cons al_nil)) (by kernel_rfl) (by kernel_rfl) ⟨(by kernel_rfl), (by kernel_rfl)⟩) sc_shortest.nd (by kernel_rfl) (by kernel_rfl) (by kernel_rfl) (Or.inl rfl))
    (dSeq (dIf (qIsN (dVar 8 (by kernel_rfl) (by kernel_rfl) (by kernel_rfl) (by kernel_rfl)))
    (dOne (dSet (dAdd rfl (dIx rfl (dVar 7 (by kernel_rfl) (by kernel_rfl) (by kernel_rfl) (by kernel_rfl)) dInt (fun _ _ => rfl)) dInt) sc_shortest.nd (by kernel_rfl) (by kernel_rfl) (by kernel_rfl) (Or.inl rfl)))
    dSkip)
    (dSeq (dFor PassesOwn.leaving rfl (iRange2 (dCall (n := 2) rfl c_greater hr (by decide) tk rfl (dCons (dIx rfl (dVar 7 (by kernel_rfl) (by kernel_rfl) (by kernel_rfl) (by kernel_rfl)) dInt (fun _ _ => rfl)) (dCons dInt dNil (by kernel_rfl)) (by kernel_rfl)) (al_cons (al_cons al_nil)) (by kernel_rfl) (by kernel_rfl) ⟨(by kernel_rfl), (by kernel_rfl)⟩) (dCall (n := 2) rfl c_lesser hr (by decide) tk rfl (dCons (dVar 8 (by kernel_rfl) (by kernel_rfl) (by kernel_rfl) (by kernel_rfl)) (dCons (dAdd rfl (dIx rfl (dVar 7 (by kernel_rfl) (by kernel_rfl) (by kernel_rfl) (by kernel_rfl)) dInt (fun _ _ => rfl)) dInt) dNil (by kernel_rfl)) (by kernel_rfl)) (al_cons (al_cons al_nil)) (by kernel_rfl) (by kernel_rfl) ⟨(by kernel_rfl), (by kernel_rfl)⟩) fx.b_range (by kernel_rfl) (by kernel_rfl) (by kernel_rfl) (by kernel_rfl) (by kernel_rfl)) (gName sc_shortest.nd (by kernel_rfl) (by kernel_rfl) (Or.inl rfl))
    (dSeq (dSet (dCall (n := 2) rfl c_row_value hr (by decide) tk rfl (dCons (dVar 7 (by kernel_rfl) (by kernel_rfl) (by kernel_rfl) (by kernel_rfl)) (dCons (dVar 9 (by kernel_rfl) (by kernel_rfl) (by kernel_rfl) (by kernel_rfl)) dNil (by kernel_rfl)) (by kernel_rfl)) (al_cons (al_cons al_nil)) (by kernel_rfl) (by kernel_rfl) ⟨(by kernel_rfl), (by kernel_rfl)⟩) sc_shortest.nd (by kernel_rfl) (by kernel_rfl) (by kernel_rfl) (Or.inl rfl))
    (dSeq (dSet (dSub (dVar 10 (by kernel_rfl) (by kernel_rfl) (by kernel_rfl) (by kernel_rfl)) (dVar 5 (by kernel_rfl) (by kernel_rfl) (by kernel_rfl) (by kernel_rfl))) sc_shortest.nd (by kernel_rfl) (by kernel_rfl) (by kernel_rfl) (Or.inl rfl))
    (dSeq (dIf (qAnd' (qIsN (dVar 4 (by kernel_rfl) (by kernel_rfl) (by kernel_rfl) (by kernel_rfl))) (qAnd1 (qIn rfl (dVar 11 (by kernel_rfl) (by kernel_rfl) (by kernel_rfl) (by kernel_rfl)) (dTup (dCons dInt (dCons dInt dNil (by kernel_rfl)) (by kernel_rfl))) (by kernel_rfl))))
    (dOne (dSet (dVar 11 (by kernel_rfl) (by kernel_rfl) (by kernel_rfl) (by kernel_rfl)) sc_shortest.nd (by kernel_rfl) (by kernel_rfl) (by kernel_rfl) (Or.inl rfl)))
    (dOne (dIf (qNe 3 rfl (units64 hr) (dVar 11 (by kernel_rfl) (by kernel_rfl) (by kernel_rfl) (by kernel_rfl)) (dVar 4 (by kernel_rfl) (by kernel_rfl) (by kernel_rfl) (by kernel_rfl)))
    (dSeq (dExpr (dAppend (dVar 1 (by kernel_rfl) (by kernel_rfl) (by kernel_rfl) (by kernel_rfl)) (dTup (dCons (dVar 2 (by kernel_rfl) (by kernel_rfl) (by kernel_rfl) (by kernel_rfl)) (dCons (dVar 3 (by kernel_rfl) (by kernel_rfl) (by kernel_rfl) (by kernel_rfl)) (dCons (dEq 3 rfl (units64 hr) (dVar 4 (by kernel_rfl) (by kernel_rfl) (by kernel_rfl) (by kernel_rfl)) dInt) dNil (by kernel_rfl)) (by kernel_rfl)) (by kernel_rfl))) rfl (by kernel_rfl) (pe_bm PySem.F.plainAttrs_list PySem.F.slot_list_append PySem.F.type_list_append mt_append (dVar 1 (by kernel_rfl) (by kernel_rfl) (by kernel_rfl) (by kernel_rfl)) (dCons (dTup (dCons (dVar 2 (by kernel_rfl) (by kernel_rfl) (by kernel_rfl) (by kernel_rfl)) (dCons (dVar 3 (by kernel_rfl) (by kernel_rfl) (by kernel_rfl) (by kernel_rfl)) (dCons (dEq 3 rfl (units64 hr) (dVar 4 (by kernel_rfl) (by kernel_rfl) (by kernel_rfl) (by kernel_rfl)) dInt) dNil (by kernel_rfl)) (by kernel_rfl)) (by kernel_rfl))) dNil (by kernel_rfl)))) (by kernel_rfl))
    (dOne (dPar3 (i := 2) (j := 3) (l := 4) rfl sc_shortest.nd (by kernel_rfl) (by kernel_rfl) (by kernel_rfl) (by decide) (by decide) (by decide) rfl rfl rfl (dCons (dVar 9 (by kernel_rfl) (by kernel_rfl) (by kernel_rfl) (by kernel_rfl)) (dCons (dVar 10 (by kernel_rfl) (by kernel_rfl) (by kernel_rfl) (by kernel_rfl)) (dCons dNon dNil (by kernel_rfl)) (by kernel_rfl)) (by kernel_rfl)) (by kernel_rfl) (by kernel_rfl))))
    dSkip)))
    (dOne (dSet (dVar 10 (by kernel_rfl) (by kernel_rfl) (by kernel_rfl) (by kernel_rfl)) sc_shortest.nd (by kernel_rfl) (by kernel_rfl) (by kernel_rfl) (Or.inl rfl)))))) (fun _ => rfl))
    (dOne (dSet (dCall (n := 2) rfl c_row_value hr (by decide) tk rfl (dCons (dVar 7 (by kernel_rfl) (by kernel_rfl) (by kernel_rfl) (by kernel_rfl)) (dCons (dSub (dVar 8 (by kernel_rfl) (by kernel_rfl) (by kernel_rfl) (by kernel_rfl)) dInt) dNil (by kernel_rfl)) (by kernel_rfl)) (al_cons (al_cons al_nil)) (by kernel_rfl) (by kernel_rfl) ⟨(by kernel_rfl), (by kernel_rfl)⟩) sc_shortest.nd (by kernel_rfl) (by kernel_rfl) (by kernel_rfl) (Or.inl rfl)))))) (fun _ => rfl))
    (dSeq (dExpr (dAppend (dVar 1 (by kernel_rfl) (by kernel_rfl) (by kernel_rfl) (by kernel_rfl)) (dTup (dCons (dVar 2 (by kernel_rfl) (by kernel_rfl) (by kernel_rfl) (by kernel_rfl)) (dCons (dVar 3 (by kernel_rfl) (by kernel_rfl) (by kernel_rfl) (by kernel_rfl)) (dCons dBl dNil (by kernel_rfl)) (by kernel_rfl)) (by kernel_rfl))) rfl (by kernel_rfl) (pe_bm PySem.F.plainAttrs_list PySem.F.slot_list_append PySem.F.type_list_append mt_append (dVar 1 (by kernel_rfl) (by kernel_rfl) (by kernel_rfl) (by kernel_rfl)) (dCons (dTup (dCons (dVar 2 (by kernel_rfl) (by kernel_rfl) (by kernel_rfl) (by kernel_rfl)) (dCons (dVar 3 (by kernel_rfl) (by kernel_rfl) (by kernel_rfl) (by kernel_rfl)) (dCons dBl dNil (by kernel_rfl)) (by kernel_rfl)) (by kernel_rfl))) dNil (by kernel_rfl)))) (by kernel_rfl))
    (dOne (dRet (dTy (cTuple rfl) fTuple_ok fx.b_tuple (by kernel_rfl) (by kernel_rfl) (dCons (dVar 1 (by kernel_rfl) (by kernel_rfl) (by kernel_rfl) (by kernel_rfl)) dNil (by kernel_rfl)) (by decide +kernel) (by kernel_rfl) ⟨(by kernel_rfl), (by kernel_rfl)⟩)))))))
abbrev t_follows : Stmt := topS 15
theorem sc_follows : FnScope ["before", "start", "value", "last"] ["before", "start", "value"] (defScope t_follows) := ⟨rfl, rfl, rfl, by decide +kernel, rfl, by decide +kernel, by decide +kernel⟩
noncomputable def b_follows : MS :=
    (mSeq (mIf (mB (mOp oLe (mVar 1) (mOp oIx (mVar 0) (mC (.int 0)))))
    (mRet (mC (.bl false)))
    mSkip)
    (mSeq (mSet 3 (mCB m_row_value (mCons (mVar 0) (mCons (mOp oSub (mVar 1) (mC (.int 1))) mNil))))
    (mRet (mChain oLe oLe (mOp oSub (mVar 1) (mC (.int 1))) (mVar 3) (mVar 2)))))
noncomputable def m_follows : MF := mfun 3 4 b_follows
theorem ok_follows (fx : Fx G mg) (c_row_value : Callee P w G mg base "row_value" 1 ["row", "minute"] m_row_value) (F : Fun G.K "follows" "follows" t_follows f fd) : FnM P w G mg base 2 f fd ["before", "start", "value"] m_follows :=
  fn_M (k := 1) F sc_follows fun cdv A outer s H E hr tk => by
  exact (dSeq (dIf (qLe (dVar 1 (by kernel_rfl) (by kernel_rfl) (by kernel_rfl) (by kernel_rfl)) (dIx rfl (dVar 0 (by kernel_rfl) (by kernel_rfl) (by kernel_rfl) (by kernel_rfl)) dInt (fun _ _ => rfl)))
    (dOne (dRet dBl))
    dSkip)
    (dSeq (dSet (dCall (n := 2) rfl c_row_value hr (by decide) tk rfl (dCons (dVar 0 (by kernel_rfl) (by kernel_rfl) (by kernel_rfl) (by kernel_rfl)) (dCons (dSub (dVar 1 (by kernel_rfl) (by kernel_rfl) (by kernel_rfl) (by kernel_rfl)) dInt) dNil (by kernel_rfl)) (by kernel_rfl)) (al_cons (al_cons al_nil)) (by kernel_rfl) (by kernel_rfl) ⟨(by kernel_rfl), (by kernel_rfl)⟩) sc_follows.nd (by kernel_rfl) (by kernel_rfl) (by kernel_rfl) (Or.inl rfl))
    (dOne (dRet (dLeLe (dSub (dVar 1 (by kernel_rfl) (by kernel_rfl) (by kernel_rfl) (by kernel_rfl)) dInt) (dVar 3 (by kernel_rfl) (by kernel_rfl) (by kernel_rfl) (by kernel_rfl)) (dVar 2 (by kernel_rfl) (by kernel_rfl) (by kernel_rfl) (by kernel_rfl)) (by kernel_rfl))))))
abbrev t_is_good_row : Stmt := topS 16
theorem sc_is_good_row : FnScope ["rows", "place", "start", "value", "grows"] ["rows", "place"] (defScope t_is_good_row) := ⟨rfl, rfl, rfl, by decide +kernel, rfl, by decide +kernel, by decide +kernel⟩
noncomputable def b_is_good_row : MS :=
    (mSeq (mAsg (gT 3 (gC (gN 2) (gC (gN 3) (gC (gN 4) gE)))) (mOp oIx (mVar 0) (mVar 1)))
    (mSeq (mIf (mTOr (mTNot (mB (mCB m_is_integer (mCons (mVar 2) mNil)))) (mTOr (mTNot (mB (mCB m_is_integer (mCons (mVar 3) mNil)))) (mB (mOp oLt (mVar 3) (mVar 2)))))
    (mRet (mC (.bl false)))
    mSkip)
    (mSeq (mIf (mTAnd (mB (mOp (oEq 3) (mVar 1) (mOp oSub (mCB fLen (mCons (mVar 0) mNil)) (mC (.int 1))))) (mTNot (mB (mVar 4))))
    (mRet (mC (.bl false)))
    mSkip)
    (mSeq (mIf (mB (mOp (oEq 3) (mVar 1) (mC (.int 0))))
    (mRet (mOp (oEq 3) (mVar 2) (mC (.int 0))))
    mSkip)
    (mRet (mCB m_follows (mCons (mOp oIx (mVar 0) (mOp oSub (mVar 1) (mC (.int 1)))) (mCons (mVar 2) (mCons (mVar 3) mNil)))))))))
noncomputable def m_is_good_row : MF := mfun 2 5 b_is_good_row
theorem ok_is_good_row (fx : Fx G mg) (c_is_integer : Callee P w G mg base "is_integer" 1 ["value"] m_is_integer) (c_follows : Callee P w G mg base "follows" 2 ["before", "start", "value"] m_follows) (F : Fun G.K "is_good_row" "is_good_row" t_is_good_row f fd) : FnM P w G mg base 3 f fd ["rows", "place"] m_is_good_row :=
  fn_M (k := 2) F sc_is_good_row fun cdv A outer s H E hr tk => by
  exact (dSeq (dAsg (dIx rfl (dVar 0 (by kernel_rfl) (by kernel_rfl) (by kernel_rfl) (by kernel_rfl)) (dVar 1 (by kernel_rfl) (by kernel_rfl) (by kernel_rfl) (by kernel_rfl)) (fun _ _ => rfl)) (gTupD rfl rfl (gConsD (gName sc_is_good_row.nd (by kernel_rfl) (by kernel_rfl) (Or.inl rfl)) (gConsD (gName sc_is_good_row.nd (by kernel_rfl) (by kernel_rfl) (Or.inl rfl)) (gConsD (gName sc_is_good_row.nd (by kernel_rfl) (by kernel_rfl) (Or.inl rfl)) gNil' (by kernel_rfl)) (by kernel_rfl)) (by kernel_rfl)) (by kernel_rfl) (by kernel_rfl)) (by kernel_rfl) (by kernel_rfl) (by kernel_rfl))
    (dSeq (dIf (qOr' (qNot (qVal (dCall (n := 1) rfl c_is_integer hr (by decide) tk rfl (dCons (dVar 2 (by kernel_rfl) (by kernel_rfl) (by kernel_rfl) (by kernel_rfl)) dNil (by kernel_rfl)) (al_cons al_nil) (by kernel_rfl) (by kernel_rfl) ⟨(by kernel_rfl), (by kernel_rfl)⟩) (fun _ => rfl))) (qOr (qNot (qVal (dCall (n := 1) rfl c_is_integer hr (by decide) tk rfl (dCons (dVar 3 (by kernel_rfl) (by kernel_rfl) (by kernel_rfl) (by kernel_rfl)) dNil (by kernel_rfl)) (al_cons al_nil) (by kernel_rfl) (by kernel_rfl) ⟨(by kernel_rfl), (by kernel_rfl)⟩) (fun _ => rfl))) (qOr1 (qLt (dVar 3 (by kernel_rfl) (by kernel_rfl) (by kernel_rfl) (by kernel_rfl)) (dVar 2 (by kernel_rfl) (by kernel_rfl) (by kernel_rfl) (by kernel_rfl))))))
    (dOne (dRet dBl))
    dSkip)
    (dSeq (dIf (qAnd' (qEq 3 rfl (units64 hr) (dVar 1 (by kernel_rfl) (by kernel_rfl) (by kernel_rfl) (by kernel_rfl)) (dSub (dB (cLen rfl) fLen_ok fx.b_len (by kernel_rfl) (by kernel_rfl) (dCons (dVar 0 (by kernel_rfl) (by kernel_rfl) (by kernel_rfl) (by kernel_rfl)) dNil (by kernel_rfl)) (by decide +kernel) (by kernel_rfl) ⟨(by kernel_rfl), (by kernel_rfl)⟩) dInt)) (qAnd1 (qNot (qVal (dVar 4 (by kernel_rfl) (by kernel_rfl) (by kernel_rfl) (by kernel_rfl)) (fun _ => rfl)))))
    (dOne (dRet dBl))
    dSkip)
    (dSeq (dIf (qEq 3 rfl (units64 hr) (dVar 1 (by kernel_rfl) (by kernel_rfl) (by kernel_rfl) (by kernel_rfl)) dInt)
    (dOne (dRet (dEq 3 rfl (units64 hr) (dVar 2 (by kernel_rfl) (by kernel_rfl) (by kernel_rfl) (by kernel_rfl)) dInt)))
    dSkip)
    (dOne (dRet (dCall (n := 3) rfl c_follows hr (by decide) tk rfl (dCons (dIx rfl (dVar 0 (by kernel_rfl) (by kernel_rfl) (by kernel_rfl) (by kernel_rfl)) (dSub (dVar 1 (by kernel_rfl) (by kernel_rfl) (by kernel_rfl) (by kernel_rfl)) dInt) (fun _ _ => rfl)) (dCons (dVar 2 (by kernel_rfl) (by kernel_rfl) (by kernel_rfl) (by kernel_rfl)) (dCons (dVar 3 (by kernel_rfl) (by kernel_rfl) (by kernel_rfl) (by kernel_rfl)) dNil (by kernel_rfl)) (by kernel_rfl)) (by kernel_rfl)) (al_cons (al_cons (al_cons al_nil))) (by kernel_rfl) (by kernel_rfl) ⟨(by kernel_rfl), (by kernel_rfl)⟩)))))))
abbrev t_check_rows : Stmt := topS 17
theorem sc_check_rows : FnScope ["rows", "place"] ["rows"] (defScope t_check_rows) := ⟨rfl, rfl, rfl, by decide +kernel, rfl, by decide +kernel, by decide +kernel⟩
noncomputable def b_check_rows : MS :=
    (mSeq (mIf (mB (mOp (oEq 3) (mCB fLen (mCons (mVar 0) mNil)) (mC (.int 0))))
    (mRaise 2 (mk1 ("place" : Str)) (mCons (mC (.int 0)) mNil))
    mSkip)
    (mSeq (mFor (iR1 (mCB fLen (mCons (mVar 0) mNil))) (gN 1)
    (mIf (mTNot (mB (mCB m_is_good_row (mCons (mVar 0) (mCons (mVar 1) mNil)))))
    (mRaise 2 (mk1 ("place" : Str)) (mCons (mVar 1) mNil))
    mSkip))
    (mRet (mVar 0))))
noncomputable def m_check_rows : MF := mfun 1 2 b_check_rows
theorem ok_check_rows (fx : Fx G mg) (c_is_good_row : Callee P w G mg base "is_good_row" 3 ["rows", "place"] m_is_good_row) (e_BadRows : OwnErr P w G mg base "BadRows" 1 2 1 (mk1 ("place" : Str))) (F : Fun G.K "check_rows" "check_rows" t_check_rows f fd) : FnM P w G mg base 4 f fd ["rows"] m_check_rows :=
  fn_M (k := 3) F sc_check_rows fun cdv A outer s H E hr tk => by
  exact (dSeq (dIf (qEq 3 rfl (units64 hr) (dB (cLen rfl) fLen_ok fx.b_len (by kernel_rfl) (by kernel_rfl) (dCons (dVar 0 (by kernel_rfl) (by kernel_rfl) (by kernel_rfl) (by kernel_rfl)) dNil (by kernel_rfl)) (by decide +kernel) (by kernel_rfl) ⟨(by kernel_rfl), (by kernel_rfl)⟩) dInt)
    (dOne (dRaise (n := 1) rfl e_BadRows hr (by decide) tk rfl (dCons dInt dNil (by kernel_rfl)) (al_cons al_nil) (by decide) (by kernel_rfl) (by kernel_rfl) ⟨(by kernel_rfl), (by kernel_rfl)⟩))
    dSkip)
    (dSeq (dFor PassesOwn.leaving rfl (iRange1 (dB (cLen rfl) fLen_ok fx.b_len (by kernel_rfl) (by kernel_rfl) (dCons (dVar 0 (by kernel_rfl) (by kernel_rfl) (by kernel_rfl) (by kernel_rfl)) dNil (by kernel_rfl)) (by decide +kernel) (by kernel_rfl) ⟨(by kernel_rfl), (by kernel_rfl)⟩) fx.b_range (by kernel_rfl) (by kernel_rfl) (by kernel_rfl)) (gName sc_check_rows.nd (by kernel_rfl) (by kernel_rfl) (Or.inl rfl))
    (dOne (dIf (qNot (qVal (dCall (n := 2) rfl c_is_good_row hr (by decide) tk rfl (dCons (dVar 0 (by kernel_rfl) (by kernel_rfl) (by kernel_rfl) (by kernel_rfl)) (dCons (dVar 1 (by kernel_rfl) (by kernel_rfl) (by kernel_rfl) (by kernel_rfl)) dNil (by kernel_rfl)) (by kernel_rfl)) (al_cons (al_cons al_nil)) (by kernel_rfl) (by kernel_rfl) ⟨(by kernel_rfl), (by kernel_rfl)⟩) (fun _ => rfl)))
    (dOne (dRaise (n := 1) rfl e_BadRows hr (by decide) tk rfl (dCons (dVar 1 (by kernel_rfl) (by kernel_rfl) (by kernel_rfl) (by kernel_rfl)) dNil (by kernel_rfl)) (al_cons al_nil) (by decide) (by kernel_rfl) (by kernel_rfl) ⟨(by kernel_rfl), (by kernel_rfl)⟩))
    dSkip)) (fun _ => rfl))
    (dOne (dRet (dVar 0 (by kernel_rfl) (by kernel_rfl) (by kernel_rfl) (by kernel_rfl))))))
abbrev t_Rising___init__ : Stmt := inClass (topS 25) 0
theorem sc_Rising___init__ : FnScope ["self", "rows"] ["self", "rows"] (defScope t_Rising___init__) := ⟨rfl, rfl, rfl, by decide +kernel, rfl, by decide +kernel, by decide +kernel⟩
noncomputable def b_Rising___init__ : MS :=
    (mSetAt ("rows" : Str) at_rows_i (mVar 0) (mCB m_shortest (mCons (mCB m_check_rows (mCons (mCB fList (mCons (mVar 1) mNil)) mNil)) mNil)))
noncomputable def m_Rising___init__ : MF := mfun 2 2 b_Rising___init__
theorem ok_Rising___init__ (fx : Fx G mg) (c_check_rows : Callee P w G mg base "check_rows" 4 ["rows"] m_check_rows) (c_shortest : Callee P w G mg base "shortest" 2 ["rows"] m_shortest) (F : Fun G.K "__init__" "Rising.__init__" t_Rising___init__ f fd) : FnM P w G mg base 5 f fd ["self", "rows"] m_Rising___init__ :=
  fn_M (k := 4) F sc_Rising___init__ fun cdv A outer s H E hr tk => by
  exact (dOne (dSetAt rfl fx.s_rows (dCall (n := 1) rfl c_shortest hr (by decide) tk rfl (dCons (dCall (n := 1) rfl c_check_rows hr (by decide) tk rfl (dCons (dTy (cList rfl) fList_ok fx.b_list (by kernel_rfl) (by kernel_rfl) (dCons (dVar 1 (by kernel_rfl) (by kernel_rfl) (by kernel_rfl) (by kernel_rfl)) dNil (by kernel_rfl)) (by decide +kernel) (by kernel_rfl) ⟨(by kernel_rfl), (by kernel_rfl)⟩) dNil (by kernel_rfl)) (al_cons al_nil) (by kernel_rfl) (by kernel_rfl) ⟨(by kernel_rfl), (by kernel_rfl)⟩) dNil (by kernel_rfl)) (al_cons al_nil) (by kernel_rfl) (by kernel_rfl) ⟨(by kernel_rfl), (by kernel_rfl)⟩) (dVar 0 (by kernel_rfl) (by kernel_rfl) (by kernel_rfl) (by kernel_rfl)) (by kernel_rfl)))
abbrev t_check_slots : Stmt := topS 30
theorem sc_check_slots : FnScope ["length", "minutes", "riding"] ["length", "minutes"] (defScope t_check_slots) := ⟨rfl, rfl, rfl, by decide +kernel, rfl, by decide +kernel, by decide +kernel⟩
noncomputable def b_check_slots : MS :=
    (mSeq (mDrop (mCB m_check_number (mCons (mC (.str ("length" : Str))) (mCons (mVar 0) (mCons (mC (.int 1)) (mCons (mC (.int 720)) mNil))))))
    (mSeq (mDrop (mCB m_check_number (mCons (mC (.str ("slots" : Str))) (mCons (mCB fLen (mCons (mVar 1) mNil)) (mCons (mC (.int 1)) (mCons (mC (.int 48)) mNil))))))
    (mFor (iSeq (mVar 1)) (gN 2)
    (mDrop (mCB m_check_number (mCons (mC (.str ("riding" : Str))) (mCons (mVar 2) (mCons (mC (.int 0)) (mCons (mC (.int 600)) mNil)))))))))
noncomputable def m_check_slots : MF := mfun 2 3 b_check_slots
theorem ok_check_slots (fx : Fx G mg) (c_check_number : Callee P w G mg base "check_number" 4 ["what", "value", "low", "high"] m_check_number) (F : Fun G.K "check_slots" "check_slots" t_check_slots f fd) : FnM P w G mg base 5 f fd ["length", "minutes"] m_check_slots :=
  fn_M (k := 4) F sc_check_slots fun cdv A outer s H E hr tk => by
  exact (dSeq (dExpr (dCall (n := 4) rfl c_check_number hr (by decide) tk rfl (dCons dStr (dCons (dVar 0 (by kernel_rfl) (by kernel_rfl) (by kernel_rfl) (by kernel_rfl)) (dCons dInt (dCons (dGlI fx.c_LONGEST_SLOT (by kernel_rfl) (by kernel_rfl)) dNil (by kernel_rfl)) (by kernel_rfl)) (by kernel_rfl)) (by kernel_rfl)) (al_cons (al_cons (al_cons (al_cons al_nil)))) (by kernel_rfl) (by kernel_rfl) ⟨(by kernel_rfl), (by kernel_rfl)⟩) (by kernel_rfl))
    (dSeq (dExpr (dCall (n := 4) rfl c_check_number hr (by decide) tk rfl (dCons dStr (dCons (dB (cLen rfl) fLen_ok fx.b_len (by kernel_rfl) (by kernel_rfl) (dCons (dVar 1 (by kernel_rfl) (by kernel_rfl) (by kernel_rfl) (by kernel_rfl)) dNil (by kernel_rfl)) (by decide +kernel) (by kernel_rfl) ⟨(by kernel_rfl), (by kernel_rfl)⟩) (dCons dInt (dCons (dGlI fx.c_MOST_SLOTS (by kernel_rfl) (by kernel_rfl)) dNil (by kernel_rfl)) (by kernel_rfl)) (by kernel_rfl)) (by kernel_rfl)) (al_cons (al_cons (al_cons (al_cons al_nil)))) (by kernel_rfl) (by kernel_rfl) ⟨(by kernel_rfl), (by kernel_rfl)⟩) (by kernel_rfl))
    (dOne (dFor PassesOwn.leaving rfl (iSeq' rfl (dVar 1 (by kernel_rfl) (by kernel_rfl) (by kernel_rfl) (by kernel_rfl))) (gName sc_check_slots.nd (by kernel_rfl) (by kernel_rfl) (Or.inl rfl))
    (dOne (dExpr (dCall (n := 4) rfl c_check_number hr (by decide) tk rfl (dCons dStr (dCons (dVar 2 (by kernel_rfl) (by kernel_rfl) (by kernel_rfl) (by kernel_rfl)) (dCons dInt (dCons (dGlI fx.c_LONGEST_RIDE (by kernel_rfl) (by kernel_rfl)) dNil (by kernel_rfl)) (by kernel_rfl)) (by kernel_rfl)) (by kernel_rfl)) (al_cons (al_cons (al_cons (al_cons al_nil)))) (by kernel_rfl) (by kernel_rfl) ⟨(by kernel_rfl), (by kernel_rfl)⟩) (by kernel_rfl))) (fun _ => rfl)))))
abbrev t_by_slots : Stmt := topS 31
theorem sc_by_slots : FnScope ["length", "minutes", "start", "best", "rows", "riding", "after"] ["length", "minutes"] (defScope t_by_slots) := ⟨rfl, rfl, rfl, by decide +kernel, rfl, by decide +kernel, by decide +kernel⟩
noncomputable def b_by_slots : MS :=
    (mSeq (mDrop (mCB m_check_slots (mCons (mVar 0) (mCons (mVar 1) mNil))))
    (mSeq (mSet 2 (mOp oMulA (mVar 0) (mOp oSub (mCB fLen (mCons (mVar 1) mNil)) (mC (.int 1)))))
    (mSeq (mSet 3 (mOp oAdd (mVar 2) (mOp oIx (mVar 1) (mNeg (mC (.int 1))))))
    (mSeq (mSet 4 (mLst (mCons (mTup (mCons (mVar 2) (mCons (mVar 3) (mCons (mC (.bl true)) mNil)))) mNil)))
    (mSeq (mFor (iSeq (mRevF (mVar 1) (mPart (mNeg (mC (.int 2)))))) (gN 5)
    (mSeq (mSet 6 (mVar 2))
    (mSeq (mSet 2 (mOp oSub (mVar 2) (mVar 0)))
    (mIf (mB (mOp oGe (mOp oAdd (mVar 2) (mVar 5)) (mVar 3)))
    (mDrop (mBM kList fAppend (mVar 4) (mCons (mTup (mCons (mVar 2) (mCons (mVar 3) (mCons (mC (.bl false)) mNil)))) mNil)))
    (mSeq (mIf (mB (mOp oLt (mOp oSub (mVar 3) (mVar 5)) (mVar 6)))
    (mDrop (mBM kList fAppend (mVar 4) (mCons (mTup (mCons (mOp oSub (mVar 3) (mVar 5)) (mCons (mVar 3) (mCons (mC (.bl false)) mNil)))) mNil)))
    mSkip)
    (mSeq (mSet 3 (mOp oAdd (mVar 2) (mVar 5)))
    (mDrop (mBM kList fAppend (mVar 4) (mCons (mTup (mCons (mVar 2) (mCons (mVar 3) (mCons (mC (.bl true)) mNil)))) mNil)))))))))
    (mRet (mMake 3 m_Rising___init__ (mCons (mRevL (mVar 4)) mNil))))))))
noncomputable def m_by_slots : MF := mfun 2 7 b_by_slots
theorem ok_by_slots (fx : Fx G mg) (c_check_slots : Callee P w G mg base "check_slots" 5 ["length", "minutes"] m_check_slots) (mk_Rising : OwnCls P w G mg base "Rising" 5 3 1 m_Rising___init__) (F : Fun G.K "by_slots" "by_slots" t_by_slots f fd) : FnM P w G mg base 7 f fd ["length", "minutes"] m_by_slots :=
  fn_M (k := 6) F sc_by_slots fun cdv A outer s H E hr tk => by
  exact (dSeq (dExpr (dCall (n := 2) rfl c_check_slots hr (by decide) tk rfl (dCons (dVar 0 (by kernel_rfl) (by kernel_rfl) (by kernel_rfl) (by kernel_rfl)) (dCons (dVar 1 (by kernel_rfl) (by kernel_rfl) (by kernel_rfl) (by kernel_rfl)) dNil (by kernel_rfl)) (by kernel_rfl)) (al_cons (al_cons al_nil)) (by kernel_rfl) (by kernel_rfl) ⟨(by kernel_rfl), (by kernel_rfl)⟩) (by kernel_rfl))
    (dSeq (dSet (dMul (dVar 0 (by kernel_rfl) (by kernel_rfl) (by kernel_rfl) (by kernel_rfl)) (dSub (dB (cLen rfl) fLen_ok fx.b_len (by kernel_rfl) (by kernel_rfl) (dCons (dVar 1 (by kernel_rfl) (by kernel_rfl) (by kernel_rfl) (by kernel_rfl)) dNil (by kernel_rfl)) (by decide +kernel) (by kernel_rfl) ⟨(by kernel_rfl), (by kernel_rfl)⟩) dInt)) sc_by_slots.nd (by kernel_rfl) (by kernel_rfl) (by kernel_rfl) (Or.inl rfl))
    (dSeq (dSet (dAdd rfl (dVar 2 (by kernel_rfl) (by kernel_rfl) (by kernel_rfl) (by kernel_rfl)) (dIx rfl (dVar 1 (by kernel_rfl) (by kernel_rfl) (by kernel_rfl) (by kernel_rfl)) (dNeg dInt) (fun _ _ => rfl))) sc_by_slots.nd (by kernel_rfl) (by kernel_rfl) (by kernel_rfl) (Or.inl rfl))
    (dSeq (dSet (dLst (dCons (dTup (dCons (dVar 2 (by kernel_rfl) (by kernel_rfl) (by kernel_rfl) (by kernel_rfl)) (dCons (dVar 3 (by kernel_rfl) (by kernel_rfl) (by kernel_rfl) (by kernel_rfl)) (dCons dBl dNil (by kernel_rfl)) (by kernel_rfl)) (by kernel_rfl))) dNil (by kernel_rfl))) sc_by_slots.nd (by kernel_rfl) (by kernel_rfl) (by kernel_rfl) (Or.inl rfl))
    (dSeq (dFor PassesOwn.leaving rfl (iSeq' rfl (dRevF rfl (dVar 1 (by kernel_rfl) (by kernel_rfl) (by kernel_rfl) (by kernel_rfl)) (dPart (dNeg dInt)) (by kernel_rfl))) (gName sc_by_slots.nd (by kernel_rfl) (by kernel_rfl) (Or.inl rfl))
    (dSeq (dSet (dVar 2 (by kernel_rfl) (by kernel_rfl) (by kernel_rfl) (by kernel_rfl)) sc_by_slots.nd (by kernel_rfl) (by kernel_rfl) (by kernel_rfl) (Or.inl rfl))
    (dSeq (dSet (dSub (dVar 2 (by kernel_rfl) (by kernel_rfl) (by kernel_rfl) (by kernel_rfl)) (dVar 0 (by kernel_rfl) (by kernel_rfl) (by kernel_rfl) (by kernel_rfl))) sc_by_slots.nd (by kernel_rfl) (by kernel_rfl) (by kernel_rfl) (Or.inl rfl))
    (dOne (dIf (qGe (dAdd rfl (dVar 2 (by kernel_rfl) (by kernel_rfl) (by kernel_rfl) (by kernel_rfl)) (dVar 5 (by kernel_rfl) (by kernel_rfl) (by kernel_rfl) (by kernel_rfl))) (dVar 3 (by kernel_rfl) (by kernel_rfl) (by kernel_rfl) (by kernel_rfl)))
    (dOne (dExpr (dAppend (dVar 4 (by kernel_rfl) (by kernel_rfl) (by kernel_rfl) (by kernel_rfl)) (dTup (dCons (dVar 2 (by kernel_rfl) (by kernel_rfl) (by kernel_rfl) (by kernel_rfl)) (dCons (dVar 3 (by kernel_rfl) (by kernel_rfl) (by kernel_rfl) (by kernel_rfl)) (dCons dBl dNil (by kernel_rfl)) (by kernel_rfl)) (by kernel_rfl))) rfl (by kernel_rfl) (pe_bm PySem.F.plainAttrs_list PySem.F.slot_list_append PySem.F.type_list_append mt_append (dVar 4 (by kernel_rfl) (by kernel_rfl) (by kernel_rfl) (by kernel_rfl)) (dCons (dTup (dCons (dVar 2 (by kernel_rfl) (by kernel_rfl) (by kernel_rfl) (by kernel_rfl)) (dCons (dVar 3 (by kernel_rfl) (by kernel_rfl) (by kernel_rfl) (by kernel_rfl)) (dCons dBl dNil (by kernel_rfl)) (by kernel_rfl)) (by kernel_rfl))) dNil (by kernel_rfl)))) (by kernel_rfl)))
    (dSeq (dIf (qLt (dSub (dVar 3 (by kernel_rfl) (by kernel_rfl) (by kernel_rfl) (by kernel_rfl)) (dVar 5 (by kernel_rfl) (by kernel_rfl) (by kernel_rfl) (by kernel_rfl))) (dVar 6 (by kernel_rfl) (by kernel_rfl) (by kernel_rfl) (by kernel_rfl)))
    (dOne (dExpr (dAppend (dVar 4 (by kernel_rfl) (by kernel_rfl) (by kernel_rfl) (by kernel_rfl)) (dTup (dCons (dSub (dVar 3 (by kernel_rfl) (by kernel_rfl) (by kernel_rfl) (by kernel_rfl)) (dVar 5 (by kernel_rfl) (by kernel_rfl) (by kernel_rfl) (by kernel_rfl))) (dCons (dVar 3 (by kernel_rfl) (by kernel_rfl) (by kernel_rfl) (by kernel_rfl)) (dCons dBl dNil (by kernel_rfl)) (by kernel_rfl)) (by kernel_rfl))) rfl (by kernel_rfl) (pe_bm PySem.F.plainAttrs_list PySem.F.slot_list_append PySem.F.type_list_append mt_append (dVar 4 (by kernel_rfl) (by kernel_rfl) (by kernel_rfl) (by kernel_rfl)) (dCons (dTup (dCons (dSub (dVar 3 (by kernel_rfl) (by kernel_rfl) (by kernel_rfl) (by kernel_rfl)) (dVar 5 (by kernel_rfl) (by kernel_rfl) (by kernel_rfl) (by kernel_rfl))) (dCons (dVar 3 (by kernel_rfl) (by kernel_rfl) (by kernel_rfl) (by kernel_rfl)) (dCons dBl dNil (by kernel_rfl)) (by kernel_rfl)) (by kernel_rfl))) dNil (by kernel_rfl)))) (by kernel_rfl)))
    dSkip)
    (dSeq (dSet (dAdd rfl (dVar 2 (by kernel_rfl) (by kernel_rfl) (by kernel_rfl) (by kernel_rfl)) (dVar 5 (by kernel_rfl) (by kernel_rfl) (by kernel_rfl) (by kernel_rfl))) sc_by_slots.nd (by kernel_rfl) (by kernel_rfl) (by kernel_rfl) (Or.inl rfl))
    (dOne (dExpr (dAppend (dVar 4 (by kernel_rfl) (by kernel_rfl) (by kernel_rfl) (by kernel_rfl)) (dTup (dCons (dVar 2 (by kernel_rfl) (by kernel_rfl) (by kernel_rfl) (by kernel_rfl)) (dCons (dVar 3 (by kernel_rfl) (by kernel_rfl) (by kernel_rfl) (by kernel_rfl)) (dCons dBl dNil (by kernel_rfl)) (by kernel_rfl)) (by kernel_rfl))) rfl (by kernel_rfl) (pe_bm PySem.F.plainAttrs_list PySem.F.slot_list_append PySem.F.type_list_append mt_append (dVar 4 (by kernel_rfl) (by kernel_rfl) (by kernel_rfl) (by kernel_rfl)) (dCons (dTup (dCons (dVar 2 (by kernel_rfl) (by kernel_rfl) (by kernel_rfl) (by kernel_rfl)) (dCons (dVar 3 (by kernel_rfl) (by kernel_rfl) (by kernel_rfl) (by kernel_rfl)) (dCons dBl dNil (by kernel_rfl)) (by kernel_rfl)) (by kernel_rfl))) dNil (by kernel_rfl)))) (by kernel_rfl))))))))) (fun _ => rfl))
    (dOne (dRet (dMake (n := 1) rfl mk_Rising hr (by decide) tk (dCons (dRevL rfl (dVar 4 (by kernel_rfl) (by kernel_rfl) (by kernel_rfl) (by kernel_rfl))) dNil (by kernel_rfl)) (al_cons al_nil) (by kernel_rfl) (by kernel_rfl) ⟨(by kernel_rfl), (by kernel_rfl)⟩))))))))
abbrev t__law_plain : Stmt := topS 40
theorem sc__law_plain : FnScope ["_law_riding_here", "_law_minute", "_law_size", "_law_times"] ["_law_riding_here", "_law_minute"] (defScope t__law_plain) := ⟨rfl, rfl, rfl, by decide +kernel, rfl, by decide +kernel, by decide +kernel⟩
noncomputable def b__law_plain : MS :=
    (mSeq (mAsg (gT 2 (gC (gN 2) (gC (gN 3) gE))) (mVar 0))
    (mRet (mOp oAdd (mVar 1) (mOp oIx (mVar 3) (mCB fMin2 (mCons (mCB fIntA2 (mCons (mOp oDiv (mVar 1) (mVar 2)) mNil)) (mCons (mOp oSub (mCB fLen (mCons (mVar 3) mNil)) (mC (.int 1))) mNil)))))))
noncomputable def m__law_plain : MF := mfun 2 4 b__law_plain
theorem ok__law_plain (fx : Fx G mg) (F : Fun G.K "_law_plain" "_law_plain" t__law_plain f fd) : FnM P w G mg base 1 f fd ["_law_riding_here", "_law_minute"] m__law_plain :=
  fn_M (k := 0) F sc__law_plain fun cdv A outer s H E hr tk => by
  exact (dSeq (dAsg (dVar 0 (by kernel_rfl) (by kernel_rfl) (by kernel_rfl) (by kernel_rfl)) (gTupD rfl rfl (gConsD (gName sc__law_plain.nd (by kernel_rfl) (by kernel_rfl) (Or.inl rfl)) (gConsD (gName sc__law_plain.nd (by kernel_rfl) (by kernel_rfl) (Or.inl rfl)) gNil' (by kernel_rfl)) (by kernel_rfl)) (by kernel_rfl) (by kernel_rfl)) (by kernel_rfl) (by kernel_rfl) (by kernel_rfl))
    (dOne (dRet (dAdd rfl (dVar 1 (by kernel_rfl) (by kernel_rfl) (by kernel_rfl) (by kernel_rfl)) (dIx rfl (dVar 3 (by kernel_rfl) (by kernel_rfl) (by kernel_rfl) (by kernel_rfl)) (dB (call_min2 rfl) fMin2_ok fx.b_min (by kernel_rfl) (by kernel_rfl) (dCons (dTy cInt fIntA_ok fx.b_int (by kernel_rfl) (by kernel_rfl) (dCons (dDiv (dVar 1 (by kernel_rfl) (by kernel_rfl) (by kernel_rfl) (by kernel_rfl)) (dVar 2 (by kernel_rfl) (by kernel_rfl) (by kernel_rfl) (by kernel_rfl))) dNil (by kernel_rfl)) (by decide +kernel) (by kernel_rfl) ⟨(by kernel_rfl), (by kernel_rfl)⟩) (dCons (dSub (dB (cLen rfl) fLen_ok fx.b_len (by kernel_rfl) (by kernel_rfl) (dCons (dVar 3 (by kernel_rfl) (by kernel_rfl) (by kernel_rfl) (by kernel_rfl)) dNil (by kernel_rfl)) (by decide +kernel) (by kernel_rfl) ⟨(by kernel_rfl), (by kernel_rfl)⟩) dInt) dNil (by kernel_rfl)) (by kernel_rfl)) (by decide +kernel) (by kernel_rfl) ⟨(by kernel_rfl), (by kernel_rfl)⟩) (fun _ _ => rfl))))))
abbrev t__law_arrival : Stmt := topS 39
theorem sc__law_arrival : FnScope ["_law_riding_here", "_law_minute", "_law_size", "_law_times", "_law_least", "_law_k"] ["_law_riding_here", "_law_minute"] (defScope t__law_arrival) := ⟨rfl, rfl, rfl, by decide +kernel, rfl, by decide +kernel, by decide +kernel⟩
noncomputable def b__law_arrival : MS :=
    (mSeq (mAsg (gT 2 (gC (gN 2) (gC (gN 3) gE))) (mVar 0))
    (mSeq (mSet 4 (mOp oAdd (mVar 1) (mOp oIx (mVar 3) (mCB fMin2 (mCons (mCB fIntA2 (mCons (mOp oDiv (mVar 1) (mVar 2)) mNil)) (mCons (mOp oSub (mCB fLen (mCons (mVar 3) mNil)) (mC (.int 1))) mNil))))))
    (mSeq (mFor (iR1 (mCB fLen (mCons (mVar 3) mNil))) (gN 5)
    (mIf (mB (mOp oGt (mOp oMulA (mVar 5) (mVar 2)) (mVar 1)))
    (mSet 4 (mCB fMin2 (mCons (mCB fIntA2 (mCons (mVar 4) mNil)) (mCons (mCB fIntA2 (mCons (mOp oAdd (mOp oMulA (mVar 5) (mVar 2)) (mOp oIx (mVar 3) (mVar 5))) mNil)) mNil))))
    mSkip))
    (mRet (mVar 4)))))
noncomputable def m__law_arrival : MF := mfun 2 6 b__law_arrival
theorem ok__law_arrival (fx : Fx G mg) (F : Fun G.K "_law_arrival" "_law_arrival" t__law_arrival f fd) : FnM P w G mg base 1 f fd ["_law_riding_here", "_law_minute"] m__law_arrival :=
  fn_M (k := 0) F sc__law_arrival fun cdv A outer s H E hr tk => by
  exact (dSeq (dAsg (dVar 0 (by kernel_rfl) (by kernel_rfl) (by kernel_rfl) (by kernel_rfl)) (gTupD rfl rfl (gConsD (gName sc__law_arrival.nd (by kernel_rfl) (by kernel_rfl) (Or.inl rfl)) (gConsD (gName sc__law_arrival.nd (by kernel_rfl) (by kernel_rfl) (Or.inl rfl)) gNil' (by kernel_rfl)) (by kernel_rfl)) (by kernel_rfl) (by kernel_rfl)) (by kernel_rfl) (by kernel_rfl) (by kernel_rfl))
    (dSeq (dSet (dAdd rfl (dVar 1 (by kernel_rfl) (by kernel_rfl) (by kernel_rfl) (by kernel_rfl)) (dIx rfl (dVar 3 (by kernel_rfl) (by kernel_rfl) (by kernel_rfl) (by kernel_rfl)) (dB (call_min2 rfl) fMin2_ok fx.b_min (by kernel_rfl) (by kernel_rfl) (dCons (dTy cInt fIntA_ok fx.b_int (by kernel_rfl) (by kernel_rfl) (dCons (dDiv (dVar 1 (by kernel_rfl) (by kernel_rfl) (by kernel_rfl) (by kernel_rfl)) (dVar 2 (by kernel_rfl) (by kernel_rfl) (by kernel_rfl) (by kernel_rfl))) dNil (by kernel_rfl)) (by decide +kernel) (by kernel_rfl) ⟨(by kernel_rfl), (by kernel_rfl)⟩) (dCons (dSub (dB (cLen rfl) fLen_ok fx.b_len (by kernel_rfl) (by kernel_rfl) (dCons (dVar 3 (by kernel_rfl) (by kernel_rfl) (by kernel_rfl) (by kernel_rfl)) dNil (by kernel_rfl)) (by decide +kernel) (by kernel_rfl) ⟨(by kernel_rfl), (by kernel_rfl)⟩) dInt) dNil (by kernel_rfl)) (by kernel_rfl)) (by decide +kernel) (by kernel_rfl) ⟨(by kernel_rfl), (by kernel_rfl)⟩) (fun _ _ => rfl))) sc__law_arrival.nd (by kernel_rfl) (by kernel_rfl) (by kernel_rfl) (Or.inl rfl))
    (dSeq (dFor PassesOwn.leaving rfl (iRange1 (dB (cLen rfl) fLen_ok fx.b_len (by kernel_rfl) (by kernel_rfl) (dCons (dVar 3 (by kernel_rfl) (by kernel_rfl) (by kernel_rfl) (by kernel_rfl)) dNil (by kernel_rfl)) (by decide +kernel) (by kernel_rfl) ⟨(by kernel_rfl), (by kernel_rfl)⟩) fx.b_range (by kernel_rfl) (by kernel_rfl) (by kernel_rfl)) (gName sc__law_arrival.nd (by kernel_rfl) (by kernel_rfl) (Or.inl rfl))
    (dOne (dIf (qGt (dMul (dVar 5 (by kernel_rfl) (by kernel_rfl) (by kernel_rfl) (by kernel_rfl)) (dVar 2 (by kernel_rfl) (by kernel_rfl) (by kernel_rfl) (by kernel_rfl))) (dVar 1 (by kernel_rfl) (by kernel_rfl) (by kernel_rfl) (by kernel_rfl)))
    (dOne (dSet (dB (call_min2 rfl) fMin2_ok fx.b_min (by kernel_rfl) (by kernel_rfl) (dCons (dTy cInt fIntA_ok fx.b_int (by kernel_rfl) (by kernel_rfl) (dCons (dVar 4 (by kernel_rfl) (by kernel_rfl) (by kernel_rfl) (by kernel_rfl)) dNil (by kernel_rfl)) (by decide +kernel) (by kernel_rfl) ⟨(by kernel_rfl), (by kernel_rfl)⟩) (dCons (dTy cInt fIntA_ok fx.b_int (by kernel_rfl) (by kernel_rfl) (dCons (dAdd rfl (dMul (dVar 5 (by kernel_rfl) (by kernel_rfl) (by kernel_rfl) (by kernel_rfl)) (dVar 2 (by kernel_rfl) (by kernel_rfl) (by kernel_rfl) (by kernel_rfl))) (dIx rfl (dVar 3 (by kernel_rfl) (by kernel_rfl) (by kernel_rfl) (by kernel_rfl)) (dVar 5 (by kernel_rfl) (by kernel_rfl) (by kernel_rfl) (by kernel_rfl)) (fun _ _ => rfl))) dNil (by kernel_rfl)) (by decide +kernel) (by kernel_rfl) ⟨(by kernel_rfl), (by kernel_rfl)⟩) dNil (by kernel_rfl)) (by kernel_rfl)) (by decide +kernel) (by kernel_rfl) ⟨(by kernel_rfl), (by kernel_rfl)⟩) sc__law_arrival.nd (by kernel_rfl) (by kernel_rfl) (by kernel_rfl) (Or.inl rfl)))
    dSkip)) (fun _ => rfl))
    (dOne (dRet (dVar 4 (by kernel_rfl) (by kernel_rfl) (by kernel_rfl) (by kernel_rfl)))))))
abbrev t_ride : Stmt := topS 32
theorem sc_ride : FnScope ["length", "minutes", "leaving"] ["length", "minutes", "leaving"] (defScope t_ride) := ⟨rfl, rfl, rfl, by decide +kernel, rfl, by decide +kernel, by decide +kernel⟩
noncomputable def b_ride : MS :=
    (mSeq (mDrop (mCB m_check_slots (mCons (mVar 0) (mCons (mVar 1) mNil))))
    (mSeq (mDrop (mCB m_check_number (mCons (mC (.str ("minute" : Str))) (mCons (mVar 2) (mCons (mC (.int 0)) (mCons (mC .non) mNil))))))
    (mRet (mOp oAdd (mVar 2) (mOp oIx (mVar 1) (mCB m_lesser (mCons (mOp oDiv (mVar 2) (mVar 0)) (mCons (mOp oSub (mCB fLen (mCons (mVar 1) mNil)) (mC (.int 1))) mNil))))))))
noncomputable def m_ride : MF := mfun 3 3 b_ride
theorem ok_ride (fx : Fx G mg) (c_check_slots : Callee P w G mg base "check_slots" 5 ["length", "minutes"] m_check_slots) (c_check_number : Callee P w G mg base "check_number" 4 ["what", "value", "low", "high"] m_check_number) (c_lesser : Callee P w G mg base "lesser" 1 ["first", "second"] m_lesser) (F : Fun G.K "ride" "ride" t_ride f fd) : FnM P w G mg base 6 f fd ["length", "minutes", "leaving"] m_ride :=
  fn_M (k := 5) F sc_ride fun cdv A outer s H E hr tk => by
  exact (dSeq (dExpr (dCall (n := 2) rfl c_check_slots hr (by decide) tk rfl (dCons (dVar 0 (by kernel_rfl) (by kernel_rfl) (by kernel_rfl) (by kernel_rfl)) (dCons (dVar 1 (by kernel_rfl) (by kernel_rfl) (by kernel_rfl) (by kernel_rfl)) dNil (by kernel_rfl)) (by kernel_rfl)) (al_cons (al_cons al_nil)) (by kernel_rfl) (by kernel_rfl) ⟨(by kernel_rfl), (by kernel_rfl)⟩) (by kernel_rfl))
    (dSeq (dExpr (dCall (n := 4) rfl c_check_number hr (by decide) tk rfl (dCons dStr (dCons (dVar 2 (by kernel_rfl) (by kernel_rfl) (by kernel_rfl) (by kernel_rfl)) (dCons dInt (dCons dNon dNil (by kernel_rfl)) (by kernel_rfl)) (by kernel_rfl)) (by kernel_rfl)) (al_cons (al_cons (al_cons (al_cons al_nil)))) (by kernel_rfl) (by kernel_rfl) ⟨(by kernel_rfl), (by kernel_rfl)⟩) (by kernel_rfl))
    (dOne (dRet (dAdd rfl (dVar 2 (by kernel_rfl) (by kernel_rfl) (by kernel_rfl) (by kernel_rfl)) (dIx rfl (dVar 1 (by kernel_rfl) (by kernel_rfl) (by kernel_rfl) (by kernel_rfl)) (dCall (n := 2) rfl c_lesser hr (by decide) tk rfl (dCons (dDiv (dVar 2 (by kernel_rfl) (by kernel_rfl) (by kernel_rfl) (by kernel_rfl)) (dVar 0 (by kernel_rfl) (by kernel_rfl) (by kernel_rfl) (by kernel_rfl))) (dCons (dSub (dB (cLen rfl) fLen_ok fx.b_len (by kernel_rfl) (by kernel_rfl) (dCons (dVar 1 (by kernel_rfl) (by kernel_rfl) (by kernel_rfl) (by kernel_rfl)) dNil (by kernel_rfl)) (by decide +kernel) (by kernel_rfl) ⟨(by kernel_rfl), (by kernel_rfl)⟩) dInt) dNil (by kernel_rfl)) (by kernel_rfl)) (al_cons (al_cons al_nil)) (by kernel_rfl) (by kernel_rfl) ⟨(by kernel_rfl), (by kernel_rfl)⟩) (fun _ _ => rfl)))))))
abbrev t__law_long : Stmt := topS 41
theorem sc__law_long : FnScope ["_law_script", "_law_state", "_law_times", "_law_length", "_law_f", "_law_k", "_law_minute"] ["_law_script", "_law_state"] (defScope t__law_long) := ⟨rfl, rfl, rfl, by decide +kernel, rfl, by decide +kernel, by decide +kernel⟩
noncomputable def b__law_long : MS :=
    (mSeq (mSet 2 (mLc (iR1 (mOp oAdd (mC (.int 1)) (mCB m__law_draw (mCons (mVar 0) (mCons (mVar 1) (mCons (mC (.int 4)) mNil)))))) (NT.one 5) mYes (mCB m__law_draw (mCons (mVar 0) (mCons (mVar 1) (mCons (mC (.int 601)) mNil)))) ([(("_law_k" : Str), 5)].map (·.2))))
    (mSeq (mSet 3 (mOp oAdd (mC (.int 1)) (mCB m__law_draw (mCons (mVar 0) (mCons (mVar 1) (mCons (mC (.int 720)) mNil))))))
    (mSeq (mSet 4 (mCB m_by_slots (mCons (mVar 3) (mCons (mVar 2) mNil))))
    (mSeq (mFor (iR1 (mC (.int 6))) (gN 5)
    (mSeq (mSet 6 (mCB fMax2 (mCons (mC (.int 0)) (mCons (mCB fIntA2 (mCons (mOp oSub (mOp oAdd (mOp oMulA (mCB m__law_draw (mCons (mVar 0) (mCons (mVar 1) (mCons (mC (.int 5)) mNil)))) (mVar 3)) (mCB m__law_draw (mCons (mVar 0) (mCons (mVar 1) (mCons (mC (.int 5)) mNil))))) (mC (.int 2))) mNil)) mNil))))
    (mIf (mTOr (mB (mOp (oNe 3) (mCallO 3 m_Rising___call__ (mVar 4) (mCons (mVar 6) mNil)) (mCB m__law_arrival (mCons (mTup (mCons (mVar 3) (mCons (mVar 2) mNil))) (mCons (mVar 6) mNil))))) (mB (mOp oLt (mCB m_ride (mCons (mVar 3) (mCons (mVar 2) (mCons (mVar 6) mNil)))) (mCallO 3 m_Rising___call__ (mVar 4) (mCons (mVar 6) mNil)))))
    (mRet (mC (.bl false)))
    mSkip)))
    (mSeq (mSet 2 (mLc (iR1 (mC (.int 48))) (NT.one 5) mYes (mCB m__law_draw (mCons (mVar 0) (mCons (mVar 1) (mCons (mC (.int 40)) mNil)))) ([(("_law_k" : Str), 5)].map (·.2))))
    (mSeq (mSet 3 (mOp oAdd (mC (.int 1)) (mCB m__law_draw (mCons (mVar 0) (mCons (mVar 1) (mCons (mC (.int 20)) mNil))))))
    (mSeq (mSet 4 (mCB m_by_slots (mCons (mVar 3) (mCons (mVar 2) mNil))))
    (mSeq (mFor (iR1 (mC (.int 10))) (gN 5)
    (mSeq (mSet 6 (mCB m__law_draw (mCons (mVar 0) (mCons (mVar 1) (mCons (mOp oAdd (mOp oMulA (mC (.int 48)) (mVar 3)) (mC (.int 30))) mNil)))))
    (mIf (mB (mOp (oNe 3) (mCallO 3 m_Rising___call__ (mVar 4) (mCons (mVar 6) mNil)) (mCB m__law_arrival (mCons (mTup (mCons (mVar 3) (mCons (mVar 2) mNil))) (mCons (mVar 6) mNil)))))
    (mRet (mC (.bl false)))
    mSkip)))
    (mRet (mC (.bl true)))))))))))
noncomputable def m__law_long : MF := mfun 2 7 b__law_long
theorem ok__law_long (fx : Fx G mg) (c__law_draw : Callee P w G mg base "_law_draw" 1 ["_law_script", "_law_state", "_law_limit"] m__law_draw) (c_by_slots : Callee P w G mg base "by_slots" 7 ["length", "minutes"] m_by_slots) (c_ride : Callee P w G mg base "ride" 6 ["length", "minutes", "leaving"] m_ride) (c__law_arrival : Callee P w G mg base "_law_arrival" 1 ["_law_riding_here", "_law_minute"] m__law_arrival) (co_Rising___call__ : OwnCall P w G mg base 5 3 1 m_Rising___call__) (F : Fun G.K "_law_long" "_law_long" t__law_long f fd) : FnM P w G mg base 8 f fd ["_law_script", "_law_state"] m__law_long :=
  fn_M (k := 7) F sc__law_long fun cdv A outer s H E hr tk => by
  exact (dSeq (dLcSet (i := 2) (own := [(("_law_k" : Str), 5)]) (NT.one 5) rfl rfl sc__law_long.nd (by kernel_rfl) (by kernel_rfl) (sw_true rfl rfl rfl (by decide +kernel)) (iRange1 (dAdd rfl dInt (dCall (n := 3) rfl c__law_draw hr (by decide) tk rfl (dCons (dVar 0 (by kernel_rfl) (by kernel_rfl) (by kernel_rfl) (by kernel_rfl)) (dCons (dVar 1 (by kernel_rfl) (by kernel_rfl) (by kernel_rfl) (by kernel_rfl)) (dCons dInt dNil (by kernel_rfl)) (by kernel_rfl)) (by kernel_rfl)) (al_cons (al_cons (al_cons al_nil))) (by kernel_rfl) (by kernel_rfl) ⟨(by kernel_rfl), (by kernel_rfl)⟩)) fx.b_range (by kernel_rfl) (by kernel_rfl) (by kernel_rfl)) (blkOk_by (N := ["_law_script", "_law_state", "_law_times", "_law_length", "_law_f", "_law_k", "_law_minute"]) (sc := defScope t__law_long) (by decide +kernel)) (fun _ _ _ _ _ => ntOne sc__law_long.nd (by kernel_rfl) (by kernel_rfl) (Or.inr (by kernel_rfl))) (fun _ _ _ _ _ => dYes) (fun _ _ _ _ _ => (dCall (n := 3) rfl c__law_draw hr (by decide) takes0 rfl (dCons (dVar 0 (by kernel_rfl) (by kernel_rfl) (by kernel_rfl) (by kernel_rfl)) (dCons (dVar 1 (by kernel_rfl) (by kernel_rfl) (by kernel_rfl) (by kernel_rfl)) (dCons dInt dNil (by kernel_rfl)) (by kernel_rfl)) (by kernel_rfl)) (al_cons (al_cons (al_cons al_nil))) (by kernel_rfl) (by kernel_rfl) ⟨(by kernel_rfl), (by kernel_rfl)⟩)) (by decide +kernel) (fun _ => rfl))
    (dSeq (dSet (dAdd rfl dInt (dCall (n := 3) rfl c__law_draw hr (by decide) tk rfl (dCons (dVar 0 (by kernel_rfl) (by kernel_rfl) (by kernel_rfl) (by kernel_rfl)) (dCons (dVar 1 (by kernel_rfl) (by kernel_rfl) (by kernel_rfl) (by kernel_rfl)) (dCons dInt dNil (by kernel_rfl)) (by kernel_rfl)) (by kernel_rfl)) (al_cons (al_cons (al_cons al_nil))) (by kernel_rfl) (by kernel_rfl) ⟨(by kernel_rfl), (by kernel_rfl)⟩)) sc__law_long.nd (by kernel_rfl) (by kernel_rfl) (by kernel_rfl) (Or.inl rfl))
    (dSeq (dSet (dCall (n := 2) rfl c_by_slots hr (by decide) tk rfl (dCons (dVar 3 (by kernel_rfl) (by kernel_rfl) (by kernel_rfl) (by kernel_rfl)) (dCons (dVar 2 (by kernel_rfl) (by kernel_rfl) (by kernel_rfl) (by kernel_rfl)) dNil (by kernel_rfl)) (by kernel_rfl)) (al_cons (al_cons al_nil)) (by kernel_rfl) (by kernel_rfl) ⟨(by kernel_rfl), (by kernel_rfl)⟩) sc__law_long.nd (by kernel_rfl) (by kernel_rfl) (by kernel_rfl) (Or.inl rfl))
    (dSeq (dFor PassesOwn.leaving rfl (iRange1 dInt fx.b_range (by kernel_rfl) (by kernel_rfl) (by kernel_rfl)) (gName sc__law_long.nd (by kernel_rfl) (by kernel_rfl) (Or.inl rfl))
    (dSeq (dSet (dB (call_max2 rfl) fMax2_ok fx.b_max (by kernel_rfl) (by kernel_rfl) (dCons dInt (dCons (dTy cInt fIntA_ok fx.b_int (by kernel_rfl) (by kernel_rfl) (dCons (dSub (dAdd rfl (dMul (dCall (n := 3) rfl c__law_draw hr (by decide) tk rfl (dCons (dVar 0 (by kernel_rfl) (by kernel_rfl) (by kernel_rfl) (by kernel_rfl)) (dCons (dVar 1 (by kernel_rfl) (by kernel_rfl) (by kernel_rfl) (by kernel_rfl)) (dCons dInt dNil (by kernel_rfl)) (by kernel_rfl)) (by kernel_rfl)) (al_cons (al_cons (al_cons al_nil))) (by kernel_rfl) (by kernel_rfl) ⟨(by kernel_rfl), (by kernel_rfl)⟩) (dVar 3 (by kernel_rfl) (by kernel_rfl) (by kernel_rfl) (by kernel_rfl))) (dCall (n := 3) rfl c__law_draw hr (by decide) tk rfl (dCons (dVar 0 (by kernel_rfl) (by kernel_rfl) (by kernel_rfl) (by kernel_rfl)) (dCons (dVar 1 (by kernel_rfl) (by kernel_rfl) (by kernel_rfl) (by kernel_rfl)) (dCons dInt dNil (by kernel_rfl)) (by kernel_rfl)) (by kernel_rfl)) (al_cons (al_cons (al_cons al_nil))) (by kernel_rfl) (by kernel_rfl) ⟨(by kernel_rfl), (by kernel_rfl)⟩)) dInt) dNil (by kernel_rfl)) (by decide +kernel) (by kernel_rfl) ⟨(by kernel_rfl), (by kernel_rfl)⟩) dNil (by kernel_rfl)) (by kernel_rfl)) (by decide +kernel) (by kernel_rfl) ⟨(by kernel_rfl), (by kernel_rfl)⟩) sc__law_long.nd (by kernel_rfl) (by kernel_rfl) (by kernel_rfl) (Or.inl rfl))
    (dOne (dIf (qOr' (qNe 3 rfl (units64 hr) (dCallO (n := 1) rfl co_Rising___call__ hr (by decide) tk (dVar 4 (by kernel_rfl) (by kernel_rfl) (by kernel_rfl) (by kernel_rfl)) (dCons (dVar 6 (by kernel_rfl) (by kernel_rfl) (by kernel_rfl) (by kernel_rfl)) dNil (by kernel_rfl)) (al_cons al_nil) ⟨(by kernel_rfl), (by kernel_rfl)⟩ (by rfl)) (dCall (n := 2) rfl c__law_arrival hr (by decide) tk rfl (dCons (dTup (dCons (dVar 3 (by kernel_rfl) (by kernel_rfl) (by kernel_rfl) (by kernel_rfl)) (dCons (dVar 2 (by kernel_rfl) (by kernel_rfl) (by kernel_rfl) (by kernel_rfl)) dNil (by kernel_rfl)) (by kernel_rfl))) (dCons (dVar 6 (by kernel_rfl) (by kernel_rfl) (by kernel_rfl) (by kernel_rfl)) dNil (by kernel_rfl)) (by kernel_rfl)) (al_cons (al_cons al_nil)) (by kernel_rfl) (by kernel_rfl) ⟨(by kernel_rfl), (by kernel_rfl)⟩)) (qOr1 (qLt (dCall (n := 3) rfl c_ride hr (by decide) tk rfl (dCons (dVar 3 (by kernel_rfl) (by kernel_rfl) (by kernel_rfl) (by kernel_rfl)) (dCons (dVar 2 (by kernel_rfl) (by kernel_rfl) (by kernel_rfl) (by kernel_rfl)) (dCons (dVar 6 (by kernel_rfl) (by kernel_rfl) (by kernel_rfl) (by kernel_rfl)) dNil (by kernel_rfl)) (by kernel_rfl)) (by kernel_rfl)) (al_cons (al_cons (al_cons al_nil))) (by kernel_rfl) (by kernel_rfl) ⟨(by kernel_rfl), (by kernel_rfl)⟩) (dCallO (n := 1) rfl co_Rising___call__ hr (by decide) tk (dVar 4 (by kernel_rfl) (by kernel_rfl) (by kernel_rfl) (by kernel_rfl)) (dCons (dVar 6 (by kernel_rfl) (by kernel_rfl) (by kernel_rfl) (by kernel_rfl)) dNil (by kernel_rfl)) (al_cons al_nil) ⟨(by kernel_rfl), (by kernel_rfl)⟩ (by rfl)))))
    (dOne (dRet dBl))
    dSkip))) (fun _ => rfl))
    (dSeq (dLcSet (i := 2) (own := [(("_law_k" : Str), 5)]) (NT.one 5) rfl rfl sc__law_long.nd (by kernel_rfl) (by kernel_rfl) (sw_true rfl rfl rfl (by decide +kernel)) (iRange1 dInt fx.b_range (by kernel_rfl) (by kernel_rfl) (by kernel_rfl)) (blkOk_by (N := ["_law_script", "_law_state", "_law_times", "_law_length", "_law_f", "_law_k", "_law_minute"]) (sc := defScope t__law_long) (by decide +kernel)) (fun _ _ _ _ _ => ntOne sc__law_long.nd (by kernel_rfl) (by kernel_rfl) (Or.inr (by kernel_rfl))) (fun _ _ _ _ _ => dYes) (fun _ _ _ _ _ => (dCall (n := 3) rfl c__law_draw hr (by decide) takes0 rfl (dCons (dVar 0 (by kernel_rfl) (by kernel_rfl) (by kernel_rfl) (by kernel_rfl)) (dCons (dVar 1 (by kernel_rfl) (by kernel_rfl) (by kernel_rfl) (by kernel_rfl)) (dCons dInt dNil (by kernel_rfl)) (by kernel_rfl)) (by kernel_rfl)) (al_cons (al_cons (al_cons al_nil))) (by kernel_rfl) (by kernel_rfl) ⟨(by kernel_rfl), (by kernel_rfl)⟩)) (by decide +kernel) (fun _ => rfl))
    (dSeq (dSet (dAdd rfl dInt (dCall (n := 3) rfl c__law_draw hr (by decide) tk rfl (dCons (dVar 0 (by kernel_rfl) (by kernel_rfl) (by kernel_rfl) (by kernel_rfl)) (dCons (dVar 1 (by kernel_rfl) (by kernel_rfl) (by kernel_rfl) (by kernel_rfl)) (dCons dInt dNil (by kernel_rfl)) (by kernel_rfl)) (by kernel_rfl)) (al_cons (al_cons (al_cons al_nil))) (by kernel_rfl) (by kernel_rfl) ⟨(by kernel_rfl), (by kernel_rfl)⟩)) sc__law_long.nd (by kernel_rfl) (by kernel_rfl) (by kernel_rfl) (Or.inl rfl))
    (dSeq (dSet (dCall (n := 2) rfl c_by_slots hr (by decide) tk rfl (dCons (dVar 3 (by kernel_rfl) (by kernel_rfl) (by kernel_rfl) (by kernel_rfl)) (dCons (dVar 2 (by kernel_rfl) (by kernel_rfl) (by kernel_rfl) (by kernel_rfl)) dNil (by kernel_rfl)) (by kernel_rfl)) (al_cons (al_cons al_nil)) (by kernel_rfl) (by kernel_rfl) ⟨(by kernel_rfl), (by kernel_rfl)⟩) sc__law_long.nd (by kernel_rfl) (by kernel_rfl) (by kernel_rfl) (Or.inl rfl))
    (dSeq (dFor PassesOwn.leaving rfl (iRange1 dInt fx.b_range (by kernel_rfl) (by kernel_rfl) (by kernel_rfl)) (gName sc__law_long.nd (by kernel_rfl) (by kernel_rfl) (Or.inl rfl))
    (dSeq (dSet (dCall (n := 3) rfl c__law_draw hr (by decide) tk rfl (dCons (dVar 0 (by kernel_rfl) (by kernel_rfl) (by kernel_rfl) (by kernel_rfl)) (dCons (dVar 1 (by kernel_rfl) (by kernel_rfl) (by kernel_rfl) (by kernel_rfl)) (dCons (dAdd rfl (dMul dInt (dVar 3 (by kernel_rfl) (by kernel_rfl) (by kernel_rfl) (by kernel_rfl))) dInt) dNil (by kernel_rfl)) (by kernel_rfl)) (by kernel_rfl)) (al_cons (al_cons (al_cons al_nil))) (by kernel_rfl) (by kernel_rfl) ⟨(by kernel_rfl), (by kernel_rfl)⟩) sc__law_long.nd (by kernel_rfl) (by kernel_rfl) (by kernel_rfl) (Or.inl rfl))
    (dOne (dIf (qNe 3 rfl (units64 hr) (dCallO (n := 1) rfl co_Rising___call__ hr (by decide) tk (dVar 4 (by kernel_rfl) (by kernel_rfl) (by kernel_rfl) (by kernel_rfl)) (dCons (dVar 6 (by kernel_rfl) (by kernel_rfl) (by kernel_rfl) (by kernel_rfl)) dNil (by kernel_rfl)) (al_cons al_nil) ⟨(by kernel_rfl), (by kernel_rfl)⟩ (by rfl)) (dCall (n := 2) rfl c__law_arrival hr (by decide) tk rfl (dCons (dTup (dCons (dVar 3 (by kernel_rfl) (by kernel_rfl) (by kernel_rfl) (by kernel_rfl)) (dCons (dVar 2 (by kernel_rfl) (by kernel_rfl) (by kernel_rfl) (by kernel_rfl)) dNil (by kernel_rfl)) (by kernel_rfl))) (dCons (dVar 6 (by kernel_rfl) (by kernel_rfl) (by kernel_rfl) (by kernel_rfl)) dNil (by kernel_rfl)) (by kernel_rfl)) (al_cons (al_cons al_nil)) (by kernel_rfl) (by kernel_rfl) ⟨(by kernel_rfl), (by kernel_rfl)⟩))
    (dOne (dRet dBl))
    dSkip))) (fun _ => rfl))
    (dOne (dRet dBl))))))))))
abbrev t__law_at : Stmt := topS 36
theorem sc__law_at : FnScope ["_law_values", "_law_minute"] ["_law_values", "_law_minute"] (defScope t__law_at) := ⟨rfl, rfl, rfl, by decide +kernel, rfl, by decide +kernel, by decide +kernel⟩
noncomputable def b__law_at : MS :=
    (mSeq (mIf (mB (mOp oLt (mVar 1) (mCB fLen (mCons (mVar 0) mNil))))
    (mRet (mOp oIx (mVar 0) (mVar 1)))
    mSkip)
    (mRet (mOp oAdd (mOp oSub (mOp oAdd (mOp oIx (mVar 0) (mNeg (mC (.int 1)))) (mVar 1)) (mCB fLen (mCons (mVar 0) mNil))) (mC (.int 1)))))
noncomputable def m__law_at : MF := mfun 2 2 b__law_at
theorem ok__law_at (fx : Fx G mg) (F : Fun G.K "_law_at" "_law_at" t__law_at f fd) : FnM P w G mg base 1 f fd ["_law_values", "_law_minute"] m__law_at :=
  fn_M (k := 0) F sc__law_at fun cdv A outer s H E hr tk => by
  exact (dSeq (dIf (qLt (dVar 1 (by kernel_rfl) (by kernel_rfl) (by kernel_rfl) (by kernel_rfl)) (dB (cLen rfl) fLen_ok fx.b_len (by kernel_rfl) (by kernel_rfl) (dCons (dVar 0 (by kernel_rfl) (by kernel_rfl) (by kernel_rfl) (by kernel_rfl)) dNil (by kernel_rfl)) (by decide +kernel) (by kernel_rfl) ⟨(by kernel_rfl), (by kernel_rfl)⟩))
    (dOne (dRet (dIx rfl (dVar 0 (by kernel_rfl) (by kernel_rfl) (by kernel_rfl) (by kernel_rfl)) (dVar 1 (by kernel_rfl) (by kernel_rfl) (by kernel_rfl) (by kernel_rfl)) (fun _ _ => rfl))))
    dSkip)
    (dOne (dRet (dAdd rfl (dSub (dAdd rfl (dIx rfl (dVar 0 (by kernel_rfl) (by kernel_rfl) (by kernel_rfl) (by kernel_rfl)) (dNeg dInt) (fun _ _ => rfl)) (dVar 1 (by kernel_rfl) (by kernel_rfl) (by kernel_rfl) (by kernel_rfl))) (dB (cLen rfl) fLen_ok fx.b_len (by kernel_rfl) (by kernel_rfl) (dCons (dVar 0 (by kernel_rfl) (by kernel_rfl) (by kernel_rfl) (by kernel_rfl)) dNil (by kernel_rfl)) (by decide +kernel) (by kernel_rfl) ⟨(by kernel_rfl), (by kernel_rfl)⟩)) dInt))))
abbrev t__law_greedy : Stmt := topS 37
theorem sc__law_greedy : FnScope ["_law_values", "_law_rows", "_law_start_here", "_law_k", "_law_value", "_law_step", "_law_end", "_law_minute", "_law_rise"] ["_law_values"] (defScope t__law_greedy) := ⟨rfl, rfl, rfl, by decide +kernel, rfl, by decide +kernel, by decide +kernel⟩
noncomputable def b__law_greedy : MS :=
    (mSeq (mSet 1 (mLst mNil))
    (mSeq (mSet 2 (mC (.int 0)))
    (mSeq (mFor (iR1 (mOp oAdd (mCB fLen (mCons (mVar 0) mNil)) (mC (.int 1)))) (gN 3)
    (mSeq (mSet 4 (mCB m__law_at (mCons (mVar 0) (mCons (mVar 2) mNil))))
    (mSeq (mSet 5 (mOp oSub (mCB m__law_at (mCons (mVar 0) (mCons (mOp oAdd (mVar 2) (mC (.int 1))) mNil))) (mVar 4)))
    (mSeq (mIf (mB (mOp oGe (mVar 2) (mOp oSub (mCB fLen (mCons (mVar 0) mNil)) (mC (.int 1)))))
    (mRet (mCB fTuple (mCons (mOp oAdd (mVar 1) (mLst (mCons (mTup (mCons (mVar 2) (mCons (mVar 4) (mCons (mC (.bl true)) mNil)))) mNil))) mNil)))
    mSkip)
    (mSeq (mSet 6 (mVar 2))
    (mSeq (mFor (iR2 (mVar 2) (mOp oSub (mCB fLen (mCons (mVar 0) mNil)) (mC (.int 1)))) (gN 7)
    (mSeq (mSet 8 (mOp oSub (mCB m__law_at (mCons (mVar 0) (mCons (mOp oAdd (mVar 7) (mC (.int 1))) mNil))) (mCB m__law_at (mCons (mVar 0) (mCons (mVar 7) mNil)))))
    (mSeq (mIf (mTOr (mB (mOp oGt (mVar 5) (mC (.int 1)))) (mB (mOp (oNe 3) (mVar 8) (mVar 5))))
    mBrk
    mSkip)
    (mSet 6 (mOp oAdd (mVar 7) (mC (.int 1)))))))
    (mSeq (mIf (mTAnd (mB (mOp (oEq 3) (mVar 5) (mC (.int 1)))) (mB (mOp (oEq 3) (mVar 6) (mOp oSub (mCB fLen (mCons (mVar 0) mNil)) (mC (.int 1))))))
    (mRet (mCB fTuple (mCons (mOp oAdd (mVar 1) (mLst (mCons (mTup (mCons (mVar 2) (mCons (mVar 4) (mCons (mC (.bl true)) mNil)))) mNil))) mNil)))
    mSkip)
    (mSeq (mDrop (mBM kList fAppend (mVar 1) (mCons (mTup (mCons (mVar 2) (mCons (mVar 4) (mCons (mOp (oEq 3) (mVar 5) (mC (.int 1))) mNil)))) mNil)))
    (mSet 2 (mOp oAdd (mVar 6) (mC (.int 1))))))))))))
    (mRet (mCB fTuple (mCons (mVar 1) mNil))))))
noncomputable def m__law_greedy : MF := mfun 1 9 b__law_greedy
theorem ok__law_greedy (fx : Fx G mg) (c__law_at : Callee P w G mg base "_law_at" 1 ["_law_values", "_law_minute"] m__law_at) (F : Fun G.K "_law_greedy" "_law_greedy" t__law_greedy f fd) : FnM P w G mg base 2 f fd ["_law_values"] m__law_greedy :=
  fn_M (k := 1) F sc__law_greedy fun cdv A outer s H E hr tk => by
  exact (dSeq (dSet (dLst dNil) sc__law_greedy.nd (by kernel_rfl) (by kernel_rfl) (by kernel_rfl) (Or.inl rfl))
    (dSeq (dSet dInt sc__law_greedy.nd (by kernel_rfl) (by kernel_rfl) (by kernel_rfl) (Or.inl rfl))
    (dSeq (dFor PassesOwn.leaving rfl (iRange1 (dAdd rfl (dB (cLen rfl) fLen_ok fx.b_len (by kernel_rfl) (by kernel_rfl) (dCons (dVar 0 (by kernel_rfl) (by kernel_rfl) (by kernel_rfl) (by kernel_rfl)) dNil (by kernel_rfl)) (by decide +kernel) (by kernel_rfl) ⟨(by kernel_rfl), (by kernel_rfl)⟩) dInt) fx.b_range (by kernel_rfl) (by kernel_rfl) (by kernel_rfl)) (gName sc__law_greedy.nd (by kernel_rfl) (by kernel_rfl) (Or.inl rfl))
    (dSeq (dSet (dCall (n := 2) rfl c__law_at hr (by decide) tk rfl (dCons (dVar 0 (by kernel_rfl) (by kernel_rfl) (by kernel_rfl) (by kernel_rfl)) (dCons (dVar 2 (by kernel_rfl) (by kernel_rfl) (by kernel_rfl) (by kernel_rfl)) dNil (by kernel_rfl)) (by kernel_rfl)) (al_cons (al_cons al_nil)) (by kernel_rfl) (by kernel_rfl) ⟨(by kernel_rfl), (by kernel_rfl)⟩) sc__law_greedy.nd (by kernel_rfl) (by kernel_rfl) (by kernel_rfl) (Or.inl rfl))
    (dSeq (dSet (dSub (dCall (n := 2) rfl c__law_at hr (by decide) tk rfl (dCons (dVar 0 (by kernel_rfl) (by kernel_rfl) (by kernel_rfl) (by kernel_rfl)) (dCons (dAdd rfl (dVar 2 (by kernel_rfl) (by kernel_rfl) (by kernel_rfl) (by kernel_rfl)) dInt) dNil (by kernel_rfl)) (by kernel_rfl)) (al_cons (al_cons al_nil)) (by kernel_rfl) (by kernel_rfl) ⟨(by kernel_rfl), (by kernel_rfl)⟩) (dVar 4 (by kernel_rfl) (by kernel_rfl) (by kernel_rfl) (by kernel_rfl))) sc__law_greedy.nd (by kernel_rfl) (by kernel_rfl) (by kernel_rfl) (Or.inl rfl))
    (dSeq (dIf (qGe (dVar 2 (by kernel_rfl) (by kernel_rfl) (by kernel_rfl) (by kernel_rfl)) (dSub (dB (cLen rfl) fLen_ok fx.b_len (by kernel_rfl) (by kernel_rfl) (dCons (dVar 0 (by kernel_rfl) (by kernel_rfl) (by kernel_rfl) (by kernel_rfl)) dNil (by kernel_rfl)) (by decide +kernel) (by kernel_rfl) ⟨(by kernel_rfl), (by kernel_rfl)⟩) dInt))
    (dOne (dRet (dTy (cTuple rfl) fTuple_ok fx.b_tuple (by kernel_rfl) (by kernel_rfl) (dCons (dAdd rfl (dVar 1 (by kernel_rfl) (by kernel_rfl) (by kernel_rfl) (by kernel_rfl)) (dLst (dCons (dTup (dCons (dVar 2 (by kernel_rfl) (by kernel_rfl) (by kernel_rfl) (by kernel_rfl)) (dCons (dVar 4 (by kernel_rfl) (by kernel_rfl) (by kernel_rfl) (by kernel_rfl)) (dCons dBl dNil (by kernel_rfl)) (by kernel_rfl)) (by kernel_rfl))) dNil (by kernel_rfl)))) dNil (by kernel_rfl)) (by decide +kernel) (by kernel_rfl) ⟨(by kernel_rfl), (by kernel_rfl)⟩)))
    dSkip)
    (dSeq (dSet (dVar 2 (by kernel_rfl) (by kernel_rfl) (by kernel_rfl) (by kernel_rfl)) sc__law_greedy.nd (by kernel_rfl) (by kernel_rfl) (by kernel_rfl) (Or.inl rfl))
    (dSeq (dFor PassesOwn.leaving rfl (iRange2 (dVar 2 (by kernel_rfl) (by kernel_rfl) (by kernel_rfl) (by kernel_rfl)) (dSub (dB (cLen rfl) fLen_ok fx.b_len (by kernel_rfl) (by kernel_rfl) (dCons (dVar 0 (by kernel_rfl) (by kernel_rfl) (by kernel_rfl) (by kernel_rfl)) dNil (by kernel_rfl)) (by decide +kernel) (by kernel_rfl) ⟨(by kernel_rfl), (by kernel_rfl)⟩) dInt) fx.b_range (by kernel_rfl) (by kernel_rfl) (by kernel_rfl) (by kernel_rfl) (by kernel_rfl)) (gName sc__law_greedy.nd (by kernel_rfl) (by kernel_rfl) (Or.inl rfl))
    (dSeq (dSet (dSub (dCall (n := 2) rfl c__law_at hr (by decide) tk rfl (dCons (dVar 0 (by kernel_rfl) (by kernel_rfl) (by kernel_rfl) (by kernel_rfl)) (dCons (dAdd rfl (dVar 7 (by kernel_rfl) (by kernel_rfl) (by kernel_rfl) (by kernel_rfl)) dInt) dNil (by kernel_rfl)) (by kernel_rfl)) (al_cons (al_cons al_nil)) (by kernel_rfl) (by kernel_rfl) ⟨(by kernel_rfl), (by kernel_rfl)⟩) (dCall (n := 2) rfl c__law_at hr (by decide) tk rfl (dCons (dVar 0 (by kernel_rfl) (by kernel_rfl) (by kernel_rfl) (by kernel_rfl)) (dCons (dVar 7 (by kernel_rfl) (by kernel_rfl) (by kernel_rfl) (by kernel_rfl)) dNil (by kernel_rfl)) (by kernel_rfl)) (al_cons (al_cons al_nil)) (by kernel_rfl) (by kernel_rfl) ⟨(by kernel_rfl), (by kernel_rfl)⟩)) sc__law_greedy.nd (by kernel_rfl) (by kernel_rfl) (by kernel_rfl) (Or.inl rfl))
    (dSeq (dIf (qOr' (qGt (dVar 5 (by kernel_rfl) (by kernel_rfl) (by kernel_rfl) (by kernel_rfl)) dInt) (qOr1 (qNe 3 rfl (units64 hr) (dVar 8 (by kernel_rfl) (by kernel_rfl) (by kernel_rfl) (by kernel_rfl)) (dVar 5 (by kernel_rfl) (by kernel_rfl) (by kernel_rfl) (by kernel_rfl)))))
    (dOne dBrk)
    dSkip)
    (dOne (dSet (dAdd rfl (dVar 7 (by kernel_rfl) (by kernel_rfl) (by kernel_rfl) (by kernel_rfl)) dInt) sc__law_greedy.nd (by kernel_rfl) (by kernel_rfl) (by kernel_rfl) (Or.inl rfl))))) (fun _ => rfl))
    (dSeq (dIf (qAnd' (qEq 3 rfl (units64 hr) (dVar 5 (by kernel_rfl) (by kernel_rfl) (by kernel_rfl) (by kernel_rfl)) dInt) (qAnd1 (qEq 3 rfl (units64 hr) (dVar 6 (by kernel_rfl) (by kernel_rfl) (by kernel_rfl) (by kernel_rfl)) (dSub (dB (cLen rfl) fLen_ok fx.b_len (by kernel_rfl) (by kernel_rfl) (dCons (dVar 0 (by kernel_rfl) (by kernel_rfl) (by kernel_rfl) (by kernel_rfl)) dNil (by kernel_rfl)) (by decide +kernel) (by kernel_rfl) ⟨(by kernel_rfl), (by kernel_rfl)⟩) dInt))))
    (dOne (dRet (dTy (cTuple rfl) fTuple_ok fx.b_tuple (by kernel_rfl) (by kernel_rfl) (dCons (dAdd rfl (dVar 1 (by kernel_rfl) (by kernel_rfl) (by kernel_rfl) (by kernel_rfl)) (dLst (dCons (dTup (dCons (dVar 2 (by kernel_rfl) (by kernel_rfl) (by kernel_rfl) (by kernel_rfl)) (dCons (dVar 4 (by kernel_rfl) (by kernel_rfl) (by kernel_rfl) (by kernel_rfl)) (dCons dBl dNil (by kernel_rfl)) (by kernel_rfl)) (by kernel_rfl))) dNil (by kernel_rfl)))) dNil (by kernel_rfl)) (by decide +kernel) (by kernel_rfl) ⟨(by kernel_rfl), (by kernel_rfl)⟩)))
    dSkip)
    (dSeq (dExpr (dAppend (dVar 1 (by kernel_rfl) (by kernel_rfl) (by kernel_rfl) (by kernel_rfl)) (dTup (dCons (dVar 2 (by kernel_rfl) (by kernel_rfl) (by kernel_rfl) (by kernel_rfl)) (dCons (dVar 4 (by kernel_rfl) (by kernel_rfl) (by kernel_rfl) (by kernel_rfl)) (dCons (dEq 3 rfl (units64 hr) (dVar 5 (by kernel_rfl) (by kernel_rfl) (by kernel_rfl) (by kernel_rfl)) dInt) dNil (by kernel_rfl)) (by kernel_rfl)) (by kernel_rfl))) rfl (by kernel_rfl) (pe_bm PySem.F.plainAttrs_list PySem.F.slot_list_append PySem.F.type_list_append mt_append (dVar 1 (by kernel_rfl) (by kernel_rfl) (by kernel_rfl) (by kernel_rfl)) (dCons (dTup (dCons (dVar 2 (by kernel_rfl) (by kernel_rfl) (by kernel_rfl) (by kernel_rfl)) (dCons (dVar 4 (by kernel_rfl) (by kernel_rfl) (by kernel_rfl) (by kernel_rfl)) (dCons (dEq 3 rfl (units64 hr) (dVar 5 (by kernel_rfl) (by kernel_rfl) (by kernel_rfl) (by kernel_rfl)) dInt) dNil (by kernel_rfl)) (by kernel_rfl)) (by kernel_rfl))) dNil (by kernel_rfl)))) (by kernel_rfl))
    (dOne (dSet (dAdd rfl (dVar 6 (by kernel_rfl) (by kernel_rfl) (by kernel_rfl) (by kernel_rfl)) dInt) sc__law_greedy.nd (by kernel_rfl) (by kernel_rfl) (by kernel_rfl) (Or.inl rfl)))))))))) (fun _ => rfl))
    (dOne (dRet (dTy (cTuple rfl) fTuple_ok fx.b_tuple (by kernel_rfl) (by kernel_rfl) (dCons (dVar 1 (by kernel_rfl) (by kernel_rfl) (by kernel_rfl) (by kernel_rfl)) dNil (by kernel_rfl)) (by decide +kernel) (by kernel_rfl) ⟨(by kernel_rfl), (by kernel_rfl)⟩))))))
abbrev t_law : Stmt := topS 42
theorem sc_law : FnScope ["_law_script", "_law_state", "_law_riding_here", "_law_size", "_law_times", "_law_passed", "_law_f", "_law_top", "_law_least", "_law_values", "_law_k", "_law_minute"] ["_law_script"] (defScope t_law) := ⟨rfl, rfl, rfl, by decide +kernel, rfl, by decide +kernel, by decide +kernel⟩
noncomputable def b_law : MS :=
    (mSeq (mSet 1 (mCB m__law_start (mCons (mVar 0) mNil)))
    (mSeq (mSet 2 (mCB m__law_riding (mCons (mVar 0) (mCons (mVar 1) (mCons (mC (.int 8)) (mCons (mC (.int 12)) (mCons (mC (.int 20)) mNil)))))))
    (mSeq (mAsg (gT 2 (gC (gN 3) (gC (gN 4) gE))) (mVar 2))
    (mSeq (mSet 5 (mCB fList (mCons (mVar 4) mNil)))
    (mSeq (mSet 6 (mCB m_by_slots (mCons (mVar 3) (mCons (mVar 5) mNil))))
    (mSeq (mIf (mTOr (mB (mOp (oNe 3) (mVar 5) (mVar 4))) (mTNot (mB (mIsi tab_Rising (mVar 6)))))
    (mRet (mC (.bl false)))
    mSkip)
    (mSeq (mDrop (mBM kList fAppend (mVar 5) (mCons (mC (.int 0)) mNil)))
    (mSeq (mSet 7 (mOp oAdd (mOp oMulA (mVar 3) (mCB fLen (mCons (mVar 4) mNil))) (mC (.int 25))))
    (mSeq (mSet 8 (mCB m__law_plain (mCons (mVar 2) (mCons (mOp oAdd (mVar 7) (mC (.int 25))) mNil))))
    (mSeq (mSet 9 (mLst mNil))
    (mSeq (mFor (iR1 (mOp oAdd (mVar 7) (mC (.int 25)))) (gN 10)
    (mSeq (mSet 8 (mCB fMin2 (mCons (mCB fIntA2 (mCons (mVar 8) mNil)) (mCons (mCB fIntA2 (mCons (mCB m__law_plain (mCons (mVar 2) (mCons (mOp oSub (mOp oAdd (mVar 7) (mC (.int 24))) (mVar 10)) mNil))) mNil)) mNil))))
    (mDrop (mBM kList fAppend (mVar 9) (mCons (mVar 8) mNil)))))
    (mSeq (mSet 9 (mSl oSl (mRevL (mVar 9)) mNoPart (mPart (mVar 7))))
    (mSeq (mFor (iR1 (mVar 7)) (gN 11)
    (mSeq (mIf (mTOr (mB (mOp (oNe 3) (mCallO 3 m_Rising___call__ (mVar 6) (mCons (mVar 11) mNil)) (mOp oIx (mVar 9) (mVar 11)))) (mB (mOp (oNe 3) (mCB m__law_arrival (mCons (mVar 2) (mCons (mVar 11) mNil))) (mOp oIx (mVar 9) (mVar 11)))))
    (mRet (mC (.bl false)))
    mSkip)
    (mIf (mB (mOp (oNe 3) (mCB m_ride (mCons (mVar 3) (mCons (mCB fTuple (mCons (mVar 4) mNil)) (mCons (mVar 11) mNil)))) (mCB m__law_plain (mCons (mVar 2) (mCons (mVar 11) mNil)))))
    (mRet (mC (.bl false)))
    mSkip)))
    (mSeq (mIf (mTOr (mB (mOp (oNe 3) (mAttrX ("rows" : Str) at_rows_i at_rows_e (mVar 6)) (mCB m__law_greedy (mCons (mVar 9) mNil)))) (mB (mOp (oNe 3) (mCallO 3 m_Rising___call__ (mVar 6) (mCons (mOp oPow (mC (.int 10)) (mC (.int 4))) mNil)) (mOp oAdd (mOp oPow (mC (.int 10)) (mC (.int 4))) (mOp oIx (mVar 4) (mNeg (mC (.int 1))))))))
    (mRet (mC (.bl false)))
    mSkip)
    (mRet (mCB m__law_long (mCons (mVar 0) (mCons (mVar 1) mNil))))))))))))))))))
noncomputable def m_law : MF := mfun 1 12 b_law
theorem ok_law (fx : Fx G mg) (c__law_start : Callee P w G mg base "_law_start" 1 ["_law_script"] m__law_start) (c__law_riding : Callee P w G mg base "_law_riding" 2 ["_law_script", "_law_state", "_law_slots", "_law_length", "_law_most"] m__law_riding) (c_by_slots : Callee P w G mg base "by_slots" 7 ["length", "minutes"] m_by_slots) (c__law_plain : Callee P w G mg base "_law_plain" 1 ["_law_riding_here", "_law_minute"] m__law_plain) (c__law_arrival : Callee P w G mg base "_law_arrival" 1 ["_law_riding_here", "_law_minute"] m__law_arrival) (c_ride : Callee P w G mg base "ride" 6 ["length", "minutes", "leaving"] m_ride) (c__law_greedy : Callee P w G mg base "_law_greedy" 2 ["_law_values"] m__law_greedy) (c__law_long : Callee P w G mg base "_law_long" 8 ["_law_script", "_law_state"] m__law_long) (co_Rising___call__ : OwnCall P w G mg base 5 3 1 m_Rising___call__) (F : Fun G.K "law" "law" t_law f fd) : FnM P w G mg base 9 f fd ["_law_script"] m_law :=
  fn_M (k := 8) F sc_law fun cdv A outer s H E hr tk => by
  exact (dSeq (dSet (dCall (n := 1) rfl c__law_start hr (by decide) tk rfl (dCons (dVar 0 (by kernel_rfl) (by kernel_rfl) (by kernel_rfl) (by kernel_rfl)) dNil (by kernel_rfl)) (al_cons al_nil) (by kernel_rfl) (by kernel_rfl) ⟨(by kernel_rfl), (by kernel_rfl)⟩) sc_law.nd (by kernel_rfl) (by kernel_rfl) (by kernel_rfl) (Or.inl rfl))
    (dSeq (dSet (dCall (n := 5) rfl c__law_riding hr (by decide) tk rfl (dCons (dVar 0 (by kernel_rfl) (by kernel_rfl) (by kernel_rfl) (by kernel_rfl)) (dCons (dVar 1 (by kernel_rfl) (by kernel_rfl) (by kernel_rfl) (by kernel_rfl)) (dCons dInt (dCons dInt (dCons dInt dNil (by kernel_rfl)) (by kernel_rfl)) (by kernel_rfl)) (by kernel_rfl)) (by kernel_rfl)) (al_cons (al_cons (al_cons (al_cons (al_cons al_nil))))) (by kernel_rfl) (by kernel_rfl) ⟨(by kernel_rfl), (by kernel_rfl)⟩) sc_law.nd (by kernel_rfl) (by kernel_rfl) (by kernel_rfl) (Or.inl rfl))
    (dSeq (dAsg (dVar 2 (by kernel_rfl) (by kernel_rfl) (by kernel_rfl) (by kernel_rfl)) (gTupD rfl rfl (gConsD (gName sc_law.nd (by kernel_rfl) (by kernel_rfl) (Or.inl rfl)) (gConsD (gName sc_law.nd (by kernel_rfl) (by kernel_rfl) (Or.inl rfl)) gNil' (by kernel_rfl)) (by kernel_rfl)) (by kernel_rfl) (by kernel_rfl)) (by kernel_rfl) (by kernel_rfl) (by kernel_rfl))
    (dSeq (dSet (dTy (cList rfl) fList_ok fx.b_list (by kernel_rfl) (by kernel_rfl) (dCons (dVar 4 (by kernel_rfl) (by kernel_rfl) (by kernel_rfl) (by kernel_rfl)) dNil (by kernel_rfl)) (by decide +kernel) (by kernel_rfl) ⟨(by kernel_rfl), (by kernel_rfl)⟩) sc_law.nd (by kernel_rfl) (by kernel_rfl) (by kernel_rfl) (Or.inl rfl))
    (dSeq (dSet (dCall (n := 2) rfl c_by_slots hr (by decide) tk rfl (dCons (dVar 3 (by kernel_rfl) (by kernel_rfl) (by kernel_rfl) (by kernel_rfl)) (dCons (dVar 5 (by kernel_rfl) (by kernel_rfl) (by kernel_rfl) (by kernel_rfl)) dNil (by kernel_rfl)) (by kernel_rfl)) (al_cons (al_cons al_nil)) (by kernel_rfl) (by kernel_rfl) ⟨(by kernel_rfl), (by kernel_rfl)⟩) sc_law.nd (by kernel_rfl) (by kernel_rfl) (by kernel_rfl) (Or.inl rfl))
    (dSeq (dIf (qOr' (qNe 3 rfl (units64 hr) (dVar 5 (by kernel_rfl) (by kernel_rfl) (by kernel_rfl) (by kernel_rfl)) (dVar 4 (by kernel_rfl) (by kernel_rfl) (by kernel_rfl) (by kernel_rfl))) (qOr1 (qNot (qVal (dIsi rfl (isaOwn fx.o_Rising (by kernel_rfl) (by kernel_rfl)) (dVar 6 (by kernel_rfl) (by kernel_rfl) (by kernel_rfl) (by kernel_rfl)) fx.b_isinstance (by kernel_rfl) ⟨(by kernel_rfl), (by kernel_rfl)⟩ (by kernel_rfl)) (fun _ => rfl)))))
    (dOne (dRet dBl))
    dSkip)
    (dSeq (dExpr (dAppend (dVar 5 (by kernel_rfl) (by kernel_rfl) (by kernel_rfl) (by kernel_rfl)) dInt rfl (by kernel_rfl) (pe_bm PySem.F.plainAttrs_list PySem.F.slot_list_append PySem.F.type_list_append mt_append (dVar 5 (by kernel_rfl) (by kernel_rfl) (by kernel_rfl) (by kernel_rfl)) (dCons dInt dNil (by kernel_rfl)))) (by kernel_rfl))
    (dSeq (dSet (dAdd rfl (dMul (dVar 3 (by kernel_rfl) (by kernel_rfl) (by kernel_rfl) (by kernel_rfl)) (dB (cLen rfl) fLen_ok fx.b_len (by kernel_rfl) (by kernel_rfl) (dCons (dVar 4 (by kernel_rfl) (by kernel_rfl) (by kernel_rfl) (by kernel_rfl)) dNil (by kernel_rfl)) (by decide +kernel) (by kernel_rfl) ⟨(by kernel_rfl), (by kernel_rfl)⟩)) dInt) sc_law.nd (by kernel_rfl) (by kernel_rfl) (by kernel_rfl) (Or.inl rfl))
    (dSeq (dSet (dCall (n := 2) rfl c__law_plain hr (by decide) tk rfl (dCons (dVar 2 (by kernel_rfl) (by kernel_rfl) (by kernel_rfl) (by kernel_rfl)) (dCons (dAdd rfl (dVar 7 (by kernel_rfl) (by kernel_rfl) (by kernel_rfl) (by kernel_rfl)) dInt) dNil (by kernel_rfl)) (by kernel_rfl)) (al_cons (al_cons al_nil)) (by kernel_rfl) (by kernel_rfl) ⟨(by kernel_rfl), (by kernel_rfl)⟩) sc_law.nd (by kernel_rfl) (by kernel_rfl) (by kernel_rfl) (Or.inl rfl))
    (dSeq (dSet (dLst dNil) sc_law.nd (by kernel_rfl) (by kernel_rfl) (by kernel_rfl) (Or.inl rfl))
    (dSeq (dFor PassesOwn.leaving rfl (iRange1 (dAdd rfl (dVar 7 (by kernel_rfl) (by kernel_rfl) (by kernel_rfl) (by kernel_rfl)) dInt) fx.b_range (by kernel_rfl) (by kernel_rfl) (by kernel_rfl)) (gName sc_law.nd (by kernel_rfl) (by kernel_rfl) (Or.inl rfl))
    (dSeq (dSet (dB (call_min2 rfl) fMin2_ok fx.b_min (by kernel_rfl) (by kernel_rfl) (dCons (dTy cInt fIntA_ok fx.b_int (by kernel_rfl) (by kernel_rfl) (dCons (dVar 8 (by kernel_rfl) (by kernel_rfl) (by kernel_rfl) (by kernel_rfl)) dNil (by kernel_rfl)) (by decide +kernel) (by kernel_rfl) ⟨(by kernel_rfl), (by kernel_rfl)⟩) (dCons (dTy cInt fIntA_ok fx.b_int (by kernel_rfl) (by kernel_rfl) (dCons (dCall (n := 2) rfl c__law_plain hr (by decide) tk rfl (dCons (dVar 2 (by kernel_rfl) (by kernel_rfl) (by kernel_rfl) (by kernel_rfl)) (dCons (dSub (dAdd rfl (dVar 7 (by kernel_rfl) (by kernel_rfl) (by kernel_rfl) (by kernel_rfl)) dInt) (dVar 10 (by kernel_rfl) (by kernel_rfl) (by kernel_rfl) (by kernel_rfl))) dNil (by kernel_rfl)) (by kernel_rfl)) (al_cons (al_cons al_nil)) (by kernel_rfl) (by kernel_rfl) ⟨(by kernel_rfl), (by kernel_rfl)⟩) dNil (by kernel_rfl)) (by decide +kernel) (by kernel_rfl) ⟨(by kernel_rfl), (by kernel_rfl)⟩) dNil (by kernel_rfl)) (by kernel_rfl)) (by decide +kernel) (by kernel_rfl) ⟨(by kernel_rfl), (by kernel_rfl)⟩) sc_law.nd (by kernel_rfl) (by kernel_rfl) (by kernel_rfl) (Or.inl rfl))
    (dOne (dExpr (dAppend (dVar 9 (by kernel_rfl) (by kernel_rfl) (by kernel_rfl) (by kernel_rfl)) (dVar 8 (by kernel_rfl) (by kernel_rfl) (by kernel_rfl) (by kernel_rfl)) rfl (by kernel_rfl) (pe_bm PySem.F.plainAttrs_list PySem.F.slot_list_append PySem.F.type_list_append mt_append (dVar 9 (by kernel_rfl) (by kernel_rfl) (by kernel_rfl) (by kernel_rfl)) (dCons (dVar 8 (by kernel_rfl) (by kernel_rfl) (by kernel_rfl) (by kernel_rfl)) dNil (by kernel_rfl)))) (by kernel_rfl)))) (fun _ => rfl))
    (dSeq (dSet (dSl rfl (dRevL rfl (dVar 9 (by kernel_rfl) (by kernel_rfl) (by kernel_rfl) (by kernel_rfl))) dNoP (dPart (dVar 7 (by kernel_rfl) (by kernel_rfl) (by kernel_rfl) (by kernel_rfl)))) sc_law.nd (by kernel_rfl) (by kernel_rfl) (by kernel_rfl) (Or.inl rfl))
    (dSeq (dFor PassesOwn.leaving rfl (iRange1 (dVar 7 (by kernel_rfl) (by kernel_rfl) (by kernel_rfl) (by kernel_rfl)) fx.b_range (by kernel_rfl) (by kernel_rfl) (by kernel_rfl)) (gName sc_law.nd (by kernel_rfl) (by kernel_rfl) (Or.inl rfl))
    (dSeq (dIf (qOr' (qNe 3 rfl (units64 hr) (dCallO (n := 1) rfl co_Rising___call__ hr (by decide) tk (dVar 6 (by kernel_rfl) (by kernel_rfl) (by kernel_rfl) (by kernel_rfl)) (dCons (dVar 11 (by kernel_rfl) (by kernel_rfl) (by kernel_rfl) (by kernel_rfl)) dNil (by kernel_rfl)) (al_cons al_nil) ⟨(by kernel_rfl), (by kernel_rfl)⟩ (by rfl)) (dIx rfl (dVar 9 (by kernel_rfl) (by kernel_rfl) (by kernel_rfl) (by kernel_rfl)) (dVar 11 (by kernel_rfl) (by kernel_rfl) (by kernel_rfl) (by kernel_rfl)) (fun _ _ => rfl))) (qOr1 (qNe 3 rfl (units64 hr) (dCall (n := 2) rfl c__law_arrival hr (by decide) tk rfl (dCons (dVar 2 (by kernel_rfl) (by kernel_rfl) (by kernel_rfl) (by kernel_rfl)) (dCons (dVar 11 (by kernel_rfl) (by kernel_rfl) (by kernel_rfl) (by kernel_rfl)) dNil (by kernel_rfl)) (by kernel_rfl)) (al_cons (al_cons al_nil)) (by kernel_rfl) (by kernel_rfl) ⟨(by kernel_rfl), (by kernel_rfl)⟩) (dIx rfl (dVar 9 (by kernel_rfl) (by kernel_rfl) (by kernel_rfl) (by kernel_rfl)) (dVar 11 (by kernel_rfl) (by kernel_rfl) (by kernel_rfl) (by kernel_rfl)) (fun _ _ => rfl)))))
    (dOne (dRet dBl))
    dSkip)
    (dOne (dIf (qNe 3 rfl (units64 hr) (dCall (n := 3) rfl c_ride hr (by decide) tk rfl (dCons (dVar 3 (by kernel_rfl) (by kernel_rfl) (by kernel_rfl) (by kernel_rfl)) (dCons (dTy (cTuple rfl) fTuple_ok fx.b_tuple (by kernel_rfl) (by kernel_rfl) (dCons (dVar 4 (by kernel_rfl) (by kernel_rfl) (by kernel_rfl) (by kernel_rfl)) dNil (by kernel_rfl)) (by decide +kernel) (by kernel_rfl) ⟨(by kernel_rfl), (by kernel_rfl)⟩) (dCons (dVar 11 (by kernel_rfl) (by kernel_rfl) (by kernel_rfl) (by kernel_rfl)) dNil (by kernel_rfl)) (by kernel_rfl)) (by kernel_rfl)) (al_cons (al_cons (al_cons al_nil))) (by kernel_rfl) (by kernel_rfl) ⟨(by kernel_rfl), (by kernel_rfl)⟩) (dCall (n := 2) rfl c__law_plain hr (by decide) tk rfl (dCons (dVar 2 (by kernel_rfl) (by kernel_rfl) (by kernel_rfl) (by kernel_rfl)) (dCons (dVar 11 (by kernel_rfl) (by kernel_rfl) (by kernel_rfl) (by kernel_rfl)) dNil (by kernel_rfl)) (by kernel_rfl)) (al_cons (al_cons al_nil)) (by kernel_rfl) (by kernel_rfl) ⟨(by kernel_rfl), (by kernel_rfl)⟩))
    (dOne (dRet dBl))
    dSkip))) (fun _ => rfl))
    (dSeq (dIf (qOr' (qNe 3 rfl (units64 hr) (dAttr rfl fx.a_rows (dVar 6 (by kernel_rfl) (by kernel_rfl) (by kernel_rfl) (by kernel_rfl)) (by kernel_rfl)) (dCall (n := 1) rfl c__law_greedy hr (by decide) tk rfl (dCons (dVar 9 (by kernel_rfl) (by kernel_rfl) (by kernel_rfl) (by kernel_rfl)) dNil (by kernel_rfl)) (al_cons al_nil) (by kernel_rfl) (by kernel_rfl) ⟨(by kernel_rfl), (by kernel_rfl)⟩)) (qOr1 (qNe 3 rfl (units64 hr) (dCallO (n := 1) rfl co_Rising___call__ hr (by decide) tk (dVar 6 (by kernel_rfl) (by kernel_rfl) (by kernel_rfl) (by kernel_rfl)) (dCons (dPow dInt dInt) dNil (by kernel_rfl)) (al_cons al_nil) ⟨(by kernel_rfl), (by kernel_rfl)⟩ (by rfl)) (dAdd rfl (dPow dInt dInt) (dIx rfl (dVar 4 (by kernel_rfl) (by kernel_rfl) (by kernel_rfl) (by kernel_rfl)) (dNeg dInt) (fun _ _ => rfl))))))
    (dOne (dRet dBl))
    dSkip)
    (dOne (dRet (dCall (n := 2) rfl c__law_long hr (by decide) tk rfl (dCons (dVar 0 (by kernel_rfl) (by kernel_rfl) (by kernel_rfl) (by kernel_rfl)) (dCons (dVar 1 (by kernel_rfl) (by kernel_rfl) (by kernel_rfl) (by kernel_rfl)) dNil (by kernel_rfl)) (by kernel_rfl)) (al_cons (al_cons al_nil)) (by kernel_rfl) (by kernel_rfl) ⟨(by kernel_rfl), (by kernel_rfl)⟩)))))))))))))))))
end
end K09

set_option maxHeartbeats 4000000
namespace K09
open PySem L2 ML PL
theorem start_spec (ns : List Int) (h : Hm) (hr : rd h 0 = some (ns.map U.int)) :
    ∃ a b : Int, 0 ≤ a ∧ m__law_start [.ref 0] h = some (.ok (.ref h.length) (h ++ [.lst [.int a, .int b, .int 1, .int 0]])) := by
  unfold m__law_start mfun b__law_start
  cases ns with
  | nil =>
    simp [ML.mSeq, ML.mSet, ML.mIf, ML.mRet, ML.mVar, ML.mC, ML.mOp, ML.mCB, ML.mCons, ML.mNil, ML.mB, ML.toB, ML.mLst, ML.mTup, ML.mSkip, ML.mSetIx, ML.mTAnd, ML.mTOr, ML.mTNot, ML.mAnd, ML.mOr, ML.mNot, ML.mIfE, ML.mIsN, ML.mBM, ML.mChain, ML.bndS, ML.mRetN, ML.mDrop, ML.mNeg, fLen, hr, cPow, LIM]
  | cons n ns =>
    simp [ML.mSeq, ML.mSet, ML.mIf, ML.mRet, ML.mVar, ML.mC, ML.mOp, ML.mCB, ML.mCons, ML.mNil, ML.mB, ML.toB, ML.mLst, ML.mTup, ML.mSkip, ML.mSetIx, ML.mTAnd, ML.mTOr, ML.mTNot, ML.mAnd, ML.mOr, ML.mNot, ML.mIfE, ML.mIsN, ML.mBM, ML.mChain, ML.bndS, ML.mRetN, ML.mDrop, ML.mNeg, fLen, hr, ev_ix hr (atI_0), cPow, LIM]
    split <;> omega
section
variable {x y z w : U}
theorem at4_0 : atI [x, y, z, w] (0 : Int) = some x := rfl
theorem at4_1 : atI [x, y, z, w] (1 : Int) = some y := rfl
theorem at4_2 : atI [x, y, z, w] (2 : Int) = some z := rfl
theorem at4_3 : atI [x, y, z, w] (3 : Int) = some w := rfl
end
theorem draw_run {s : DS} {h : Hm} {k l : Nat} {lim : Int} (hl0 : k ≠ l) (hr : rd h k = some (s.ns.map U.int)) (hl : h[l]? = some (.lst [.int s.a, .int s.b, .int s.c, .int s.d])) (ha : 0 ≤ s.a) (hlim : 0 < lim) (hlim2 : lim < 1073741824) :
    m__law_draw [.ref k, .ref l, .int lim] h = some (.ok (.int (drw s lim).1) (h.set l (.lst [.int (drw s lim).2.a, .int (drw s lim).2.b, .int (drw s lim).2.c, .int (drw s lim).2.d]))) ∧ 0 ≤ (drw s lim).2.a ∧ (drw s lim).2.ns = s.ns := by
  obtain ⟨ns, a, b, c, d⟩ := s
  simp only at hr hl ha
  have hrd : rd h l = some [.int a, .int b, .int c, .int d] := ev_rdL hl
  have s2 : ∀ c, (h.set l c)[l]? = some c := fun c => by
    rw [List.getElem?_set_self (List.getElem?_eq_some_iff.mp hl).1]
  have s1 : ∀ ws, rd (h.set l (.lst ws)) l = some ws := fun ws => ev_rdL (s2 _)
  have s3 : ∀ c, rd (h.set l c) k = some (ns.map U.int) := fun c => by
    rw [← hr]; unfold rd; rw [List.getElem?_set_ne (Ne.symm hl0)]
  have h1 : lim ≠ 0 := by omega
  have h2 : lim.natAbs < 1073741824 := by omega
  have fm0 : ∀ (x : Int) {y : Int}, 0 < y → 0 ≤ x.fmod y := fun x y hy => Int.fmod_nonneg_of_pos x hy
  have fm1 : ∀ (x : Int) {y : Int}, 0 < y → x.fmod y < y := fun x y hy => Int.fmod_lt_of_pos x hy
  by_cases hc : b = 1 ∧ 0 < a
  · have hd : drw ⟨ns, a, b, c, d⟩ lim = (a.fmod lim, ⟨ns, a.fdiv lim, 1, c, d + 1⟩) := if_pos hc
    rw [hd]
    obtain ⟨rfl, ha0⟩ := hc
    refine ⟨?_, Int.fdiv_nonneg ha (by omega), rfl⟩
    unfold m__law_draw mfun b__law_draw
    simp [ML.mSeq, ML.mSet, ML.mIf, ML.mRet, ML.mVar, ML.mC, ML.mOp, ML.mCB, ML.mCons, ML.mNil, ML.mB, ML.toB, ML.mLst, ML.mTup, ML.mSkip, ML.mSetIx, ML.mTAnd, ML.mTOr, ML.mTNot, ML.mAnd, ML.mOr, ML.mNot, ML.mIfE, ML.mIsN, ML.mBM, ML.mChain, ML.bndS, ML.mRetN, ML.mDrop, ML.mNeg, oIx, hrd, s1, s2, s3, hl, at4_0, at4_1, at4_2, at4_3, ixN, ha0, cDivN, h1, h2]
  · have hd : drw ⟨ns, a, b, c, d⟩ lim = (mixR (mixA a (cellS ⟨ns, a, b, c, d⟩) d) d lim, ⟨ns, mixA a (cellS ⟨ns, a, b, c, d⟩) d, 0, c + 1, d + 1⟩) := if_neg hc
    rw [hd]
    obtain ⟨cell, hce⟩ : ∃ cell, cell = cellS ⟨ns, a, b, c, d⟩ := ⟨_, rfl⟩
    rw [← hce]
    have hcell : ns = [] ∧ cell = 0 ∨ ns ≠ [] ∧ atI (ns.map U.int) (c.fmod ns.length) = some (.int cell) := by
      by_cases hn : ns = []
      · exact .inl ⟨hn, by rw [hce]; unfold cellS; rw [if_pos hn]⟩
      · refine .inr ⟨hn, ?_⟩
        have hl0 := List.length_pos_iff.mpr hn
        have a0 : 0 ≤ c.fmod ns.length := fm0 _ (by omega)
        have a1 : c.fmod ns.length < ns.length := fm1 _ (by omega)
        unfold atI ixN
        rw [if_pos a0, if_pos (by simpa using a1)]
        simp only [Option.bind_some, List.getElem?_map]
        rw [hce]
        unfold cellS
        rw [if_neg hn]
        have : (c.fmod ns.length).toNat < ns.length := by omega
        simp [this]
    refine ⟨?_, fm0 _ (by decide), rfl⟩
    unfold m__law_draw mfun b__law_draw
    rcases hcell with ⟨rfl, rfl⟩ | ⟨hns, hcell⟩
    · by_cases hb1 : b = 1
      · have ha0 : ¬ (0 < a) := fun q => hc ⟨hb1, q⟩
        simp [ML.mSeq, ML.mSet, ML.mIf, ML.mRet, ML.mVar, ML.mC, ML.mOp, ML.mCB, ML.mCons, ML.mNil, ML.mB, ML.toB, ML.mLst, ML.mTup, ML.mSkip, ML.mSetIx, ML.mTAnd, ML.mTOr, ML.mTNot, ML.mAnd, ML.mOr, ML.mNot, ML.mIfE, ML.mIsN, ML.mBM, ML.mChain, ML.bndS, ML.mRetN, ML.mDrop, ML.mNeg, oIx, hrd, s1, s2, s3, hl, at4_0, at4_1, at4_2, at4_3, ixN, hb1, ha0, cDivN, h1, h2, fLen, cMul, PL.mixA, PL.mixR]
      · simp [ML.mSeq, ML.mSet, ML.mIf, ML.mRet, ML.mVar, ML.mC, ML.mOp, ML.mCB, ML.mCons, ML.mNil, ML.mB, ML.toB, ML.mLst, ML.mTup, ML.mSkip, ML.mSetIx, ML.mTAnd, ML.mTOr, ML.mTNot, ML.mAnd, ML.mOr, ML.mNot, ML.mIfE, ML.mIsN, ML.mBM, ML.mChain, ML.bndS, ML.mRetN, ML.mDrop, ML.mNeg, oIx, hrd, s1, s2, s3, hl, at4_0, at4_1, at4_2, at4_3, ixN, hb1, cDivN, h1, h2, fLen, cMul, PL.mixA, PL.mixR]
    · have hlen' : 0 < ns.length := List.length_pos_iff.mpr hns
      have hlen : (0 : Int) < ns.length := by omega
      have hlen2 : ¬ ((ns.length : Int) = 0) := by omega
      by_cases hb1 : b = 1
      · have ha0 : ¬ (0 < a) := fun q => hc ⟨hb1, q⟩
        simp [ML.mSeq, ML.mSet, ML.mIf, ML.mRet, ML.mVar, ML.mC, ML.mOp, ML.mCB, ML.mCons, ML.mNil, ML.mB, ML.toB, ML.mLst, ML.mTup, ML.mSkip, ML.mSetIx, ML.mTAnd, ML.mTOr, ML.mTNot, ML.mAnd, ML.mOr, ML.mNot, ML.mIfE, ML.mIsN, ML.mBM, ML.mChain, ML.bndS, ML.mRetN, ML.mDrop, ML.mNeg, oIx, hrd, s1, s2, s3, hl, at4_0, at4_1, at4_2, at4_3, ixN, hb1, ha0, cDivN, h1, h2, fLen, cMul, PL.mixA, PL.mixR, hcell, hlen', hlen, hlen2, hns]
      · simp [ML.mSeq, ML.mSet, ML.mIf, ML.mRet, ML.mVar, ML.mC, ML.mOp, ML.mCB, ML.mCons, ML.mNil, ML.mB, ML.toB, ML.mLst, ML.mTup, ML.mSkip, ML.mSetIx, ML.mTAnd, ML.mTOr, ML.mTNot, ML.mAnd, ML.mOr, ML.mNot, ML.mIfE, ML.mIsN, ML.mBM, ML.mChain, ML.bndS, ML.mRetN, ML.mDrop, ML.mNeg, oIx, hrd, s1, s2, s3, hl, at4_0, at4_1, at4_2, at4_3, ixN, hb1, cDivN, h1, h2, fLen, cMul, PL.mixA, PL.mixR, hcell, hlen', hlen, hlen2, hns]
theorem s__law_draw : SF m__law_draw p__law_draw := fun X h A s us ps w v => by
  unfold p__law_draw
  split
  · rename_i lim
    obtain ⟨x, y, z, rfl, v1, v2, v3⟩ := three_v v
    simp only [PL.V] at v1 v2 v3
    subst v1 v2 v3
    split
    · rename_i hc
      simp only [Bool.and_eq_true, decide_eq_true_eq] at hc
      obtain ⟨e, a0, en⟩ := draw_run w.sd w.sc w.ds w.a0 hc.1 hc.2
      refine ⟨_, _, A, e, ⟨by simp, fun _ a => a, fun _ a => .inl a, fun i _ hd => List.getElem?_set_ne (Ne.symm hd)⟩, ⟨fun i a => by simpa using w.bd i a, ?_, ?_, w.sd, w.aS, a0⟩, by simp [PL.V]⟩
      · rw [List.getElem?_set_self w.dlt]
      · rw [en, ← w.sc]
        unfold rd
        rw [List.getElem?_set_ne (Ne.symm w.sd)]
    · trivial
  · trivial
end K09

set_option maxHeartbeats 4000000
namespace K09
open PySem L2 ML PL
noncomputable def p_b_is_integer : PL.PS :=
    (pRet (pAnd (pIsi tabInt (pVar 0)) (pNot (pIsi tabBool (pVar 0)))))
theorem s_b_is_integer : SS b_is_integer p_b_is_integer :=
  (sRet (sAnd (sIsi sVar) (sNot (sIsi sVar))))
noncomputable def p_is_integer : PL.PF := pfun 1 1 p_b_is_integer
theorem s_is_integer : SF m_is_integer p_is_integer := sFun s_b_is_integer
noncomputable def p_b_check_integer : PL.PS :=
    (pSeq (pIf (pTNot (pB (pCB p_is_integer (pCons (pVar 1) pNil))))
    (pRaiseH 1 (x2s ("what" : Str) ("value" : Str)) (pCons (pVar 0) (pCons (pVar 1) pNil)))
    pSkip)
    (pRet (pVar 1)))
theorem s_b_check_integer : SS b_check_integer p_b_check_integer :=
  (sSeq (sIf (sTNot (sB (sCB s_is_integer (sCons sVar sNil))))
    (sRaiseH sx2s (sCons sVar (sCons sVar sNil)))
    sSkip)
    (sRet sVar))
noncomputable def p_check_integer : PL.PF := pfun 2 2 p_b_check_integer
theorem s_check_integer : SF m_check_integer p_check_integer := sFun s_b_check_integer
noncomputable def p_b_check_number : PL.PS :=
    (pSeq (pDrop (pCB p_check_integer (pCons (pVar 0) (pCons (pVar 1) pNil))))
    (pSeq (pIf (pTOr (pB (pOp qLt (pVar 1) (pVar 2))) (pTAnd (pB (pIsN true (pVar 3))) (pB (pOp qGt (pVar 1) (pVar 3)))))
    (pRaiseH 1 (x2s ("what" : Str) ("value" : Str)) (pCons (pVar 0) (pCons (pVar 1) pNil)))
    pSkip)
    (pRet (pVar 1))))
theorem s_b_check_number : SS b_check_number p_b_check_number :=
  (sSeq (sDrop (sCB s_check_integer (sCons sVar (sCons sVar sNil))))
    (sSeq (sIf (sTOr (sB (sOp s2Lt sVar sVar)) (sTAnd (sB (sIsN sVar)) (sB (sOp s2Gt sVar sVar))))
    (sRaiseH sx2s (sCons sVar (sCons sVar sNil)))
    sSkip)
    (sRet sVar)))
noncomputable def p_check_number : PL.PF := pfun 4 4 p_b_check_number
theorem s_check_number : SF m_check_number p_check_number := sFun s_b_check_number
noncomputable def p_b_row_value : PL.PS :=
    (pSeq (pAsgH (jT 3 (jC (jN 2) (jC (jN 3) (jC (jN 4) jE)))) (pVar 0))
    (pRet (pIfE (pB (pVar 4)) (pOp qSub (pOp qAdd (pVar 3) (pVar 1)) (pVar 2)) (pVar 3))))
theorem s_b_row_value : SS b_row_value p_b_row_value :=
  (sSeq (sAsgH (sTT (sTC sN (sTC sN (sTC sN sTE)))) sVar)
    (sRet (sIfE (sB sVar) (sOp s2Sub (sOp s2Add sVar sVar) sVar) sVar)))
noncomputable def p_row_value : PL.PF := pfun 2 5 p_b_row_value
theorem s_row_value : SF m_row_value p_row_value := sFun s_b_row_value
noncomputable def p_b_last_place : PL.PS :=
    (pSeq (pSetH 3 (pC (.int 0)))
    (pSeq (pSetH 4 (pCB gLen (pCons (pVar 0) pNil)))
    (pSeq (pWhile (pB (pOp qLt (pVar 3) (pVar 4)))
    (pSeq (pSetH 5 (pOp qDiv (pOp qAdd (pVar 3) (pVar 4)) (pC (.int 2))))
    (pIf (pB (pOp qLe (pOp qIx (pOp qIx (pVar 0) (pVar 5)) (pVar 1)) (pVar 2)))
    (pSetH 3 (pOp qAdd (pVar 5) (pC (.int 1))))
    (pSetH 4 (pVar 5)))))
    (pRet (pOp qSub (pVar 3) (pC (.int 1)))))))
theorem s_b_last_place : SS b_last_place p_b_last_place :=
  (sSeq (sSetH sInt)
    (sSeq (sSetH (sCB sLen (sCons sVar sNil)))
    (sSeq (sWhile (sB (sOp s2Lt sVar sVar))
    (sSeq (sSetH (sOp s2Div (sOp s2Add sVar sVar) sInt))
    (sIf (sB (sOp s2Le (sOp s2Ix (sOp s2Ix sVar sVar) sVar) sVar))
    (sSetH (sOp s2Add sVar sInt))
    (sSetH sVar))))
    (sRet (sOp s2Sub sVar sInt)))))
noncomputable def p_last_place : PL.PF := pfun 3 6 p_b_last_place
theorem s_last_place : SF m_last_place p_last_place := sFun s_b_last_place
noncomputable def p_b_Rising___call__ : PL.PS :=
    (pSeq (pDrop (pCB p_check_number (pCons (pC (.str ("minute" : Str))) (pCons (pVar 1) (pCons (pC (.int 0)) (pCons (pC .non) pNil))))))
    (pRet (pCB p_row_value (pCons (pOp qIx (pAttr ("rows" : Str) at_rows_i at_rows_e (pVar 0)) (pCB p_last_place (pCons (pAttr ("rows" : Str) at_rows_i at_rows_e (pVar 0)) (pCons (pC (.int 0)) (pCons (pVar 1) pNil))))) (pCons (pVar 1) pNil)))))
theorem s_b_Rising___call__ : SS b_Rising___call__ p_b_Rising___call__ :=
  (sSeq (sDrop (sCB s_check_number (sCons sStr (sCons sVar (sCons sInt (sCons sNon sNil))))))
    (sRet (sCB s_row_value (sCons (sOp s2Ix (sAttr sVar) (sCB s_last_place (sCons (sAttr sVar) (sCons sInt (sCons sVar sNil))))) (sCons sVar sNil)))))
noncomputable def p_Rising___call__ : PL.PF := pfun 2 2 p_b_Rising___call__
theorem s_Rising___call__ : SF m_Rising___call__ p_Rising___call__ := sFun s_b_Rising___call__
noncomputable def p_b__law_riding : PL.PS :=
    (pSeq (pSetH 5 (pOp qAdd (pC (.int 1)) (pCB p__law_draw (pCons (pVar 0) (pCons (pVar 1) (pCons (pVar 2) pNil))))))
    (pSeq (pSetH 6 (pOp qAdd (pC (.int 1)) (pCB p__law_draw (pCons (pVar 0) (pCons (pVar 1) (pCons (pVar 3) pNil))))))
    (pRet (pTup (pCons (pVar 6) (pCons (pL (fLc (pIR1 (pVar 5)) (NT.one 7) pYes (pCB p__law_draw (pCons (pVar 0) (pCons (pVar 1) (pCons (pOp qAdd (pVar 4) (pC (.int 1))) pNil)))) [7])) pNil))))))
theorem s_b__law_riding : SS b__law_riding p_b__law_riding :=
  (sSeq (sSetH (sOp s2Add sInt (sCB s__law_draw (sCons sVar (sCons sVar (sCons sVar sNil))))))
    (sSeq (sSetH (sOp s2Add sInt (sCB s__law_draw (sCons sVar (sCons sVar (sCons sVar sNil))))))
    (sRet (sTup (sCons sVar (sCons (SFE.se (sLc (sIR1 sVar) sYes (sCB s__law_draw (sCons sVar (sCons sVar (sCons (sOp s2Add sVar sInt) sNil)))))) sNil))))))
noncomputable def p__law_riding : PL.PF := pfun 5 8 p_b__law_riding
theorem s__law_riding : SF m__law_riding p__law_riding := sFun s_b__law_riding
noncomputable def p_b_start_of : PL.PS :=
    (pRet (pIfE (pB (pOp qLt (pVar 1) (pCB gLen (pCons (pVar 0) pNil)))) (pOp qIx (pOp qIx (pVar 0) (pVar 1)) (pC (.int 0))) (pC .non)))
theorem s_b_start_of : SS b_start_of p_b_start_of :=
  (sRet (sIfE (sB (sOp s2Lt sVar (sCB sLen (sCons sVar sNil)))) (sOp s2Ix (sOp s2Ix sVar sVar) sInt) sNon))
noncomputable def p_start_of : PL.PF := pfun 2 2 p_b_start_of
theorem s_start_of : SF m_start_of p_start_of := sFun s_b_start_of
noncomputable def p_b_greater : PL.PS :=
    (pRet (pIfE (pB (pOp qGe (pVar 0) (pVar 1))) (pVar 0) (pVar 1)))
theorem s_b_greater : SS b_greater p_b_greater :=
  (sRet (sIfE (sB (sOp s2Ge sVar sVar)) sVar sVar))
noncomputable def p_greater : PL.PF := pfun 2 2 p_b_greater
theorem s_greater : SF m_greater p_greater := sFun s_b_greater
noncomputable def p_b_lesser : PL.PS :=
    (pRet (pIfE (pB (pOp qLe (pVar 0) (pVar 1))) (pVar 0) (pVar 1)))
theorem s_b_lesser : SS b_lesser p_b_lesser :=
  (sRet (sIfE (sB (sOp s2Le sVar sVar)) sVar sVar))
noncomputable def p_lesser : PL.PF := pfun 2 2 p_b_lesser
theorem s_lesser : SF m_lesser p_lesser := sFun s_b_lesser
noncomputable def p_b_shortest : PL.PS :=
    (pSeq (pSetOH 1 (fLst pNil))
    (pSeq (pAsgH (jT 4 (jC (jN 2) (jC (jN 3) (jC (jN 4) (jC (jN 5) jE))))) (pTup (pCons (pC (.int 0)) (pCons (pOp qIx (pOp qIx (pVar 0) (pC (.int 0))) (pC (.int 1))) (pCons (pC .non) (pCons (pOp qIx (pOp qIx (pVar 0) (pC (.int 0))) (pC (.int 1))) pNil))))))
    (pSeq (pFor (pIEn (pVar 0)) (jT 2 (jC (jN 6) (jC (jN 7) jE)))
    (pSeq (pSetH 8 (pCB p_start_of (pCons (pVar 0) (pCons (pOp qAdd (pVar 6) (pC (.int 1))) pNil))))
    (pSeq (pIf (pB (pIsN false (pVar 8)))
    (pSetH 8 (pOp qAdd (pOp qIx (pVar 7) (pC (.int 0))) (pC (.int 3))))
    pSkip)
    (pSeq (pFor (pIR2 (pCB p_greater (pCons (pOp qIx (pVar 7) (pC (.int 0))) (pCons (pC (.int 1)) pNil))) (pCB p_lesser (pCons (pVar 8) (pCons (pOp qAdd (pOp qIx (pVar 7) (pC (.int 0))) (pC (.int 3))) pNil)))) (jN 9)
    (pSeq (pSetH 10 (pCB p_row_value (pCons (pVar 7) (pCons (pVar 9) pNil))))
    (pSeq (pSetH 11 (pOp qSub (pVar 10) (pVar 5)))
    (pSeq (pIf (pTAnd (pB (pIsN false (pVar 4))) (pB (pOp (qIn false) (pVar 11) (pTup (pCons (pC (.int 0)) (pCons (pC (.int 1)) pNil))))))
    (pSetH 4 (pVar 11))
    (pIf (pB (pOp (qEq true) (pVar 11) (pVar 4)))
    (pSeq (pAppH 1 (pTup (pCons (pVar 2) (pCons (pVar 3) (pCons (pOp (qEq false) (pVar 4) (pC (.int 1))) pNil)))))
    (pPar3 2 3 4 (pCons (pVar 9) (pCons (pVar 10) (pCons (pC .non) pNil)))))
    pSkip))
    (pSetH 5 (pVar 10))))))
    (pSetH 5 (pCB p_row_value (pCons (pVar 7) (pCons (pOp qSub (pVar 8) (pC (.int 1))) pNil))))))))
    (pSeq (pAppH 1 (pTup (pCons (pVar 2) (pCons (pVar 3) (pCons (pC (.bl true)) pNil)))))
    (pRet (pCB gTuple (pCons (pVar 1) pNil)))))))
theorem s_b_shortest : SS b_shortest p_b_shortest :=
  (sSeq (sSetOH (sLst sNil))
    (sSeq (sAsgH (sTT (sTC sN (sTC sN (sTC sN (sTC sN sTE))))) (sTup (sCons sInt (sCons (sOp s2Ix (sOp s2Ix sVar sInt) sInt) (sCons sNon (sCons (sOp s2Ix (sOp s2Ix sVar sInt) sInt) sNil))))))
    (sSeq (sFor (sIEn sVar) (sTT (sTC sN (sTC sN sTE)))
    (sSeq (sSetH (sCB s_start_of (sCons sVar (sCons (sOp s2Add sVar sInt) sNil))))
    (sSeq (sIf (sB (sIsN sVar))
    (sSetH (sOp s2Add (sOp s2Ix sVar sInt) sInt))
    sSkip)
    (sSeq (sFor (sIR2 (sCB s_greater (sCons (sOp s2Ix sVar sInt) (sCons sInt sNil))) (sCB s_lesser (sCons sVar (sCons (sOp s2Add (sOp s2Ix sVar sInt) sInt) sNil)))) sN
    (sSeq (sSetH (sCB s_row_value (sCons sVar (sCons sVar sNil))))
    (sSeq (sSetH (sOp s2Sub sVar sVar))
    (sSeq (sIf (sTAnd (sB (sIsN sVar)) (sB (sOp s2In sVar (sTup (sCons sInt (sCons sInt sNil))))))
    (sSetH sVar)
    (sIf (sB (sOp s2Ne sVar sVar))
    (sSeq (sAppH (sTup (sCons sVar (sCons sVar (sCons (sOp s2Eq sVar sInt) sNil)))))
    (sPar3 (sCons sVar (sCons sVar (sCons sNon sNil)))))
    sSkip))
    (sSetH sVar)))))
    (sSetH (sCB s_row_value (sCons sVar (sCons (sOp s2Sub sVar sInt) sNil))))))))
    (sSeq (sAppH (sTup (sCons sVar (sCons sVar (sCons sBl sNil)))))
    (sRet (sCB sTuple (sCons sVar sNil)))))))
noncomputable def p_shortest : PL.PF := pfun 1 12 p_b_shortest
theorem s_shortest : SF m_shortest p_shortest := sFun s_b_shortest
noncomputable def p_b_follows : PL.PS :=
    (pSeq (pIf (pB (pOp qLe (pVar 1) (pOp qIx (pVar 0) (pC (.int 0)))))
    (pRet (pC (.bl false)))
    pSkip)
    (pSeq (pSetH 3 (pCB p_row_value (pCons (pVar 0) (pCons (pOp qSub (pVar 1) (pC (.int 1))) pNil))))
    (pRet (pChain qLe qLe (pOp qSub (pVar 1) (pC (.int 1))) (pVar 3) (pVar 2)))))
theorem s_b_follows : SS b_follows p_b_follows :=
  (sSeq (sIf (sB (sOp s2Le sVar (sOp s2Ix sVar sInt)))
    (sRet sBl)
    sSkip)
    (sSeq (sSetH (sCB s_row_value (sCons sVar (sCons (sOp s2Sub sVar sInt) sNil))))
    (sRet (sChain s2Le s2Le (sOp s2Sub sVar sInt) sVar sVar))))
noncomputable def p_follows : PL.PF := pfun 3 4 p_b_follows
theorem s_follows : SF m_follows p_follows := sFun s_b_follows
noncomputable def p_b_is_good_row : PL.PS :=
    (pSeq (pAsgH (jT 3 (jC (jN 2) (jC (jN 3) (jC (jN 4) jE)))) (pOp qIx (pVar 0) (pVar 1)))
    (pSeq (pIf (pTOr (pTNot (pB (pCB p_is_integer (pCons (pVar 2) pNil)))) (pTOr (pTNot (pB (pCB p_is_integer (pCons (pVar 3) pNil)))) (pB (pOp qLt (pVar 3) (pVar 2)))))
    (pRet (pC (.bl false)))
    pSkip)
    (pSeq (pIf (pTAnd (pB (pOp (qEq false) (pVar 1) (pOp qSub (pCB gLen (pCons (pVar 0) pNil)) (pC (.int 1))))) (pTNot (pB (pVar 4))))
    (pRet (pC (.bl false)))
    pSkip)
    (pSeq (pIf (pB (pOp (qEq false) (pVar 1) (pC (.int 0))))
    (pRet (pOp (qEq false) (pVar 2) (pC (.int 0))))
    pSkip)
    (pRet (pCB p_follows (pCons (pOp qIx (pVar 0) (pOp qSub (pVar 1) (pC (.int 1)))) (pCons (pVar 2) (pCons (pVar 3) pNil)))))))))
theorem s_b_is_good_row : SS b_is_good_row p_b_is_good_row :=
  (sSeq (sAsgH (sTT (sTC sN (sTC sN (sTC sN sTE)))) (sOp s2Ix sVar sVar))
    (sSeq (sIf (sTOr (sTNot (sB (sCB s_is_integer (sCons sVar sNil)))) (sTOr (sTNot (sB (sCB s_is_integer (sCons sVar sNil)))) (sB (sOp s2Lt sVar sVar))))
    (sRet sBl)
    sSkip)
    (sSeq (sIf (sTAnd (sB (sOp s2Eq sVar (sOp s2Sub (sCB sLen (sCons sVar sNil)) sInt))) (sTNot (sB sVar)))
    (sRet sBl)
    sSkip)
    (sSeq (sIf (sB (sOp s2Eq sVar sInt))
    (sRet (sOp s2Eq sVar sInt))
    sSkip)
    (sRet (sCB s_follows (sCons (sOp s2Ix sVar (sOp s2Sub sVar sInt)) (sCons sVar (sCons sVar sNil)))))))))
noncomputable def p_is_good_row : PL.PF := pfun 2 5 p_b_is_good_row
theorem s_is_good_row : SF m_is_good_row p_is_good_row := sFun s_b_is_good_row
noncomputable def p_b_check_rows : PL.PS :=
    (pSeq (pIf (pB (pOp (qEq false) (pCB gLen (pCons (pVar 0) pNil)) (pC (.int 0))))
    (pRaiseH 2 (x1 ("place" : Str)) (pCons (pC (.int 0)) pNil))
    pSkip)
    (pSeq (pFor (pIR1 (pCB gLen (pCons (pVar 0) pNil))) (jN 1)
    (pIf (pTNot (pB (pCB p_is_good_row (pCons (pVar 0) (pCons (pVar 1) pNil)))))
    (pRaiseH 2 (x1 ("place" : Str)) (pCons (pVar 1) pNil))
    pSkip))
    (pRet (pVar 0))))
theorem s_b_check_rows : SS b_check_rows p_b_check_rows :=
  (sSeq (sIf (sB (sOp s2Eq (sCB sLen (sCons sVar sNil)) sInt))
    (sRaiseH sx1 (sCons sInt sNil))
    sSkip)
    (sSeq (sFor (sIR1 (sCB sLen (sCons sVar sNil))) sN
    (sIf (sTNot (sB (sCB s_is_good_row (sCons sVar (sCons sVar sNil)))))
    (sRaiseH sx1 (sCons sVar sNil))
    sSkip))
    (sRet sVar)))
noncomputable def p_check_rows : PL.PF := pfun 1 2 p_b_check_rows
theorem s_check_rows : SF m_check_rows p_check_rows := sFun s_b_check_rows
noncomputable def p_b_Rising___init__ : PL.PS :=
    (pSetAt ("rows" : Str) at_rows_i 0 (pCB p_shortest (pCons (pCB p_check_rows (pCons (pL (fCopy (pVar 1))) pNil)) pNil)))
theorem s_b_Rising___init__ : SS b_Rising___init__ p_b_Rising___init__ :=
  (sSetAt (sCB s_shortest (sCons (sCB s_check_rows (sCons (SFE.se (sCopy sVar)) sNil)) sNil)))
noncomputable def p_Rising___init__ : PL.PN := pinit 3 2 2 p_b_Rising___init__
theorem s_Rising___init__ : SN 3 m_Rising___init__ p_Rising___init__ := sInit s_b_Rising___init__ kSetAt
noncomputable def p_b_check_slots : PL.PS :=
    (pSeq (pDrop (pCB p_check_number (pCons (pC (.str ("length" : Str))) (pCons (pVar 0) (pCons (pC (.int 1)) (pCons (pC (.int 720)) pNil))))))
    (pSeq (pDrop (pCB p_check_number (pCons (pC (.str ("slots" : Str))) (pCons (pCB gLen (pCons (pVar 1) pNil)) (pCons (pC (.int 1)) (pCons (pC (.int 48)) pNil))))))
    (pFor (pISeq (pVar 1)) (jN 2)
    (pDrop (pCB p_check_number (pCons (pC (.str ("riding" : Str))) (pCons (pVar 2) (pCons (pC (.int 0)) (pCons (pC (.int 600)) pNil)))))))))
theorem s_b_check_slots : SS b_check_slots p_b_check_slots :=
  (sSeq (sDrop (sCB s_check_number (sCons sStr (sCons sVar (sCons sInt (sCons sInt sNil))))))
    (sSeq (sDrop (sCB s_check_number (sCons sStr (sCons (sCB sLen (sCons sVar sNil)) (sCons sInt (sCons sInt sNil))))))
    (sFor (sISeq sVar) sN
    (sDrop (sCB s_check_number (sCons sStr (sCons sVar (sCons sInt (sCons sInt sNil)))))))))
noncomputable def p_check_slots : PL.PF := pfun 2 3 p_b_check_slots
theorem s_check_slots : SF m_check_slots p_check_slots := sFun s_b_check_slots
noncomputable def p_b_by_slots : PL.PS :=
    (pSeq (pDrop (pCB p_check_slots (pCons (pVar 0) (pCons (pVar 1) pNil))))
    (pSeq (pSetH 2 (pOp qMul (pVar 0) (pOp qSub (pCB gLen (pCons (pVar 1) pNil)) (pC (.int 1)))))
    (pSeq (pSetH 3 (pOp qAdd (pVar 2) (pOp qIx (pVar 1) (pNeg (pC (.int 1))))))
    (pSeq (pSetOH 4 (fLst (pCons (pTup (pCons (pVar 2) (pCons (pVar 3) (pCons (pC (.bl true)) pNil)))) pNil)))
    (pSeq (pFor (pISeq (pL (fRevF (pVar 1) (pPart (pNeg (pC (.int 2))))))) (jN 5)
    (pSeq (pSetH 6 (pVar 2))
    (pSeq (pSetH 2 (pOp qSub (pVar 2) (pVar 0)))
    (pIf (pB (pOp qGe (pOp qAdd (pVar 2) (pVar 5)) (pVar 3)))
    (pAppH 4 (pTup (pCons (pVar 2) (pCons (pVar 3) (pCons (pC (.bl false)) pNil)))))
    (pSeq (pIf (pB (pOp qLt (pOp qSub (pVar 3) (pVar 5)) (pVar 6)))
    (pAppH 4 (pTup (pCons (pOp qSub (pVar 3) (pVar 5)) (pCons (pVar 3) (pCons (pC (.bl false)) pNil)))))
    pSkip)
    (pSeq (pSetH 3 (pOp qAdd (pVar 2) (pVar 5)))
    (pAppH 4 (pTup (pCons (pVar 2) (pCons (pVar 3) (pCons (pC (.bl true)) pNil)))))))))))
    (pRet (pMake 3 p_Rising___init__ (pCons (pL (fRevL (pVar 4))) pNil))))))))
theorem s_b_by_slots : SS b_by_slots p_b_by_slots :=
  (sSeq (sDrop (sCB s_check_slots (sCons sVar (sCons sVar sNil))))
    (sSeq (sSetH (sOp s2Mul sVar (sOp s2Sub (sCB sLen (sCons sVar sNil)) sInt)))
    (sSeq (sSetH (sOp s2Add sVar (sOp s2Ix sVar (sNeg sInt))))
    (sSeq (sSetOH (sLst (sCons (sTup (sCons sVar (sCons sVar (sCons sBl sNil)))) sNil)))
    (sSeq (sFor (sISeq (SFE.se (sRevF sVar (sPart (sNeg sInt))))) sN
    (sSeq (sSetH sVar)
    (sSeq (sSetH (sOp s2Sub sVar sVar))
    (sIf (sB (sOp s2Ge (sOp s2Add sVar sVar) sVar))
    (sAppH (sTup (sCons sVar (sCons sVar (sCons sBl sNil)))))
    (sSeq (sIf (sB (sOp s2Lt (sOp s2Sub sVar sVar) sVar))
    (sAppH (sTup (sCons (sOp s2Sub sVar sVar) (sCons sVar (sCons sBl sNil)))))
    sSkip)
    (sSeq (sSetH (sOp s2Add sVar sVar))
    (sAppH (sTup (sCons sVar (sCons sVar (sCons sBl sNil)))))))))))
    (sRet (sMake s_Rising___init__ (sCons (SFE.se (sRevL sVar)) sNil))))))))
noncomputable def p_by_slots : PL.PF := pfun 2 7 p_b_by_slots
theorem s_by_slots : SF m_by_slots p_by_slots := sFun s_b_by_slots
noncomputable def p_b__law_plain : PL.PS :=
    (pSeq (pAsgH (jT 2 (jC (jN 2) (jC (jN 3) jE))) (pVar 0))
    (pRet (pOp qAdd (pVar 1) (pOp qIx (pVar 3) (pCB gMin2 (pCons (pCB gInt (pCons (pOp qDiv (pVar 1) (pVar 2)) pNil)) (pCons (pOp qSub (pCB gLen (pCons (pVar 3) pNil)) (pC (.int 1))) pNil)))))))
theorem s_b__law_plain : SS b__law_plain p_b__law_plain :=
  (sSeq (sAsgH (sTT (sTC sN (sTC sN sTE))) sVar)
    (sRet (sOp s2Add sVar (sOp s2Ix sVar (sCB sMin2 (sCons (sCB sIntA (sCons (sOp s2Div sVar sVar) sNil)) (sCons (sOp s2Sub (sCB sLen (sCons sVar sNil)) sInt) sNil)))))))
noncomputable def p__law_plain : PL.PF := pfun 2 4 p_b__law_plain
theorem s__law_plain : SF m__law_plain p__law_plain := sFun s_b__law_plain
noncomputable def p_b__law_arrival : PL.PS :=
    (pSeq (pAsgH (jT 2 (jC (jN 2) (jC (jN 3) jE))) (pVar 0))
    (pSeq (pSetH 4 (pOp qAdd (pVar 1) (pOp qIx (pVar 3) (pCB gMin2 (pCons (pCB gInt (pCons (pOp qDiv (pVar 1) (pVar 2)) pNil)) (pCons (pOp qSub (pCB gLen (pCons (pVar 3) pNil)) (pC (.int 1))) pNil))))))
    (pSeq (pFor (pIR1 (pCB gLen (pCons (pVar 3) pNil))) (jN 5)
    (pIf (pB (pOp qGt (pOp qMul (pVar 5) (pVar 2)) (pVar 1)))
    (pSetH 4 (pCB gMin2 (pCons (pCB gInt (pCons (pVar 4) pNil)) (pCons (pCB gInt (pCons (pOp qAdd (pOp qMul (pVar 5) (pVar 2)) (pOp qIx (pVar 3) (pVar 5))) pNil)) pNil))))
    pSkip))
    (pRet (pVar 4)))))
theorem s_b__law_arrival : SS b__law_arrival p_b__law_arrival :=
  (sSeq (sAsgH (sTT (sTC sN (sTC sN sTE))) sVar)
    (sSeq (sSetH (sOp s2Add sVar (sOp s2Ix sVar (sCB sMin2 (sCons (sCB sIntA (sCons (sOp s2Div sVar sVar) sNil)) (sCons (sOp s2Sub (sCB sLen (sCons sVar sNil)) sInt) sNil))))))
    (sSeq (sFor (sIR1 (sCB sLen (sCons sVar sNil))) sN
    (sIf (sB (sOp s2Gt (sOp s2Mul sVar sVar) sVar))
    (sSetH (sCB sMin2 (sCons (sCB sIntA (sCons sVar sNil)) (sCons (sCB sIntA (sCons (sOp s2Add (sOp s2Mul sVar sVar) (sOp s2Ix sVar sVar)) sNil)) sNil))))
    sSkip))
    (sRet sVar))))
noncomputable def p__law_arrival : PL.PF := pfun 2 6 p_b__law_arrival
theorem s__law_arrival : SF m__law_arrival p__law_arrival := sFun s_b__law_arrival
noncomputable def p_b_ride : PL.PS :=
    (pSeq (pDrop (pCB p_check_slots (pCons (pVar 0) (pCons (pVar 1) pNil))))
    (pSeq (pDrop (pCB p_check_number (pCons (pC (.str ("minute" : Str))) (pCons (pVar 2) (pCons (pC (.int 0)) (pCons (pC .non) pNil))))))
    (pRet (pOp qAdd (pVar 2) (pOp qIx (pVar 1) (pCB p_lesser (pCons (pOp qDiv (pVar 2) (pVar 0)) (pCons (pOp qSub (pCB gLen (pCons (pVar 1) pNil)) (pC (.int 1))) pNil))))))))
theorem s_b_ride : SS b_ride p_b_ride :=
  (sSeq (sDrop (sCB s_check_slots (sCons sVar (sCons sVar sNil))))
    (sSeq (sDrop (sCB s_check_number (sCons sStr (sCons sVar (sCons sInt (sCons sNon sNil))))))
    (sRet (sOp s2Add sVar (sOp s2Ix sVar (sCB s_lesser (sCons (sOp s2Div sVar sVar) (sCons (sOp s2Sub (sCB sLen (sCons sVar sNil)) sInt) sNil))))))))
noncomputable def p_ride : PL.PF := pfun 3 3 p_b_ride
theorem s_ride : SF m_ride p_ride := sFun s_b_ride
noncomputable def p_b__law_long : PL.PS :=
    (pSeq (pSetH 2 (pL (fLc (pIR1 (pOp qAdd (pC (.int 1)) (pCB p__law_draw (pCons (pVar 0) (pCons (pVar 1) (pCons (pC (.int 4)) pNil)))))) (NT.one 5) pYes (pCB p__law_draw (pCons (pVar 0) (pCons (pVar 1) (pCons (pC (.int 601)) pNil)))) [5])))
    (pSeq (pSetH 3 (pOp qAdd (pC (.int 1)) (pCB p__law_draw (pCons (pVar 0) (pCons (pVar 1) (pCons (pC (.int 720)) pNil))))))
    (pSeq (pSetH 4 (pCB p_by_slots (pCons (pVar 3) (pCons (pVar 2) pNil))))
    (pSeq (pFor (pIR1 (pC (.int 6))) (jN 5)
    (pSeq (pSetH 6 (pCB gMax2 (pCons (pC (.int 0)) (pCons (pCB gInt (pCons (pOp qSub (pOp qAdd (pOp qMul (pCB p__law_draw (pCons (pVar 0) (pCons (pVar 1) (pCons (pC (.int 5)) pNil)))) (pVar 3)) (pCB p__law_draw (pCons (pVar 0) (pCons (pVar 1) (pCons (pC (.int 5)) pNil))))) (pC (.int 2))) pNil)) pNil))))
    (pIf (pTOr (pB (pOp (qEq true) (pCallO 3 p_Rising___call__ (pVar 4) (pCons (pVar 6) pNil)) (pCB p__law_arrival (pCons (pTup (pCons (pVar 3) (pCons (pVar 2) pNil))) (pCons (pVar 6) pNil))))) (pB (pOp qLt (pCB p_ride (pCons (pVar 3) (pCons (pVar 2) (pCons (pVar 6) pNil)))) (pCallO 3 p_Rising___call__ (pVar 4) (pCons (pVar 6) pNil)))))
    (pRet (pC (.bl false)))
    pSkip)))
    (pSeq (pSetH 2 (pL (fLc (pIR1 (pC (.int 48))) (NT.one 5) pYes (pCB p__law_draw (pCons (pVar 0) (pCons (pVar 1) (pCons (pC (.int 40)) pNil)))) [5])))
    (pSeq (pSetH 3 (pOp qAdd (pC (.int 1)) (pCB p__law_draw (pCons (pVar 0) (pCons (pVar 1) (pCons (pC (.int 20)) pNil))))))
    (pSeq (pSetH 4 (pCB p_by_slots (pCons (pVar 3) (pCons (pVar 2) pNil))))
    (pSeq (pFor (pIR1 (pC (.int 10))) (jN 5)
    (pSeq (pSetH 6 (pCB p__law_draw (pCons (pVar 0) (pCons (pVar 1) (pCons (pOp qAdd (pOp qMul (pC (.int 48)) (pVar 3)) (pC (.int 30))) pNil)))))
    (pIf (pB (pOp (qEq true) (pCallO 3 p_Rising___call__ (pVar 4) (pCons (pVar 6) pNil)) (pCB p__law_arrival (pCons (pTup (pCons (pVar 3) (pCons (pVar 2) pNil))) (pCons (pVar 6) pNil)))))
    (pRet (pC (.bl false)))
    pSkip)))
    (pRet (pC (.bl true)))))))))))
theorem s_b__law_long : SS b__law_long p_b__law_long :=
  (sSeq (sSetH (SFE.se (sLc (sIR1 (sOp s2Add sInt (sCB s__law_draw (sCons sVar (sCons sVar (sCons sInt sNil)))))) sYes (sCB s__law_draw (sCons sVar (sCons sVar (sCons sInt sNil)))))))
    (sSeq (sSetH (sOp s2Add sInt (sCB s__law_draw (sCons sVar (sCons sVar (sCons sInt sNil))))))
    (sSeq (sSetH (sCB s_by_slots (sCons sVar (sCons sVar sNil))))
    (sSeq (sFor (sIR1 sInt) sN
    (sSeq (sSetH (sCB sMax2 (sCons sInt (sCons (sCB sIntA (sCons (sOp s2Sub (sOp s2Add (sOp s2Mul (sCB s__law_draw (sCons sVar (sCons sVar (sCons sInt sNil)))) sVar) (sCB s__law_draw (sCons sVar (sCons sVar (sCons sInt sNil))))) sInt) sNil)) sNil))))
    (sIf (sTOr (sB (sOp s2Ne (sCallO s_Rising___call__ sVar (sCons sVar sNil)) (sCB s__law_arrival (sCons (sTup (sCons sVar (sCons sVar sNil))) (sCons sVar sNil))))) (sB (sOp s2Lt (sCB s_ride (sCons sVar (sCons sVar (sCons sVar sNil)))) (sCallO s_Rising___call__ sVar (sCons sVar sNil)))))
    (sRet sBl)
    sSkip)))
    (sSeq (sSetH (SFE.se (sLc (sIR1 sInt) sYes (sCB s__law_draw (sCons sVar (sCons sVar (sCons sInt sNil)))))))
    (sSeq (sSetH (sOp s2Add sInt (sCB s__law_draw (sCons sVar (sCons sVar (sCons sInt sNil))))))
    (sSeq (sSetH (sCB s_by_slots (sCons sVar (sCons sVar sNil))))
    (sSeq (sFor (sIR1 sInt) sN
    (sSeq (sSetH (sCB s__law_draw (sCons sVar (sCons sVar (sCons (sOp s2Add (sOp s2Mul sInt sVar) sInt) sNil)))))
    (sIf (sB (sOp s2Ne (sCallO s_Rising___call__ sVar (sCons sVar sNil)) (sCB s__law_arrival (sCons (sTup (sCons sVar (sCons sVar sNil))) (sCons sVar sNil)))))
    (sRet sBl)
    sSkip)))
    (sRet sBl)))))))))
noncomputable def p__law_long : PL.PF := pfun 2 7 p_b__law_long
theorem s__law_long : SF m__law_long p__law_long := sFun s_b__law_long
noncomputable def p_b__law_at : PL.PS :=
    (pSeq (pIf (pB (pOp qLt (pVar 1) (pCB gLen (pCons (pVar 0) pNil))))
    (pRet (pOp qIx (pVar 0) (pVar 1)))
    pSkip)
    (pRet (pOp qAdd (pOp qSub (pOp qAdd (pOp qIx (pVar 0) (pNeg (pC (.int 1)))) (pVar 1)) (pCB gLen (pCons (pVar 0) pNil))) (pC (.int 1)))))
theorem s_b__law_at : SS b__law_at p_b__law_at :=
  (sSeq (sIf (sB (sOp s2Lt sVar (sCB sLen (sCons sVar sNil))))
    (sRet (sOp s2Ix sVar sVar))
    sSkip)
    (sRet (sOp s2Add (sOp s2Sub (sOp s2Add (sOp s2Ix sVar (sNeg sInt)) sVar) (sCB sLen (sCons sVar sNil))) sInt)))
noncomputable def p__law_at : PL.PF := pfun 2 2 p_b__law_at
theorem s__law_at : SF m__law_at p__law_at := sFun s_b__law_at
noncomputable def p_b__law_greedy : PL.PS :=
    (pSeq (pSetOH 1 (fLst pNil))
    (pSeq (pSetH 2 (pC (.int 0)))
    (pSeq (pFor (pIR1 (pOp qAdd (pCB gLen (pCons (pVar 0) pNil)) (pC (.int 1)))) (jN 3)
    (pSeq (pSetH 4 (pCB p__law_at (pCons (pVar 0) (pCons (pVar 2) pNil))))
    (pSeq (pSetH 5 (pOp qSub (pCB p__law_at (pCons (pVar 0) (pCons (pOp qAdd (pVar 2) (pC (.int 1))) pNil))) (pVar 4)))
    (pSeq (pIf (pB (pOp qGe (pVar 2) (pOp qSub (pCB gLen (pCons (pVar 0) pNil)) (pC (.int 1)))))
    (pRet (pCB gTuple (pCons (pOp qAdd (pVar 1) (pL (fLst (pCons (pTup (pCons (pVar 2) (pCons (pVar 4) (pCons (pC (.bl true)) pNil)))) pNil)))) pNil)))
    pSkip)
    (pSeq (pSetH 6 (pVar 2))
    (pSeq (pFor (pIR2 (pVar 2) (pOp qSub (pCB gLen (pCons (pVar 0) pNil)) (pC (.int 1)))) (jN 7)
    (pSeq (pSetH 8 (pOp qSub (pCB p__law_at (pCons (pVar 0) (pCons (pOp qAdd (pVar 7) (pC (.int 1))) pNil))) (pCB p__law_at (pCons (pVar 0) (pCons (pVar 7) pNil)))))
    (pSeq (pIf (pTOr (pB (pOp qGt (pVar 5) (pC (.int 1)))) (pB (pOp (qEq true) (pVar 8) (pVar 5))))
    pBrk
    pSkip)
    (pSetH 6 (pOp qAdd (pVar 7) (pC (.int 1)))))))
    (pSeq (pIf (pTAnd (pB (pOp (qEq false) (pVar 5) (pC (.int 1)))) (pB (pOp (qEq false) (pVar 6) (pOp qSub (pCB gLen (pCons (pVar 0) pNil)) (pC (.int 1))))))
    (pRet (pCB gTuple (pCons (pOp qAdd (pVar 1) (pL (fLst (pCons (pTup (pCons (pVar 2) (pCons (pVar 4) (pCons (pC (.bl true)) pNil)))) pNil)))) pNil)))
    pSkip)
    (pSeq (pAppH 1 (pTup (pCons (pVar 2) (pCons (pVar 4) (pCons (pOp (qEq false) (pVar 5) (pC (.int 1))) pNil)))))
    (pSetH 2 (pOp qAdd (pVar 6) (pC (.int 1))))))))))))
    (pRet (pCB gTuple (pCons (pVar 1) pNil))))))
theorem s_b__law_greedy : SS b__law_greedy p_b__law_greedy :=
  (sSeq (sSetOH (sLst sNil))
    (sSeq (sSetH sInt)
    (sSeq (sFor (sIR1 (sOp s2Add (sCB sLen (sCons sVar sNil)) sInt)) sN
    (sSeq (sSetH (sCB s__law_at (sCons sVar (sCons sVar sNil))))
    (sSeq (sSetH (sOp s2Sub (sCB s__law_at (sCons sVar (sCons (sOp s2Add sVar sInt) sNil))) sVar))
    (sSeq (sIf (sB (sOp s2Ge sVar (sOp s2Sub (sCB sLen (sCons sVar sNil)) sInt)))
    (sRet (sCB sTuple (sCons (sOp s2Add sVar (SFE.se (sLst (sCons (sTup (sCons sVar (sCons sVar (sCons sBl sNil)))) sNil)))) sNil)))
    sSkip)
    (sSeq (sSetH sVar)
    (sSeq (sFor (sIR2 sVar (sOp s2Sub (sCB sLen (sCons sVar sNil)) sInt)) sN
    (sSeq (sSetH (sOp s2Sub (sCB s__law_at (sCons sVar (sCons (sOp s2Add sVar sInt) sNil))) (sCB s__law_at (sCons sVar (sCons sVar sNil)))))
    (sSeq (sIf (sTOr (sB (sOp s2Gt sVar sInt)) (sB (sOp s2Ne sVar sVar)))
    sBrk
    sSkip)
    (sSetH (sOp s2Add sVar sInt)))))
    (sSeq (sIf (sTAnd (sB (sOp s2Eq sVar sInt)) (sB (sOp s2Eq sVar (sOp s2Sub (sCB sLen (sCons sVar sNil)) sInt))))
    (sRet (sCB sTuple (sCons (sOp s2Add sVar (SFE.se (sLst (sCons (sTup (sCons sVar (sCons sVar (sCons sBl sNil)))) sNil)))) sNil)))
    sSkip)
    (sSeq (sAppH (sTup (sCons sVar (sCons sVar (sCons (sOp s2Eq sVar sInt) sNil)))))
    (sSetH (sOp s2Add sVar sInt))))))))))
    (sRet (sCB sTuple (sCons sVar sNil))))))
noncomputable def p__law_greedy : PL.PF := pfun 1 9 p_b__law_greedy
theorem s__law_greedy : SF m__law_greedy p__law_greedy := sFun s_b__law_greedy
noncomputable def p_rest : PL.PS :=
    (pSeq (pSetH 2 (pCB p__law_riding (pCons (pVar 0) (pCons (pVar 1) (pCons (pC (.int 8)) (pCons (pC (.int 12)) (pCons (pC (.int 20)) pNil)))))))
    (pSeq (pAsgH (jT 2 (jC (jN 3) (jC (jN 4) jE))) (pVar 2))
    (pSeq (pSetOH 5 (fCopy (pVar 4)))
    (pSeq (pSet 6 (pCB p_by_slots (pCons (pVar 3) (pCons (pVar 5) pNil))))
    (pSeq (pIf (pTOr (pB (pOp (qEq true) (pVar 5) (pVar 4))) (pTNot (pB (pIsi tab_Rising (pVar 6)))))
    (pRet (pC (.bl false)))
    pSkip)
    (pSeq (pAppH 5 (pC (.int 0)))
    (pSeq (pSetH 7 (pOp qAdd (pOp qMul (pVar 3) (pCB gLen (pCons (pVar 4) pNil))) (pC (.int 25))))
    (pSeq (pSetH 8 (pCB p__law_plain (pCons (pVar 2) (pCons (pOp qAdd (pVar 7) (pC (.int 25))) pNil))))
    (pSeq (pSetOH 9 (fLst pNil))
    (pSeq (pFor (pIR1 (pOp qAdd (pVar 7) (pC (.int 25)))) (jN 10)
    (pSeq (pSetH 8 (pCB gMin2 (pCons (pCB gInt (pCons (pVar 8) pNil)) (pCons (pCB gInt (pCons (pCB p__law_plain (pCons (pVar 2) (pCons (pOp qSub (pOp qAdd (pVar 7) (pC (.int 24))) (pVar 10)) pNil))) pNil)) pNil))))
    (pAppH 9 (pVar 8))))
    (pSeq (pSetO 9 (fSl (pL (fRevL (pVar 9))) pNoPart (pPart (pVar 7))))
    (pSeq (pFor (pIR1 (pVar 7)) (jN 11)
    (pSeq (pIf (pTOr (pB (pOp (qEq true) (pCallO 3 p_Rising___call__ (pVar 6) (pCons (pVar 11) pNil)) (pOp qIx (pVar 9) (pVar 11)))) (pB (pOp (qEq true) (pCB p__law_arrival (pCons (pVar 2) (pCons (pVar 11) pNil))) (pOp qIx (pVar 9) (pVar 11)))))
    (pRet (pC (.bl false)))
    pSkip)
    (pIf (pB (pOp (qEq true) (pCB p_ride (pCons (pVar 3) (pCons (pCB gTuple (pCons (pVar 4) pNil)) (pCons (pVar 11) pNil)))) (pCB p__law_plain (pCons (pVar 2) (pCons (pVar 11) pNil)))))
    (pRet (pC (.bl false)))
    pSkip)))
    (pSeq (pIf (pTOr (pB (pOp (qEq true) (pAttr ("rows" : Str) at_rows_i at_rows_e (pVar 6)) (pCB p__law_greedy (pCons (pVar 9) pNil)))) (pB (pOp (qEq true) (pCallO 3 p_Rising___call__ (pVar 6) (pCons (pOp qPow (pC (.int 10)) (pC (.int 4))) pNil)) (pOp qAdd (pOp qPow (pC (.int 10)) (pC (.int 4))) (pOp qIx (pVar 4) (pNeg (pC (.int 1))))))))
    (pRet (pC (.bl false)))
    pSkip)
    (pRet (pCB p__law_long (pCons (pVar 0) (pCons (pVar 1) pNil)))))))))))))))))
noncomputable def b_rest : MS :=
    (mSeq (mSet 2 (mCB m__law_riding (mCons (mVar 0) (mCons (mVar 1) (mCons (mC (.int 8)) (mCons (mC (.int 12)) (mCons (mC (.int 20)) mNil)))))))
    (mSeq (mAsg (gT 2 (gC (gN 3) (gC (gN 4) gE))) (mVar 2))
    (mSeq (mSet 5 (mCB fList (mCons (mVar 4) mNil)))
    (mSeq (mSet 6 (mCB m_by_slots (mCons (mVar 3) (mCons (mVar 5) mNil))))
    (mSeq (mIf (mTOr (mB (mOp (oNe 3) (mVar 5) (mVar 4))) (mTNot (mB (mIsi tab_Rising (mVar 6)))))
    (mRet (mC (.bl false)))
    mSkip)
    (mSeq (mDrop (mBM kList fAppend (mVar 5) (mCons (mC (.int 0)) mNil)))
    (mSeq (mSet 7 (mOp oAdd (mOp oMulA (mVar 3) (mCB fLen (mCons (mVar 4) mNil))) (mC (.int 25))))
    (mSeq (mSet 8 (mCB m__law_plain (mCons (mVar 2) (mCons (mOp oAdd (mVar 7) (mC (.int 25))) mNil))))
    (mSeq (mSet 9 (mLst mNil))
    (mSeq (mFor (iR1 (mOp oAdd (mVar 7) (mC (.int 25)))) (gN 10)
    (mSeq (mSet 8 (mCB fMin2 (mCons (mCB fIntA2 (mCons (mVar 8) mNil)) (mCons (mCB fIntA2 (mCons (mCB m__law_plain (mCons (mVar 2) (mCons (mOp oSub (mOp oAdd (mVar 7) (mC (.int 24))) (mVar 10)) mNil))) mNil)) mNil))))
    (mDrop (mBM kList fAppend (mVar 9) (mCons (mVar 8) mNil)))))
    (mSeq (mSet 9 (mSl oSl (mRevL (mVar 9)) mNoPart (mPart (mVar 7))))
    (mSeq (mFor (iR1 (mVar 7)) (gN 11)
    (mSeq (mIf (mTOr (mB (mOp (oNe 3) (mCallO 3 m_Rising___call__ (mVar 6) (mCons (mVar 11) mNil)) (mOp oIx (mVar 9) (mVar 11)))) (mB (mOp (oNe 3) (mCB m__law_arrival (mCons (mVar 2) (mCons (mVar 11) mNil))) (mOp oIx (mVar 9) (mVar 11)))))
    (mRet (mC (.bl false)))
    mSkip)
    (mIf (mB (mOp (oNe 3) (mCB m_ride (mCons (mVar 3) (mCons (mCB fTuple (mCons (mVar 4) mNil)) (mCons (mVar 11) mNil)))) (mCB m__law_plain (mCons (mVar 2) (mCons (mVar 11) mNil)))))
    (mRet (mC (.bl false)))
    mSkip)))
    (mSeq (mIf (mTOr (mB (mOp (oNe 3) (mAttrX ("rows" : Str) at_rows_i at_rows_e (mVar 6)) (mCB m__law_greedy (mCons (mVar 9) mNil)))) (mB (mOp (oNe 3) (mCallO 3 m_Rising___call__ (mVar 6) (mCons (mOp oPow (mC (.int 10)) (mC (.int 4))) mNil)) (mOp oAdd (mOp oPow (mC (.int 10)) (mC (.int 4))) (mOp oIx (mVar 4) (mNeg (mC (.int 1))))))))
    (mRet (mC (.bl false)))
    mSkip)
    (mRet (mCB m__law_long (mCons (mVar 0) (mCons (mVar 1) mNil)))))))))))))))))
theorem s_rest : SS b_rest p_rest :=
  (sSeq (sSetH (sCB s__law_riding (sCons sVar (sCons sVar (sCons sInt (sCons sInt (sCons sInt sNil)))))))
    (sSeq (sAsgH (sTT (sTC sN (sTC sN sTE))) sVar)
    (sSeq (sSetOH (sCopy sVar))
    (sSeq (sSet (sCB s_by_slots (sCons sVar (sCons sVar sNil))))
    (sSeq (sIf (sTOr (sB (sOp s2Ne sVar sVar)) (sTNot (sB (sIsi sVar))))
    (sRet sBl)
    sSkip)
    (sSeq (sAppH sInt)
    (sSeq (sSetH (sOp s2Add (sOp s2Mul sVar (sCB sLen (sCons sVar sNil))) sInt))
    (sSeq (sSetH (sCB s__law_plain (sCons sVar (sCons (sOp s2Add sVar sInt) sNil))))
    (sSeq (sSetOH (sLst sNil))
    (sSeq (sFor (sIR1 (sOp s2Add sVar sInt)) sN
    (sSeq (sSetH (sCB sMin2 (sCons (sCB sIntA (sCons sVar sNil)) (sCons (sCB sIntA (sCons (sCB s__law_plain (sCons sVar (sCons (sOp s2Sub (sOp s2Add sVar sInt) sVar) sNil))) sNil)) sNil))))
    (sAppH sVar)))
    (sSeq (sSetO (sfSl (SFE.se (sRevL sVar)) sNoPart (sPart sVar)))
    (sSeq (sFor (sIR1 sVar) sN
    (sSeq (sIf (sTOr (sB (sOp s2Ne (sCallO s_Rising___call__ sVar (sCons sVar sNil)) (sOp s2Ix sVar sVar))) (sB (sOp s2Ne (sCB s__law_arrival (sCons sVar (sCons sVar sNil))) (sOp s2Ix sVar sVar))))
    (sRet sBl)
    sSkip)
    (sIf (sB (sOp s2Ne (sCB s_ride (sCons sVar (sCons (sCB sTuple (sCons sVar sNil)) (sCons sVar sNil)))) (sCB s__law_plain (sCons sVar (sCons sVar sNil)))))
    (sRet sBl)
    sSkip)))
    (sSeq (sIf (sTOr (sB (sOp s2Ne (sAttr sVar) (sCB s__law_greedy (sCons sVar sNil)))) (sB (sOp s2Ne (sCallO s_Rising___call__ sVar (sCons (sOp s2Pow sInt sInt) sNil)) (sOp s2Add (sOp s2Pow sInt sInt) (sOp s2Ix sVar (sNeg sInt))))))
    (sRet sBl)
    sSkip)
    (sRet (sCB s__law_long (sCons sVar (sCons sVar sNil)))))))))))))))))
theorem law_split : b_law = mSeq (mSet 1 (mCB m__law_start (mCons (mVar 0) mNil))) b_rest := rfl
end K09

set_option maxHeartbeats 4000000
namespace K09
open PySem L2 ML PL
/-! numbers, rows -/
def rowP (r : RM.Row) : P := .tup [.int r.1, .int r.2.1, .bl r.2.2]
def rowsP (rs : List RM.Row) : List P := rs.map rowP
theorem row_value_p (r : RM.Row) (m : Int) (s : DS) : p_row_value [rowP r, .int m] s = some (.ok (.int (RM.rv r m)) s) := by
  obtain ⟨a, v, g⟩ := r
  cases g <;> rfl
theorem lesser_p (a b : Int) (s : DS) : p_lesser [.int a, .int b] s = some (.ok (.int (if a ≤ b then a else b)) s) := by
  unfold p_lesser p_b_lesser
  by_cases h : a ≤ b <;> simp [PL.inE, PL.pfun, PL.pRet, PL.pRetN, PL.pDrop, PL.pSet, PL.pSetH, PL.pSetO, PL.pSetOH, PL.pIf, PL.pSeq, PL.pSkip, PL.pApp, PL.pAppH, PL.pAsg, PL.pAsgH, PL.pPar2, PL.pPar3, PL.jN, PL.jT, PL.jC, PL.jE, PL.pIfE, PL.pB, PL.ptoB, PL.pOp, PL.pVar, PL.pC, PL.vA, PL.vH, PL.slA_sh, PL.slA_ow, PL.slA_no, PL.slH_sh, PL.slH_ow, PL.slH_no, PL.qI, PL.qIc, PL.qAdd, PL.pCB, PL.pCons, PL.pNil, PL.pTup, PL.pL, PL.fLst, PL.pAnd, PL.pOr, PL.pNot, PL.pTAnd, PL.pTOr, PL.pTNot, PL.pIsN, PL.isNonP, PL.pIsi, PL.pty, PL.pAttr, PL.pget, PL.gLen_lst, PL.gLen_tup, PL.pbS, PL.pbH, PL.kp, PL.kps, PL.nr, PL.nrs, PL.nl, PL.nls, PL.oL, PL.frz, PL.frzS, PL.pFz, PL.pChain, PL.pNeg, PL.pRaise, PL.pRaiseH, PL.x2s, PL.x1, PL.x2, PL.x2t, ML.tabInt, ML.tabBool, ML.LIM, PL.pBrk, PL.pCont, PL.gInt, PL.gMax2, PL.gMin2, PL.gAbs, h]
theorem greater_p (a b : Int) (s : DS) : p_greater [.int a, .int b] s = some (.ok (.int (if a ≥ b then a else b)) s) := by
  unfold p_greater p_b_greater
  by_cases h : b ≤ a <;> simp [PL.inE, PL.pfun, PL.pRet, PL.pRetN, PL.pDrop, PL.pSet, PL.pSetH, PL.pSetO, PL.pSetOH, PL.pIf, PL.pSeq, PL.pSkip, PL.pApp, PL.pAppH, PL.pAsg, PL.pAsgH, PL.pPar2, PL.pPar3, PL.jN, PL.jT, PL.jC, PL.jE, PL.pIfE, PL.pB, PL.ptoB, PL.pOp, PL.pVar, PL.pC, PL.vA, PL.vH, PL.slA_sh, PL.slA_ow, PL.slA_no, PL.slH_sh, PL.slH_ow, PL.slH_no, PL.qI, PL.qIc, PL.qAdd, PL.pCB, PL.pCons, PL.pNil, PL.pTup, PL.pL, PL.fLst, PL.pAnd, PL.pOr, PL.pNot, PL.pTAnd, PL.pTOr, PL.pTNot, PL.pIsN, PL.isNonP, PL.pIsi, PL.pty, PL.pAttr, PL.pget, PL.gLen_lst, PL.gLen_tup, PL.pbS, PL.pbH, PL.kp, PL.kps, PL.nr, PL.nrs, PL.nl, PL.nls, PL.oL, PL.frz, PL.frzS, PL.pFz, PL.pChain, PL.pNeg, PL.pRaise, PL.pRaiseH, PL.x2s, PL.x1, PL.x2, PL.x2t, ML.tabInt, ML.tabBool, ML.LIM, PL.pBrk, PL.pCont, PL.gInt, PL.gMax2, PL.gMin2, PL.gAbs, h]
theorem is_integer_int (a : Int) (s : DS) : p_is_integer [.int a] s = some (.ok (.bl true) s) := rfl
theorem check_integer_p (w : Str) (a : Int) (s : DS) : p_check_integer [.str w, .int a] s = some (.ok (.int a) s) := by
  unfold p_check_integer p_b_check_integer
  simp [PL.inE, PL.pfun, PL.pRet, PL.pRetN, PL.pDrop, PL.pSet, PL.pSetH, PL.pSetO, PL.pSetOH, PL.pIf, PL.pSeq, PL.pSkip, PL.pApp, PL.pAppH, PL.pAsg, PL.pAsgH, PL.pPar2, PL.pPar3, PL.jN, PL.jT, PL.jC, PL.jE, PL.pIfE, PL.pB, PL.ptoB, PL.pOp, PL.pVar, PL.pC, PL.vA, PL.vH, PL.slA_sh, PL.slA_ow, PL.slA_no, PL.slH_sh, PL.slH_ow, PL.slH_no, PL.qI, PL.qIc, PL.qAdd, PL.pCB, PL.pCons, PL.pNil, PL.pTup, PL.pL, PL.fLst, PL.pAnd, PL.pOr, PL.pNot, PL.pTAnd, PL.pTOr, PL.pTNot, PL.pIsN, PL.isNonP, PL.pIsi, PL.pty, PL.pAttr, PL.pget, PL.gLen_lst, PL.gLen_tup, PL.pbS, PL.pbH, PL.kp, PL.kps, PL.nr, PL.nrs, PL.nl, PL.nls, PL.oL, PL.frz, PL.frzS, PL.pFz, PL.pChain, PL.pNeg, PL.pRaise, PL.pRaiseH, PL.x2s, PL.x1, PL.x2, PL.x2t, ML.tabInt, ML.tabBool, ML.LIM, PL.pBrk, PL.pCont, PL.gInt, PL.gMax2, PL.gMin2, PL.gAbs, is_integer_int]
theorem check_number_lo (w : Str) (a lo : Int) (s : DS) (h : lo ≤ a) : p_check_number [.str w, .int a, .int lo, .non] s = some (.ok (.int a) s) := by
  unfold p_check_number p_b_check_number
  have : ¬ a < lo := by omega
  simp [PL.inE, PL.pfun, PL.pRet, PL.pRetN, PL.pDrop, PL.pSet, PL.pSetH, PL.pSetO, PL.pSetOH, PL.pIf, PL.pSeq, PL.pSkip, PL.pApp, PL.pAppH, PL.pAsg, PL.pAsgH, PL.pPar2, PL.pPar3, PL.jN, PL.jT, PL.jC, PL.jE, PL.pIfE, PL.pB, PL.ptoB, PL.pOp, PL.pVar, PL.pC, PL.vA, PL.vH, PL.slA_sh, PL.slA_ow, PL.slA_no, PL.slH_sh, PL.slH_ow, PL.slH_no, PL.qI, PL.qIc, PL.qAdd, PL.pCB, PL.pCons, PL.pNil, PL.pTup, PL.pL, PL.fLst, PL.pAnd, PL.pOr, PL.pNot, PL.pTAnd, PL.pTOr, PL.pTNot, PL.pIsN, PL.isNonP, PL.pIsi, PL.pty, PL.pAttr, PL.pget, PL.gLen_lst, PL.gLen_tup, PL.pbS, PL.pbH, PL.kp, PL.kps, PL.nr, PL.nrs, PL.nl, PL.nls, PL.oL, PL.frz, PL.frzS, PL.pFz, PL.pChain, PL.pNeg, PL.pRaise, PL.pRaiseH, PL.x2s, PL.x1, PL.x2, PL.x2t, ML.tabInt, ML.tabBool, ML.LIM, PL.pBrk, PL.pCont, PL.gInt, PL.gMax2, PL.gMin2, PL.gAbs, check_integer_p, this]
theorem check_number_p (w : Str) (a lo hi : Int) (s : DS) (h : lo ≤ a) (h2 : a ≤ hi) : p_check_number [.str w, .int a, .int lo, .int hi] s = some (.ok (.int a) s) := by
  unfold p_check_number p_b_check_number
  have h3 : ¬ a < lo := by omega
  have h4 : ¬ hi < a := by omega
  simp [PL.inE, PL.pfun, PL.pRet, PL.pRetN, PL.pDrop, PL.pSet, PL.pSetH, PL.pSetO, PL.pSetOH, PL.pIf, PL.pSeq, PL.pSkip, PL.pApp, PL.pAppH, PL.pAsg, PL.pAsgH, PL.pPar2, PL.pPar3, PL.jN, PL.jT, PL.jC, PL.jE, PL.pIfE, PL.pB, PL.ptoB, PL.pOp, PL.pVar, PL.pC, PL.vA, PL.vH, PL.slA_sh, PL.slA_ow, PL.slA_no, PL.slH_sh, PL.slH_ow, PL.slH_no, PL.qI, PL.qIc, PL.qAdd, PL.pCB, PL.pCons, PL.pNil, PL.pTup, PL.pL, PL.fLst, PL.pAnd, PL.pOr, PL.pNot, PL.pTAnd, PL.pTOr, PL.pTNot, PL.pIsN, PL.isNonP, PL.pIsi, PL.pty, PL.pAttr, PL.pget, PL.gLen_lst, PL.gLen_tup, PL.pbS, PL.pbH, PL.kp, PL.kps, PL.nr, PL.nrs, PL.nl, PL.nls, PL.oL, PL.frz, PL.frzS, PL.pFz, PL.pChain, PL.pNeg, PL.pRaise, PL.pRaiseH, PL.x2s, PL.x1, PL.x2, PL.x2t, ML.tabInt, ML.tabBool, ML.LIM, PL.pBrk, PL.pCont, PL.gInt, PL.gMax2, PL.gMin2, PL.gAbs, check_integer_p, h3, h4]
/-- a list or a tuple -/
def Sq (R : P) (ps : List P) : Prop := R = .lst ps ∨ R = .tup ps
theorem sq_ix {R : P} {ps : List P} {k : Nat} {i : Int} {p : P} {s : DS} (h : Sq R ps) (hi : i = (k : Int)) (e : ps[k]? = some p) : qIx R (.int i) s = some (.ok p s) := by
  rcases h with rfl | rfl <;> simp only [qIx, atI_i hi e]
theorem sq_len {R : P} {ps : List P} {s : DS} (h : Sq R ps) : gLen [R] s = some (.ok (.int ps.length) s) := by
  rcases h with rfl | rfl <;> rfl
theorem rows_at {rs : List RM.Row} {k : Nat} {r : RM.Row} (e : rs[k]? = some r) : (rowsP rs)[k]? = some (rowP r) := by
  unfold rowsP
  rw [List.getElem?_map, e]
  rfl
theorem rows_len (rs : List RM.Row) : (rowsP rs).length = rs.length := by unfold rowsP; simp
/-- the start of a row that may be there -/
def stO : Option RM.Row → P
  | some r => .int r.1
  | none => .non
theorem start_of_p {R : P} {rs : List RM.Row} (h : Sq R (rowsP rs)) {i : Int} {k : Nat} (hi : i = (k : Int)) (s : DS) : p_start_of [R, .int i] s = some (.ok (stO rs[k]?) s) := by
  subst hi
  unfold p_start_of p_b_start_of
  cases e : rs[k]? with
  | none =>
    have h1 : ¬ k < rs.length := by simpa using e
    have h2 := sq_len (s := s) h
    rw [rows_len] at h2
    simp [PL.inE, PL.pfun, PL.pRet, PL.pRetN, PL.pDrop, PL.pSet, PL.pSetH, PL.pSetO, PL.pSetOH, PL.pIf, PL.pSeq, PL.pSkip, PL.pApp, PL.pAppH, PL.pAsg, PL.pAsgH, PL.pPar2, PL.pPar3, PL.jN, PL.jT, PL.jC, PL.jE, PL.pIfE, PL.pB, PL.ptoB, PL.pOp, PL.pVar, PL.pC, PL.vA, PL.vH, PL.slA_sh, PL.slA_ow, PL.slA_no, PL.slH_sh, PL.slH_ow, PL.slH_no, PL.qI, PL.qIc, PL.qAdd, PL.pCB, PL.pCons, PL.pNil, PL.pTup, PL.pL, PL.fLst, PL.pAnd, PL.pOr, PL.pNot, PL.pTAnd, PL.pTOr, PL.pTNot, PL.pIsN, PL.isNonP, PL.pIsi, PL.pty, PL.pAttr, PL.pget, PL.gLen_lst, PL.gLen_tup, PL.pbS, PL.pbH, PL.kp, PL.kps, PL.nr, PL.nrs, PL.nl, PL.nls, PL.oL, PL.frz, PL.frzS, PL.pFz, PL.pChain, PL.pNeg, PL.pRaise, PL.pRaiseH, PL.x2s, PL.x1, PL.x2, PL.x2t, ML.tabInt, ML.tabBool, ML.LIM, PL.pBrk, PL.pCont, PL.gInt, PL.gMax2, PL.gMin2, PL.gAbs, h2, h1, stO]
  | some r =>
    have hk := (List.getElem?_eq_some_iff.mp e).1
    have h2 := sq_len (s := s) h
    rw [rows_len] at h2
    have h3 := sq_ix (s := s) h rfl (rows_at e)
    have h4 : qIx (rowP r) (.int 0) s = some (.ok (.int r.1) s) := rfl
    simp [PL.inE, PL.pfun, PL.pRet, PL.pRetN, PL.pDrop, PL.pSet, PL.pSetH, PL.pSetO, PL.pSetOH, PL.pIf, PL.pSeq, PL.pSkip, PL.pApp, PL.pAppH, PL.pAsg, PL.pAsgH, PL.pPar2, PL.pPar3, PL.jN, PL.jT, PL.jC, PL.jE, PL.pIfE, PL.pB, PL.ptoB, PL.pOp, PL.pVar, PL.pC, PL.vA, PL.vH, PL.slA_sh, PL.slA_ow, PL.slA_no, PL.slH_sh, PL.slH_ow, PL.slH_no, PL.qI, PL.qIc, PL.qAdd, PL.pCB, PL.pCons, PL.pNil, PL.pTup, PL.pL, PL.fLst, PL.pAnd, PL.pOr, PL.pNot, PL.pTAnd, PL.pTOr, PL.pTNot, PL.pIsN, PL.isNonP, PL.pIsi, PL.pty, PL.pAttr, PL.pget, PL.gLen_lst, PL.gLen_tup, PL.pbS, PL.pbH, PL.kp, PL.kps, PL.nr, PL.nrs, PL.nl, PL.nls, PL.oL, PL.frz, PL.frzS, PL.pFz, PL.pChain, PL.pNeg, PL.pRaise, PL.pRaiseH, PL.x2s, PL.x1, PL.x2, PL.x2t, ML.tabInt, ML.tabBool, ML.LIM, PL.pBrk, PL.pCont, PL.gInt, PL.gMax2, PL.gMin2, PL.gAbs, h2, hk, h3, h4, stO]
/-- the part of a row that is looked at -/
def prt (k : Int) (r : RM.Row) : Int := if k = 0 then r.1 else r.2.1
theorem row_prt {r : RM.Row} {k : Int} {s : DS} (hk : k = 0 ∨ k = 1) : qIx (rowP r) (.int k) s = some (.ok (.int (prt k r)) s) := by
  rcases hk with rfl | rfl <;> rfl
noncomputable abbrev lpC : PT := (pB (pOp qLt (pVar 3) (pVar 4)))
noncomputable abbrev lpB : PL.PS := (pSeq (pSetH 5 (pOp qDiv (pOp qAdd (pVar 3) (pVar 4)) (pC (.int 2))))
    (pIf (pB (pOp qLe (pOp qIx (pOp qIx (pVar 0) (pVar 5)) (pVar 1)) (pVar 2)))
    (pSetH 3 (pOp qAdd (pVar 5) (pC (.int 1))))
    (pSetH 4 (pVar 5))))
theorem lp_loop {R : P} {rs : List RM.Row} (h : Sq R (rowsP rs)) {k lim : Int} (hk : k = 0 ∨ k = 1) (s : DS) (mono : ∀ (i j : Nat) (a b : RM.Row), i ≤ j → rs[i]? = some a → rs[j]? = some b → prt k a ≤ prt k b) :
    ∀ (n lo hi : Nat) (o5 : Option Sl), hi - lo ≤ n → lo ≤ hi → hi ≤ rs.length → (∀ (i : Nat) a, i < lo → rs[i]? = some a → prt k a ≤ lim) → (∀ (i : Nat) a, hi ≤ i → rs[i]? = some a → lim < prt k a) →
      ∃ (r : Nat) (o5' : Option Sl), r ≤ rs.length ∧ (∀ (i : Nat) a, i < r → rs[i]? = some a → prt k a ≤ lim) ∧ (∀ (i : Nat) a, r ≤ i → rs[i]? = some a → lim < prt k a) ∧
        pWhileN lpC lpB (n + 1) [some (.sh R), some (.sh (.int k)), some (.sh (.int lim)), some (.sh (.int lo)), some (.sh (.int hi)), o5] s = some (.nx [some (.sh R), some (.sh (.int k)), some (.sh (.int lim)), some (.sh (.int r)), some (.sh (.int r)), o5'] s)
  | n, lo, hi, o5, hn, hlo, hhi, h1, h2 => by
    by_cases hc : lo < hi
    · cases n with
      | zero => omega
      | succ n =>
        obtain ⟨mid, hmid⟩ : ∃ mid : Nat, mid = (lo + hi) / 2 := ⟨_, rfl⟩
        have hm1 : lo ≤ mid := by omega
        have hm2 : mid < hi := by omega
        obtain ⟨r, hr⟩ : ∃ r, rs[mid]? = some r := ⟨rs[mid]'(by omega), by simp⟩
        have e1 : (((lo : Int) + (hi : Int)).fdiv 2) = (mid : Int) := by
          rw [hmid, Int.fdiv_eq_ediv_of_nonneg _ (by omega)]
          omega
        have e2 := sq_ix (s := s) h rfl (rows_at hr)
        have e3 := row_prt (r := r) (s := s) hk
        have ec : lpC (vA [some (.sh R), some (.sh (.int k)), some (.sh (.int lim)), some (.sh (.int lo)), some (.sh (.int hi)), o5]) s = some (.ok true s) := by
          simp [PL.inE, PL.pfun, PL.pRet, PL.pRetN, PL.pDrop, PL.pSet, PL.pSetH, PL.pSetO, PL.pSetOH, PL.pIf, PL.pSeq, PL.pSkip, PL.pApp, PL.pAppH, PL.pAsg, PL.pAsgH, PL.pPar2, PL.pPar3, PL.jN, PL.jT, PL.jC, PL.jE, PL.pIfE, PL.pB, PL.ptoB, PL.pOp, PL.pVar, PL.pC, PL.vA, PL.vH, PL.slA_sh, PL.slA_ow, PL.slA_no, PL.slH_sh, PL.slH_ow, PL.slH_no, PL.qI, PL.qIc, PL.qAdd, PL.pCB, PL.pCons, PL.pNil, PL.pTup, PL.pL, PL.fLst, PL.pAnd, PL.pOr, PL.pNot, PL.pTAnd, PL.pTOr, PL.pTNot, PL.pIsN, PL.isNonP, PL.pIsi, PL.pty, PL.pAttr, PL.pget, PL.gLen_lst, PL.gLen_tup, PL.pbS, PL.pbH, PL.kp, PL.kps, PL.nr, PL.nrs, PL.nl, PL.nls, PL.oL, PL.frz, PL.frzS, PL.pFz, PL.pChain, PL.pNeg, PL.pRaise, PL.pRaiseH, PL.x2s, PL.x1, PL.x2, PL.x2t, ML.tabInt, ML.tabBool, ML.LIM, PL.pBrk, PL.pCont, PL.gInt, PL.gMax2, PL.gMin2, PL.gAbs, hc]
        have e0 : opq (cDivN ((lo : Int) + hi) 2) = true := opq_t rfl
        by_cases hp : prt k r ≤ lim
        · obtain ⟨q, o5', q1, q2, q3, q4⟩ := lp_loop h hk s mono n (mid + 1) hi (some (.sh (.int mid))) (by omega) (by omega) hhi (fun i a hi2 ea => by
            by_cases z : i < lo
            · exact h1 i a z ea
            · exact Int.le_trans (mono i mid a r (by omega) ea hr) hp) h2
          refine ⟨q, o5', q1, q2, q3, ?_⟩
          conv => lhs; unfold pWhileN
          rw [ec]
          simp only [pbS_ok, if_true]
          have eb : lpB [some (.sh R), some (.sh (.int k)), some (.sh (.int lim)), some (.sh (.int lo)), some (.sh (.int hi)), o5] s = some (.nx [some (.sh R), some (.sh (.int k)), some (.sh (.int lim)), some (.sh (.int ((mid + 1 : Nat) : Int))), some (.sh (.int hi)), some (.sh (.int mid))] s) := by
            simp [PL.inE, PL.pfun, PL.pRet, PL.pRetN, PL.pDrop, PL.pSet, PL.pSetH, PL.pSetO, PL.pSetOH, PL.pIf, PL.pSeq, PL.pSkip, PL.pApp, PL.pAppH, PL.pAsg, PL.pAsgH, PL.pPar2, PL.pPar3, PL.jN, PL.jT, PL.jC, PL.jE, PL.pIfE, PL.pB, PL.ptoB, PL.pOp, PL.pVar, PL.pC, PL.vA, PL.vH, PL.slA_sh, PL.slA_ow, PL.slA_no, PL.slH_sh, PL.slH_ow, PL.slH_no, PL.qI, PL.qIc, PL.qAdd, PL.pCB, PL.pCons, PL.pNil, PL.pTup, PL.pL, PL.fLst, PL.pAnd, PL.pOr, PL.pNot, PL.pTAnd, PL.pTOr, PL.pTNot, PL.pIsN, PL.isNonP, PL.pIsi, PL.pty, PL.pAttr, PL.pget, PL.gLen_lst, PL.gLen_tup, PL.pbS, PL.pbH, PL.kp, PL.kps, PL.nr, PL.nrs, PL.nl, PL.nls, PL.oL, PL.frz, PL.frzS, PL.pFz, PL.pChain, PL.pNeg, PL.pRaise, PL.pRaiseH, PL.x2s, PL.x1, PL.x2, PL.x2t, ML.tabInt, ML.tabBool, ML.LIM, PL.pBrk, PL.pCont, PL.gInt, PL.gMax2, PL.gMin2, PL.gAbs, e0, e1, e2, e3, hp]
          rw [eb]
          exact q4
        · obtain ⟨q, o5', q1, q2, q3, q4⟩ := lp_loop h hk s mono n lo mid (some (.sh (.int mid))) (by omega) (by omega) (by omega) h1 (fun i a hi2 ea => by
            have := mono mid i r a hi2 hr ea
            omega)
          refine ⟨q, o5', q1, q2, q3, ?_⟩
          conv => lhs; unfold pWhileN
          rw [ec]
          simp only [pbS_ok, if_true]
          have eb : lpB [some (.sh R), some (.sh (.int k)), some (.sh (.int lim)), some (.sh (.int lo)), some (.sh (.int hi)), o5] s = some (.nx [some (.sh R), some (.sh (.int k)), some (.sh (.int lim)), some (.sh (.int lo)), some (.sh (.int mid)), some (.sh (.int mid))] s) := by
            simp [PL.inE, PL.pfun, PL.pRet, PL.pRetN, PL.pDrop, PL.pSet, PL.pSetH, PL.pSetO, PL.pSetOH, PL.pIf, PL.pSeq, PL.pSkip, PL.pApp, PL.pAppH, PL.pAsg, PL.pAsgH, PL.pPar2, PL.pPar3, PL.jN, PL.jT, PL.jC, PL.jE, PL.pIfE, PL.pB, PL.ptoB, PL.pOp, PL.pVar, PL.pC, PL.vA, PL.vH, PL.slA_sh, PL.slA_ow, PL.slA_no, PL.slH_sh, PL.slH_ow, PL.slH_no, PL.qI, PL.qIc, PL.qAdd, PL.pCB, PL.pCons, PL.pNil, PL.pTup, PL.pL, PL.fLst, PL.pAnd, PL.pOr, PL.pNot, PL.pTAnd, PL.pTOr, PL.pTNot, PL.pIsN, PL.isNonP, PL.pIsi, PL.pty, PL.pAttr, PL.pget, PL.gLen_lst, PL.gLen_tup, PL.pbS, PL.pbH, PL.kp, PL.kps, PL.nr, PL.nrs, PL.nl, PL.nls, PL.oL, PL.frz, PL.frzS, PL.pFz, PL.pChain, PL.pNeg, PL.pRaise, PL.pRaiseH, PL.x2s, PL.x1, PL.x2, PL.x2t, ML.tabInt, ML.tabBool, ML.LIM, PL.pBrk, PL.pCont, PL.gInt, PL.gMax2, PL.gMin2, PL.gAbs, e0, e1, e2, e3, hp]
          rw [eb]
          exact q4
    · have : lo = hi := by omega
      subst this
      refine ⟨lo, o5, hhi, h1, h2, ?_⟩
      conv => lhs; unfold pWhileN
      have ec : lpC (vA [some (.sh R), some (.sh (.int k)), some (.sh (.int lim)), some (.sh (.int lo)), some (.sh (.int lo)), o5]) s = some (.ok false s) := by
        simp [PL.inE, PL.pfun, PL.pRet, PL.pRetN, PL.pDrop, PL.pSet, PL.pSetH, PL.pSetO, PL.pSetOH, PL.pIf, PL.pSeq, PL.pSkip, PL.pApp, PL.pAppH, PL.pAsg, PL.pAsgH, PL.pPar2, PL.pPar3, PL.jN, PL.jT, PL.jC, PL.jE, PL.pIfE, PL.pB, PL.ptoB, PL.pOp, PL.pVar, PL.pC, PL.vA, PL.vH, PL.slA_sh, PL.slA_ow, PL.slA_no, PL.slH_sh, PL.slH_ow, PL.slH_no, PL.qI, PL.qIc, PL.qAdd, PL.pCB, PL.pCons, PL.pNil, PL.pTup, PL.pL, PL.fLst, PL.pAnd, PL.pOr, PL.pNot, PL.pTAnd, PL.pTOr, PL.pTNot, PL.pIsN, PL.isNonP, PL.pIsi, PL.pty, PL.pAttr, PL.pget, PL.gLen_lst, PL.gLen_tup, PL.pbS, PL.pbH, PL.kp, PL.kps, PL.nr, PL.nrs, PL.nl, PL.nls, PL.oL, PL.frz, PL.frzS, PL.pFz, PL.pChain, PL.pNeg, PL.pRaise, PL.pRaiseH, PL.x2s, PL.x1, PL.x2, PL.x2t, ML.tabInt, ML.tabBool, ML.LIM, PL.pBrk, PL.pCont, PL.gInt, PL.gMax2, PL.gMin2, PL.gAbs]
      rw [ec]
      rfl
theorem last_place_p {R : P} {rs : List RM.Row} (h : Sq R (rowsP rs)) {k lim : Int} (hk : k = 0 ∨ k = 1) (s : DS) (mono : ∀ (i j : Nat) (a b : RM.Row), i ≤ j → rs[i]? = some a → rs[j]? = some b → prt k a ≤ prt k b) :
    ∃ r : Nat, r ≤ rs.length ∧ (∀ (i : Nat) a, i < r → rs[i]? = some a → prt k a ≤ lim) ∧ (∀ (i : Nat) a, r ≤ i → rs[i]? = some a → lim < prt k a) ∧ p_last_place [R, .int k, .int lim] s = some (.ok (.int ((r : Int) - 1)) s) := by
  obtain ⟨r, o, r1, r2, r3, e⟩ := lp_loop h hk s mono rs.length 0 rs.length none (by omega) (by omega) (by omega) (fun i a q => by omega) (fun i a q ea => by
    have := (List.getElem?_eq_some_iff.mp ea).1
    omega) (lim := lim)
  refine ⟨r, r1, r2, r3, fun_rt rfl ?_⟩
  unfold p_b_last_place
  have hl := sq_len (s := s) h
  rw [rows_len] at hl
  refine (seq_nx (ρ1 := [some (.sh R), some (.sh (.int k)), some (.sh (.int lim)), some (.sh (.int 0)), none, none]) (s1 := s) (by simp [PL.inE, PL.pfun, PL.pRet, PL.pRetN, PL.pDrop, PL.pSet, PL.pSetH, PL.pSetO, PL.pSetOH, PL.pIf, PL.pSeq, PL.pSkip, PL.pApp, PL.pAppH, PL.pAsg, PL.pAsgH, PL.pPar2, PL.pPar3, PL.jN, PL.jT, PL.jC, PL.jE, PL.pIfE, PL.pB, PL.ptoB, PL.pOp, PL.pVar, PL.pC, PL.vA, PL.vH, PL.slA_sh, PL.slA_ow, PL.slA_no, PL.slH_sh, PL.slH_ow, PL.slH_no, PL.qI, PL.qIc, PL.qAdd, PL.pCB, PL.pCons, PL.pNil, PL.pTup, PL.pL, PL.fLst, PL.pAnd, PL.pOr, PL.pNot, PL.pTAnd, PL.pTOr, PL.pTNot, PL.pIsN, PL.isNonP, PL.pIsi, PL.pty, PL.pAttr, PL.pget, PL.gLen_lst, PL.gLen_tup, PL.pbS, PL.pbH, PL.kp, PL.kps, PL.nr, PL.nrs, PL.nl, PL.nls, PL.oL, PL.frz, PL.frzS, PL.pFz, PL.pChain, PL.pNeg, PL.pRaise, PL.pRaiseH, PL.x2s, PL.x1, PL.x2, PL.x2t, ML.tabInt, ML.tabBool, ML.LIM, PL.pBrk, PL.pCont, PL.gInt, PL.gMax2, PL.gMin2, PL.gAbs])).trans ?_
  refine (seq_nx (ρ1 := [some (.sh R), some (.sh (.int k)), some (.sh (.int lim)), some (.sh (.int 0)), some (.sh (.int rs.length)), none]) (s1 := s) (by simp [PL.inE, PL.pfun, PL.pRet, PL.pRetN, PL.pDrop, PL.pSet, PL.pSetH, PL.pSetO, PL.pSetOH, PL.pIf, PL.pSeq, PL.pSkip, PL.pApp, PL.pAppH, PL.pAsg, PL.pAsgH, PL.pPar2, PL.pPar3, PL.jN, PL.jT, PL.jC, PL.jE, PL.pIfE, PL.pB, PL.ptoB, PL.pOp, PL.pVar, PL.pC, PL.vA, PL.vH, PL.slA_sh, PL.slA_ow, PL.slA_no, PL.slH_sh, PL.slH_ow, PL.slH_no, PL.qI, PL.qIc, PL.qAdd, PL.pCB, PL.pCons, PL.pNil, PL.pTup, PL.pL, PL.fLst, PL.pAnd, PL.pOr, PL.pNot, PL.pTAnd, PL.pTOr, PL.pTNot, PL.pIsN, PL.isNonP, PL.pIsi, PL.pty, PL.pAttr, PL.pget, PL.gLen_lst, PL.gLen_tup, PL.pbS, PL.pbH, PL.kp, PL.kps, PL.nr, PL.nrs, PL.nl, PL.nls, PL.oL, PL.frz, PL.frzS, PL.pFz, PL.pChain, PL.pNeg, PL.pRaise, PL.pRaiseH, PL.x2s, PL.x1, PL.x2, PL.x2t, ML.tabInt, ML.tabBool, ML.LIM, PL.pBrk, PL.pCont, PL.gInt, PL.gMax2, PL.gMin2, PL.gAbs, hl])).trans ?_
  refine (seq_nx (pWhile_eq e)).trans ?_
  simp [PL.inE, PL.pfun, PL.pRet, PL.pRetN, PL.pDrop, PL.pSet, PL.pSetH, PL.pSetO, PL.pSetOH, PL.pIf, PL.pSeq, PL.pSkip, PL.pApp, PL.pAppH, PL.pAsg, PL.pAsgH, PL.pPar2, PL.pPar3, PL.jN, PL.jT, PL.jC, PL.jE, PL.pIfE, PL.pB, PL.ptoB, PL.pOp, PL.pVar, PL.pC, PL.vA, PL.vH, PL.slA_sh, PL.slA_ow, PL.slA_no, PL.slH_sh, PL.slH_ow, PL.slH_no, PL.qI, PL.qIc, PL.qAdd, PL.pCB, PL.pCons, PL.pNil, PL.pTup, PL.pL, PL.fLst, PL.pAnd, PL.pOr, PL.pNot, PL.pTAnd, PL.pTOr, PL.pTNot, PL.pIsN, PL.isNonP, PL.pIsi, PL.pty, PL.pAttr, PL.pget, PL.gLen_lst, PL.gLen_tup, PL.pbS, PL.pbH, PL.kp, PL.kps, PL.nr, PL.nrs, PL.nl, PL.nls, PL.oL, PL.frz, PL.frzS, PL.pFz, PL.pChain, PL.pNeg, PL.pRaise, PL.pRaiseH, PL.x2s, PL.x1, PL.x2, PL.x2t, ML.tabInt, ML.tabBool, ML.LIM, PL.pBrk, PL.pCont, PL.gInt, PL.gMax2, PL.gMin2, PL.gAbs]
end K09

set_option maxHeartbeats 4000000
namespace K09
open PySem L2 ML PL
theorem good_at : ∀ (rs : List RM.Row) (b : RM.Row), b.1 ≤ b.2.1 → RM.GoodFrom b rs → ∀ (k : Nat) (r : RM.Row), (b :: rs)[k]? = some r → r.1 ≤ r.2.1 ∧ (k + 1 = (b :: rs).length → r.2.2 = true) ∧ (∀ q, 0 < k → (b :: rs)[k - 1]? = some q → RM.fol q r)
  | [], b, hb, g, 0, r, e => by simp at e; subst e; exact ⟨hb, fun _ => g, fun q z => by omega⟩
  | [], b, hb, g, k + 1, r, e => by simp at e
  | x :: rs, b, hb, g, 0, r, e => by simp at e; subst e; exact ⟨hb, fun z => by simp at z, fun q z => by omega⟩
  | x :: rs, b, hb, g, k + 1, r, e => by
    obtain ⟨a1, a2, a3⟩ := good_at rs x g.2.1 g.2.2 k r (by simpa using e)
    refine ⟨a1, fun z => a2 (by simpa using z), fun q _ eq => ?_⟩
    cases k with
    | zero => simp at e eq; subst e eq; exact g.1
    | succ k => exact a3 q (by omega) (by simpa using eq)
theorem follows_p {b r : RM.Row} (h : RM.fol b r) (s : DS) : p_follows [rowP b, .int r.1, .int r.2.1] s = some (.ok (.bl true) s) := by
  obtain ⟨h1, h2, h3⟩ := h
  have h0 : ¬ r.1 ≤ b.1 := by omega
  have e0 : qIx (rowP b) (.int 0) s = some (.ok (.int b.1) s) := rfl
  unfold p_follows p_b_follows
  have e1 := row_value_p b (r.1 - 1) s
  simp [PL.inE, PL.pfun, PL.pRet, PL.pRetN, PL.pDrop, PL.pSet, PL.pSetH, PL.pSetO, PL.pSetOH, PL.pIf, PL.pSeq, PL.pSkip, PL.pApp, PL.pAppH, PL.pAsg, PL.pAsgH, PL.pPar2, PL.pPar3, PL.jN, PL.jT, PL.jC, PL.jE, PL.pIfE, PL.pB, PL.ptoB, PL.pOp, PL.pVar, PL.pC, PL.vA, PL.vH, PL.slA_sh, PL.slA_ow, PL.slA_no, PL.slH_sh, PL.slH_ow, PL.slH_no, PL.qI, PL.qIc, PL.qAdd, PL.pCB, PL.pCons, PL.pNil, PL.pTup, PL.pL, PL.fLst, PL.pAnd, PL.pOr, PL.pNot, PL.pTAnd, PL.pTOr, PL.pTNot, PL.pIsN, PL.isNonP, PL.pIsi, PL.pty, PL.pAttr, PL.pget, PL.gLen_lst, PL.gLen_tup, PL.pbS, PL.pbH, PL.kp, PL.kps, PL.nr, PL.nrs, PL.nl, PL.nls, PL.oL, PL.frz, PL.frzS, PL.pFz, PL.pChain, PL.pNeg, PL.pRaise, PL.pRaiseH, PL.x2s, PL.x1, PL.x2, PL.x2t, ML.tabInt, ML.tabBool, ML.LIM, PL.pBrk, PL.pCont, PL.gInt, PL.gMax2, PL.gMin2, PL.gAbs, h0, e0, e1, h2, h3]
theorem good_row_p {R : P} {rs : List RM.Row} (hR : Sq R (rowsP rs)) (g : RM.Good rs) {k : Nat} {r : RM.Row} (e : rs[k]? = some r) (s : DS) : p_is_good_row [R, .int (k : Int)] s = some (.ok (.bl true) s) := by
  have hk := (List.getElem?_eq_some_iff.mp e).1
  obtain ⟨b, rest, rfl⟩ : ∃ b rest, rs = b :: rest := by
    cases rs with
    | nil => exact g.elim
    | cons b rest => exact ⟨b, rest, rfl⟩
  obtain ⟨g0, g1, g2⟩ := g
  obtain ⟨a1, a2, a3⟩ := good_at rest b (by omega) g2 k r e
  have h1 := sq_ix (s := s) hR rfl (rows_at e)
  have h2 := sq_len (s := s) hR
  rw [rows_len] at h2
  have h3 : ¬ r.2.1 < r.1 := by omega
  have hi : ∀ a : Int, p_is_integer [.int a] s = some (.ok (.bl true) s) := fun a => rfl
  unfold p_is_good_row p_b_is_good_row
  have q0 : (pAsgH (jT 3 (jC (jN 2) (jC (jN 3) (jC (jN 4) jE)))) (pOp qIx (pVar 0) (pVar 1))) [some (.sh R), some (.sh (.int (k : Int))), none, none, none] s = some (.nx [some (.sh R), some (.sh (.int (k : Int))), some (.sh (.int r.1)), some (.sh (.int r.2.1)), some (.sh (.bl r.2.2))] s) := by
    simp [PL.inE, PL.pfun, PL.pRet, PL.pRetN, PL.pDrop, PL.pSet, PL.pSetH, PL.pSetO, PL.pSetOH, PL.pIf, PL.pSeq, PL.pSkip, PL.pApp, PL.pAppH, PL.pAsg, PL.pAsgH, PL.pPar2, PL.pPar3, PL.jN, PL.jT, PL.jC, PL.jE, PL.pIfE, PL.pB, PL.ptoB, PL.pOp, PL.pVar, PL.pC, PL.vA, PL.vH, PL.slA_sh, PL.slA_ow, PL.slA_no, PL.slH_sh, PL.slH_ow, PL.slH_no, PL.qI, PL.qIc, PL.qAdd, PL.pCB, PL.pCons, PL.pNil, PL.pTup, PL.pL, PL.fLst, PL.pAnd, PL.pOr, PL.pNot, PL.pTAnd, PL.pTOr, PL.pTNot, PL.pIsN, PL.isNonP, PL.pIsi, PL.pty, PL.pAttr, PL.pget, PL.gLen_lst, PL.gLen_tup, PL.pbS, PL.pbH, PL.kp, PL.kps, PL.nr, PL.nrs, PL.nl, PL.nls, PL.oL, PL.frz, PL.frzS, PL.pFz, PL.pChain, PL.pNeg, PL.pRaise, PL.pRaiseH, PL.x2s, PL.x1, PL.x2, PL.x2t, ML.tabInt, ML.tabBool, ML.LIM, PL.pBrk, PL.pCont, PL.gInt, PL.gMax2, PL.gMin2, PL.gAbs, h1, rowP]
  refine fun_rt (s1 := s) rfl ((seq_nx q0).trans ?_)
  have q1 : ∀ (x y : PL.PS), x = pSkip → (pIf (pTOr (pTNot (pB (pCB p_is_integer (pCons (pVar 2) pNil)))) (pTOr (pTNot (pB (pCB p_is_integer (pCons (pVar 3) pNil)))) (pB (pOp qLt (pVar 3) (pVar 2))))) y x) [some (.sh R), some (.sh (.int (k : Int))), some (.sh (.int r.1)), some (.sh (.int r.2.1)), some (.sh (.bl r.2.2))] s = some (.nx [some (.sh R), some (.sh (.int (k : Int))), some (.sh (.int r.1)), some (.sh (.int r.2.1)), some (.sh (.bl r.2.2))] s) := fun x y hx => by
    subst hx
    simp [PL.inE, PL.pfun, PL.pRet, PL.pRetN, PL.pDrop, PL.pSet, PL.pSetH, PL.pSetO, PL.pSetOH, PL.pIf, PL.pSeq, PL.pSkip, PL.pApp, PL.pAppH, PL.pAsg, PL.pAsgH, PL.pPar2, PL.pPar3, PL.jN, PL.jT, PL.jC, PL.jE, PL.pIfE, PL.pB, PL.ptoB, PL.pOp, PL.pVar, PL.pC, PL.vA, PL.vH, PL.slA_sh, PL.slA_ow, PL.slA_no, PL.slH_sh, PL.slH_ow, PL.slH_no, PL.qI, PL.qIc, PL.qAdd, PL.pCB, PL.pCons, PL.pNil, PL.pTup, PL.pL, PL.fLst, PL.pAnd, PL.pOr, PL.pNot, PL.pTAnd, PL.pTOr, PL.pTNot, PL.pIsN, PL.isNonP, PL.pIsi, PL.pty, PL.pAttr, PL.pget, PL.gLen_lst, PL.gLen_tup, PL.pbS, PL.pbH, PL.kp, PL.kps, PL.nr, PL.nrs, PL.nl, PL.nls, PL.oL, PL.frz, PL.frzS, PL.pFz, PL.pChain, PL.pNeg, PL.pRaise, PL.pRaiseH, PL.x2s, PL.x1, PL.x2, PL.x2t, ML.tabInt, ML.tabBool, ML.LIM, PL.pBrk, PL.pCont, PL.gInt, PL.gMax2, PL.gMin2, PL.gAbs, hi, h3]
  refine (seq_nx (q1 _ _ rfl)).trans ?_
  have q2 : ∀ (y : PL.PS), (pIf (pTAnd (pB (pOp (qEq false) (pVar 1) (pOp qSub (pCB gLen (pCons (pVar 0) pNil)) (pC (.int 1))))) (pTNot (pB (pVar 4)))) y pSkip) [some (.sh R), some (.sh (.int (k : Int))), some (.sh (.int r.1)), some (.sh (.int r.2.1)), some (.sh (.bl r.2.2))] s = some (.nx [some (.sh R), some (.sh (.int (k : Int))), some (.sh (.int r.1)), some (.sh (.int r.2.1)), some (.sh (.bl r.2.2))] s) := fun y => by
    by_cases hl : (k : Int) = ((b :: rest).length : Int) - 1
    · have := a2 (by omega)
      simp [PL.inE, PL.pfun, PL.pRet, PL.pRetN, PL.pDrop, PL.pSet, PL.pSetH, PL.pSetO, PL.pSetOH, PL.pIf, PL.pSeq, PL.pSkip, PL.pApp, PL.pAppH, PL.pAsg, PL.pAsgH, PL.pPar2, PL.pPar3, PL.jN, PL.jT, PL.jC, PL.jE, PL.pIfE, PL.pB, PL.ptoB, PL.pOp, PL.pVar, PL.pC, PL.vA, PL.vH, PL.slA_sh, PL.slA_ow, PL.slA_no, PL.slH_sh, PL.slH_ow, PL.slH_no, PL.qI, PL.qIc, PL.qAdd, PL.pCB, PL.pCons, PL.pNil, PL.pTup, PL.pL, PL.fLst, PL.pAnd, PL.pOr, PL.pNot, PL.pTAnd, PL.pTOr, PL.pTNot, PL.pIsN, PL.isNonP, PL.pIsi, PL.pty, PL.pAttr, PL.pget, PL.gLen_lst, PL.gLen_tup, PL.pbS, PL.pbH, PL.kp, PL.kps, PL.nr, PL.nrs, PL.nl, PL.nls, PL.oL, PL.frz, PL.frzS, PL.pFz, PL.pChain, PL.pNeg, PL.pRaise, PL.pRaiseH, PL.x2s, PL.x1, PL.x2, PL.x2t, ML.tabInt, ML.tabBool, ML.LIM, PL.pBrk, PL.pCont, PL.gInt, PL.gMax2, PL.gMin2, PL.gAbs, h2, PL.qEq, sEqP, this]
    · simp only [List.length_cons] at hl
      simp [PL.inE, PL.pfun, PL.pRet, PL.pRetN, PL.pDrop, PL.pSet, PL.pSetH, PL.pSetO, PL.pSetOH, PL.pIf, PL.pSeq, PL.pSkip, PL.pApp, PL.pAppH, PL.pAsg, PL.pAsgH, PL.pPar2, PL.pPar3, PL.jN, PL.jT, PL.jC, PL.jE, PL.pIfE, PL.pB, PL.ptoB, PL.pOp, PL.pVar, PL.pC, PL.vA, PL.vH, PL.slA_sh, PL.slA_ow, PL.slA_no, PL.slH_sh, PL.slH_ow, PL.slH_no, PL.qI, PL.qIc, PL.qAdd, PL.pCB, PL.pCons, PL.pNil, PL.pTup, PL.pL, PL.fLst, PL.pAnd, PL.pOr, PL.pNot, PL.pTAnd, PL.pTOr, PL.pTNot, PL.pIsN, PL.isNonP, PL.pIsi, PL.pty, PL.pAttr, PL.pget, PL.gLen_lst, PL.gLen_tup, PL.pbS, PL.pbH, PL.kp, PL.kps, PL.nr, PL.nrs, PL.nl, PL.nls, PL.oL, PL.frz, PL.frzS, PL.pFz, PL.pChain, PL.pNeg, PL.pRaise, PL.pRaiseH, PL.x2s, PL.x1, PL.x2, PL.x2t, ML.tabInt, ML.tabBool, ML.LIM, PL.pBrk, PL.pCont, PL.gInt, PL.gMax2, PL.gMin2, PL.gAbs, h2, PL.qEq, sEqP]
      rw [if_neg (by omega)]
      rfl
  refine (seq_nx (q2 _)).trans ?_
  by_cases hk0 : k = 0
  · subst hk0
    simp at e
    subst e
    refine (seq_rt (p := .bl true) (s1 := s) ?_)
    simp [PL.inE, PL.pfun, PL.pRet, PL.pRetN, PL.pDrop, PL.pSet, PL.pSetH, PL.pSetO, PL.pSetOH, PL.pIf, PL.pSeq, PL.pSkip, PL.pApp, PL.pAppH, PL.pAsg, PL.pAsgH, PL.pPar2, PL.pPar3, PL.jN, PL.jT, PL.jC, PL.jE, PL.pIfE, PL.pB, PL.ptoB, PL.pOp, PL.pVar, PL.pC, PL.vA, PL.vH, PL.slA_sh, PL.slA_ow, PL.slA_no, PL.slH_sh, PL.slH_ow, PL.slH_no, PL.qI, PL.qIc, PL.qAdd, PL.pCB, PL.pCons, PL.pNil, PL.pTup, PL.pL, PL.fLst, PL.pAnd, PL.pOr, PL.pNot, PL.pTAnd, PL.pTOr, PL.pTNot, PL.pIsN, PL.isNonP, PL.pIsi, PL.pty, PL.pAttr, PL.pget, PL.gLen_lst, PL.gLen_tup, PL.pbS, PL.pbH, PL.kp, PL.kps, PL.nr, PL.nrs, PL.nl, PL.nls, PL.oL, PL.frz, PL.frzS, PL.pFz, PL.pChain, PL.pNeg, PL.pRaise, PL.pRaiseH, PL.x2s, PL.x1, PL.x2, PL.x2t, ML.tabInt, ML.tabBool, ML.LIM, PL.pBrk, PL.pCont, PL.gInt, PL.gMax2, PL.gMin2, PL.gAbs, PL.qEq, sEqP, g0]
  · obtain ⟨q, eq⟩ : ∃ q, (b :: rest)[k - 1]? = some q := ⟨(b :: rest)[k - 1]'(by omega), by simp⟩
    have f := follows_p (a3 q (by omega) eq) s
    have h4 := sq_ix (s := s) (i := (k : Int) - 1) hR (k := k - 1) (by omega) (rows_at eq)
    have hkz : ¬ ((k : Int) = 0) := by omega
    simp [PL.inE, PL.pfun, PL.pRet, PL.pRetN, PL.pDrop, PL.pSet, PL.pSetH, PL.pSetO, PL.pSetOH, PL.pIf, PL.pSeq, PL.pSkip, PL.pApp, PL.pAppH, PL.pAsg, PL.pAsgH, PL.pPar2, PL.pPar3, PL.jN, PL.jT, PL.jC, PL.jE, PL.pIfE, PL.pB, PL.ptoB, PL.pOp, PL.pVar, PL.pC, PL.vA, PL.vH, PL.slA_sh, PL.slA_ow, PL.slA_no, PL.slH_sh, PL.slH_ow, PL.slH_no, PL.qI, PL.qIc, PL.qAdd, PL.pCB, PL.pCons, PL.pNil, PL.pTup, PL.pL, PL.fLst, PL.pAnd, PL.pOr, PL.pNot, PL.pTAnd, PL.pTOr, PL.pTNot, PL.pIsN, PL.isNonP, PL.pIsi, PL.pty, PL.pAttr, PL.pget, PL.gLen_lst, PL.gLen_tup, PL.pbS, PL.pbH, PL.kp, PL.kps, PL.nr, PL.nrs, PL.nl, PL.nls, PL.oL, PL.frz, PL.frzS, PL.pFz, PL.pChain, PL.pNeg, PL.pRaise, PL.pRaiseH, PL.x2s, PL.x1, PL.x2, PL.x2t, ML.tabInt, ML.tabBool, ML.LIM, PL.pBrk, PL.pCont, PL.gInt, PL.gMax2, PL.gMin2, PL.gAbs, PL.qEq, sEqP, hkz, hk0, h4, f]
theorem check_rows_p {R : P} {rs : List RM.Row} (hR : Sq R (rowsP rs)) (g : RM.Good rs) (hl : rs.length ≤ 100000) (s : DS) : p_check_rows [R] s = some (.ok R s) := by
  have h2 := sq_len (s := s) hR
  rw [rows_len] at h2
  have hn : rs.length ≠ 0 := by
    cases rs with
    | nil => exact g.elim
    | cons b rest => simp
  refine fun_rt (s1 := s) rfl ?_
  unfold p_b_check_rows
  refine (seq_nx (ρ1 := [some (.sh R), none]) (s1 := s) (by
    have : ¬ (rs.length : Int) = 0 := by omega
    simp [PL.inE, PL.pfun, PL.pRet, PL.pRetN, PL.pDrop, PL.pSet, PL.pSetH, PL.pSetO, PL.pSetOH, PL.pIf, PL.pSeq, PL.pSkip, PL.pApp, PL.pAppH, PL.pAsg, PL.pAsgH, PL.pPar2, PL.pPar3, PL.jN, PL.jT, PL.jC, PL.jE, PL.pIfE, PL.pB, PL.ptoB, PL.pOp, PL.pVar, PL.pC, PL.vA, PL.vH, PL.slA_sh, PL.slA_ow, PL.slA_no, PL.slH_sh, PL.slH_ow, PL.slH_no, PL.qI, PL.qIc, PL.qAdd, PL.pCB, PL.pCons, PL.pNil, PL.pTup, PL.pL, PL.fLst, PL.pAnd, PL.pOr, PL.pNot, PL.pTAnd, PL.pTOr, PL.pTNot, PL.pIsN, PL.isNonP, PL.pIsi, PL.pty, PL.pAttr, PL.pget, PL.gLen_lst, PL.gLen_tup, PL.pbS, PL.pbH, PL.kp, PL.kps, PL.nr, PL.nrs, PL.nl, PL.nls, PL.oL, PL.frz, PL.frzS, PL.pFz, PL.pChain, PL.pNeg, PL.pRaise, PL.pRaiseH, PL.x2s, PL.x1, PL.x2, PL.x2t, ML.tabInt, ML.tabBool, ML.LIM, PL.pBrk, PL.pCont, PL.gInt, PL.gMax2, PL.gMin2, PL.gAbs, h2, PL.qEq, sEqP, this, List.length_eq_zero_iff]
    cases rs with
    | nil => simp at hn
    | cons b rest => simp)).trans ?_
  have lp : ∀ (n k : Nat) (o : Option Sl), k + n = rs.length → ∃ o', pForC (jN 1) (pIf (pTNot (pB (pCB p_is_good_row (pCons (pVar 0) (pCons (pVar 1) pNil)))))
    (pRaiseH n_BadRows (x1 ("place" : Str)) (pCons (pVar 1) pNil))
    pSkip) (pItems (k : Int) n) [some (.sh R), o] s = some (.nx [some (.sh R), o'] s) := by
    intro n
    induction n with
    | zero => intro k o _; exact ⟨o, rfl⟩
    | succ n ih =>
      intro k o hk
      rw [pitems_succ]
      obtain ⟨r, hr⟩ : ∃ r, rs[k]? = some r := ⟨rs[k]'(by omega), by simp⟩
      have gr := good_row_p hR g hr s
      obtain ⟨o', e⟩ := ih (k + 1) (some (.sh (.int (k : Int)))) (by omega)
      refine ⟨o', ?_⟩
      rw [pforC_nx (ρ1 := [some (.sh R), some (.sh (.int (k : Int)))]) (ρ2 := [some (.sh R), some (.sh (.int (k : Int)))]) (s2 := s) rfl (by simp [PL.inE, PL.pfun, PL.pRet, PL.pRetN, PL.pDrop, PL.pSet, PL.pSetH, PL.pSetO, PL.pSetOH, PL.pIf, PL.pSeq, PL.pSkip, PL.pApp, PL.pAppH, PL.pAsg, PL.pAsgH, PL.pPar2, PL.pPar3, PL.jN, PL.jT, PL.jC, PL.jE, PL.pIfE, PL.pB, PL.ptoB, PL.pOp, PL.pVar, PL.pC, PL.vA, PL.vH, PL.slA_sh, PL.slA_ow, PL.slA_no, PL.slH_sh, PL.slH_ow, PL.slH_no, PL.qI, PL.qIc, PL.qAdd, PL.pCB, PL.pCons, PL.pNil, PL.pTup, PL.pL, PL.fLst, PL.pAnd, PL.pOr, PL.pNot, PL.pTAnd, PL.pTOr, PL.pTNot, PL.pIsN, PL.isNonP, PL.pIsi, PL.pty, PL.pAttr, PL.pget, PL.gLen_lst, PL.gLen_tup, PL.pbS, PL.pbH, PL.kp, PL.kps, PL.nr, PL.nrs, PL.nl, PL.nls, PL.oL, PL.frz, PL.frzS, PL.pFz, PL.pChain, PL.pNeg, PL.pRaise, PL.pRaiseH, PL.x2s, PL.x1, PL.x2, PL.x2t, ML.tabInt, ML.tabBool, ML.LIM, PL.pBrk, PL.pCont, PL.gInt, PL.gMax2, PL.gMin2, PL.gAbs, gr])]
      exact e
  obtain ⟨o', e⟩ := lp rs.length 0 none (by omega)
  have hr : inR (rs.length : Int) = true := inR_of (by omega) (by omega)
  refine (seq_nx ((pfor_eq (ps := pItems 0 rs.length) (s1 := s) ?_).trans e)).trans ?_
  · simp [PL.inE, PL.pfun, PL.pRet, PL.pRetN, PL.pDrop, PL.pSet, PL.pSetH, PL.pSetO, PL.pSetOH, PL.pIf, PL.pSeq, PL.pSkip, PL.pApp, PL.pAppH, PL.pAsg, PL.pAsgH, PL.pPar2, PL.pPar3, PL.jN, PL.jT, PL.jC, PL.jE, PL.pIfE, PL.pB, PL.ptoB, PL.pOp, PL.pVar, PL.pC, PL.vA, PL.vH, PL.slA_sh, PL.slA_ow, PL.slA_no, PL.slH_sh, PL.slH_ow, PL.slH_no, PL.qI, PL.qIc, PL.qAdd, PL.pCB, PL.pCons, PL.pNil, PL.pTup, PL.pL, PL.fLst, PL.pAnd, PL.pOr, PL.pNot, PL.pTAnd, PL.pTOr, PL.pTNot, PL.pIsN, PL.isNonP, PL.pIsi, PL.pty, PL.pAttr, PL.pget, PL.gLen_lst, PL.gLen_tup, PL.pbS, PL.pbH, PL.kp, PL.kps, PL.nr, PL.nrs, PL.nl, PL.nls, PL.oL, PL.frz, PL.frzS, PL.pFz, PL.pChain, PL.pNeg, PL.pRaise, PL.pRaiseH, PL.x2s, PL.x1, PL.x2, PL.x2t, ML.tabInt, ML.tabBool, ML.LIM, PL.pBrk, PL.pCont, PL.gInt, PL.gMax2, PL.gMin2, PL.gAbs, pIR1, h2, hr]
  · simp [PL.inE, PL.pfun, PL.pRet, PL.pRetN, PL.pDrop, PL.pSet, PL.pSetH, PL.pSetO, PL.pSetOH, PL.pIf, PL.pSeq, PL.pSkip, PL.pApp, PL.pAppH, PL.pAsg, PL.pAsgH, PL.pPar2, PL.pPar3, PL.jN, PL.jT, PL.jC, PL.jE, PL.pIfE, PL.pB, PL.ptoB, PL.pOp, PL.pVar, PL.pC, PL.vA, PL.vH, PL.slA_sh, PL.slA_ow, PL.slA_no, PL.slH_sh, PL.slH_ow, PL.slH_no, PL.qI, PL.qIc, PL.qAdd, PL.pCB, PL.pCons, PL.pNil, PL.pTup, PL.pL, PL.fLst, PL.pAnd, PL.pOr, PL.pNot, PL.pTAnd, PL.pTOr, PL.pTNot, PL.pIsN, PL.isNonP, PL.pIsi, PL.pty, PL.pAttr, PL.pget, PL.gLen_lst, PL.gLen_tup, PL.pbS, PL.pbH, PL.kp, PL.kps, PL.nr, PL.nrs, PL.nl, PL.nls, PL.oL, PL.frz, PL.frzS, PL.pFz, PL.pChain, PL.pNeg, PL.pRaise, PL.pRaiseH, PL.x2s, PL.x1, PL.x2, PL.x2t, ML.tabInt, ML.tabBool, ML.LIM, PL.pBrk, PL.pCont, PL.gInt, PL.gMax2, PL.gMin2, PL.gAbs]
/-! the shortest rows -/
def stP : Option Int → P
  | none => .non
  | some d => .int d
noncomputable abbrev shB : PL.PS := (pSeq (pSetH 10 (pCB p_row_value (pCons (pVar 7) (pCons (pVar 9) pNil))))
    (pSeq (pSetH 11 (pOp qSub (pVar 10) (pVar 5)))
    (pSeq (pIf (pTAnd (pB (pIsN false (pVar 4))) (pB (pOp (qIn false) (pVar 11) (pTup (pCons (pC (.int 0)) (pCons (pC (.int 1)) pNil))))))
    (pSetH 4 (pVar 11))
    (pIf (pB (pOp (qEq true) (pVar 11) (pVar 4)))
    (pSeq (pAppH 1 (pTup (pCons (pVar 2) (pCons (pVar 3) (pCons (pOp (qEq false) (pVar 4) (pC (.int 1))) pNil)))))
    (pPar3 2 3 4 (pCons (pVar 9) (pCons (pVar 10) (pCons (pC .non) pNil)))))
    pSkip))
    (pSetH 5 (pVar 10)))))
def shE (R : P) (S : RM.S) (o6 o7 o8 o9 o10 o11 : Option Sl) : TEv := [some (.sh R), some (.ow (.lst (rowsP S.done))), some (.sh (.int S.b)), some (.sh (.int S.f)), some (.sh (stP S.st)), some (.sh (.int S.la)), o6, o7, o8, o9, o10, o11]
theorem sh_turn (R : P) (S : RM.S) (r : RM.Row) (m : Int) (o6 o8 o10 o11 : Option Sl) (hl : S.done.length < 900000) (s : DS) :
    ∃ p10 p11, shB (shE R S o6 (some (.sh (rowP r))) o8 (some (.sh (.int m))) o10 o11) s = some (.nx (shE R (RM.stp S m (RM.rv r m)) o6 (some (.sh (rowP r))) o8 (some (.sh (.int m))) p10 p11) s) := by
  obtain ⟨done, b, f, st, la⟩ := S
  simp only at hl
  have e1 := row_value_p r m s
  obtain ⟨v, hv⟩ : ∃ v, v = RM.rv r m := ⟨_, rfl⟩
  rw [← hv] at e1 ⊢
  have hlen : done.length < 1000000 := by omega
  refine ⟨some (.sh (.int v)), some (.sh (.int (v - la))), ?_⟩
  unfold RM.stp shE shB
  generalize rowP r = rp at e1 ⊢
  cases st with
  | none =>
    by_cases c0 : v - la = 0
    · simp [PL.inE, PL.pfun, PL.pRet, PL.pRetN, PL.pDrop, PL.pSet, PL.pSetH, PL.pSetO, PL.pSetOH, PL.pIf, PL.pSeq, PL.pSkip, PL.pApp, PL.pAppH, PL.pAsg, PL.pAsgH, PL.pPar2, PL.pPar3, PL.jN, PL.jT, PL.jC, PL.jE, PL.pIfE, PL.pB, PL.ptoB, PL.pOp, PL.pVar, PL.pC, PL.vA, PL.vH, PL.slA_sh, PL.slA_ow, PL.slA_no, PL.slH_sh, PL.slH_ow, PL.slH_no, PL.qI, PL.qIc, PL.qAdd, PL.pCB, PL.pCons, PL.pNil, PL.pTup, PL.pL, PL.fLst, PL.pAnd, PL.pOr, PL.pNot, PL.pTAnd, PL.pTOr, PL.pTNot, PL.pIsN, PL.isNonP, PL.pIsi, PL.pty, PL.pAttr, PL.pget, PL.gLen_lst, PL.gLen_tup, PL.pbS, PL.pbH, PL.kp, PL.kps, PL.nr, PL.nrs, PL.nl, PL.nls, PL.oL, PL.frz, PL.frzS, PL.pFz, PL.pChain, PL.pNeg, PL.pRaise, PL.pRaiseH, PL.x2s, PL.x1, PL.x2, PL.x2t, ML.tabInt, ML.tabBool, ML.LIM, PL.pBrk, PL.pCont, PL.gInt, PL.gMax2, PL.gMin2, PL.gAbs, e1, stP, PL.qIn, flatP, inFP, eqFP, c0]
    · by_cases c1 : v - la = 1
      · simp [PL.inE, PL.pfun, PL.pRet, PL.pRetN, PL.pDrop, PL.pSet, PL.pSetH, PL.pSetO, PL.pSetOH, PL.pIf, PL.pSeq, PL.pSkip, PL.pApp, PL.pAppH, PL.pAsg, PL.pAsgH, PL.pPar2, PL.pPar3, PL.jN, PL.jT, PL.jC, PL.jE, PL.pIfE, PL.pB, PL.ptoB, PL.pOp, PL.pVar, PL.pC, PL.vA, PL.vH, PL.slA_sh, PL.slA_ow, PL.slA_no, PL.slH_sh, PL.slH_ow, PL.slH_no, PL.qI, PL.qIc, PL.qAdd, PL.pCB, PL.pCons, PL.pNil, PL.pTup, PL.pL, PL.fLst, PL.pAnd, PL.pOr, PL.pNot, PL.pTAnd, PL.pTOr, PL.pTNot, PL.pIsN, PL.isNonP, PL.pIsi, PL.pty, PL.pAttr, PL.pget, PL.gLen_lst, PL.gLen_tup, PL.pbS, PL.pbH, PL.kp, PL.kps, PL.nr, PL.nrs, PL.nl, PL.nls, PL.oL, PL.frz, PL.frzS, PL.pFz, PL.pChain, PL.pNeg, PL.pRaise, PL.pRaiseH, PL.x2s, PL.x1, PL.x2, PL.x2t, ML.tabInt, ML.tabBool, ML.LIM, PL.pBrk, PL.pCont, PL.gInt, PL.gMax2, PL.gMin2, PL.gAbs, e1, stP, PL.qIn, flatP, inFP, eqFP, c1]
      · have d0 : ¬ (0 = v - la) := fun h => c0 h.symm
        have d1 : ¬ (1 = v - la) := fun h => c1 h.symm
        simp [PL.inE, PL.pfun, PL.pRet, PL.pRetN, PL.pDrop, PL.pSet, PL.pSetH, PL.pSetO, PL.pSetOH, PL.pIf, PL.pSeq, PL.pSkip, PL.pApp, PL.pAppH, PL.pAsg, PL.pAsgH, PL.pPar2, PL.pPar3, PL.jN, PL.jT, PL.jC, PL.jE, PL.pIfE, PL.pB, PL.ptoB, PL.pOp, PL.pVar, PL.pC, PL.vA, PL.vH, PL.slA_sh, PL.slA_ow, PL.slA_no, PL.slH_sh, PL.slH_ow, PL.slH_no, PL.qI, PL.qIc, PL.qAdd, PL.pCB, PL.pCons, PL.pNil, PL.pTup, PL.pL, PL.fLst, PL.pAnd, PL.pOr, PL.pNot, PL.pTAnd, PL.pTOr, PL.pTNot, PL.pIsN, PL.isNonP, PL.pIsi, PL.pty, PL.pAttr, PL.pget, PL.gLen_lst, PL.gLen_tup, PL.pbS, PL.pbH, PL.kp, PL.kps, PL.nr, PL.nrs, PL.nl, PL.nls, PL.oL, PL.frz, PL.frzS, PL.pFz, PL.pChain, PL.pNeg, PL.pRaise, PL.pRaiseH, PL.x2s, PL.x1, PL.x2, PL.x2t, ML.tabInt, ML.tabBool, ML.LIM, PL.pBrk, PL.pCont, PL.gInt, PL.gMax2, PL.gMin2, PL.gAbs, e1, stP, PL.qIn, flatP, inFP, eqFP, c0, c1, d0, d1, PL.qEq, sEqP, rowsP, rowP, hlen]
  | some d =>
    by_cases c0 : v - la = d
    · simp [PL.inE, PL.pfun, PL.pRet, PL.pRetN, PL.pDrop, PL.pSet, PL.pSetH, PL.pSetO, PL.pSetOH, PL.pIf, PL.pSeq, PL.pSkip, PL.pApp, PL.pAppH, PL.pAsg, PL.pAsgH, PL.pPar2, PL.pPar3, PL.jN, PL.jT, PL.jC, PL.jE, PL.pIfE, PL.pB, PL.ptoB, PL.pOp, PL.pVar, PL.pC, PL.vA, PL.vH, PL.slA_sh, PL.slA_ow, PL.slA_no, PL.slH_sh, PL.slH_ow, PL.slH_no, PL.qI, PL.qIc, PL.qAdd, PL.pCB, PL.pCons, PL.pNil, PL.pTup, PL.pL, PL.fLst, PL.pAnd, PL.pOr, PL.pNot, PL.pTAnd, PL.pTOr, PL.pTNot, PL.pIsN, PL.isNonP, PL.pIsi, PL.pty, PL.pAttr, PL.pget, PL.gLen_lst, PL.gLen_tup, PL.pbS, PL.pbH, PL.kp, PL.kps, PL.nr, PL.nrs, PL.nl, PL.nls, PL.oL, PL.frz, PL.frzS, PL.pFz, PL.pChain, PL.pNeg, PL.pRaise, PL.pRaiseH, PL.x2s, PL.x1, PL.x2, PL.x2t, ML.tabInt, ML.tabBool, ML.LIM, PL.pBrk, PL.pCont, PL.gInt, PL.gMax2, PL.gMin2, PL.gAbs, e1, stP, c0, PL.qEq, sEqP]
    · have d0 : ¬ (d = v - la) := fun h => c0 h.symm
      simp [PL.inE, PL.pfun, PL.pRet, PL.pRetN, PL.pDrop, PL.pSet, PL.pSetH, PL.pSetO, PL.pSetOH, PL.pIf, PL.pSeq, PL.pSkip, PL.pApp, PL.pAppH, PL.pAsg, PL.pAsgH, PL.pPar2, PL.pPar3, PL.jN, PL.jT, PL.jC, PL.jE, PL.pIfE, PL.pB, PL.ptoB, PL.pOp, PL.pVar, PL.pC, PL.vA, PL.vH, PL.slA_sh, PL.slA_ow, PL.slA_no, PL.slH_sh, PL.slH_ow, PL.slH_no, PL.qI, PL.qIc, PL.qAdd, PL.pCB, PL.pCons, PL.pNil, PL.pTup, PL.pL, PL.fLst, PL.pAnd, PL.pOr, PL.pNot, PL.pTAnd, PL.pTOr, PL.pTNot, PL.pIsN, PL.isNonP, PL.pIsi, PL.pty, PL.pAttr, PL.pget, PL.gLen_lst, PL.gLen_tup, PL.pbS, PL.pbH, PL.kp, PL.kps, PL.nr, PL.nrs, PL.nl, PL.nls, PL.oL, PL.frz, PL.frzS, PL.pFz, PL.pChain, PL.pNeg, PL.pRaise, PL.pRaiseH, PL.x2s, PL.x1, PL.x2, PL.x2t, ML.tabInt, ML.tabBool, ML.LIM, PL.pBrk, PL.pCont, PL.gInt, PL.gMax2, PL.gMin2, PL.gAbs, e1, stP, c0, d0, PL.qEq, sEqP, rowsP, rowP, hlen]
theorem sh_inner (R : P) (r : RM.Row) (o6 o8 : Option Sl) (s : DS) : ∀ (n : Nat) (lo : Int) (S : RM.S) (o9 o10 o11 : Option Sl), S.done.length + n ≤ 900000 →
    ∃ p9 p10 p11, pForC (jN 9) shB (pItems lo n) (shE R S o6 (some (.sh (rowP r))) o8 o9 o10 o11) s = some (.nx (shE R (RM.runV (RM.rv r) lo n S) o6 (some (.sh (rowP r))) o8 p9 p10 p11) s)
  | 0, lo, S, o9, o10, o11, _ => ⟨o9, o10, o11, rfl⟩
  | n + 1, lo, S, o9, o10, o11, hl => by
    obtain ⟨p10, p11, e⟩ := sh_turn R S r lo o6 o8 o10 o11 (by omega) s
    have hl2 := RM.stp_len S lo (RM.rv r lo)
    obtain ⟨q9, q10, q11, e2⟩ := sh_inner R r o6 o8 s n (lo + 1) (RM.stp S lo (RM.rv r lo)) (some (.sh (.int lo))) p10 p11 (by omega)
    refine ⟨q9, q10, q11, ?_⟩
    rw [pitems_succ, pforC_nx (ρ1 := shE R S o6 (some (.sh (rowP r))) o8 (some (.sh (.int lo))) o10 o11) rfl e]
    exact e2
noncomputable abbrev shO : PL.PS := (pSeq (pSetH 8 (pCB p_start_of (pCons (pVar 0) (pCons (pOp qAdd (pVar 6) (pC (.int 1))) pNil))))
    (pSeq (pIf (pB (pIsN false (pVar 8)))
    (pSetH 8 (pOp qAdd (pOp qIx (pVar 7) (pC (.int 0))) (pC (.int 3))))
    pSkip)
    (pSeq (pFor (pIR2 (pCB p_greater (pCons (pOp qIx (pVar 7) (pC (.int 0))) (pCons (pC (.int 1)) pNil))) (pCB p_lesser (pCons (pVar 8) (pCons (pOp qAdd (pOp qIx (pVar 7) (pC (.int 0))) (pC (.int 3))) pNil)))) (jN 9)
    shB)
    (pSetH 5 (pCB p_row_value (pCons (pVar 7) (pCons (pOp qSub (pVar 8) (pC (.int 1))) pNil)))))))
theorem sh_row {R : P} {rs : List RM.Row} (hR : Sq R (rowsP rs)) {k : Nat} {r : RM.Row} (after : Int) (ha : after = match rs[k + 1]? with | some q => q.1 | none => r.1 + 3) (b1 : 0 ≤ r.1) (b2 : r.1 ≤ 900000000) (b3 : after ≤ 900000003) (b4 : r.1 < after) (S : RM.S) (hl : S.done.length ≤ 800000) (o8 o9 o10 o11 : Option Sl) (s : DS) :
    ∃ p8 p9 p10 p11, shO (shE R S (some (.sh (.int (k : Int)))) (some (.sh (rowP r))) o8 o9 o10 o11) s = some (.nx (shE R (RM.runR r after S) (some (.sh (.int (k : Int)))) (some (.sh (rowP r))) p8 p9 p10 p11) s) := by
  have e1 := start_of_p hR (i := (k : Int) + 1) (k := k + 1) (by omega) s
  have h0 : qIx (rowP r) (.int 0) s = some (.ok (.int r.1) s) := rfl
  obtain ⟨lo, hlo⟩ : ∃ lo, lo = (if r.1 ≥ 1 then r.1 else 1) := ⟨_, rfl⟩
  obtain ⟨hi, hhi⟩ : ∃ hi, hi = (if after ≤ r.1 + 3 then after else r.1 + 3) := ⟨_, rfl⟩
  have hlo2 : 0 ≤ lo ∧ lo ≤ 900000001 := by rw [hlo]; split <;> omega
  have hhi2 : 0 ≤ hi ∧ hi ≤ 900000003 ∧ hi - lo ≤ 3 := by rw [hhi, hlo]; split <;> split <;> omega
  have hn := sh_inner R r (some (.sh (.int (k : Int)))) (some (.sh (.int after))) s (hi - lo).toNat lo S o9 o10 o11 (by omega)
  obtain ⟨p9, p10, p11, e2⟩ := hn
  refine ⟨some (.sh (.int after)), p9, p10, p11, ?_⟩
  have q1 : (pSetH 8 (pCB p_start_of (pCons (pVar 0) (pCons (pOp qAdd (pVar 6) (pC (.int 1))) pNil)))) (shE R S (some (.sh (.int (k : Int)))) (some (.sh (rowP r))) o8 o9 o10 o11) s = some (.nx (shE R S (some (.sh (.int (k : Int)))) (some (.sh (rowP r))) (some (.sh (stO rs[k + 1]?))) o9 o10 o11) s) := by
    unfold shE
    simp [PL.inE, PL.pfun, PL.pRet, PL.pRetN, PL.pDrop, PL.pSet, PL.pSetH, PL.pSetO, PL.pSetOH, PL.pIf, PL.pSeq, PL.pSkip, PL.pApp, PL.pAppH, PL.pAsg, PL.pAsgH, PL.pPar2, PL.pPar3, PL.jN, PL.jT, PL.jC, PL.jE, PL.pIfE, PL.pB, PL.ptoB, PL.pOp, PL.pVar, PL.pC, PL.vA, PL.vH, PL.slA_sh, PL.slA_ow, PL.slA_no, PL.slH_sh, PL.slH_ow, PL.slH_no, PL.qI, PL.qIc, PL.qAdd, PL.pCB, PL.pCons, PL.pNil, PL.pTup, PL.pL, PL.fLst, PL.pAnd, PL.pOr, PL.pNot, PL.pTAnd, PL.pTOr, PL.pTNot, PL.pIsN, PL.isNonP, PL.pIsi, PL.pty, PL.pAttr, PL.pget, PL.gLen_lst, PL.gLen_tup, PL.pbS, PL.pbH, PL.kp, PL.kps, PL.nr, PL.nrs, PL.nl, PL.nls, PL.oL, PL.frz, PL.frzS, PL.pFz, PL.pChain, PL.pNeg, PL.pRaise, PL.pRaiseH, PL.x2s, PL.x1, PL.x2, PL.x2t, ML.tabInt, ML.tabBool, ML.LIM, PL.pBrk, PL.pCont, PL.gInt, PL.gMax2, PL.gMin2, PL.gAbs, e1]
  refine (seq_nx q1).trans ?_
  have q2 : (pIf (pB (pIsN false (pVar 8)))
    (pSetH 8 (pOp qAdd (pOp qIx (pVar 7) (pC (.int 0))) (pC (.int 3))))
    pSkip) (shE R S (some (.sh (.int (k : Int)))) (some (.sh (rowP r))) (some (.sh (stO rs[k + 1]?))) o9 o10 o11) s = some (.nx (shE R S (some (.sh (.int (k : Int)))) (some (.sh (rowP r))) (some (.sh (.int after))) o9 o10 o11) s) := by
    unfold shE
    cases e : rs[k + 1]? with
    | none =>
      rw [e] at ha
      simp only at ha
      simp [PL.inE, PL.pfun, PL.pRet, PL.pRetN, PL.pDrop, PL.pSet, PL.pSetH, PL.pSetO, PL.pSetOH, PL.pIf, PL.pSeq, PL.pSkip, PL.pApp, PL.pAppH, PL.pAsg, PL.pAsgH, PL.pPar2, PL.pPar3, PL.jN, PL.jT, PL.jC, PL.jE, PL.pIfE, PL.pB, PL.ptoB, PL.pOp, PL.pVar, PL.pC, PL.vA, PL.vH, PL.slA_sh, PL.slA_ow, PL.slA_no, PL.slH_sh, PL.slH_ow, PL.slH_no, PL.qI, PL.qIc, PL.qAdd, PL.pCB, PL.pCons, PL.pNil, PL.pTup, PL.pL, PL.fLst, PL.pAnd, PL.pOr, PL.pNot, PL.pTAnd, PL.pTOr, PL.pTNot, PL.pIsN, PL.isNonP, PL.pIsi, PL.pty, PL.pAttr, PL.pget, PL.gLen_lst, PL.gLen_tup, PL.pbS, PL.pbH, PL.kp, PL.kps, PL.nr, PL.nrs, PL.nl, PL.nls, PL.oL, PL.frz, PL.frzS, PL.pFz, PL.pChain, PL.pNeg, PL.pRaise, PL.pRaiseH, PL.x2s, PL.x1, PL.x2, PL.x2t, ML.tabInt, ML.tabBool, ML.LIM, PL.pBrk, PL.pCont, PL.gInt, PL.gMax2, PL.gMin2, PL.gAbs, h0, ha, stO]
    | some q =>
      rw [e] at ha
      simp only at ha
      simp [PL.inE, PL.pfun, PL.pRet, PL.pRetN, PL.pDrop, PL.pSet, PL.pSetH, PL.pSetO, PL.pSetOH, PL.pIf, PL.pSeq, PL.pSkip, PL.pApp, PL.pAppH, PL.pAsg, PL.pAsgH, PL.pPar2, PL.pPar3, PL.jN, PL.jT, PL.jC, PL.jE, PL.pIfE, PL.pB, PL.ptoB, PL.pOp, PL.pVar, PL.pC, PL.vA, PL.vH, PL.slA_sh, PL.slA_ow, PL.slA_no, PL.slH_sh, PL.slH_ow, PL.slH_no, PL.qI, PL.qIc, PL.qAdd, PL.pCB, PL.pCons, PL.pNil, PL.pTup, PL.pL, PL.fLst, PL.pAnd, PL.pOr, PL.pNot, PL.pTAnd, PL.pTOr, PL.pTNot, PL.pIsN, PL.isNonP, PL.pIsi, PL.pty, PL.pAttr, PL.pget, PL.gLen_lst, PL.gLen_tup, PL.pbS, PL.pbH, PL.kp, PL.kps, PL.nr, PL.nrs, PL.nl, PL.nls, PL.oL, PL.frz, PL.frzS, PL.pFz, PL.pChain, PL.pNeg, PL.pRaise, PL.pRaiseH, PL.x2s, PL.x1, PL.x2, PL.x2t, ML.tabInt, ML.tabBool, ML.LIM, PL.pBrk, PL.pCont, PL.gInt, PL.gMax2, PL.gMin2, PL.gAbs, ha, stO]
  refine (seq_nx q2).trans ?_
  have g1 := greater_p r.1 1 s
  have g2 := lesser_p after (r.1 + 3) s
  rw [← hlo] at g1
  rw [← hhi] at g2
  have q3 : (pIR2 (pCB p_greater (pCons (pOp qIx (pVar 7) (pC (.int 0))) (pCons (pC (.int 1)) pNil))) (pCB p_lesser (pCons (pVar 8) (pCons (pOp qAdd (pOp qIx (pVar 7) (pC (.int 0))) (pC (.int 3))) pNil)))) (vH (shE R S (some (.sh (.int (k : Int)))) (some (.sh (rowP r))) (some (.sh (.int after))) o9 o10 o11)) s = some (.ok (pItems lo (hi - lo).toNat) s) := by
    unfold shE
    have i1 : inR lo = true := inR_of (by omega) (by omega)
    have i2 : inR hi = true := inR_of (by omega) (by omega)
    simp [PL.inE, PL.pfun, PL.pRet, PL.pRetN, PL.pDrop, PL.pSet, PL.pSetH, PL.pSetO, PL.pSetOH, PL.pIf, PL.pSeq, PL.pSkip, PL.pApp, PL.pAppH, PL.pAsg, PL.pAsgH, PL.pPar2, PL.pPar3, PL.jN, PL.jT, PL.jC, PL.jE, PL.pIfE, PL.pB, PL.ptoB, PL.pOp, PL.pVar, PL.pC, PL.vA, PL.vH, PL.slA_sh, PL.slA_ow, PL.slA_no, PL.slH_sh, PL.slH_ow, PL.slH_no, PL.qI, PL.qIc, PL.qAdd, PL.pCB, PL.pCons, PL.pNil, PL.pTup, PL.pL, PL.fLst, PL.pAnd, PL.pOr, PL.pNot, PL.pTAnd, PL.pTOr, PL.pTNot, PL.pIsN, PL.isNonP, PL.pIsi, PL.pty, PL.pAttr, PL.pget, PL.gLen_lst, PL.gLen_tup, PL.pbS, PL.pbH, PL.kp, PL.kps, PL.nr, PL.nrs, PL.nl, PL.nls, PL.oL, PL.frz, PL.frzS, PL.pFz, PL.pChain, PL.pNeg, PL.pRaise, PL.pRaiseH, PL.x2s, PL.x1, PL.x2, PL.x2t, ML.tabInt, ML.tabBool, ML.LIM, PL.pBrk, PL.pCont, PL.gInt, PL.gMax2, PL.gMin2, PL.gAbs, pIR2, h0, g1, g2, i1, i2]
  refine (seq_nx ((pfor_eq q3).trans e2)).trans ?_
  have e3 := row_value_p r (after - 1) s
  have hrun : RM.runR r after S = { RM.runV (RM.rv r) lo (hi - lo).toNat S with la := RM.rv r (after - 1) } := by
    unfold RM.runR
    simp only
    rw [← hlo, ← hhi]
  rw [hrun]
  unfold shE
  simp [PL.inE, PL.pfun, PL.pRet, PL.pRetN, PL.pDrop, PL.pSet, PL.pSetH, PL.pSetO, PL.pSetOH, PL.pIf, PL.pSeq, PL.pSkip, PL.pApp, PL.pAppH, PL.pAsg, PL.pAsgH, PL.pPar2, PL.pPar3, PL.jN, PL.jT, PL.jC, PL.jE, PL.pIfE, PL.pB, PL.ptoB, PL.pOp, PL.pVar, PL.pC, PL.vA, PL.vH, PL.slA_sh, PL.slA_ow, PL.slA_no, PL.slH_sh, PL.slH_ow, PL.slH_no, PL.qI, PL.qIc, PL.qAdd, PL.pCB, PL.pCons, PL.pNil, PL.pTup, PL.pL, PL.fLst, PL.pAnd, PL.pOr, PL.pNot, PL.pTAnd, PL.pTOr, PL.pTNot, PL.pIsN, PL.isNonP, PL.pIsi, PL.pty, PL.pAttr, PL.pget, PL.gLen_lst, PL.gLen_tup, PL.pbS, PL.pbH, PL.kp, PL.kps, PL.nr, PL.nrs, PL.nl, PL.nls, PL.oL, PL.frz, PL.frzS, PL.pFz, PL.pChain, PL.pNeg, PL.pRaise, PL.pRaiseH, PL.x2s, PL.x1, PL.x2, PL.x2t, ML.tabInt, ML.tabBool, ML.LIM, PL.pBrk, PL.pCont, PL.gInt, PL.gMax2, PL.gMin2, PL.gAbs, e3]
theorem sh_outer {R : P} {rs : List RM.Row} (hR : Sq R (rowsP rs)) (s : DS) : ∀ (rest pre : List RM.Row) (S : RM.S) (o6 o7 o8 o9 o10 o11 : Option Sl), rs = pre ++ rest → S.done.length + 3 * rest.length ≤ 800000 →
    (∀ r ∈ rest, 0 ≤ r.1 ∧ r.1 ≤ 900000000) → (∀ (i : Nat) a b, rest[i]? = some a → rest[i + 1]? = some b → a.1 < b.1) →
    ∃ p6 p7 p8 p9 p10 p11, pForC (jT 2 (jC (jN 6) (jC (jN 7) jE))) shO (peItems pre.length (rowsP rest)) (shE R S o6 o7 o8 o9 o10 o11) s = some (.nx (shE R (RM.runRs rest S) p6 p7 p8 p9 p10 p11) s)
  | [], pre, S, o6, o7, o8, o9, o10, o11, _, _, _, _ => ⟨o6, o7, o8, o9, o10, o11, rfl⟩
  | r :: rest, pre, S, o6, o7, o8, o9, o10, o11, hs, hl, hb, hu => by
    simp only [List.length_cons] at hl
    have hlen := RM.runR_len r (RM.afterOf rest r) S
    have b1 := hb r List.mem_cons_self
    obtain ⟨af, haf⟩ : ∃ af, af = RM.afterOf rest r := ⟨_, rfl⟩
    have h1 : af = match rs[pre.length + 1]? with | some q => q.1 | none => r.1 + 3 := by
      rw [hs, List.getElem?_append_right (by omega), haf]
      rw [show pre.length + 1 - pre.length = 1 by omega]
      cases rest with
      | nil => rfl
      | cons q rest => rfl
    have h2 : af ≤ 900000003 ∧ r.1 < af := by
      rw [haf]
      cases rest with
      | nil => show r.1 + 3 ≤ _ ∧ r.1 < r.1 + 3; omega
      | cons q rest =>
        have := hb q (List.mem_cons_of_mem _ List.mem_cons_self)
        have := hu 0 r q rfl rfl
        show q.1 ≤ _ ∧ r.1 < q.1
        omega
    obtain ⟨p8, p9, p10, p11, e⟩ := sh_row hR (k := pre.length) (r := r) af h1 b1.1 b1.2 h2.1 h2.2 S (by omega) o8 o9 o10 o11 s
    obtain ⟨q6, q7, q8, q9, q10, q11, e2⟩ := sh_outer hR s rest (pre ++ [r]) (RM.runR r af S) (some (.sh (.int (pre.length : Int)))) (some (.sh (rowP r))) p8 p9 p10 p11 (by rw [hs]; simp) (by rw [haf]; omega) (fun x hx => hb x (List.mem_cons_of_mem _ hx)) (fun i a b ea eb => hu (i + 1) a b (by simpa using ea) (by simpa using eb))
    refine ⟨q6, q7, q8, q9, q10, q11, ?_⟩
    rw [show rowsP (r :: rest) = rowP r :: rowsP rest from rfl]
    show pForC _ _ (.tup [.int (pre.length : Int), rowP r] :: peItems (pre.length + 1) (rowsP rest)) _ _ = _
    rw [pforC_nx (ρ1 := shE R S (some (.sh (.int (pre.length : Int)))) (some (.sh (rowP r))) o8 o9 o10 o11) rfl e]
    simp only [List.length_append, List.length_cons, List.length_nil, Nat.zero_add] at e2
    rw [e2, haf]
    rfl
def Bd (rs : List RM.Row) : Prop := ∀ r ∈ rs, r.1 ≤ 900000000
theorem good_up {rs : List RM.Row} (g : RM.Good rs) : (∀ r ∈ rs, 0 ≤ r.1) ∧ ∀ (i : Nat) a b, rs[i]? = some a → rs[i + 1]? = some b → a.1 < b.1 := by
  cases rs with
  | nil => exact g.elim
  | cons r rs =>
    obtain ⟨g0, g1, g2⟩ := g
    have : ∀ (rs : List RM.Row) (b : RM.Row), 0 ≤ b.1 → RM.GoodFrom b rs → (∀ r ∈ b :: rs, 0 ≤ r.1) ∧ ∀ (i : Nat) x y, (b :: rs)[i]? = some x → (b :: rs)[i + 1]? = some y → x.1 < y.1 := by
      intro rs
      induction rs with
      | nil => intro b hb g; exact ⟨fun r hr => by simp at hr; subst hr; exact hb, fun i x y e1 e2 => by simp at e2⟩
      | cons q rs ih =>
        intro b hb g
        obtain ⟨i1, i2⟩ := ih q (by have := g.1.1; omega) g.2.2
        refine ⟨fun r hr => by
          rcases List.mem_cons.mp hr with rfl | hr
          · exact hb
          · exact i1 r hr, fun i x y e1 e2 => ?_⟩
        cases i with
        | zero => simp at e1 e2; subst e1 e2; exact g.1.1
        | succ i => exact i2 i x y (by simpa using e1) (by simpa using e2)
    exact this rs r (by omega) g2
theorem shortest_p {R : P} {rs : List RM.Row} (hR : Sq R (rowsP rs)) (g : RM.Good rs) (hb : Bd rs) (hl : rs.length ≤ 100000) (s : DS) : p_shortest [R] s = some (.ok (.tup (rowsP (RM.short rs))) s) := by
  obtain ⟨u1, u2⟩ := good_up g
  cases rs with
  | nil => exact g.elim
  | cons r rs =>
    refine fun_rt (s1 := s) rfl ?_
    unfold p_b_shortest
    have h0 := sq_ix (s := s) hR (i := 0) (k := 0) rfl (rows_at (rs := r :: rs) rfl)
    have h1 : qIx (rowP r) (.int 1) s = some (.ok (.int r.2.1) s) := rfl
    refine (seq_nx (ρ1 := [some (.sh R), some (.ow (.lst [])), none, none, none, none, none, none, none, none, none, none]) (s1 := s) (by simp [PL.inE, PL.pfun, PL.pRet, PL.pRetN, PL.pDrop, PL.pSet, PL.pSetH, PL.pSetO, PL.pSetOH, PL.pIf, PL.pSeq, PL.pSkip, PL.pApp, PL.pAppH, PL.pAsg, PL.pAsgH, PL.pPar2, PL.pPar3, PL.jN, PL.jT, PL.jC, PL.jE, PL.pIfE, PL.pB, PL.ptoB, PL.pOp, PL.pVar, PL.pC, PL.vA, PL.vH, PL.slA_sh, PL.slA_ow, PL.slA_no, PL.slH_sh, PL.slH_ow, PL.slH_no, PL.qI, PL.qIc, PL.qAdd, PL.pCB, PL.pCons, PL.pNil, PL.pTup, PL.pL, PL.fLst, PL.pAnd, PL.pOr, PL.pNot, PL.pTAnd, PL.pTOr, PL.pTNot, PL.pIsN, PL.isNonP, PL.pIsi, PL.pty, PL.pAttr, PL.pget, PL.gLen_lst, PL.gLen_tup, PL.pbS, PL.pbH, PL.kp, PL.kps, PL.nr, PL.nrs, PL.nl, PL.nls, PL.oL, PL.frz, PL.frzS, PL.pFz, PL.pChain, PL.pNeg, PL.pRaise, PL.pRaiseH, PL.x2s, PL.x1, PL.x2, PL.x2t, ML.tabInt, ML.tabBool, ML.LIM, PL.pBrk, PL.pCont, PL.gInt, PL.gMax2, PL.gMin2, PL.gAbs])).trans ?_
    refine (seq_nx (ρ1 := shE R ⟨[], 0, r.2.1, none, r.2.1⟩ none none none none none none) (s1 := s) (by unfold shE; simp [PL.inE, PL.pfun, PL.pRet, PL.pRetN, PL.pDrop, PL.pSet, PL.pSetH, PL.pSetO, PL.pSetOH, PL.pIf, PL.pSeq, PL.pSkip, PL.pApp, PL.pAppH, PL.pAsg, PL.pAsgH, PL.pPar2, PL.pPar3, PL.jN, PL.jT, PL.jC, PL.jE, PL.pIfE, PL.pB, PL.ptoB, PL.pOp, PL.pVar, PL.pC, PL.vA, PL.vH, PL.slA_sh, PL.slA_ow, PL.slA_no, PL.slH_sh, PL.slH_ow, PL.slH_no, PL.qI, PL.qIc, PL.qAdd, PL.pCB, PL.pCons, PL.pNil, PL.pTup, PL.pL, PL.fLst, PL.pAnd, PL.pOr, PL.pNot, PL.pTAnd, PL.pTOr, PL.pTNot, PL.pIsN, PL.isNonP, PL.pIsi, PL.pty, PL.pAttr, PL.pget, PL.gLen_lst, PL.gLen_tup, PL.pbS, PL.pbH, PL.kp, PL.kps, PL.nr, PL.nrs, PL.nl, PL.nls, PL.oL, PL.frz, PL.frzS, PL.pFz, PL.pChain, PL.pNeg, PL.pRaise, PL.pRaiseH, PL.x2s, PL.x1, PL.x2, PL.x2t, ML.tabInt, ML.tabBool, ML.LIM, PL.pBrk, PL.pCont, PL.gInt, PL.gMax2, PL.gMin2, PL.gAbs, h0, h1, stP, rowsP])).trans ?_
    obtain ⟨p6, p7, p8, p9, p10, p11, e⟩ := sh_outer hR s (r :: rs) [] ⟨[], 0, r.2.1, none, r.2.1⟩ none none none none none none rfl (by simp at hl ⊢; omega) (fun x hx => ⟨u1 x hx, hb x hx⟩) u2
    refine (seq_nx ((pfor_eq (ps := peItems 0 (rowsP (r :: rs))) (s1 := s) ?_).trans e)).trans ?_
    · unfold shE
      rcases hR with rfl | rfl <;> simp [PL.inE, PL.pfun, PL.pRet, PL.pRetN, PL.pDrop, PL.pSet, PL.pSetH, PL.pSetO, PL.pSetOH, PL.pIf, PL.pSeq, PL.pSkip, PL.pApp, PL.pAppH, PL.pAsg, PL.pAsgH, PL.pPar2, PL.pPar3, PL.jN, PL.jT, PL.jC, PL.jE, PL.pIfE, PL.pB, PL.ptoB, PL.pOp, PL.pVar, PL.pC, PL.vA, PL.vH, PL.slA_sh, PL.slA_ow, PL.slA_no, PL.slH_sh, PL.slH_ow, PL.slH_no, PL.qI, PL.qIc, PL.qAdd, PL.pCB, PL.pCons, PL.pNil, PL.pTup, PL.pL, PL.fLst, PL.pAnd, PL.pOr, PL.pNot, PL.pTAnd, PL.pTOr, PL.pTNot, PL.pIsN, PL.isNonP, PL.pIsi, PL.pty, PL.pAttr, PL.pget, PL.gLen_lst, PL.gLen_tup, PL.pbS, PL.pbH, PL.kp, PL.kps, PL.nr, PL.nrs, PL.nl, PL.nls, PL.oL, PL.frz, PL.frzS, PL.pFz, PL.pChain, PL.pNeg, PL.pRaise, PL.pRaiseH, PL.x2s, PL.x1, PL.x2, PL.x2t, ML.tabInt, ML.tabBool, ML.LIM, PL.pBrk, PL.pCont, PL.gInt, PL.gMax2, PL.gMin2, PL.gAbs, pIEn]
    · obtain ⟨S, hS⟩ : ∃ S, S = RM.runRs (r :: rs) ⟨[], 0, r.2.1, none, r.2.1⟩ := ⟨_, rfl⟩
      have hlen : S.done.length ≤ 900000 := by
        have : ∀ (rs : List RM.Row) (S : RM.S), (RM.runRs rs S).done.length ≤ S.done.length + 3 * rs.length := by
          intro rs
          induction rs with
          | nil => intro S; exact Nat.le_refl _
          | cons x xs ih =>
            intro S
            have := ih (RM.runR x (RM.afterOf xs x) S)
            have := RM.runR_len x (RM.afterOf xs x) S
            show (RM.runRs xs (RM.runR x (RM.afterOf xs x) S)).done.length ≤ _
            simp only [List.length_cons]
            omega
        have := this (r :: rs) ⟨[], 0, r.2.1, none, r.2.1⟩
        rw [← hS] at this
        simp at this hl
        omega
      have hsh : RM.short (r :: rs) = S.done ++ [(S.b, S.f, true)] := by rw [hS]; rfl
      rw [← hS, hsh]
      unfold shE
      have : S.done.length < 1000000 := by omega
      simp [PL.inE, PL.pfun, PL.pRet, PL.pRetN, PL.pDrop, PL.pSet, PL.pSetH, PL.pSetO, PL.pSetOH, PL.pIf, PL.pSeq, PL.pSkip, PL.pApp, PL.pAppH, PL.pAsg, PL.pAsgH, PL.pPar2, PL.pPar3, PL.jN, PL.jT, PL.jC, PL.jE, PL.pIfE, PL.pB, PL.ptoB, PL.pOp, PL.pVar, PL.pC, PL.vA, PL.vH, PL.slA_sh, PL.slA_ow, PL.slA_no, PL.slH_sh, PL.slH_ow, PL.slH_no, PL.qI, PL.qIc, PL.qAdd, PL.pCB, PL.pCons, PL.pNil, PL.pTup, PL.pL, PL.fLst, PL.pAnd, PL.pOr, PL.pNot, PL.pTAnd, PL.pTOr, PL.pTNot, PL.pIsN, PL.isNonP, PL.pIsi, PL.pty, PL.pAttr, PL.pget, PL.gLen_lst, PL.gLen_tup, PL.pbS, PL.pbH, PL.kp, PL.kps, PL.nr, PL.nrs, PL.nl, PL.nls, PL.oL, PL.frz, PL.frzS, PL.pFz, PL.pChain, PL.pNeg, PL.pRaise, PL.pRaiseH, PL.x2s, PL.x1, PL.x2, PL.x2t, ML.tabInt, ML.tabBool, ML.LIM, PL.pBrk, PL.pCont, PL.gInt, PL.gMax2, PL.gMin2, PL.gAbs, rowsP, rowP, this, gTuple]
/-- the object of a rising map -/
def mapP (rs : List RM.Row) : P := .ins n_Rising ["rows"] [.tup (rowsP rs)]
theorem init_p {R : P} {rs : List RM.Row} (hR : Sq R (rowsP rs)) (g : RM.Good rs) (hb : Bd rs) (hl : rs.length ≤ 100000) (s : DS) : p_Rising___init__ [R] s = some (.ok ([("rows" : Str)], [.tup (rowsP (RM.short rs))]) s) := by
  have e1 := check_rows_p (.inl rfl : Sq (.lst (rowsP rs)) (rowsP rs)) g hl s
  have e2 := shortest_p (.inl rfl : Sq (.lst (rowsP rs)) (rowsP rs)) g hb hl s
  unfold p_Rising___init__ p_b_Rising___init__ pinit pSetAt
  rcases hR with rfl | rfl
  · simp [PL.inE, PL.pfun, PL.pRet, PL.pRetN, PL.pDrop, PL.pSet, PL.pSetH, PL.pSetO, PL.pSetOH, PL.pIf, PL.pSeq, PL.pSkip, PL.pApp, PL.pAppH, PL.pAsg, PL.pAsgH, PL.pPar2, PL.pPar3, PL.jN, PL.jT, PL.jC, PL.jE, PL.pIfE, PL.pB, PL.ptoB, PL.pOp, PL.pVar, PL.pC, PL.vA, PL.vH, PL.slA_sh, PL.slA_ow, PL.slA_no, PL.slH_sh, PL.slH_ow, PL.slH_no, PL.qI, PL.qIc, PL.qAdd, PL.pCB, PL.pCons, PL.pNil, PL.pTup, PL.pL, PL.fLst, PL.pAnd, PL.pOr, PL.pNot, PL.pTAnd, PL.pTOr, PL.pTNot, PL.pIsN, PL.isNonP, PL.pIsi, PL.pty, PL.pAttr, PL.pget, PL.gLen_lst, PL.gLen_tup, PL.pbS, PL.pbH, PL.kp, PL.kps, PL.nr, PL.nrs, PL.nl, PL.nls, PL.oL, PL.frz, PL.frzS, PL.pFz, PL.pChain, PL.pNeg, PL.pRaise, PL.pRaiseH, PL.x2s, PL.x1, PL.x2, PL.x2t, ML.tabInt, ML.tabBool, ML.LIM, PL.pBrk, PL.pCont, PL.gInt, PL.gMax2, PL.gMin2, PL.gAbs, fCopy, e1, e2, at_rows_i, pputF, pputW]
  · simp [PL.inE, PL.pfun, PL.pRet, PL.pRetN, PL.pDrop, PL.pSet, PL.pSetH, PL.pSetO, PL.pSetOH, PL.pIf, PL.pSeq, PL.pSkip, PL.pApp, PL.pAppH, PL.pAsg, PL.pAsgH, PL.pPar2, PL.pPar3, PL.jN, PL.jT, PL.jC, PL.jE, PL.pIfE, PL.pB, PL.ptoB, PL.pOp, PL.pVar, PL.pC, PL.vA, PL.vH, PL.slA_sh, PL.slA_ow, PL.slA_no, PL.slH_sh, PL.slH_ow, PL.slH_no, PL.qI, PL.qIc, PL.qAdd, PL.pCB, PL.pCons, PL.pNil, PL.pTup, PL.pL, PL.fLst, PL.pAnd, PL.pOr, PL.pNot, PL.pTAnd, PL.pTOr, PL.pTNot, PL.pIsN, PL.isNonP, PL.pIsi, PL.pty, PL.pAttr, PL.pget, PL.gLen_lst, PL.gLen_tup, PL.pbS, PL.pbH, PL.kp, PL.kps, PL.nr, PL.nrs, PL.nl, PL.nls, PL.oL, PL.frz, PL.frzS, PL.pFz, PL.pChain, PL.pNeg, PL.pRaise, PL.pRaiseH, PL.x2s, PL.x1, PL.x2, PL.x2t, ML.tabInt, ML.tabBool, ML.LIM, PL.pBrk, PL.pCont, PL.gInt, PL.gMax2, PL.gMin2, PL.gAbs, fCopy, e1, e2, at_rows_i, pputF, pputW]
/-- Rising(rows): rows that give the values A -/
theorem make_p {es : PA} {ρ : PEv} {s s1 : DS} {R : P} {rs : List RM.Row} (he : es ρ s = some (.ok [R] s1)) (hR : Sq R (rowsP rs)) (g : RM.Good rs) (hb : Bd rs) (hl : rs.length ≤ 100000) {A : Int → Int} {n : Nat} (hr : RM.Rf A n) (hv : ∀ t, 0 ≤ t → RM.val rs t = A t) :
    pMake n_Rising p_Rising___init__ es ρ s = some (.ok (mapP (RM.rows A n)) s1) := by
  unfold pMake
  rw [he]
  simp only [pb_ok]
  rw [init_p hR g hb hl s1, RM.short_rows g hr hv]
  rfl
end K09

set_option maxHeartbeats 4000000
namespace K09
open PySem L2 ML PL
/-! the value at a minute -/
theorem val_find : ∀ (rs : List RM.Row) (b : RM.Row) (t : Int), RM.GoodFrom b rs → b.1 ≤ t → ∀ (k : Nat) (x : RM.Row), (b :: rs)[k]? = some x → x.1 ≤ t → (∀ y, (b :: rs)[k + 1]? = some y → t < y.1) → RM.valF b rs t = RM.rv x t
  | [], b, t, g, hb, 0, x, e, h1, h2 => by simp at e; subst e; rfl
  | [], b, t, g, hb, k + 1, x, e, h1, h2 => by simp at e
  | q :: rs, b, t, g, hb, 0, x, e, h1, h2 => by
    simp at e; subst e
    have := h2 q rfl
    show (if t < q.1 then RM.rv b t else _) = _
    rw [if_pos this]
  | q :: rs, b, t, g, hb, k + 1, x, e, h1, h2 => by
    have e' : (q :: rs)[k]? = some x := by simpa using e
    have hq : q.1 ≤ t := by
      have up := (good_up (rs := (0, 0, true) :: q :: rs) |> fun _ => True.intro)
      have : ∀ (rs : List RM.Row) (b : RM.Row), RM.GoodFrom b rs → ∀ (k : Nat) x, (b :: rs)[k]? = some x → b.1 ≤ x.1 := by
        intro rs
        induction rs with
        | nil => intro b g k x e; cases k with
          | zero => simp at e; subst e; exact Int.le_refl _
          | succ k => simp at e
        | cons z rs ih => intro b g k x e; cases k with
          | zero => simp at e; subst e; exact Int.le_refl _
          | succ k => have := ih z g.2.2 k x (by simpa using e); have := g.1.1; omega
      have := this rs q g.2.2 k x e'
      omega
    show (if t < q.1 then RM.rv b t else RM.valF q rs t) = _
    rw [if_neg (by omega)]
    exact val_find rs q t g.2.2 hq k x e' h1 (fun y ey => h2 y (by simpa using ey))
theorem mono_prt {rs : List RM.Row} (g : RM.Good rs) {k : Int} (hk : k = 0 ∨ k = 1) : ∀ (i j : Nat) (a b : RM.Row), i ≤ j → rs[i]? = some a → rs[j]? = some b → prt k a ≤ prt k b := by
  have h : ∀ (n i : Nat) (a b : RM.Row), rs[i]? = some a → rs[i + n]? = some b → prt k a ≤ prt k b := by
    intro n
    induction n with
    | zero => intro i a b e1 e2; rw [Nat.add_zero, e1] at e2; cases e2; exact Int.le_refl _
    | succ n ih =>
      intro i a b e1 e2
      have hl := (List.getElem?_eq_some_iff.mp e2).1
      obtain ⟨c, ec⟩ : ∃ c, rs[i + n]? = some c := ⟨rs[i + n]'(by omega), by simp⟩
      have h1 := ih i a c e1 ec
      obtain ⟨b0, rest, rfl⟩ : ∃ b rest, rs = b :: rest := by
        cases rs with
        | nil => exact g.elim
        | cons b rest => exact ⟨b, rest, rfl⟩
      obtain ⟨g0, g1, g2⟩ := g
      have f := (good_at rest b0 (by omega) g2 (i + n + 1) b e2).2.2 c (by omega) (by simpa using ec)
      have v := (good_at rest b0 (by omega) g2 (i + n) c ec).1
      have : prt k c ≤ prt k b := by
        unfold prt
        rcases hk with rfl | rfl
        · simp; exact Int.le_of_lt f.1
        · simp
          have f1 := f.1
          have f3 := f.2.2
          unfold RM.rv at f3
          split at f3 <;> omega
      omega
  intro i j a b hij e1 e2
  exact h (j - i) i a b e1 (by rw [show i + (j - i) = j by omega]; exact e2)
theorem rows_attr {rs : List RM.Row} {o : PE} {ρ : PEv} {s s1 : DS} (h : o ρ s = some (.ok (mapP rs) s1)) : pAttr ("rows" : Str) at_rows_i at_rows_e o ρ s = some (.ok (.tup (rowsP rs)) s1) := by
  unfold pAttr
  rw [h]
  rfl
theorem call_p {A : Int → Int} {n : Nat} (hr : RM.Rf A n) {t : Int} (ht : 0 ≤ t) (s : DS) : p_Rising___call__ [mapP (RM.rows A n), .int t] s = some (.ok (.int (A t)) s) := by
  obtain ⟨g, hv⟩ := RM.rows_facts hr
  obtain ⟨rs, hrs⟩ : ∃ rs, rs = RM.rows A n := ⟨_, rfl⟩
  rw [← hrs] at g hv ⊢
  obtain ⟨r, r1, r2, r3, e⟩ := last_place_p (.inr rfl : Sq (.tup (rowsP rs)) (rowsP rs)) (k := 0) (lim := t) (.inl rfl) s (mono_prt g (.inl rfl))
  obtain ⟨b, rest, rfl⟩ : ∃ b rest, rs = b :: rest := by
    cases rs with
    | nil => exact g.elim
    | cons b rest => exact ⟨b, rest, rfl⟩
  obtain ⟨g0, g1, g2⟩ := g
  have hr0 : 0 < r := by
    rcases Nat.eq_zero_or_pos r with z | z
    · subst z
      have := r3 0 b (Nat.le_refl _) rfl
      unfold prt at this
      simp at this
      omega
    · exact z
  obtain ⟨x, hx⟩ : ∃ x, (b :: rest)[r - 1]? = some x := ⟨(b :: rest)[r - 1]'(by omega), by simp⟩
  have v1 := r2 (r - 1) x (by omega) hx
  have hval : A t = RM.rv x t := by
    rw [← hv t ht]
    refine val_find rest b t g2 (by omega) (r - 1) x hx (by simpa [prt] using v1) fun y ey => ?_
    have := r3 r y (Nat.le_refl _) (by rw [show r - 1 + 1 = r by omega] at ey; exact ey)
    simpa [prt] using this
  have ix := sq_ix (s := s) (i := (r : Int) - 1) (.inr rfl : Sq (.tup (rowsP (b :: rest))) (rowsP (b :: rest))) (k := r - 1) (by omega) (rows_at hx)
  have rvx := row_value_p x t s
  have cn := check_number_lo "minute" t 0 s ht
  refine fun_rt (s1 := s) rfl ?_
  unfold p_b_Rising___call__
  refine (seq_nx (ρ1 := [some (.sh (mapP (b :: rest))), some (.sh (.int t))]) (s1 := s) (by simp [PL.inE, PL.pfun, PL.pRet, PL.pRetN, PL.pDrop, PL.pSet, PL.pSetH, PL.pSetO, PL.pSetOH, PL.pIf, PL.pSeq, PL.pSkip, PL.pApp, PL.pAppH, PL.pAsg, PL.pAsgH, PL.pPar2, PL.pPar3, PL.jN, PL.jT, PL.jC, PL.jE, PL.pIfE, PL.pB, PL.ptoB, PL.pOp, PL.pVar, PL.pC, PL.vA, PL.vH, PL.slA_sh, PL.slA_ow, PL.slA_no, PL.slH_sh, PL.slH_ow, PL.slH_no, PL.qI, PL.qIc, PL.qAdd, PL.pCB, PL.pCons, PL.pNil, PL.pTup, PL.pL, PL.fLst, PL.pAnd, PL.pOr, PL.pNot, PL.pTAnd, PL.pTOr, PL.pTNot, PL.pIsN, PL.isNonP, PL.pIsi, PL.pty, PL.pAttr, PL.pget, PL.gLen_lst, PL.gLen_tup, PL.pbS, PL.pbH, PL.kp, PL.kps, PL.nr, PL.nrs, PL.nl, PL.nls, PL.oL, PL.frz, PL.frzS, PL.pFz, PL.pChain, PL.pNeg, PL.pRaise, PL.pRaiseH, PL.x2s, PL.x1, PL.x2, PL.x2t, ML.tabInt, ML.tabBool, ML.LIM, PL.pBrk, PL.pCont, PL.gInt, PL.gMax2, PL.gMin2, PL.gAbs, cn])).trans ?_
  have at1 : pAttr ("rows" : Str) at_rows_i at_rows_e (pVar 0) [some (mapP (b :: rest)), some (.int t)] s = some (.ok (.tup (rowsP (b :: rest))) s) := rows_attr rfl
  show pRet _ [some (.sh (mapP (b :: rest))), some (.sh (.int t))] s = _
  unfold pRet
  have e1 : pCB p_last_place (pCons (pAttr ("rows" : Str) at_rows_i at_rows_e (pVar 0)) (pCons (pC (.int 0)) (pCons (pVar 1) pNil))) [some (mapP (b :: rest)), some (.int t)] s = some (.ok (.int ((r : Int) - 1)) s) := by
    unfold pCB pCons
    rw [at1]
    exact e
  have e2 : pOp qIx (pAttr ("rows" : Str) at_rows_i at_rows_e (pVar 0)) (pCB p_last_place (pCons (pAttr ("rows" : Str) at_rows_i at_rows_e (pVar 0)) (pCons (pC (.int 0)) (pCons (pVar 1) pNil)))) [some (mapP (b :: rest)), some (.int t)] s = some (.ok (rowP x) s) := by
    unfold pOp
    rw [at1]
    simp only [pb_ok]
    rw [e1]
    exact ix
  have e3 : pCB p_row_value (pCons (pOp qIx (pAttr ("rows" : Str) at_rows_i at_rows_e (pVar 0)) (pCB p_last_place (pCons (pAttr ("rows" : Str) at_rows_i at_rows_e (pVar 0)) (pCons (pC (.int 0)) (pCons (pVar 1) pNil))))) (pCons (pVar 1) pNil)) [some (mapP (b :: rest)), some (.int t)] s = some (.ok (.int (A t)) s) := by
    have : pCons (pOp qIx (pAttr ("rows" : Str) at_rows_i at_rows_e (pVar 0)) (pCB p_last_place (pCons (pAttr ("rows" : Str) at_rows_i at_rows_e (pVar 0)) (pCons (pC (.int 0)) (pCons (pVar 1) pNil))))) (pCons (pVar 1) pNil) [some (mapP (b :: rest)), some (.int t)] s = some (.ok [rowP x, .int t] s) := by
      show pb (pOp qIx _ _ _ s) _ = _
      rw [e2]
      rfl
    show pb (pCons (pOp qIx _ _) _ _ s) _ = _
    rw [this]
    simp only [pb_ok]
    rw [rvx, hval]
  show (match pCB p_row_value _ [some (mapP (b :: rest)), some (.int t)] s with | some (.ok p s1) => some (Pq.rt p s1) | some (.ex c fs ws s1) => _ | none => none) = _
  rw [e3]
end K09

set_option maxHeartbeats 4000000
namespace K09
open PySem L2 ML PL
/-! the laws' own values and rows -/
def intsP (vs : List Int) : List P := vs.map P.int
theorem ints_at {vs : List Int} {k : Nat} {v : Int} (e : vs[k]? = some v) : (intsP vs)[k]? = some (.int v) := by
  unfold intsP
  rw [List.getElem?_map, e]
  rfl
theorem ints_len (vs : List Int) : (intsP vs).length = vs.length := by unfold intsP; simp
def atV (vs : List Int) (t : Int) : Int := if t < vs.length then (vs[t.toNat]?).getD 0 else (vs[vs.length - 1]?).getD 0 + t - vs.length + 1
theorem last_ix {vs : List Int} (hn : vs ≠ []) (s : DS) : qIx (.lst (intsP vs)) (.int (-1)) s = some (.ok (.int ((vs[vs.length - 1]?).getD 0)) s) := by
  have h0 := List.length_pos_iff.mpr hn
  obtain ⟨v, hv⟩ : ∃ v, vs[vs.length - 1]? = some v := ⟨vs[vs.length - 1]'(by omega), by simp⟩
  have e : atI (intsP vs) (-1) = some (.int v) := by
    unfold atI ixN
    rw [ints_len, if_neg (by omega), if_pos (by omega)]
    simp only [Option.bind_some]
    rw [show (-1 + (vs.length : Int)).toNat = vs.length - 1 by omega, ints_at hv]
  show (match atI (intsP vs) (-1) with | some w => some (Pz.ok w s) | none => none) = _
  rw [e, hv]
  rfl
theorem at_p {vs : List Int} (hn : vs ≠ []) {t : Int} (ht : 0 ≤ t) (s : DS) : p__law_at [.lst (intsP vs), .int t] s = some (.ok (.int (atV vs t)) s) := by
  unfold p__law_at p_b__law_at atV
  have hl := last_ix hn s
  by_cases hc : t < vs.length
  · have hk : t.toNat < vs.length := by omega
    have e1 : qIx (.lst (intsP vs)) (.int t) s = some (.ok (.int ((vs[t.toNat]?).getD 0)) s) := by
      have : (intsP vs)[t.toNat]? = some (.int ((vs[t.toNat]?).getD 0)) := by
        rw [ints_at (v := vs[t.toNat]'hk) (by simp [hk])]
        simp [hk]
      exact sq_ix (.inl rfl) (by omega) this
    simp [PL.inE, PL.pfun, PL.pRet, PL.pRetN, PL.pDrop, PL.pSet, PL.pSetH, PL.pSetO, PL.pSetOH, PL.pIf, PL.pSeq, PL.pSkip, PL.pApp, PL.pAppH, PL.pAsg, PL.pAsgH, PL.pPar2, PL.pPar3, PL.jN, PL.jT, PL.jC, PL.jE, PL.pIfE, PL.pB, PL.ptoB, PL.pOp, PL.pVar, PL.pC, PL.vA, PL.vH, PL.slA_sh, PL.slA_ow, PL.slA_no, PL.slH_sh, PL.slH_ow, PL.slH_no, PL.qI, PL.qIc, PL.qAdd, PL.pCB, PL.pCons, PL.pNil, PL.pTup, PL.pL, PL.fLst, PL.pAnd, PL.pOr, PL.pNot, PL.pTAnd, PL.pTOr, PL.pTNot, PL.pIsN, PL.isNonP, PL.pIsi, PL.pty, PL.pAttr, PL.pget, PL.gLen_lst, PL.gLen_tup, PL.pbS, PL.pbH, PL.kp, PL.kps, PL.nr, PL.nrs, PL.nl, PL.nls, PL.oL, PL.frz, PL.frzS, PL.pFz, PL.pChain, PL.pNeg, PL.pRaise, PL.pRaiseH, PL.x2s, PL.x1, PL.x2, PL.x2t, ML.tabInt, ML.tabBool, ML.LIM, PL.pBrk, PL.pCont, PL.gInt, PL.gMax2, PL.gMin2, PL.gAbs, ints_len, hc, e1]
  · simp [PL.inE, PL.pfun, PL.pRet, PL.pRetN, PL.pDrop, PL.pSet, PL.pSetH, PL.pSetO, PL.pSetOH, PL.pIf, PL.pSeq, PL.pSkip, PL.pApp, PL.pAppH, PL.pAsg, PL.pAsgH, PL.pPar2, PL.pPar3, PL.jN, PL.jT, PL.jC, PL.jE, PL.pIfE, PL.pB, PL.ptoB, PL.pOp, PL.pVar, PL.pC, PL.vA, PL.vH, PL.slA_sh, PL.slA_ow, PL.slA_no, PL.slH_sh, PL.slH_ow, PL.slH_no, PL.qI, PL.qIc, PL.qAdd, PL.pCB, PL.pCons, PL.pNil, PL.pTup, PL.pL, PL.fLst, PL.pAnd, PL.pOr, PL.pNot, PL.pTAnd, PL.pTOr, PL.pTNot, PL.pIsN, PL.isNonP, PL.pIsi, PL.pty, PL.pAttr, PL.pget, PL.gLen_lst, PL.gLen_tup, PL.pbS, PL.pbH, PL.kp, PL.kps, PL.nr, PL.nrs, PL.nl, PL.nls, PL.oL, PL.frz, PL.frzS, PL.pFz, PL.pChain, PL.pNeg, PL.pRaise, PL.pRaiseH, PL.x2s, PL.x1, PL.x2, PL.x2t, ML.tabInt, ML.tabBool, ML.LIM, PL.pBrk, PL.pCont, PL.gInt, PL.gMax2, PL.gMin2, PL.gAbs, ints_len, hc, hl]
noncomputable abbrev giB : PL.PS := (pSeq (pSetH 8 (pOp qSub (pCB p__law_at (pCons (pVar 0) (pCons (pOp qAdd (pVar 7) (pC (.int 1))) pNil))) (pCB p__law_at (pCons (pVar 0) (pCons (pVar 7) pNil)))))
    (pSeq (pIf (pTOr (pB (pOp qGt (pVar 5) (pC (.int 1)))) (pB (pOp (PL.qEq true) (pVar 8) (pVar 5))))
    pBrk
    pSkip)
    (pSetH 6 (pOp qAdd (pVar 7) (pC (.int 1))))))
theorem gi_loop {vs : List Int} (hn : vs ≠ []) (step : Int) (o1 o2 o3 o4 : Option Sl) (s : DS) : ∀ (k : Nat) (m : Int) (o7 o8 : Option Sl), 0 ≤ m →
    ∃ p7 p8, pForC (jN 7) giB (pItems m k) [some (.sh (.lst (intsP vs))), o1, o2, o3, o4, some (.sh (.int step)), some (.sh (.int m)), o7, o8] s = some (.nx [some (.sh (.lst (intsP vs))), o1, o2, o3, o4, some (.sh (.int step)), some (.sh (.int (RM.grI (atV vs) step k m))), p7, p8] s)
  | 0, m, o7, o8, hm => ⟨o7, o8, rfl⟩
  | k + 1, m, o7, o8, hm => by
    rw [pitems_succ]
    have a1 := at_p hn (t := m + 1) (by omega) s
    have a2 := at_p hn (t := m) hm s
    by_cases c : step > 1 ∨ atV vs (m + 1) - atV vs m ≠ step
    · refine ⟨some (.sh (.int m)), some (.sh (.int (atV vs (m + 1) - atV vs m))), ?_⟩
      rw [show RM.grI (atV vs) step (k + 1) m = m by show (if _ then _ else _) = _; rw [if_pos c]]
      rw [pforC_bk (ρ1 := [some (.sh (.lst (intsP vs))), o1, o2, o3, o4, some (.sh (.int step)), some (.sh (.int m)), some (.sh (.int m)), o8]) rfl (ρ2 := [some (.sh (.lst (intsP vs))), o1, o2, o3, o4, some (.sh (.int step)), some (.sh (.int m)), some (.sh (.int m)), some (.sh (.int (atV vs (m + 1) - atV vs m)))]) (s2 := s) ?_]
      rcases c with c | c
      · simp [PL.inE, PL.pfun, PL.pRet, PL.pRetN, PL.pDrop, PL.pSet, PL.pSetH, PL.pSetO, PL.pSetOH, PL.pIf, PL.pSeq, PL.pSkip, PL.pApp, PL.pAppH, PL.pAsg, PL.pAsgH, PL.pPar2, PL.pPar3, PL.jN, PL.jT, PL.jC, PL.jE, PL.pIfE, PL.pB, PL.ptoB, PL.pOp, PL.pVar, PL.pC, PL.vA, PL.vH, PL.slA_sh, PL.slA_ow, PL.slA_no, PL.slH_sh, PL.slH_ow, PL.slH_no, PL.qI, PL.qIc, PL.qAdd, PL.pCB, PL.pCons, PL.pNil, PL.pTup, PL.pL, PL.fLst, PL.pAnd, PL.pOr, PL.pNot, PL.pTAnd, PL.pTOr, PL.pTNot, PL.pIsN, PL.isNonP, PL.pIsi, PL.pty, PL.pAttr, PL.pget, PL.gLen_lst, PL.gLen_tup, PL.pbS, PL.pbH, PL.kp, PL.kps, PL.nr, PL.nrs, PL.nl, PL.nls, PL.oL, PL.frz, PL.frzS, PL.pFz, PL.pChain, PL.pNeg, PL.pRaise, PL.pRaiseH, PL.x2s, PL.x1, PL.x2, PL.x2t, ML.tabInt, ML.tabBool, ML.LIM, PL.pBrk, PL.pCont, PL.gInt, PL.gMax2, PL.gMin2, PL.gAbs, a1, a2, c]
      · by_cases c1 : 1 < step <;> simp [PL.inE, PL.pfun, PL.pRet, PL.pRetN, PL.pDrop, PL.pSet, PL.pSetH, PL.pSetO, PL.pSetOH, PL.pIf, PL.pSeq, PL.pSkip, PL.pApp, PL.pAppH, PL.pAsg, PL.pAsgH, PL.pPar2, PL.pPar3, PL.jN, PL.jT, PL.jC, PL.jE, PL.pIfE, PL.pB, PL.ptoB, PL.pOp, PL.pVar, PL.pC, PL.vA, PL.vH, PL.slA_sh, PL.slA_ow, PL.slA_no, PL.slH_sh, PL.slH_ow, PL.slH_no, PL.qI, PL.qIc, PL.qAdd, PL.pCB, PL.pCons, PL.pNil, PL.pTup, PL.pL, PL.fLst, PL.pAnd, PL.pOr, PL.pNot, PL.pTAnd, PL.pTOr, PL.pTNot, PL.pIsN, PL.isNonP, PL.pIsi, PL.pty, PL.pAttr, PL.pget, PL.gLen_lst, PL.gLen_tup, PL.pbS, PL.pbH, PL.kp, PL.kps, PL.nr, PL.nrs, PL.nl, PL.nls, PL.oL, PL.frz, PL.frzS, PL.pFz, PL.pChain, PL.pNeg, PL.pRaise, PL.pRaiseH, PL.x2s, PL.x1, PL.x2, PL.x2t, ML.tabInt, ML.tabBool, ML.LIM, PL.pBrk, PL.pCont, PL.gInt, PL.gMax2, PL.gMin2, PL.gAbs, a1, a2, c, c1, PL.qEq, sEqP]
    · have c1 : ¬ 1 < step := fun q => c (.inl q)
      have c2 : atV vs (m + 1) - atV vs m = step := Classical.byContradiction fun q => c (.inr q)
      obtain ⟨p7, p8, e⟩ := gi_loop hn step o1 o2 o3 o4 s k (m + 1) (some (.sh (.int m))) (some (.sh (.int (atV vs (m + 1) - atV vs m)))) (by omega)
      refine ⟨p7, p8, ?_⟩
      rw [show RM.grI (atV vs) step (k + 1) m = RM.grI (atV vs) step k (m + 1) by show (if _ then _ else _) = _; rw [if_neg c]]
      rw [pforC_nx (ρ1 := [some (.sh (.lst (intsP vs))), o1, o2, o3, o4, some (.sh (.int step)), some (.sh (.int m)), some (.sh (.int m)), o8]) rfl (ρ2 := [some (.sh (.lst (intsP vs))), o1, o2, o3, o4, some (.sh (.int step)), some (.sh (.int (m + 1))), some (.sh (.int m)), some (.sh (.int (atV vs (m + 1) - atV vs m)))]) (s2 := s) ?_]
      · exact e
      · simp [PL.inE, PL.pfun, PL.pRet, PL.pRetN, PL.pDrop, PL.pSet, PL.pSetH, PL.pSetO, PL.pSetOH, PL.pIf, PL.pSeq, PL.pSkip, PL.pApp, PL.pAppH, PL.pAsg, PL.pAsgH, PL.pPar2, PL.pPar3, PL.jN, PL.jT, PL.jC, PL.jE, PL.pIfE, PL.pB, PL.ptoB, PL.pOp, PL.pVar, PL.pC, PL.vA, PL.vH, PL.slA_sh, PL.slA_ow, PL.slA_no, PL.slH_sh, PL.slH_ow, PL.slH_no, PL.qI, PL.qIc, PL.qAdd, PL.pCB, PL.pCons, PL.pNil, PL.pTup, PL.pL, PL.fLst, PL.pAnd, PL.pOr, PL.pNot, PL.pTAnd, PL.pTOr, PL.pTNot, PL.pIsN, PL.isNonP, PL.pIsi, PL.pty, PL.pAttr, PL.pget, PL.gLen_lst, PL.gLen_tup, PL.pbS, PL.pbH, PL.kp, PL.kps, PL.nr, PL.nrs, PL.nl, PL.nls, PL.oL, PL.frz, PL.frzS, PL.pFz, PL.pChain, PL.pNeg, PL.pRaise, PL.pRaiseH, PL.x2s, PL.x1, PL.x2, PL.x2t, ML.tabInt, ML.tabBool, ML.LIM, PL.pBrk, PL.pCont, PL.gInt, PL.gMax2, PL.gMin2, PL.gAbs, a1, a2, c1, c2, PL.qEq, sEqP]
end K09

set_option maxHeartbeats 4000000
namespace K09
open PySem L2 ML PL
theorem grI_bd {A : Int → Int} {step : Int} : ∀ (k : Nat) (m : Int), m ≤ RM.grI A step k m ∧ RM.grI A step k m ≤ m + k
  | 0, m => by unfold RM.grI; omega
  | k + 1, m => by
    unfold RM.grI
    split
    · omega
    · have := grI_bd (A := A) (step := step) k (m + 1); omega
noncomputable abbrev goB : PL.PS := (pSeq (pSetH 4 (pCB p__law_at (pCons (pVar 0) (pCons (pVar 2) pNil))))
    (pSeq (pSetH 5 (pOp qSub (pCB p__law_at (pCons (pVar 0) (pCons (pOp qAdd (pVar 2) (pC (.int 1))) pNil))) (pVar 4)))
    (pSeq (pIf (pB (pOp qGe (pVar 2) (pOp qSub (pCB gLen (pCons (pVar 0) pNil)) (pC (.int 1)))))
    (pRet (pCB gTuple (pCons (pOp qAdd (pVar 1) (pL (fLst (pCons (pTup (pCons (pVar 2) (pCons (pVar 4) (pCons (pC (.bl true)) pNil)))) pNil)))) pNil)))
    pSkip)
    (pSeq (pSetH 6 (pVar 2))
    (pSeq (pFor (pIR2 (pVar 2) (pOp qSub (pCB gLen (pCons (pVar 0) pNil)) (pC (.int 1)))) (jN 7)
    giB)
    (pSeq (pIf (pTAnd (pB (pOp (PL.qEq false) (pVar 5) (pC (.int 1)))) (pB (pOp (PL.qEq false) (pVar 6) (pOp qSub (pCB gLen (pCons (pVar 0) pNil)) (pC (.int 1))))))
    (pRet (pCB gTuple (pCons (pOp qAdd (pVar 1) (pL (fLst (pCons (pTup (pCons (pVar 2) (pCons (pVar 4) (pCons (pC (.bl true)) pNil)))) pNil)))) pNil)))
    pSkip)
    (pSeq (pAppH 1 (pTup (pCons (pVar 2) (pCons (pVar 4) (pCons (pOp (PL.qEq false) (pVar 5) (pC (.int 1))) pNil)))))
    (pSetH 2 (pOp qAdd (pVar 6) (pC (.int 1)))))))))))
theorem rowsP_app (a : List RM.Row) (r : RM.Row) : rowsP (a ++ [r]) = rowsP a ++ [.tup [.int r.1, .int r.2.1, .bl r.2.2]] := by simp [rowsP, rowP]
theorem go_loop {vs : List Int} (hn : vs ≠ []) (hl : vs.length ≤ 100000) (s : DS) : ∀ (f : Nat) (k st : Int) (acc : List RM.Row) (o3 o4 o5 o6 o7 o8 : Option Sl), 0 ≤ st → st ≤ vs.length → (vs.length : Int) + 1 - st ≤ f → (acc.length : Int) ≤ st →
    pForC (jN 3) goB (pItems k f) [some (.sh (.lst (intsP vs))), some (.ow (.lst (rowsP acc))), some (.sh (.int st)), o3, o4, o5, o6, o7, o8] s = some (.rt (.tup (rowsP (RM.gr (atV vs) (vs.length - 1) f st acc))) s)
  | 0, k, st, acc, o3, o4, o5, o6, o7, o8, h0, h1, h2, h3 => by omega
  | f + 1, k, st, acc, o3, o4, o5, o6, o7, o8, h0, h1, h2, h3 => by
    rw [pitems_succ]
    have h9 := List.length_pos_iff.mpr hn
    have a1 := at_p hn (t := st) h0 s
    have a2 := at_p hn (t := st + 1) (by omega) s
    have hac : acc.length < 1000000 := by omega
    have hac2 : acc.length + 1 ≤ 1000000 := by omega
    obtain ⟨V0, hV0⟩ : ∃ v, v = P.lst (intsP vs) := ⟨_, rfl⟩
    have lenV : ∀ s, gLen [V0] s = some (.ok (.int (vs.length : Int)) s) := fun s => by rw [hV0, gLen_lst, ints_len]
    rw [← hV0] at a1 a2 ⊢
    have s1 : (pSetH 4 (pCB p__law_at (pCons (pVar 0) (pCons (pVar 2) pNil)))) [some (.sh V0), some (.ow (.lst (rowsP acc))), some (.sh (.int st)), some (.sh (.int k)), o4, o5, o6, o7, o8] s = some (.nx [some (.sh V0), some (.ow (.lst (rowsP acc))), some (.sh (.int st)), some (.sh (.int k)), some (.sh (.int (atV vs st))), o5, o6, o7, o8] s) := by simp [PL.inE, PL.pfun, PL.pRet, PL.pRetN, PL.pDrop, PL.pSet, PL.pSetH, PL.pSetO, PL.pSetOH, PL.pIf, PL.pSeq, PL.pSkip, PL.pApp, PL.pAppH, PL.pAsg, PL.pAsgH, PL.pPar2, PL.pPar3, PL.jN, PL.jT, PL.jC, PL.jE, PL.pIfE, PL.pB, PL.ptoB, PL.pOp, PL.pVar, PL.pC, PL.vA, PL.vH, PL.slA_sh, PL.slA_ow, PL.slA_no, PL.slH_sh, PL.slH_ow, PL.slH_no, PL.qI, PL.qIc, PL.qAdd, PL.pCB, PL.pCons, PL.pNil, PL.pTup, PL.pL, PL.fLst, PL.pAnd, PL.pOr, PL.pNot, PL.pTAnd, PL.pTOr, PL.pTNot, PL.pIsN, PL.isNonP, PL.pIsi, PL.pty, PL.pAttr, PL.pget, PL.gLen_lst, PL.gLen_tup, PL.pbS, PL.pbH, PL.kp, PL.kps, PL.nr, PL.nrs, PL.nl, PL.nls, PL.oL, PL.frz, PL.frzS, PL.pFz, PL.pChain, PL.pNeg, PL.pRaise, PL.pRaiseH, PL.x2s, PL.x1, PL.x2, PL.x2t, ML.tabInt, ML.tabBool, ML.LIM, PL.pBrk, PL.pCont, PL.gInt, PL.gMax2, PL.gMin2, PL.gAbs, a1]
    have s2 : (pSetH 5 (pOp qSub (pCB p__law_at (pCons (pVar 0) (pCons (pOp qAdd (pVar 2) (pC (.int 1))) pNil))) (pVar 4))) [some (.sh V0), some (.ow (.lst (rowsP acc))), some (.sh (.int st)), some (.sh (.int k)), some (.sh (.int (atV vs st))), o5, o6, o7, o8] s = some (.nx [some (.sh V0), some (.ow (.lst (rowsP acc))), some (.sh (.int st)), some (.sh (.int k)), some (.sh (.int (atV vs st))), some (.sh (.int (atV vs (st + 1) - atV vs st))), o6, o7, o8] s) := by simp [PL.inE, PL.pfun, PL.pRet, PL.pRetN, PL.pDrop, PL.pSet, PL.pSetH, PL.pSetO, PL.pSetOH, PL.pIf, PL.pSeq, PL.pSkip, PL.pApp, PL.pAppH, PL.pAsg, PL.pAsgH, PL.pPar2, PL.pPar3, PL.jN, PL.jT, PL.jC, PL.jE, PL.pIfE, PL.pB, PL.ptoB, PL.pOp, PL.pVar, PL.pC, PL.vA, PL.vH, PL.slA_sh, PL.slA_ow, PL.slA_no, PL.slH_sh, PL.slH_ow, PL.slH_no, PL.qI, PL.qIc, PL.qAdd, PL.pCB, PL.pCons, PL.pNil, PL.pTup, PL.pL, PL.fLst, PL.pAnd, PL.pOr, PL.pNot, PL.pTAnd, PL.pTOr, PL.pTNot, PL.pIsN, PL.isNonP, PL.pIsi, PL.pty, PL.pAttr, PL.pget, PL.gLen_lst, PL.gLen_tup, PL.pbS, PL.pbH, PL.kp, PL.kps, PL.nr, PL.nrs, PL.nl, PL.nls, PL.oL, PL.frz, PL.frzS, PL.pFz, PL.pChain, PL.pNeg, PL.pRaise, PL.pRaiseH, PL.x2s, PL.x1, PL.x2, PL.x2t, ML.tabInt, ML.tabBool, ML.LIM, PL.pBrk, PL.pCont, PL.gInt, PL.gMax2, PL.gMin2, PL.gAbs, a2]
    obtain ⟨d, hd⟩ : ∃ d, d = atV vs (st + 1) - atV vs st := ⟨_, rfl⟩
    rw [← hd] at s2
    have g0 : RM.gr (atV vs) (vs.length - 1) (f + 1) st acc = if st ≥ (vs.length : Int) - 1 then acc ++ [(st, atV vs st, true)] else if d = 1 ∧ RM.grI (atV vs) d ((vs.length : Int) - 1 - st).toNat st = (vs.length : Int) - 1 then acc ++ [(st, atV vs st, true)] else RM.gr (atV vs) (vs.length - 1) f (RM.grI (atV vs) d ((vs.length : Int) - 1 - st).toNat st + 1) (acc ++ [(st, atV vs st, decide (d = 1))]) := by rw [hd]; rfl
    rw [g0]
    by_cases c : st ≥ (vs.length : Int) - 1
    · rw [if_pos c, pforC_rt (ρ1 := [some (.sh V0), some (.ow (.lst (rowsP acc))), some (.sh (.int st)), some (.sh (.int k)), o4, o5, o6, o7, o8]) rfl (q := .tup (rowsP (acc ++ [(st, atV vs st, true)]))) (s2 := s) ?_]
      refine (seq_nx s1).trans ((seq_nx s2).trans (seq_rt ?_))
      have c' : (vs.length : Int) - 1 ≤ st := c
      rw [rowsP_app]
      simp [PL.inE, PL.pfun, PL.pRet, PL.pRetN, PL.pDrop, PL.pSet, PL.pSetH, PL.pSetO, PL.pSetOH, PL.pIf, PL.pSeq, PL.pSkip, PL.pApp, PL.pAppH, PL.pAsg, PL.pAsgH, PL.pPar2, PL.pPar3, PL.jN, PL.jT, PL.jC, PL.jE, PL.pIfE, PL.pB, PL.ptoB, PL.pOp, PL.pVar, PL.pC, PL.vA, PL.vH, PL.slA_sh, PL.slA_ow, PL.slA_no, PL.slH_sh, PL.slH_ow, PL.slH_no, PL.qI, PL.qIc, PL.qAdd, PL.pCB, PL.pCons, PL.pNil, PL.pTup, PL.pL, PL.fLst, PL.pAnd, PL.pOr, PL.pNot, PL.pTAnd, PL.pTOr, PL.pTNot, PL.pIsN, PL.isNonP, PL.pIsi, PL.pty, PL.pAttr, PL.pget, PL.gLen_lst, PL.gLen_tup, PL.pbS, PL.pbH, PL.kp, PL.kps, PL.nr, PL.nrs, PL.nl, PL.nls, PL.oL, PL.frz, PL.frzS, PL.pFz, PL.pChain, PL.pNeg, PL.pRaise, PL.pRaiseH, PL.x2s, PL.x1, PL.x2, PL.x2t, ML.tabInt, ML.tabBool, ML.LIM, PL.pBrk, PL.pCont, PL.gInt, PL.gMax2, PL.gMin2, PL.gAbs, lenV, c', gTuple, rows_len, hac2]
    · rw [if_neg c]
      obtain ⟨p7, p8, eg⟩ := gi_loop hn d (some (.ow (.lst (rowsP acc)))) (some (.sh (.int st))) (some (.sh (.int k))) (some (.sh (.int (atV vs st)))) s ((vs.length : Int) - 1 - st).toNat st o7 o8 h0
      rw [← hV0] at eg
      obtain ⟨e, he⟩ : ∃ e, e = RM.grI (atV vs) d ((vs.length : Int) - 1 - st).toNat st := ⟨_, rfl⟩
      rw [← he] at eg ⊢
      have hb := grI_bd (A := atV vs) (step := d) ((vs.length : Int) - 1 - st).toNat st
      rw [← he] at hb
      have c' : ¬ (vs.length : Int) - 1 ≤ st := c
      have s3 : (pIf (pB (pOp qGe (pVar 2) (pOp qSub (pCB gLen (pCons (pVar 0) pNil)) (pC (.int 1)))))
        (pRet (pCB gTuple (pCons (pOp qAdd (pVar 1) (pL (fLst (pCons (pTup (pCons (pVar 2) (pCons (pVar 4) (pCons (pC (.bl true)) pNil)))) pNil)))) pNil)))
        pSkip) [some (.sh V0), some (.ow (.lst (rowsP acc))), some (.sh (.int st)), some (.sh (.int k)), some (.sh (.int (atV vs st))), some (.sh (.int d)), o6, o7, o8] s = some (.nx [some (.sh V0), some (.ow (.lst (rowsP acc))), some (.sh (.int st)), some (.sh (.int k)), some (.sh (.int (atV vs st))), some (.sh (.int d)), o6, o7, o8] s) := by simp [PL.inE, PL.pfun, PL.pRet, PL.pRetN, PL.pDrop, PL.pSet, PL.pSetH, PL.pSetO, PL.pSetOH, PL.pIf, PL.pSeq, PL.pSkip, PL.pApp, PL.pAppH, PL.pAsg, PL.pAsgH, PL.pPar2, PL.pPar3, PL.jN, PL.jT, PL.jC, PL.jE, PL.pIfE, PL.pB, PL.ptoB, PL.pOp, PL.pVar, PL.pC, PL.vA, PL.vH, PL.slA_sh, PL.slA_ow, PL.slA_no, PL.slH_sh, PL.slH_ow, PL.slH_no, PL.qI, PL.qIc, PL.qAdd, PL.pCB, PL.pCons, PL.pNil, PL.pTup, PL.pL, PL.fLst, PL.pAnd, PL.pOr, PL.pNot, PL.pTAnd, PL.pTOr, PL.pTNot, PL.pIsN, PL.isNonP, PL.pIsi, PL.pty, PL.pAttr, PL.pget, PL.gLen_lst, PL.gLen_tup, PL.pbS, PL.pbH, PL.kp, PL.kps, PL.nr, PL.nrs, PL.nl, PL.nls, PL.oL, PL.frz, PL.frzS, PL.pFz, PL.pChain, PL.pNeg, PL.pRaise, PL.pRaiseH, PL.x2s, PL.x1, PL.x2, PL.x2t, ML.tabInt, ML.tabBool, ML.LIM, PL.pBrk, PL.pCont, PL.gInt, PL.gMax2, PL.gMin2, PL.gAbs, lenV, c']
      have s4 : (pSetH 6 (pVar 2)) [some (.sh V0), some (.ow (.lst (rowsP acc))), some (.sh (.int st)), some (.sh (.int k)), some (.sh (.int (atV vs st))), some (.sh (.int d)), o6, o7, o8] s = some (.nx [some (.sh V0), some (.ow (.lst (rowsP acc))), some (.sh (.int st)), some (.sh (.int k)), some (.sh (.int (atV vs st))), some (.sh (.int d)), some (.sh (.int st)), o7, o8] s) := by simp [PL.inE, PL.pfun, PL.pRet, PL.pRetN, PL.pDrop, PL.pSet, PL.pSetH, PL.pSetO, PL.pSetOH, PL.pIf, PL.pSeq, PL.pSkip, PL.pApp, PL.pAppH, PL.pAsg, PL.pAsgH, PL.pPar2, PL.pPar3, PL.jN, PL.jT, PL.jC, PL.jE, PL.pIfE, PL.pB, PL.ptoB, PL.pOp, PL.pVar, PL.pC, PL.vA, PL.vH, PL.slA_sh, PL.slA_ow, PL.slA_no, PL.slH_sh, PL.slH_ow, PL.slH_no, PL.qI, PL.qIc, PL.qAdd, PL.pCB, PL.pCons, PL.pNil, PL.pTup, PL.pL, PL.fLst, PL.pAnd, PL.pOr, PL.pNot, PL.pTAnd, PL.pTOr, PL.pTNot, PL.pIsN, PL.isNonP, PL.pIsi, PL.pty, PL.pAttr, PL.pget, PL.gLen_lst, PL.gLen_tup, PL.pbS, PL.pbH, PL.kp, PL.kps, PL.nr, PL.nrs, PL.nl, PL.nls, PL.oL, PL.frz, PL.frzS, PL.pFz, PL.pChain, PL.pNeg, PL.pRaise, PL.pRaiseH, PL.x2s, PL.x1, PL.x2, PL.x2t, ML.tabInt, ML.tabBool, ML.LIM, PL.pBrk, PL.pCont, PL.gInt, PL.gMax2, PL.gMin2, PL.gAbs]
      have s5 : pFor (pIR2 (pVar 2) (pOp qSub (pCB gLen (pCons (pVar 0) pNil)) (pC (.int 1)))) (jN 7) giB [some (.sh V0), some (.ow (.lst (rowsP acc))), some (.sh (.int st)), some (.sh (.int k)), some (.sh (.int (atV vs st))), some (.sh (.int d)), some (.sh (.int st)), o7, o8] s = some (.nx [some (.sh V0), some (.ow (.lst (rowsP acc))), some (.sh (.int st)), some (.sh (.int k)), some (.sh (.int (atV vs st))), some (.sh (.int d)), some (.sh (.int e)), p7, p8] s) := by
        refine (pfor_eq ?_).trans eg
        have i1 : inR st = true := inR_of (by omega) (by omega)
        have i2 : inR ((vs.length : Int) - 1) = true := inR_of (by omega) (by omega)
        simp [PL.inE, PL.pfun, PL.pRet, PL.pRetN, PL.pDrop, PL.pSet, PL.pSetH, PL.pSetO, PL.pSetOH, PL.pIf, PL.pSeq, PL.pSkip, PL.pApp, PL.pAppH, PL.pAsg, PL.pAsgH, PL.pPar2, PL.pPar3, PL.jN, PL.jT, PL.jC, PL.jE, PL.pIfE, PL.pB, PL.ptoB, PL.pOp, PL.pVar, PL.pC, PL.vA, PL.vH, PL.slA_sh, PL.slA_ow, PL.slA_no, PL.slH_sh, PL.slH_ow, PL.slH_no, PL.qI, PL.qIc, PL.qAdd, PL.pCB, PL.pCons, PL.pNil, PL.pTup, PL.pL, PL.fLst, PL.pAnd, PL.pOr, PL.pNot, PL.pTAnd, PL.pTOr, PL.pTNot, PL.pIsN, PL.isNonP, PL.pIsi, PL.pty, PL.pAttr, PL.pget, PL.gLen_lst, PL.gLen_tup, PL.pbS, PL.pbH, PL.kp, PL.kps, PL.nr, PL.nrs, PL.nl, PL.nls, PL.oL, PL.frz, PL.frzS, PL.pFz, PL.pChain, PL.pNeg, PL.pRaise, PL.pRaiseH, PL.x2s, PL.x1, PL.x2, PL.x2t, ML.tabInt, ML.tabBool, ML.LIM, PL.pBrk, PL.pCont, PL.gInt, PL.gMax2, PL.gMin2, PL.gAbs, pIR2, lenV, i1, i2]
      by_cases c2 : d = 1 ∧ e = (vs.length : Int) - 1
      · rw [if_pos c2, pforC_rt (ρ1 := [some (.sh V0), some (.ow (.lst (rowsP acc))), some (.sh (.int st)), some (.sh (.int k)), o4, o5, o6, o7, o8]) rfl (q := .tup (rowsP (acc ++ [(st, atV vs st, true)]))) (s2 := s) ?_]
        refine (seq_nx s1).trans ((seq_nx s2).trans ((seq_nx s3).trans ((seq_nx s4).trans ((seq_nx s5).trans (seq_rt ?_)))))
        rw [rowsP_app]
        simp [PL.inE, PL.pfun, PL.pRet, PL.pRetN, PL.pDrop, PL.pSet, PL.pSetH, PL.pSetO, PL.pSetOH, PL.pIf, PL.pSeq, PL.pSkip, PL.pApp, PL.pAppH, PL.pAsg, PL.pAsgH, PL.pPar2, PL.pPar3, PL.jN, PL.jT, PL.jC, PL.jE, PL.pIfE, PL.pB, PL.ptoB, PL.pOp, PL.pVar, PL.pC, PL.vA, PL.vH, PL.slA_sh, PL.slA_ow, PL.slA_no, PL.slH_sh, PL.slH_ow, PL.slH_no, PL.qI, PL.qIc, PL.qAdd, PL.pCB, PL.pCons, PL.pNil, PL.pTup, PL.pL, PL.fLst, PL.pAnd, PL.pOr, PL.pNot, PL.pTAnd, PL.pTOr, PL.pTNot, PL.pIsN, PL.isNonP, PL.pIsi, PL.pty, PL.pAttr, PL.pget, PL.gLen_lst, PL.gLen_tup, PL.pbS, PL.pbH, PL.kp, PL.kps, PL.nr, PL.nrs, PL.nl, PL.nls, PL.oL, PL.frz, PL.frzS, PL.pFz, PL.pChain, PL.pNeg, PL.pRaise, PL.pRaiseH, PL.x2s, PL.x1, PL.x2, PL.x2t, ML.tabInt, ML.tabBool, ML.LIM, PL.pBrk, PL.pCont, PL.gInt, PL.gMax2, PL.gMin2, PL.gAbs, lenV, c2.1, c2.2, gTuple, rows_len, hac2, PL.qEq, sEqP]
      · rw [if_neg c2, pforC_nx (ρ1 := [some (.sh V0), some (.ow (.lst (rowsP acc))), some (.sh (.int st)), some (.sh (.int k)), o4, o5, o6, o7, o8]) rfl (ρ2 := [some (.sh V0), some (.ow (.lst (rowsP (acc ++ [(st, atV vs st, decide (d = 1))])))), some (.sh (.int (e + 1))), some (.sh (.int k)), some (.sh (.int (atV vs st))), some (.sh (.int d)), some (.sh (.int e)), p7, p8]) (s2 := s) ?_]
        · have := go_loop hn hl s f (k + 1) (e + 1) (acc ++ [(st, atV vs st, decide (d = 1))]) (some (.sh (.int k))) (some (.sh (.int (atV vs st)))) (some (.sh (.int d))) (some (.sh (.int e))) p7 p8 (by omega) (by omega) (by omega) (by simp; omega)
          rw [← hV0] at this
          exact this
        refine (seq_nx s1).trans ((seq_nx s2).trans ((seq_nx s3).trans ((seq_nx s4).trans ((seq_nx s5).trans ?_))))
        rw [rowsP_app]
        by_cases q : d = 1
        · have q2 : ¬ e = (vs.length : Int) - 1 := fun z => c2 ⟨q, z⟩
          simp [PL.inE, PL.pfun, PL.pRet, PL.pRetN, PL.pDrop, PL.pSet, PL.pSetH, PL.pSetO, PL.pSetOH, PL.pIf, PL.pSeq, PL.pSkip, PL.pApp, PL.pAppH, PL.pAsg, PL.pAsgH, PL.pPar2, PL.pPar3, PL.jN, PL.jT, PL.jC, PL.jE, PL.pIfE, PL.pB, PL.ptoB, PL.pOp, PL.pVar, PL.pC, PL.vA, PL.vH, PL.slA_sh, PL.slA_ow, PL.slA_no, PL.slH_sh, PL.slH_ow, PL.slH_no, PL.qI, PL.qIc, PL.qAdd, PL.pCB, PL.pCons, PL.pNil, PL.pTup, PL.pL, PL.fLst, PL.pAnd, PL.pOr, PL.pNot, PL.pTAnd, PL.pTOr, PL.pTNot, PL.pIsN, PL.isNonP, PL.pIsi, PL.pty, PL.pAttr, PL.pget, PL.gLen_lst, PL.gLen_tup, PL.pbS, PL.pbH, PL.kp, PL.kps, PL.nr, PL.nrs, PL.nl, PL.nls, PL.oL, PL.frz, PL.frzS, PL.pFz, PL.pChain, PL.pNeg, PL.pRaise, PL.pRaiseH, PL.x2s, PL.x1, PL.x2, PL.x2t, ML.tabInt, ML.tabBool, ML.LIM, PL.pBrk, PL.pCont, PL.gInt, PL.gMax2, PL.gMin2, PL.gAbs, lenV, q, q2, rows_len, hac, PL.qEq, sEqP]
        · simp [PL.inE, PL.pfun, PL.pRet, PL.pRetN, PL.pDrop, PL.pSet, PL.pSetH, PL.pSetO, PL.pSetOH, PL.pIf, PL.pSeq, PL.pSkip, PL.pApp, PL.pAppH, PL.pAsg, PL.pAsgH, PL.pPar2, PL.pPar3, PL.jN, PL.jT, PL.jC, PL.jE, PL.pIfE, PL.pB, PL.ptoB, PL.pOp, PL.pVar, PL.pC, PL.vA, PL.vH, PL.slA_sh, PL.slA_ow, PL.slA_no, PL.slH_sh, PL.slH_ow, PL.slH_no, PL.qI, PL.qIc, PL.qAdd, PL.pCB, PL.pCons, PL.pNil, PL.pTup, PL.pL, PL.fLst, PL.pAnd, PL.pOr, PL.pNot, PL.pTAnd, PL.pTOr, PL.pTNot, PL.pIsN, PL.isNonP, PL.pIsi, PL.pty, PL.pAttr, PL.pget, PL.gLen_lst, PL.gLen_tup, PL.pbS, PL.pbH, PL.kp, PL.kps, PL.nr, PL.nrs, PL.nl, PL.nls, PL.oL, PL.frz, PL.frzS, PL.pFz, PL.pChain, PL.pNeg, PL.pRaise, PL.pRaiseH, PL.x2s, PL.x1, PL.x2, PL.x2t, ML.tabInt, ML.tabBool, ML.LIM, PL.pBrk, PL.pCont, PL.gInt, PL.gMax2, PL.gMin2, PL.gAbs, lenV, q, rows_len, hac, PL.qEq, sEqP]
/-- the law's own rows -/
theorem greedy_p {vs : List Int} (hn : vs ≠ []) (hl : vs.length ≤ 100000) (hr : RM.Rf (atV vs) (vs.length - 1)) (s : DS) : p__law_greedy [.lst (intsP vs)] s = some (.ok (.tup (rowsP (RM.rows (atV vs) (vs.length - 1)))) s) := by
  have h9 := List.length_pos_iff.mpr hn
  refine fun_rt (s1 := s) rfl ?_
  unfold p_b__law_greedy
  refine (seq_nx (ρ1 := [some (.sh (.lst (intsP vs))), some (.ow (.lst (rowsP []))), none, none, none, none, none, none, none]) (s1 := s) (by simp [PL.inE, PL.pfun, PL.pRet, PL.pRetN, PL.pDrop, PL.pSet, PL.pSetH, PL.pSetO, PL.pSetOH, PL.pIf, PL.pSeq, PL.pSkip, PL.pApp, PL.pAppH, PL.pAsg, PL.pAsgH, PL.pPar2, PL.pPar3, PL.jN, PL.jT, PL.jC, PL.jE, PL.pIfE, PL.pB, PL.ptoB, PL.pOp, PL.pVar, PL.pC, PL.vA, PL.vH, PL.slA_sh, PL.slA_ow, PL.slA_no, PL.slH_sh, PL.slH_ow, PL.slH_no, PL.qI, PL.qIc, PL.qAdd, PL.pCB, PL.pCons, PL.pNil, PL.pTup, PL.pL, PL.fLst, PL.pAnd, PL.pOr, PL.pNot, PL.pTAnd, PL.pTOr, PL.pTNot, PL.pIsN, PL.isNonP, PL.pIsi, PL.pty, PL.pAttr, PL.pget, PL.gLen_lst, PL.gLen_tup, PL.pbS, PL.pbH, PL.kp, PL.kps, PL.nr, PL.nrs, PL.nl, PL.nls, PL.oL, PL.frz, PL.frzS, PL.pFz, PL.pChain, PL.pNeg, PL.pRaise, PL.pRaiseH, PL.x2s, PL.x1, PL.x2, PL.x2t, ML.tabInt, ML.tabBool, ML.LIM, PL.pBrk, PL.pCont, PL.gInt, PL.gMax2, PL.gMin2, PL.gAbs, rowsP])).trans ?_
  refine (seq_nx (ρ1 := [some (.sh (.lst (intsP vs))), some (.ow (.lst (rowsP []))), some (.sh (.int 0)), none, none, none, none, none, none]) (s1 := s) (by simp [PL.inE, PL.pfun, PL.pRet, PL.pRetN, PL.pDrop, PL.pSet, PL.pSetH, PL.pSetO, PL.pSetOH, PL.pIf, PL.pSeq, PL.pSkip, PL.pApp, PL.pAppH, PL.pAsg, PL.pAsgH, PL.pPar2, PL.pPar3, PL.jN, PL.jT, PL.jC, PL.jE, PL.pIfE, PL.pB, PL.ptoB, PL.pOp, PL.pVar, PL.pC, PL.vA, PL.vH, PL.slA_sh, PL.slA_ow, PL.slA_no, PL.slH_sh, PL.slH_ow, PL.slH_no, PL.qI, PL.qIc, PL.qAdd, PL.pCB, PL.pCons, PL.pNil, PL.pTup, PL.pL, PL.fLst, PL.pAnd, PL.pOr, PL.pNot, PL.pTAnd, PL.pTOr, PL.pTNot, PL.pIsN, PL.isNonP, PL.pIsi, PL.pty, PL.pAttr, PL.pget, PL.gLen_lst, PL.gLen_tup, PL.pbS, PL.pbH, PL.kp, PL.kps, PL.nr, PL.nrs, PL.nl, PL.nls, PL.oL, PL.frz, PL.frzS, PL.pFz, PL.pChain, PL.pNeg, PL.pRaise, PL.pRaiseH, PL.x2s, PL.x1, PL.x2, PL.x2t, ML.tabInt, ML.tabBool, ML.LIM, PL.pBrk, PL.pCont, PL.gInt, PL.gMax2, PL.gMin2, PL.gAbs, rowsP])).trans ?_
  have i1 : inR ((vs.length : Int) + 1) = true := inR_of (by omega) (by omega)
  refine seq_rt ((pfor_eq (ps := pItems 0 (vs.length + 1)) (s1 := s) (by
    simp [PL.inE, PL.pfun, PL.pRet, PL.pRetN, PL.pDrop, PL.pSet, PL.pSetH, PL.pSetO, PL.pSetOH, PL.pIf, PL.pSeq, PL.pSkip, PL.pApp, PL.pAppH, PL.pAsg, PL.pAsgH, PL.pPar2, PL.pPar3, PL.jN, PL.jT, PL.jC, PL.jE, PL.pIfE, PL.pB, PL.ptoB, PL.pOp, PL.pVar, PL.pC, PL.vA, PL.vH, PL.slA_sh, PL.slA_ow, PL.slA_no, PL.slH_sh, PL.slH_ow, PL.slH_no, PL.qI, PL.qIc, PL.qAdd, PL.pCB, PL.pCons, PL.pNil, PL.pTup, PL.pL, PL.fLst, PL.pAnd, PL.pOr, PL.pNot, PL.pTAnd, PL.pTOr, PL.pTNot, PL.pIsN, PL.isNonP, PL.pIsi, PL.pty, PL.pAttr, PL.pget, PL.gLen_lst, PL.gLen_tup, PL.pbS, PL.pbH, PL.kp, PL.kps, PL.nr, PL.nrs, PL.nl, PL.nls, PL.oL, PL.frz, PL.frzS, PL.pFz, PL.pChain, PL.pNeg, PL.pRaise, PL.pRaiseH, PL.x2s, PL.x1, PL.x2, PL.x2t, ML.tabInt, ML.tabBool, ML.LIM, PL.pBrk, PL.pCont, PL.gInt, PL.gMax2, PL.gMin2, PL.gAbs, pIR1, ints_len, i1])).trans ?_)
  rw [go_loop hn hl s (vs.length + 1) 0 0 [] none none none none none none (by omega) (by omega) (by omega) (by simp)]
  have e := RM.gr_walk (A := atV vs) (last := (vs.length : Int) - 1) (by omega) hr.up (fun t ht => hr.go t (by omega)) (f := vs.length + 1) (by omega)
  rw [e]
  unfold RM.rows
  rw [show ((vs.length : Int) - 1 + 2).toNat = vs.length - 1 + 2 by omega]
end K09

set_option maxHeartbeats 4000000
namespace K09
open PySem L2 ML PL
/-! ways by slots -/
def OkS (len : Int) (ms : List Int) : Prop := 1 ≤ len ∧ len ≤ 720 ∧ ms ≠ [] ∧ ms.length ≤ 48 ∧ ∀ m ∈ ms, 0 ≤ m ∧ m ≤ 600
theorem check_slots_p {len : Int} {ms : List Int} {R : P} (hR : Sq R (intsP ms)) (h : OkS len ms) (s : DS) : p_check_slots [.int len, R] s = some (.ok .non s) := by
  obtain ⟨h1, h2, hn, h3, h4⟩ := h
  have h0 := List.length_pos_iff.mpr hn
  have c1 := check_number_p "length" len 1 720 s h1 h2
  have c2 := check_number_p "slots" (ms.length : Int) 1 48 s (by omega) (by omega)
  have hl := sq_len (s := s) hR
  rw [ints_len] at hl
  unfold p_check_slots p_b_check_slots
  have lp : ∀ (xs : List Int) (o : Option Sl), (∀ m ∈ xs, 0 ≤ m ∧ m ≤ 600) → ∃ o', pForC (jN 2) (pDrop (pCB p_check_number (pCons (pC (.str ("riding" : Str))) (pCons (pVar 2) (pCons (pC (.int 0)) (pCons (pC (.int 600)) pNil)))))) (intsP xs) [some (.sh (.int len)), some (.sh R), o] s = some (.nx [some (.sh (.int len)), some (.sh R), o'] s) := by
    intro xs
    induction xs with
    | nil => intro o _; exact ⟨o, rfl⟩
    | cons x xs ih =>
      intro o hx
      have hx0 := hx x List.mem_cons_self
      have c3 := check_number_p "riding" x 0 600 s hx0.1 hx0.2
      obtain ⟨o', e⟩ := ih (some (.sh (.int x))) (fun m hm => hx m (List.mem_cons_of_mem _ hm))
      refine ⟨o', ?_⟩
      show pForC _ _ (.int x :: intsP xs) _ _ = _
      rw [pforC_nx (ρ1 := [some (.sh (.int len)), some (.sh R), some (.sh (.int x))]) (ρ2 := [some (.sh (.int len)), some (.sh R), some (.sh (.int x))]) (s2 := s) rfl (by simp [PL.inE, PL.pfun, PL.pRet, PL.pRetN, PL.pDrop, PL.pSet, PL.pSetH, PL.pSetO, PL.pSetOH, PL.pIf, PL.pSeq, PL.pSkip, PL.pApp, PL.pAppH, PL.pAsg, PL.pAsgH, PL.pPar2, PL.pPar3, PL.jN, PL.jT, PL.jC, PL.jE, PL.pIfE, PL.pB, PL.ptoB, PL.pOp, PL.pVar, PL.pC, PL.vA, PL.vH, PL.slA_sh, PL.slA_ow, PL.slA_no, PL.slH_sh, PL.slH_ow, PL.slH_no, PL.qI, PL.qIc, PL.qAdd, PL.pCB, PL.pCons, PL.pNil, PL.pTup, PL.pL, PL.fLst, PL.pAnd, PL.pOr, PL.pNot, PL.pTAnd, PL.pTOr, PL.pTNot, PL.pIsN, PL.isNonP, PL.pIsi, PL.pty, PL.pAttr, PL.pget, PL.gLen_lst, PL.gLen_tup, PL.pbS, PL.pbH, PL.kp, PL.kps, PL.nr, PL.nrs, PL.nl, PL.nls, PL.oL, PL.frz, PL.frzS, PL.pFz, PL.pChain, PL.pNeg, PL.pRaise, PL.pRaiseH, PL.x2s, PL.x1, PL.x2, PL.x2t, ML.tabInt, ML.tabBool, ML.LIM, PL.pBrk, PL.pCont, PL.gInt, PL.gMax2, PL.gMin2, PL.gAbs, c3])]
      exact e
  obtain ⟨o', e⟩ := lp ms none h4
  refine fun_nx (ρ1 := [some (.sh (.int len)), some (.sh R), o']) rfl ?_
  refine (seq_nx (ρ1 := [some (.sh (.int len)), some (.sh R), none]) (s1 := s) (by simp [PL.inE, PL.pfun, PL.pRet, PL.pRetN, PL.pDrop, PL.pSet, PL.pSetH, PL.pSetO, PL.pSetOH, PL.pIf, PL.pSeq, PL.pSkip, PL.pApp, PL.pAppH, PL.pAsg, PL.pAsgH, PL.pPar2, PL.pPar3, PL.jN, PL.jT, PL.jC, PL.jE, PL.pIfE, PL.pB, PL.ptoB, PL.pOp, PL.pVar, PL.pC, PL.vA, PL.vH, PL.slA_sh, PL.slA_ow, PL.slA_no, PL.slH_sh, PL.slH_ow, PL.slH_no, PL.qI, PL.qIc, PL.qAdd, PL.pCB, PL.pCons, PL.pNil, PL.pTup, PL.pL, PL.fLst, PL.pAnd, PL.pOr, PL.pNot, PL.pTAnd, PL.pTOr, PL.pTNot, PL.pIsN, PL.isNonP, PL.pIsi, PL.pty, PL.pAttr, PL.pget, PL.gLen_lst, PL.gLen_tup, PL.pbS, PL.pbH, PL.kp, PL.kps, PL.nr, PL.nrs, PL.nl, PL.nls, PL.oL, PL.frz, PL.frzS, PL.pFz, PL.pChain, PL.pNeg, PL.pRaise, PL.pRaiseH, PL.x2s, PL.x1, PL.x2, PL.x2t, ML.tabInt, ML.tabBool, ML.LIM, PL.pBrk, PL.pCont, PL.gInt, PL.gMax2, PL.gMin2, PL.gAbs, c1])).trans ?_
  refine (seq_nx (ρ1 := [some (.sh (.int len)), some (.sh R), none]) (s1 := s) (by simp [PL.inE, PL.pfun, PL.pRet, PL.pRetN, PL.pDrop, PL.pSet, PL.pSetH, PL.pSetO, PL.pSetOH, PL.pIf, PL.pSeq, PL.pSkip, PL.pApp, PL.pAppH, PL.pAsg, PL.pAsgH, PL.pPar2, PL.pPar3, PL.jN, PL.jT, PL.jC, PL.jE, PL.pIfE, PL.pB, PL.ptoB, PL.pOp, PL.pVar, PL.pC, PL.vA, PL.vH, PL.slA_sh, PL.slA_ow, PL.slA_no, PL.slH_sh, PL.slH_ow, PL.slH_no, PL.qI, PL.qIc, PL.qAdd, PL.pCB, PL.pCons, PL.pNil, PL.pTup, PL.pL, PL.fLst, PL.pAnd, PL.pOr, PL.pNot, PL.pTAnd, PL.pTOr, PL.pTNot, PL.pIsN, PL.isNonP, PL.pIsi, PL.pty, PL.pAttr, PL.pget, PL.gLen_lst, PL.gLen_tup, PL.pbS, PL.pbH, PL.kp, PL.kps, PL.nr, PL.nrs, PL.nl, PL.nls, PL.oL, PL.frz, PL.frzS, PL.pFz, PL.pChain, PL.pNeg, PL.pRaise, PL.pRaiseH, PL.x2s, PL.x1, PL.x2, PL.x2t, ML.tabInt, ML.tabBool, ML.LIM, PL.pBrk, PL.pCont, PL.gInt, PL.gMax2, PL.gMin2, PL.gAbs, hl, c2])).trans ?_
  refine (pfor_eq ?_).trans e
  rcases hR with rfl | rfl <;> rfl
/-- slot by slot from behind -/
noncomputable abbrev slB : PL.PS := (pSeq (pSetH 6 (pVar 2))
    (pSeq (pSetH 2 (pOp qSub (pVar 2) (pVar 0)))
    (pIf (pB (pOp qGe (pOp qAdd (pVar 2) (pVar 5)) (pVar 3)))
    (pAppH 4 (pTup (pCons (pVar 2) (pCons (pVar 3) (pCons (pC (.bl false)) pNil)))))
    (pSeq (pIf (pB (pOp qLt (pOp qSub (pVar 3) (pVar 5)) (pVar 6)))
    (pAppH 4 (pTup (pCons (pOp qSub (pVar 3) (pVar 5)) (pCons (pVar 3) (pCons (pC (.bl false)) pNil)))))
    pSkip)
    (pSeq (pSetH 3 (pOp qAdd (pVar 2) (pVar 5)))
    (pAppH 4 (pTup (pCons (pVar 2) (pCons (pVar 3) (pCons (pC (.bl true)) pNil))))))))))
theorem sl_turn {len : Int} (hlen : 1 ≤ len) (R : P) (st r : Int) (q : Int) (ms : List Int) (acc : List RM.Row) (hacc : acc.reverse = RM.sR len (st + len) (q :: ms)) (hl : acc.length < 999990) (o5 o6 : Option Sl) (s : DS) :
    ∃ acc' p6, acc'.reverse = RM.sR len st (r :: q :: ms) ∧ acc'.length ≤ acc.length + 2 ∧ slB [some (.sh (.int len)), some (.sh R), some (.sh (.int (st + len))), some (.sh (.int (RM.sA len (st + len) (q :: ms) (st + len)))), some (.ow (.lst (rowsP acc))), some (.sh (.int r)), o6] s = some (.nx [some (.sh (.int len)), some (.sh R), some (.sh (.int st)), some (.sh (.int (RM.sA len st (r :: q :: ms) st))), some (.ow (.lst (rowsP acc'))), some (.sh (.int r)), p6] s) := by
  obtain ⟨b, hb⟩ : ∃ b, b = RM.sA len (st + len) (q :: ms) (st + len) := ⟨_, rfl⟩
  have eA : RM.sA len st (r :: q :: ms) st = if st + r ≤ b then st + r else b := by
    rw [hb]
    show (if st < st + len then _ else _) = _
    rw [if_pos (by omega)]
  have eR : RM.sR len st (r :: q :: ms) = if st + r ≥ b then (st, b, false) :: acc.reverse else if b - r < st + len then (st, st + r, true) :: (b - r, b, false) :: acc.reverse else (st, st + r, true) :: acc.reverse := by
    rw [hb, hacc]
    rfl
  rw [eA, ← hb]
  have l1 : acc.length < 1000000 := by omega
  have l2 : acc.length + 1 < 1000000 := by omega
  have sub : st + len - len = st := by omega
  by_cases c : st + r ≥ b
  · refine ⟨acc ++ [(st, b, false)], some (.sh (.int (st + len))), by rw [eR, if_pos c]; simp, by simp, ?_⟩
    have c' : b ≤ st + r := c
    have e2 : (if st + r ≤ b then st + r else b) = b := by split <;> omega
    rw [e2, rowsP_app]
    simp [PL.inE, PL.pfun, PL.pRet, PL.pRetN, PL.pDrop, PL.pSet, PL.pSetH, PL.pSetO, PL.pSetOH, PL.pIf, PL.pSeq, PL.pSkip, PL.pApp, PL.pAppH, PL.pAsg, PL.pAsgH, PL.pPar2, PL.pPar3, PL.jN, PL.jT, PL.jC, PL.jE, PL.pIfE, PL.pB, PL.ptoB, PL.pOp, PL.pVar, PL.pC, PL.vA, PL.vH, PL.slA_sh, PL.slA_ow, PL.slA_no, PL.slH_sh, PL.slH_ow, PL.slH_no, PL.qI, PL.qIc, PL.qAdd, PL.pCB, PL.pCons, PL.pNil, PL.pTup, PL.pL, PL.fLst, PL.pAnd, PL.pOr, PL.pNot, PL.pTAnd, PL.pTOr, PL.pTNot, PL.pIsN, PL.isNonP, PL.pIsi, PL.pty, PL.pAttr, PL.pget, PL.gLen_lst, PL.gLen_tup, PL.pbS, PL.pbH, PL.kp, PL.kps, PL.nr, PL.nrs, PL.nl, PL.nls, PL.oL, PL.frz, PL.frzS, PL.pFz, PL.pChain, PL.pNeg, PL.pRaise, PL.pRaiseH, PL.x2s, PL.x1, PL.x2, PL.x2t, ML.tabInt, ML.tabBool, ML.LIM, PL.pBrk, PL.pCont, PL.gInt, PL.gMax2, PL.gMin2, PL.gAbs, sub, c', rows_len, l1]
  · have c' : ¬ b ≤ st + r := by omega
    have e2 : (if st + r ≤ b then st + r else b) = st + r := by rw [if_pos (by omega)]
    rw [e2]
    by_cases c2 : b - r < st + len
    · refine ⟨acc ++ [(b - r, b, false)] ++ [(st, st + r, true)], some (.sh (.int (st + len))), by rw [eR, if_neg c, if_pos c2]; simp, by simp, ?_⟩
      rw [rowsP_app, rowsP_app]
      simp [PL.inE, PL.pfun, PL.pRet, PL.pRetN, PL.pDrop, PL.pSet, PL.pSetH, PL.pSetO, PL.pSetOH, PL.pIf, PL.pSeq, PL.pSkip, PL.pApp, PL.pAppH, PL.pAsg, PL.pAsgH, PL.pPar2, PL.pPar3, PL.jN, PL.jT, PL.jC, PL.jE, PL.pIfE, PL.pB, PL.ptoB, PL.pOp, PL.pVar, PL.pC, PL.vA, PL.vH, PL.slA_sh, PL.slA_ow, PL.slA_no, PL.slH_sh, PL.slH_ow, PL.slH_no, PL.qI, PL.qIc, PL.qAdd, PL.pCB, PL.pCons, PL.pNil, PL.pTup, PL.pL, PL.fLst, PL.pAnd, PL.pOr, PL.pNot, PL.pTAnd, PL.pTOr, PL.pTNot, PL.pIsN, PL.isNonP, PL.pIsi, PL.pty, PL.pAttr, PL.pget, PL.gLen_lst, PL.gLen_tup, PL.pbS, PL.pbH, PL.kp, PL.kps, PL.nr, PL.nrs, PL.nl, PL.nls, PL.oL, PL.frz, PL.frzS, PL.pFz, PL.pChain, PL.pNeg, PL.pRaise, PL.pRaiseH, PL.x2s, PL.x1, PL.x2, PL.x2t, ML.tabInt, ML.tabBool, ML.LIM, PL.pBrk, PL.pCont, PL.gInt, PL.gMax2, PL.gMin2, PL.gAbs, sub, c', c2, rows_len, l1, l2]
    · refine ⟨acc ++ [(st, st + r, true)], some (.sh (.int (st + len))), by rw [eR, if_neg c, if_neg c2]; simp, by simp, ?_⟩
      rw [rowsP_app]
      simp [PL.inE, PL.pfun, PL.pRet, PL.pRetN, PL.pDrop, PL.pSet, PL.pSetH, PL.pSetO, PL.pSetOH, PL.pIf, PL.pSeq, PL.pSkip, PL.pApp, PL.pAppH, PL.pAsg, PL.pAsgH, PL.pPar2, PL.pPar3, PL.jN, PL.jT, PL.jC, PL.jE, PL.pIfE, PL.pB, PL.ptoB, PL.pOp, PL.pVar, PL.pC, PL.vA, PL.vH, PL.slA_sh, PL.slA_ow, PL.slA_no, PL.slH_sh, PL.slH_ow, PL.slH_no, PL.qI, PL.qIc, PL.qAdd, PL.pCB, PL.pCons, PL.pNil, PL.pTup, PL.pL, PL.fLst, PL.pAnd, PL.pOr, PL.pNot, PL.pTAnd, PL.pTOr, PL.pTNot, PL.pIsN, PL.isNonP, PL.pIsi, PL.pty, PL.pAttr, PL.pget, PL.gLen_lst, PL.gLen_tup, PL.pbS, PL.pbH, PL.kp, PL.kps, PL.nr, PL.nrs, PL.nl, PL.nls, PL.oL, PL.frz, PL.frzS, PL.pFz, PL.pChain, PL.pNeg, PL.pRaise, PL.pRaiseH, PL.x2s, PL.x1, PL.x2, PL.x2t, ML.tabInt, ML.tabBool, ML.LIM, PL.pBrk, PL.pCont, PL.gInt, PL.gMax2, PL.gMin2, PL.gAbs, sub, c', c2, rows_len, l1]
theorem sl_loop {len : Int} (hlen : 1 ≤ len) (R : P) (s : DS) : ∀ (rs : List Int) (st : Int) (q : Int) (ms : List Int) (acc : List RM.Row) (o5 o6 : Option Sl), acc.reverse = RM.sR len st (q :: ms) → acc.length + 2 * rs.length ≤ 900000 →
    ∃ acc' p5 p6, acc'.reverse = RM.sR len (st - len * rs.length) (rs.reverse ++ q :: ms) ∧ pForC (jN 5) slB (intsP rs) [some (.sh (.int len)), some (.sh R), some (.sh (.int st)), some (.sh (.int (RM.sA len st (q :: ms) st))), some (.ow (.lst (rowsP acc))), o5, o6] s = some (.nx [some (.sh (.int len)), some (.sh R), some (.sh (.int (st - len * rs.length))), some (.sh (.int (RM.sA len (st - len * rs.length) (rs.reverse ++ q :: ms) (st - len * rs.length)))), some (.ow (.lst (rowsP acc'))), p5, p6] s)
  | [], st, q, ms, acc, o5, o6, hacc, hl => ⟨acc, o5, o6, by simpa using hacc, by simp only [List.length_nil, Int.natCast_zero, Int.mul_zero, Int.sub_zero, List.reverse_nil, List.nil_append]; rfl⟩
  | r :: rs, st, q, ms, acc, o5, o6, hacc, hl => by
    simp only [List.length_cons] at hl
    obtain ⟨st0, hst0⟩ : ∃ st0, st = st0 + len := ⟨st - len, by omega⟩
    subst hst0
    obtain ⟨acc1, p6, h1, h2, e1⟩ := sl_turn hlen R st0 r q ms acc hacc (by omega) o5 o6 s
    obtain ⟨acc2, q5, q6, h3, e2⟩ := sl_loop hlen R s rs st0 r (q :: ms) acc1 (some (.sh (.int r))) p6 h1 (by omega)
    have hm : st0 + len - len * ((r :: rs).length : Int) = st0 - len * (rs.length : Int) := by
      simp only [List.length_cons]
      rw [show ((rs.length + 1 : Nat) : Int) = (rs.length : Int) + 1 by omega, Int.mul_add, Int.mul_one]
      omega
    have hr : (r :: rs).reverse ++ q :: ms = rs.reverse ++ r :: q :: ms := by simp
    refine ⟨acc2, q5, q6, by rw [hm, hr]; exact h3, ?_⟩
    show pForC _ _ (.int r :: intsP rs) _ _ = _
    rw [pforC_nx (ρ1 := [some (.sh (.int len)), some (.sh R), some (.sh (.int (st0 + len))), some (.sh (.int (RM.sA len (st0 + len) (q :: ms) (st0 + len)))), some (.ow (.lst (rowsP acc))), some (.sh (.int r)), o6]) rfl e1, hm, hr]
    exact e2
theorem revFrom2 (n : Nat) : revFrom n (-2) = n - 1 := by
  unfold revFrom
  rw [if_pos (by decide)]
  omega
theorem mul_ok {i j : Int} (h1 : -(2 ^ 64) < i) (h2 : i < 2 ^ 64) : opq (cMul i j) = true := opq_t (by unfold cMul; simp only [Bool.or_eq_true, Bool.and_eq_true, decide_eq_true_eq]; exact .inl ⟨h1, h2⟩)
/-- the values of a way by slots -/
abbrev slotV (len : Int) (ms : List Int) : Int → Int := RM.sA len 0 ms
def slotN (len : Int) (ms : List Int) : Nat := (len * ((ms.length - 1 : Nat) : Int)).toNat
theorem slot_rf {len : Int} {ms : List Int} (h : OkS len ms) : RM.Rf (slotV len ms) (slotN len ms) := RM.sA_all h.1 h.2.2.1 fun x hx => (h.2.2.2.2 x hx).1
theorem by_slots_p {len : Int} {ms : List Int} (h : OkS len ms) (s : DS) : p_by_slots [.int len, .lst (intsP ms)] s = some (.ok (mapP (RM.rows (slotV len ms) (slotN len ms))) s) := by
  have cs := check_slots_p (.inl rfl : Sq (.lst (intsP ms)) (intsP ms)) h s
  have rf := slot_rf h
  obtain ⟨h1, h2, hn, h3, h4⟩ := h
  have h0 := List.length_pos_iff.mpr hn
  obtain ⟨pre, last, hms⟩ : ∃ pre last, ms = pre ++ [last] := by
    rcases List.eq_nil_or_concat ms with q | ⟨p, l, q⟩
    · exact absurd q hn
    · exact ⟨p, l, by rw [q, List.concat_eq_append]⟩
  have hpl : ms.length = pre.length + 1 := by rw [hms]; simp
  obtain ⟨st, hst⟩ : ∃ st, st = len * (pre.length : Int) := ⟨_, rfl⟩
  have hli := last_ix hn s
  have hlast : (ms[ms.length - 1]?).getD 0 = last := by
    rw [hms]
    simp
  rw [hlast] at hli
  obtain ⟨acc, p5, p6, ha, el⟩ := sl_loop h1 (.lst (intsP ms)) s pre.reverse st last [] [(st, st + last, true)] none none rfl (by simp; omega)
  have hz : st - len * (pre.reverse.length : Int) = 0 := by rw [hst, List.length_reverse]; omega
  rw [hz, List.reverse_reverse, ← hms] at ha el
  have hacc : RM.sR len 0 ms = acc.reverse := ha.symm
  obtain ⟨g, hv⟩ := RM.sR_good h1 hn (fun x hx => (h4 x hx).1)
  have hln := RM.sR_len (len := len) ms 0
  have hbd : Bd (RM.sR len 0 ms) := by
    intro r hr
    obtain ⟨m0, rest, rfl⟩ : ∃ m0 rest, ms = m0 :: rest := by
      cases ms with
      | nil => exact absurd rfl hn
      | cons a b => exact ⟨a, b, rfl⟩
    have := RM.sR_bd h1 rest m0 0 (fun x hx => (h4 x hx).1) r hr
    have h5 : len * (rest.length : Int) ≤ 720 * (rest.length : Int) := Int.mul_le_mul_of_nonneg_right h2 (by omega)
    simp at hpl h3
    omega
  rw [hacc] at g hv hln hbd
  have sub1 : ((ms.length : Int) - 1) = (pre.length : Int) := by omega
  have mk : pMake n_Rising p_Rising___init__ (pCons (pL (fRevL (pVar 4))) pNil) [some (.int len), some (.lst (intsP ms)), some (.int 0), some (.int (RM.sA len 0 ms 0)), some (.lst (rowsP acc)), slA p5, slA p6] s = some (.ok (mapP (RM.rows (slotV len ms) (slotN len ms))) s) := by
    refine make_p (R := .lst (rowsP acc.reverse)) (rs := acc.reverse) ?_ (.inl rfl) g hbd (by omega) rf hv
    simp [PL.inE, PL.pfun, PL.pRet, PL.pRetN, PL.pDrop, PL.pSet, PL.pSetH, PL.pSetO, PL.pSetOH, PL.pIf, PL.pSeq, PL.pSkip, PL.pApp, PL.pAppH, PL.pAsg, PL.pAsgH, PL.pPar2, PL.pPar3, PL.jN, PL.jT, PL.jC, PL.jE, PL.pIfE, PL.pB, PL.ptoB, PL.pOp, PL.pVar, PL.pC, PL.vA, PL.vH, PL.slA_sh, PL.slA_ow, PL.slA_no, PL.slH_sh, PL.slH_ow, PL.slH_no, PL.qI, PL.qIc, PL.qAdd, PL.pCB, PL.pCons, PL.pNil, PL.pTup, PL.pL, PL.fLst, PL.pAnd, PL.pOr, PL.pNot, PL.pTAnd, PL.pTOr, PL.pTNot, PL.pIsN, PL.isNonP, PL.pIsi, PL.pty, PL.pAttr, PL.pget, PL.gLen_lst, PL.gLen_tup, PL.pbS, PL.pbH, PL.kp, PL.kps, PL.nr, PL.nrs, PL.nl, PL.nls, PL.oL, PL.frz, PL.frzS, PL.pFz, PL.pChain, PL.pNeg, PL.pRaise, PL.pRaiseH, PL.x2s, PL.x1, PL.x2, PL.x2t, ML.tabInt, ML.tabBool, ML.LIM, PL.pBrk, PL.pCont, PL.gInt, PL.gMax2, PL.gMin2, PL.gAbs, fRevL, rowsP]
  refine fun_rt (s1 := s) rfl ?_
  unfold p_b_by_slots
  refine (seq_nx (ρ1 := [some (.sh (.int len)), some (.sh (.lst (intsP ms))), none, none, none, none, none]) (s1 := s) (by simp [PL.inE, PL.pfun, PL.pRet, PL.pRetN, PL.pDrop, PL.pSet, PL.pSetH, PL.pSetO, PL.pSetOH, PL.pIf, PL.pSeq, PL.pSkip, PL.pApp, PL.pAppH, PL.pAsg, PL.pAsgH, PL.pPar2, PL.pPar3, PL.jN, PL.jT, PL.jC, PL.jE, PL.pIfE, PL.pB, PL.ptoB, PL.pOp, PL.pVar, PL.pC, PL.vA, PL.vH, PL.slA_sh, PL.slA_ow, PL.slA_no, PL.slH_sh, PL.slH_ow, PL.slH_no, PL.qI, PL.qIc, PL.qAdd, PL.pCB, PL.pCons, PL.pNil, PL.pTup, PL.pL, PL.fLst, PL.pAnd, PL.pOr, PL.pNot, PL.pTAnd, PL.pTOr, PL.pTNot, PL.pIsN, PL.isNonP, PL.pIsi, PL.pty, PL.pAttr, PL.pget, PL.gLen_lst, PL.gLen_tup, PL.pbS, PL.pbH, PL.kp, PL.kps, PL.nr, PL.nrs, PL.nl, PL.nls, PL.oL, PL.frz, PL.frzS, PL.pFz, PL.pChain, PL.pNeg, PL.pRaise, PL.pRaiseH, PL.x2s, PL.x1, PL.x2, PL.x2t, ML.tabInt, ML.tabBool, ML.LIM, PL.pBrk, PL.pCont, PL.gInt, PL.gMax2, PL.gMin2, PL.gAbs, cs])).trans ?_
  refine (seq_nx (ρ1 := [some (.sh (.int len)), some (.sh (.lst (intsP ms))), some (.sh (.int st)), none, none, none, none]) (s1 := s) (by
    have := mul_ok (i := len) (j := (pre.length : Int)) (by omega) (by omega)
    simp [PL.inE, PL.pfun, PL.pRet, PL.pRetN, PL.pDrop, PL.pSet, PL.pSetH, PL.pSetO, PL.pSetOH, PL.pIf, PL.pSeq, PL.pSkip, PL.pApp, PL.pAppH, PL.pAsg, PL.pAsgH, PL.pPar2, PL.pPar3, PL.jN, PL.jT, PL.jC, PL.jE, PL.pIfE, PL.pB, PL.ptoB, PL.pOp, PL.pVar, PL.pC, PL.vA, PL.vH, PL.slA_sh, PL.slA_ow, PL.slA_no, PL.slH_sh, PL.slH_ow, PL.slH_no, PL.qI, PL.qIc, PL.qAdd, PL.pCB, PL.pCons, PL.pNil, PL.pTup, PL.pL, PL.fLst, PL.pAnd, PL.pOr, PL.pNot, PL.pTAnd, PL.pTOr, PL.pTNot, PL.pIsN, PL.isNonP, PL.pIsi, PL.pty, PL.pAttr, PL.pget, PL.gLen_lst, PL.gLen_tup, PL.pbS, PL.pbH, PL.kp, PL.kps, PL.nr, PL.nrs, PL.nl, PL.nls, PL.oL, PL.frz, PL.frzS, PL.pFz, PL.pChain, PL.pNeg, PL.pRaise, PL.pRaiseH, PL.x2s, PL.x1, PL.x2, PL.x2t, ML.tabInt, ML.tabBool, ML.LIM, PL.pBrk, PL.pCont, PL.gInt, PL.gMax2, PL.gMin2, PL.gAbs, ints_len, sub1, qMul, this, hst])).trans ?_
  refine (seq_nx (ρ1 := [some (.sh (.int len)), some (.sh (.lst (intsP ms))), some (.sh (.int st)), some (.sh (.int (st + last))), none, none, none]) (s1 := s) (by simp [PL.inE, PL.pfun, PL.pRet, PL.pRetN, PL.pDrop, PL.pSet, PL.pSetH, PL.pSetO, PL.pSetOH, PL.pIf, PL.pSeq, PL.pSkip, PL.pApp, PL.pAppH, PL.pAsg, PL.pAsgH, PL.pPar2, PL.pPar3, PL.jN, PL.jT, PL.jC, PL.jE, PL.pIfE, PL.pB, PL.ptoB, PL.pOp, PL.pVar, PL.pC, PL.vA, PL.vH, PL.slA_sh, PL.slA_ow, PL.slA_no, PL.slH_sh, PL.slH_ow, PL.slH_no, PL.qI, PL.qIc, PL.qAdd, PL.pCB, PL.pCons, PL.pNil, PL.pTup, PL.pL, PL.fLst, PL.pAnd, PL.pOr, PL.pNot, PL.pTAnd, PL.pTOr, PL.pTNot, PL.pIsN, PL.isNonP, PL.pIsi, PL.pty, PL.pAttr, PL.pget, PL.gLen_lst, PL.gLen_tup, PL.pbS, PL.pbH, PL.kp, PL.kps, PL.nr, PL.nrs, PL.nl, PL.nls, PL.oL, PL.frz, PL.frzS, PL.pFz, PL.pChain, PL.pNeg, PL.pRaise, PL.pRaiseH, PL.x2s, PL.x1, PL.x2, PL.x2t, ML.tabInt, ML.tabBool, ML.LIM, PL.pBrk, PL.pCont, PL.gInt, PL.gMax2, PL.gMin2, PL.gAbs, hli])).trans ?_
  refine (seq_nx (ρ1 := [some (.sh (.int len)), some (.sh (.lst (intsP ms))), some (.sh (.int st)), some (.sh (.int (st + last))), some (.ow (.lst (rowsP [(st, st + last, true)]))), none, none]) (s1 := s) (by simp [PL.inE, PL.pfun, PL.pRet, PL.pRetN, PL.pDrop, PL.pSet, PL.pSetH, PL.pSetO, PL.pSetOH, PL.pIf, PL.pSeq, PL.pSkip, PL.pApp, PL.pAppH, PL.pAsg, PL.pAsgH, PL.pPar2, PL.pPar3, PL.jN, PL.jT, PL.jC, PL.jE, PL.pIfE, PL.pB, PL.ptoB, PL.pOp, PL.pVar, PL.pC, PL.vA, PL.vH, PL.slA_sh, PL.slA_ow, PL.slA_no, PL.slH_sh, PL.slH_ow, PL.slH_no, PL.qI, PL.qIc, PL.qAdd, PL.pCB, PL.pCons, PL.pNil, PL.pTup, PL.pL, PL.fLst, PL.pAnd, PL.pOr, PL.pNot, PL.pTAnd, PL.pTOr, PL.pTNot, PL.pIsN, PL.isNonP, PL.pIsi, PL.pty, PL.pAttr, PL.pget, PL.gLen_lst, PL.gLen_tup, PL.pbS, PL.pbH, PL.kp, PL.kps, PL.nr, PL.nrs, PL.nl, PL.nls, PL.oL, PL.frz, PL.frzS, PL.pFz, PL.pChain, PL.pNeg, PL.pRaise, PL.pRaiseH, PL.x2s, PL.x1, PL.x2, PL.x2t, ML.tabInt, ML.tabBool, ML.LIM, PL.pBrk, PL.pCont, PL.gInt, PL.gMax2, PL.gMin2, PL.gAbs, rowsP, rowP])).trans ?_
  refine (seq_nx ((pfor_eq (ps := intsP pre.reverse) (s1 := s) ?_).trans el)).trans ?_
  · have e9 : ((intsP ms).take (revFrom (intsP ms).length (-2))).reverse = intsP pre.reverse := by
      rw [revFrom2, ints_len, hpl, hms]
      simp [intsP]
    simp [PL.inE, PL.pfun, PL.pRet, PL.pRetN, PL.pDrop, PL.pSet, PL.pSetH, PL.pSetO, PL.pSetOH, PL.pIf, PL.pSeq, PL.pSkip, PL.pApp, PL.pAppH, PL.pAsg, PL.pAsgH, PL.pPar2, PL.pPar3, PL.jN, PL.jT, PL.jC, PL.jE, PL.pIfE, PL.pB, PL.ptoB, PL.pOp, PL.pVar, PL.pC, PL.vA, PL.vH, PL.slA_sh, PL.slA_ow, PL.slA_no, PL.slH_sh, PL.slH_ow, PL.slH_no, PL.qI, PL.qIc, PL.qAdd, PL.pCB, PL.pCons, PL.pNil, PL.pTup, PL.pL, PL.fLst, PL.pAnd, PL.pOr, PL.pNot, PL.pTAnd, PL.pTOr, PL.pTNot, PL.pIsN, PL.isNonP, PL.pIsi, PL.pty, PL.pAttr, PL.pget, PL.gLen_lst, PL.gLen_tup, PL.pbS, PL.pbH, PL.kp, PL.kps, PL.nr, PL.nrs, PL.nl, PL.nls, PL.oL, PL.frz, PL.frzS, PL.pFz, PL.pChain, PL.pNeg, PL.pRaise, PL.pRaiseH, PL.x2s, PL.x1, PL.x2, PL.x2t, ML.tabInt, ML.tabBool, ML.LIM, PL.pBrk, PL.pCont, PL.gInt, PL.gMax2, PL.gMin2, PL.gAbs, pISeq, fRevF, pPart, e9]
  · show pRet _ [some (.sh (.int len)), some (.sh (.lst (intsP ms))), some (.sh (.int 0)), some (.sh (.int (RM.sA len 0 ms 0))), some (.ow (.lst (rowsP acc))), p5, p6] s = _
    unfold pRet
    show (match pMake n_Rising p_Rising___init__ (pCons (pL (fRevL (pVar 4))) pNil) [some (.int len), some (.lst (intsP ms)), some (.int 0), some (.int (RM.sA len 0 ms 0)), some (.lst (rowsP acc)), slA p5, slA p6] s with | some (.ok p s1) => some (Pq.rt p s1) | some (.ex c fs ws s1) => _ | none => none) = _
    rw [mk]
end K09

set_option maxHeartbeats 4000000
namespace K09
open PySem L2 ML PL
theorem ints_eq (neg : Bool) (a b : List Int) (s : DS) : PL.qEq neg (.lst (intsP a)) (.lst (intsP b)) s = some (.ok (.bl (decide (a = b) != neg)) s) := dt_int.eqL (by decide) neg a b s
theorem rows_eq (neg : Bool) (a b : List RM.Row) (s : DS) : PL.qEq neg (.tup (rowsP a)) (.tup (rowsP b)) s = some (.ok (.bl (decide (a = b) != neg)) s) := dt_row.eqT (by decide) neg a b s
theorem riding_p (s : DS) {slots length most : Int} (h1 : 0 < slots) (h2 : slots ≤ 48) (h3 : 0 < length) (h4 : length ≤ 720) (h5 : 0 ≤ most) (h6 : most ≤ 600) :
    ∃ len ms s', p__law_riding [.scr, .st, .int slots, .int length, .int most] s = some (.ok (.tup [.int len, .lst (intsP ms)]) s') ∧ OkS len ms ∧ len ≤ length ∧ (ms.length : Int) ≤ slots := by
  obtain ⟨a, s1, a0, a1, e1⟩ := draw_ex s slots h1 (by omega)
  obtain ⟨b, s2, b0, b1, e2⟩ := draw_ex s1 length h3 (by omega)
  obtain ⟨vs, s3, e3, l3, b3⟩ := comp_draws (i := 7) (te := (pCB p__law_draw (pCons (pVar 0) (pCons (pVar 1) (pCons (pOp qAdd (pVar 4) (pC (.int 1))) pNil))))) (ρ := [some .scr, some .st, some (.int slots), some (.int length), some (.int most), some (.int (1 + a)), some (.int (1 + b)), none]) (lim := most + 1) (by omega) (by omega) (fun v s => rfl) (pItems 0 (1 + a).toNat) [] s2 (by rw [pItems_len]; simp; omega)
  rw [pItems_len] at l3
  refine ⟨1 + b, vs, s3, fun_rt (s1 := s3) rfl ?_, ⟨by omega, by omega, by intro h; subst h; simp at l3; omega, by omega, fun m hm => by have := b3 m hm; omega⟩, by omega, by omega⟩
  unfold p_b__law_riding
  refine (seq_nx (ρ1 := [some (.sh .scr), some (.sh .st), some (.sh (.int slots)), some (.sh (.int length)), some (.sh (.int most)), some (.sh (.int (1 + a))), none, none]) (s1 := s1) (by simp [PL.inE, PL.pfun, PL.pRet, PL.pRetN, PL.pDrop, PL.pSet, PL.pSetH, PL.pSetO, PL.pSetOH, PL.pIf, PL.pSeq, PL.pSkip, PL.pApp, PL.pAppH, PL.pAsg, PL.pAsgH, PL.pPar2, PL.pPar3, PL.jN, PL.jT, PL.jC, PL.jE, PL.pIfE, PL.pB, PL.ptoB, PL.pOp, PL.pVar, PL.pC, PL.vA, PL.vH, PL.slA_sh, PL.slA_ow, PL.slA_no, PL.slH_sh, PL.slH_ow, PL.slH_no, PL.qI, PL.qIc, PL.qAdd, PL.pCB, PL.pCons, PL.pNil, PL.pTup, PL.pL, PL.fLst, PL.pAnd, PL.pOr, PL.pNot, PL.pTAnd, PL.pTOr, PL.pTNot, PL.pIsN, PL.isNonP, PL.pIsi, PL.pty, PL.pAttr, PL.pget, PL.gLen_lst, PL.gLen_tup, PL.pbS, PL.pbH, PL.kp, PL.kps, PL.nr, PL.nrs, PL.nl, PL.nls, PL.oL, PL.frz, PL.frzS, PL.pFz, PL.pChain, PL.pNeg, PL.pRaise, PL.pRaiseH, PL.x2s, PL.x1, PL.x2, PL.x2t, ML.tabInt, ML.tabBool, ML.LIM, PL.pBrk, PL.pCont, PL.gInt, PL.gMax2, PL.gMin2, PL.gAbs, e1])).trans ?_
  refine (seq_nx (ρ1 := [some (.sh .scr), some (.sh .st), some (.sh (.int slots)), some (.sh (.int length)), some (.sh (.int most)), some (.sh (.int (1 + a))), some (.sh (.int (1 + b))), none]) (s1 := s2) (by simp [PL.inE, PL.pfun, PL.pRet, PL.pRetN, PL.pDrop, PL.pSet, PL.pSetH, PL.pSetO, PL.pSetOH, PL.pIf, PL.pSeq, PL.pSkip, PL.pApp, PL.pAppH, PL.pAsg, PL.pAsgH, PL.pPar2, PL.pPar3, PL.jN, PL.jT, PL.jC, PL.jE, PL.pIfE, PL.pB, PL.ptoB, PL.pOp, PL.pVar, PL.pC, PL.vA, PL.vH, PL.slA_sh, PL.slA_ow, PL.slA_no, PL.slH_sh, PL.slH_ow, PL.slH_no, PL.qI, PL.qIc, PL.qAdd, PL.pCB, PL.pCons, PL.pNil, PL.pTup, PL.pL, PL.fLst, PL.pAnd, PL.pOr, PL.pNot, PL.pTAnd, PL.pTOr, PL.pTNot, PL.pIsN, PL.isNonP, PL.pIsi, PL.pty, PL.pAttr, PL.pget, PL.gLen_lst, PL.gLen_tup, PL.pbS, PL.pbH, PL.kp, PL.kps, PL.nr, PL.nrs, PL.nl, PL.nls, PL.oL, PL.frz, PL.frzS, PL.pFz, PL.pChain, PL.pNeg, PL.pRaise, PL.pRaiseH, PL.x2s, PL.x1, PL.x2, PL.x2t, ML.tabInt, ML.tabBool, ML.LIM, PL.pBrk, PL.pCont, PL.gInt, PL.gMax2, PL.gMin2, PL.gAbs, e2])).trans ?_
  have i1 : inR (1 + a) = true := inR_of (by omega) (by omega)
  simp only [List.nil_append] at e3
  simp [PL.inE, PL.pfun, PL.pRet, PL.pRetN, PL.pDrop, PL.pSet, PL.pSetH, PL.pSetO, PL.pSetOH, PL.pIf, PL.pSeq, PL.pSkip, PL.pApp, PL.pAppH, PL.pAsg, PL.pAsgH, PL.pPar2, PL.pPar3, PL.jN, PL.jT, PL.jC, PL.jE, PL.pIfE, PL.pB, PL.ptoB, PL.pOp, PL.pVar, PL.pC, PL.vA, PL.vH, PL.slA_sh, PL.slA_ow, PL.slA_no, PL.slH_sh, PL.slH_ow, PL.slH_no, PL.qI, PL.qIc, PL.qAdd, PL.pCB, PL.pCons, PL.pNil, PL.pTup, PL.pL, PL.fLst, PL.pAnd, PL.pOr, PL.pNot, PL.pTAnd, PL.pTOr, PL.pTNot, PL.pIsN, PL.isNonP, PL.pIsi, PL.pty, PL.pAttr, PL.pget, PL.gLen_lst, PL.gLen_tup, PL.pbS, PL.pbH, PL.kp, PL.kps, PL.nr, PL.nrs, PL.nl, PL.nls, PL.oL, PL.frz, PL.frzS, PL.pFz, PL.pChain, PL.pNeg, PL.pRaise, PL.pRaiseH, PL.x2s, PL.x1, PL.x2, PL.x2t, ML.tabInt, ML.tabBool, ML.LIM, PL.pBrk, PL.pCont, PL.gInt, PL.gMax2, PL.gMin2, PL.gAbs, fLc, pIR1, i1, wipeP, e3, intsP]
theorem idx_fd {len t : Int} (hl : 1 ≤ len) (ht : 0 ≤ t) : t.fdiv len = t / len ∧ 0 ≤ t / len := ⟨Int.fdiv_eq_ediv_of_nonneg _ (by omega), Int.ediv_nonneg ht (by omega)⟩
theorem rid_at {len : Int} {ms : List Int} (h : OkS len ms) {t : Int} (ht : 0 ≤ t) {R : P} (hR : Sq R (intsP ms)) {i : Int} (hi : i = if ((ms.length : Int) - 1) < t / len then (ms.length : Int) - 1 else t / len) (s : DS) : qIx R (.int i) s = some (.ok (.int (RM.rid len 0 ms t)) s) := by
  have h0 := List.length_pos_iff.mpr h.2.2.1
  have hd := (idx_fd h.1 ht).2
  have hk : min (t / len).toNat (ms.length - 1) < ms.length := by omega
  have e : ms[min (t / len).toNat (ms.length - 1)]? = some (RM.rid len 0 ms t) := by
    unfold RM.rid
    rw [Int.sub_zero]
    simp [hk]
  refine sq_ix hR (k := min (t / len).toNat (ms.length - 1)) ?_ (ints_at e)
  rw [hi]
  split <;> omega
theorem div_ok {len : Int} (h1 : 1 ≤ len) (h2 : len ≤ 720) (t : Int) : opq (cDivN t len) = true := opq_t (by
  unfold cDivN
  simp only [Bool.and_eq_true, decide_eq_true_eq]
  omega)
theorem plain_p {len : Int} {ms : List Int} (h : OkS len ms) {t : Int} (ht : 0 ≤ t) (s : DS) : p__law_plain [.tup [.int len, .lst (intsP ms)], .int t] s = some (.ok (.int (t + RM.rid len 0 ms t)) s) := by
  have hf := (idx_fd h.1 ht).1
  have hx := rid_at h ht (.inl rfl : Sq (.lst (intsP ms)) (intsP ms)) rfl s
  have hd := div_ok h.1 h.2.1 t
  unfold p__law_plain p_b__law_plain
  simp [PL.inE, PL.pfun, PL.pRet, PL.pRetN, PL.pDrop, PL.pSet, PL.pSetH, PL.pSetO, PL.pSetOH, PL.pIf, PL.pSeq, PL.pSkip, PL.pApp, PL.pAppH, PL.pAsg, PL.pAsgH, PL.pPar2, PL.pPar3, PL.jN, PL.jT, PL.jC, PL.jE, PL.pIfE, PL.pB, PL.ptoB, PL.pOp, PL.pVar, PL.pC, PL.vA, PL.vH, PL.slA_sh, PL.slA_ow, PL.slA_no, PL.slH_sh, PL.slH_ow, PL.slH_no, PL.qI, PL.qIc, PL.qAdd, PL.pCB, PL.pCons, PL.pNil, PL.pTup, PL.pL, PL.fLst, PL.pAnd, PL.pOr, PL.pNot, PL.pTAnd, PL.pTOr, PL.pTNot, PL.pIsN, PL.isNonP, PL.pIsi, PL.pty, PL.pAttr, PL.pget, PL.gLen_lst, PL.gLen_tup, PL.pbS, PL.pbH, PL.kp, PL.kps, PL.nr, PL.nrs, PL.nl, PL.nls, PL.oL, PL.frz, PL.frzS, PL.pFz, PL.pChain, PL.pNeg, PL.pRaise, PL.pRaiseH, PL.x2s, PL.x1, PL.x2, PL.x2t, ML.tabInt, ML.tabBool, ML.LIM, PL.pBrk, PL.pCont, PL.gInt, PL.gMax2, PL.gMin2, PL.gAbs, hd, hf, ints_len, hx]
theorem ride_p {len : Int} {ms : List Int} (h : OkS len ms) {R : P} (hR : Sq R (intsP ms)) {t : Int} (ht : 0 ≤ t) (s : DS) : p_ride [.int len, R, .int t] s = some (.ok (.int (t + RM.rid len 0 ms t)) s) := by
  have cs := check_slots_p hR h s
  have cn := check_number_lo "minute" t 0 s ht
  have hl := sq_len (s := s) hR
  rw [ints_len] at hl
  have hf := (idx_fd h.1 ht).1
  have hd := div_ok h.1 h.2.1 t
  have hls := lesser_p (t / len) ((ms.length : Int) - 1) s
  have hx := rid_at h ht hR (i := if t / len ≤ (ms.length : Int) - 1 then t / len else (ms.length : Int) - 1) (by split <;> split <;> omega) s
  unfold p_ride p_b_ride
  simp [PL.inE, PL.pfun, PL.pRet, PL.pRetN, PL.pDrop, PL.pSet, PL.pSetH, PL.pSetO, PL.pSetOH, PL.pIf, PL.pSeq, PL.pSkip, PL.pApp, PL.pAppH, PL.pAsg, PL.pAsgH, PL.pPar2, PL.pPar3, PL.jN, PL.jT, PL.jC, PL.jE, PL.pIfE, PL.pB, PL.ptoB, PL.pOp, PL.pVar, PL.pC, PL.vA, PL.vH, PL.slA_sh, PL.slA_ow, PL.slA_no, PL.slH_sh, PL.slH_ow, PL.slH_no, PL.qI, PL.qIc, PL.qAdd, PL.pCB, PL.pCons, PL.pNil, PL.pTup, PL.pL, PL.fLst, PL.pAnd, PL.pOr, PL.pNot, PL.pTAnd, PL.pTOr, PL.pTNot, PL.pIsN, PL.isNonP, PL.pIsi, PL.pty, PL.pAttr, PL.pget, PL.gLen_lst, PL.gLen_tup, PL.pbS, PL.pbH, PL.kp, PL.kps, PL.nr, PL.nrs, PL.nl, PL.nls, PL.oL, PL.frz, PL.frzS, PL.pFz, PL.pChain, PL.pNeg, PL.pRaise, PL.pRaiseH, PL.x2s, PL.x1, PL.x2, PL.x2t, ML.tabInt, ML.tabBool, ML.LIM, PL.pBrk, PL.pCont, PL.gInt, PL.gMax2, PL.gMin2, PL.gAbs, cs, cn, hl, hd, hf, hls, hx]
/-- the recursion of the values -/
theorem slot_step {len : Int} {ms : List Int} (h : OkS len ms) {t : Int} (ht : 0 ≤ t) : slotV len ms t = if slotV len ms (t + 1) ≤ t + RM.rid len 0 ms t then slotV len ms (t + 1) else t + RM.rid len 0 ms t := by
  have up := (slot_rf h).up t ht
  obtain ⟨m0, rest, rfl⟩ : ∃ m0 rest, ms = m0 :: rest := by
    cases ms with
    | nil => exact absurd rfl h.2.2.1
    | cons a b => exact ⟨a, b, rfl⟩
  have lo := RM.sA_low h.1 rest m0 0 t t ht (Int.le_refl _)
  rcases RM.sA_met h.1 rest m0 0 t ht with e | ⟨k, hk, hk2, e⟩
  · show RM.sA len 0 (m0 :: rest) t = _
    unfold slotV at *
    split <;> omega
  · have l2 := RM.sA_low h.1 rest m0 0 (t + 1) (0 + len * k) (by omega) (by omega)
    unfold slotV at *
    split <;> omega
theorem slot_end {len : Int} {ms : List Int} (h : OkS len ms) {t : Int} (ht : len * ((ms.length - 1 : Nat) : Int) ≤ t) : slotV len ms t = t + RM.rid len 0 ms t := by
  obtain ⟨m0, rest, rfl⟩ : ∃ m0 rest, ms = m0 :: rest := by
    cases ms with
    | nil => exact absurd rfl h.2.2.1
    | cons a b => exact ⟨a, b, rfl⟩
  have h1 := h.1
  have hp : 0 ≤ len * (((m0 :: rest).length - 1 : Nat) : Int) := Int.mul_nonneg (by omega) (by omega)
  rcases RM.sA_met h1 rest m0 0 t (by omega) with e | ⟨k, hk, hk2, e⟩
  · exact e
  · have : len * (k : Int) ≤ len * (((m0 :: rest).length - 1 : Nat) : Int) := Int.mul_le_mul_of_nonneg_left (by simp at hk ⊢; omega) (by omega)
    omega
theorem rid_slot {len : Int} {ms : List Int} (h : OkS len ms) {k : Nat} {v : Int} (e : ms[k]? = some v) : RM.rid len 0 ms (len * k) = v := by
  have hk := (List.getElem?_eq_some_iff.mp e).1
  unfold RM.rid
  have : (len * (k : Int) - 0) / len = k := by
    rw [Int.sub_zero, Int.mul_ediv_cancel_left _ (by have := h.1; omega)]
  rw [this, Int.toNat_natCast, Nat.min_eq_left (by omega), e]
  rfl
noncomputable abbrev arB : PL.PS := (pIf (pB (pOp qGt (pOp qMul (pVar 5) (pVar 2)) (pVar 1)))
    (pSetH 4 (pCB gMin2 (pCons (pCB gInt (pCons (pVar 4) pNil)) (pCons (pCB gInt (pCons (pOp qAdd (pOp qMul (pVar 5) (pVar 2)) (pOp qIx (pVar 3) (pVar 5))) pNil)) pNil))))
    pSkip)
theorem ar_loop {len : Int} {ms : List Int} (h : OkS len ms) (X : P) (t : Int) (s : DS) : ∀ (n k : Nat) (L : Int) (o5 : Option Sl), k + n = ms.length →
    ∃ (L' : Int) (o5' : Option Sl), L' ≤ L ∧ (L' = L ∨ ∃ j : Nat, k ≤ j ∧ j < ms.length ∧ t < len * j ∧ L' = len * j + RM.rid len 0 ms (len * j)) ∧ (∀ j : Nat, k ≤ j → j < ms.length → t < len * j → L' ≤ len * j + RM.rid len 0 ms (len * j)) ∧
      pForC (jN 5) arB (pItems (k : Int) n) [some (.sh X), some (.sh (.int t)), some (.sh (.int len)), some (.sh (.lst (intsP ms))), some (.sh (.int L)), o5] s = some (.nx [some (.sh X), some (.sh (.int t)), some (.sh (.int len)), some (.sh (.lst (intsP ms))), some (.sh (.int L')), o5'] s)
  | 0, k, L, o5, hk => ⟨L, o5, Int.le_refl _, .inl rfl, fun j a b => by omega, rfl⟩
  | n + 1, k, L, o5, hk => by
    obtain ⟨v, hv⟩ : ∃ v, ms[k]? = some v := ⟨ms[k]'(by omega), by simp⟩
    have rv := rid_slot h hv
    have hm : opq (cMul (k : Int) len) = true := mul_ok (by omega) (by have := h.2.2.2.1; omega)
    have ix : qIx (.lst (intsP ms)) (.int (k : Int)) s = some (.ok (.int v) s) := sq_ix (.inl rfl) rfl (ints_at hv)
    have comm : (k : Int) * len = len * k := Int.mul_comm _ _
    obtain ⟨L1, hL1⟩ : ∃ L1, L1 = if t < len * (k : Int) then (if len * (k : Int) + v < L then len * (k : Int) + v else L) else L := ⟨_, rfl⟩
    obtain ⟨L', o5', q1, q2, q3, e⟩ := ar_loop h X t s n (k + 1) L1 (some (.sh (.int (k : Int)))) (by omega)
    have hle : L1 ≤ L := by rw [hL1]; split <;> (try split) <;> omega
    refine ⟨L', o5', by omega, ?_, fun j a b c => ?_, ?_⟩
    · rcases q2 with q2 | ⟨j, a, b, c, d⟩
      · by_cases c1 : t < len * (k : Int)
        · rw [if_pos c1] at hL1
          by_cases c2 : len * (k : Int) + v < L
          · rw [if_pos c2] at hL1
            exact .inr ⟨k, Nat.le_refl _, by omega, c1, by rw [rv]; omega⟩
          · rw [if_neg c2] at hL1; exact .inl (by omega)
        · rw [if_neg c1] at hL1; exact .inl (by omega)
      · exact .inr ⟨j, by omega, b, c, d⟩
    · rcases Nat.eq_or_lt_of_le a with z | z
      · subst z
        rw [if_pos c] at hL1
        rw [rv]
        have : L1 ≤ len * (k : Int) + v := by rw [hL1]; split <;> omega
        omega
      · exact q3 j (by omega) b c
    · rw [pitems_succ, pforC_nx (ρ1 := [some (.sh X), some (.sh (.int t)), some (.sh (.int len)), some (.sh (.lst (intsP ms))), some (.sh (.int L)), some (.sh (.int (k : Int)))]) (ρ2 := [some (.sh X), some (.sh (.int t)), some (.sh (.int len)), some (.sh (.lst (intsP ms))), some (.sh (.int L1)), some (.sh (.int (k : Int)))]) (s2 := s) rfl ?_]
      · exact e
      · by_cases c1 : t < len * (k : Int)
        · rw [if_pos c1] at hL1
          simp [PL.inE, PL.pfun, PL.pRet, PL.pRetN, PL.pDrop, PL.pSet, PL.pSetH, PL.pSetO, PL.pSetOH, PL.pIf, PL.pSeq, PL.pSkip, PL.pApp, PL.pAppH, PL.pAsg, PL.pAsgH, PL.pPar2, PL.pPar3, PL.jN, PL.jT, PL.jC, PL.jE, PL.pIfE, PL.pB, PL.ptoB, PL.pOp, PL.pVar, PL.pC, PL.vA, PL.vH, PL.slA_sh, PL.slA_ow, PL.slA_no, PL.slH_sh, PL.slH_ow, PL.slH_no, PL.qI, PL.qIc, PL.qAdd, PL.pCB, PL.pCons, PL.pNil, PL.pTup, PL.pL, PL.fLst, PL.pAnd, PL.pOr, PL.pNot, PL.pTAnd, PL.pTOr, PL.pTNot, PL.pIsN, PL.isNonP, PL.pIsi, PL.pty, PL.pAttr, PL.pget, PL.gLen_lst, PL.gLen_tup, PL.pbS, PL.pbH, PL.kp, PL.kps, PL.nr, PL.nrs, PL.nl, PL.nls, PL.oL, PL.frz, PL.frzS, PL.pFz, PL.pChain, PL.pNeg, PL.pRaise, PL.pRaiseH, PL.x2s, PL.x1, PL.x2, PL.x2t, ML.tabInt, ML.tabBool, ML.LIM, PL.pBrk, PL.pCont, PL.gInt, PL.gMax2, PL.gMin2, PL.gAbs, qMul, hm, comm, c1, ix, hL1]
        · rw [if_neg c1] at hL1
          simp [PL.inE, PL.pfun, PL.pRet, PL.pRetN, PL.pDrop, PL.pSet, PL.pSetH, PL.pSetO, PL.pSetOH, PL.pIf, PL.pSeq, PL.pSkip, PL.pApp, PL.pAppH, PL.pAsg, PL.pAsgH, PL.pPar2, PL.pPar3, PL.jN, PL.jT, PL.jC, PL.jE, PL.pIfE, PL.pB, PL.ptoB, PL.pOp, PL.pVar, PL.pC, PL.vA, PL.vH, PL.slA_sh, PL.slA_ow, PL.slA_no, PL.slH_sh, PL.slH_ow, PL.slH_no, PL.qI, PL.qIc, PL.qAdd, PL.pCB, PL.pCons, PL.pNil, PL.pTup, PL.pL, PL.fLst, PL.pAnd, PL.pOr, PL.pNot, PL.pTAnd, PL.pTOr, PL.pTNot, PL.pIsN, PL.isNonP, PL.pIsi, PL.pty, PL.pAttr, PL.pget, PL.gLen_lst, PL.gLen_tup, PL.pbS, PL.pbH, PL.kp, PL.kps, PL.nr, PL.nrs, PL.nl, PL.nls, PL.oL, PL.frz, PL.frzS, PL.pFz, PL.pChain, PL.pNeg, PL.pRaise, PL.pRaiseH, PL.x2s, PL.x1, PL.x2, PL.x2t, ML.tabInt, ML.tabBool, ML.LIM, PL.pBrk, PL.pCont, PL.gInt, PL.gMax2, PL.gMin2, PL.gAbs, qMul, hm, comm, c1, ix, hL1]
theorem arrival_p {len : Int} {ms : List Int} (h : OkS len ms) {t : Int} (ht : 0 ≤ t) (s : DS) : p__law_arrival [.tup [.int len, .lst (intsP ms)], .int t] s = some (.ok (.int (slotV len ms t)) s) := by
  have hf := (idx_fd h.1 ht).1
  have hx := rid_at h ht (.inl rfl : Sq (.lst (intsP ms)) (intsP ms)) rfl s
  have hd := div_ok h.1 h.2.1 t
  obtain ⟨L', o5, q1, q2, q3, e⟩ := ar_loop h (.tup [.int len, .lst (intsP ms)]) t s ms.length 0 (t + RM.rid len 0 ms t) none (by omega)
  have hL : L' = slotV len ms t := by
    obtain ⟨m0, rest, rfl⟩ : ∃ m0 rest, ms = m0 :: rest := by
      cases ms with
      | nil => exact absurd rfl h.2.2.1
      | cons a b => exact ⟨a, b, rfl⟩
    have lo : ∀ u, t ≤ u → RM.sA len 0 (m0 :: rest) t ≤ u + RM.rid len 0 (m0 :: rest) u := fun u hu => RM.sA_low h.1 rest m0 0 t u ht hu
    have h1 : RM.sA len 0 (m0 :: rest) t ≤ L' := by
      rcases q2 with q2 | ⟨j, a, b, c, d⟩
      · rw [q2]; exact lo t (Int.le_refl _)
      · rw [d]; exact lo _ (by omega)
    have h2 : L' ≤ RM.sA len 0 (m0 :: rest) t := by
      rcases RM.sA_met h.1 rest m0 0 t ht with e | ⟨k, hk, hk2, e⟩
      · rw [e]; exact q1
      · rw [e, Int.zero_add]
        exact q3 k (Nat.zero_le _) hk (by omega)
    unfold slotV
    omega
  rw [hL] at e
  refine fun_rt (s1 := s) rfl ?_
  unfold p_b__law_arrival
  refine (seq_nx (ρ1 := [some (.sh (.tup [.int len, .lst (intsP ms)])), some (.sh (.int t)), some (.sh (.int len)), some (.sh (.lst (intsP ms))), none, none]) (s1 := s) (by simp [PL.inE, PL.pfun, PL.pRet, PL.pRetN, PL.pDrop, PL.pSet, PL.pSetH, PL.pSetO, PL.pSetOH, PL.pIf, PL.pSeq, PL.pSkip, PL.pApp, PL.pAppH, PL.pAsg, PL.pAsgH, PL.pPar2, PL.pPar3, PL.jN, PL.jT, PL.jC, PL.jE, PL.pIfE, PL.pB, PL.ptoB, PL.pOp, PL.pVar, PL.pC, PL.vA, PL.vH, PL.slA_sh, PL.slA_ow, PL.slA_no, PL.slH_sh, PL.slH_ow, PL.slH_no, PL.qI, PL.qIc, PL.qAdd, PL.pCB, PL.pCons, PL.pNil, PL.pTup, PL.pL, PL.fLst, PL.pAnd, PL.pOr, PL.pNot, PL.pTAnd, PL.pTOr, PL.pTNot, PL.pIsN, PL.isNonP, PL.pIsi, PL.pty, PL.pAttr, PL.pget, PL.gLen_lst, PL.gLen_tup, PL.pbS, PL.pbH, PL.kp, PL.kps, PL.nr, PL.nrs, PL.nl, PL.nls, PL.oL, PL.frz, PL.frzS, PL.pFz, PL.pChain, PL.pNeg, PL.pRaise, PL.pRaiseH, PL.x2s, PL.x1, PL.x2, PL.x2t, ML.tabInt, ML.tabBool, ML.LIM, PL.pBrk, PL.pCont, PL.gInt, PL.gMax2, PL.gMin2, PL.gAbs])).trans ?_
  refine (seq_nx (ρ1 := [some (.sh (.tup [.int len, .lst (intsP ms)])), some (.sh (.int t)), some (.sh (.int len)), some (.sh (.lst (intsP ms))), some (.sh (.int (t + RM.rid len 0 ms t))), none]) (s1 := s) (by simp [PL.inE, PL.pfun, PL.pRet, PL.pRetN, PL.pDrop, PL.pSet, PL.pSetH, PL.pSetO, PL.pSetOH, PL.pIf, PL.pSeq, PL.pSkip, PL.pApp, PL.pAppH, PL.pAsg, PL.pAsgH, PL.pPar2, PL.pPar3, PL.jN, PL.jT, PL.jC, PL.jE, PL.pIfE, PL.pB, PL.ptoB, PL.pOp, PL.pVar, PL.pC, PL.vA, PL.vH, PL.slA_sh, PL.slA_ow, PL.slA_no, PL.slH_sh, PL.slH_ow, PL.slH_no, PL.qI, PL.qIc, PL.qAdd, PL.pCB, PL.pCons, PL.pNil, PL.pTup, PL.pL, PL.fLst, PL.pAnd, PL.pOr, PL.pNot, PL.pTAnd, PL.pTOr, PL.pTNot, PL.pIsN, PL.isNonP, PL.pIsi, PL.pty, PL.pAttr, PL.pget, PL.gLen_lst, PL.gLen_tup, PL.pbS, PL.pbH, PL.kp, PL.kps, PL.nr, PL.nrs, PL.nl, PL.nls, PL.oL, PL.frz, PL.frzS, PL.pFz, PL.pChain, PL.pNeg, PL.pRaise, PL.pRaiseH, PL.x2s, PL.x1, PL.x2, PL.x2t, ML.tabInt, ML.tabBool, ML.LIM, PL.pBrk, PL.pCont, PL.gInt, PL.gMax2, PL.gMin2, PL.gAbs, hd, hf, ints_len, hx])).trans ?_
  have i1 : inR (ms.length : Int) = true := inR_of (by omega) (by have := h.2.2.2.1; omega)
  refine (seq_nx ((pfor_eq (ps := pItems 0 ms.length) (s1 := s) (by simp [PL.inE, PL.pfun, PL.pRet, PL.pRetN, PL.pDrop, PL.pSet, PL.pSetH, PL.pSetO, PL.pSetOH, PL.pIf, PL.pSeq, PL.pSkip, PL.pApp, PL.pAppH, PL.pAsg, PL.pAsgH, PL.pPar2, PL.pPar3, PL.jN, PL.jT, PL.jC, PL.jE, PL.pIfE, PL.pB, PL.ptoB, PL.pOp, PL.pVar, PL.pC, PL.vA, PL.vH, PL.slA_sh, PL.slA_ow, PL.slA_no, PL.slH_sh, PL.slH_ow, PL.slH_no, PL.qI, PL.qIc, PL.qAdd, PL.pCB, PL.pCons, PL.pNil, PL.pTup, PL.pL, PL.fLst, PL.pAnd, PL.pOr, PL.pNot, PL.pTAnd, PL.pTOr, PL.pTNot, PL.pIsN, PL.isNonP, PL.pIsi, PL.pty, PL.pAttr, PL.pget, PL.gLen_lst, PL.gLen_tup, PL.pbS, PL.pbH, PL.kp, PL.kps, PL.nr, PL.nrs, PL.nl, PL.nls, PL.oL, PL.frz, PL.frzS, PL.pFz, PL.pChain, PL.pNeg, PL.pRaise, PL.pRaiseH, PL.x2s, PL.x1, PL.x2, PL.x2t, ML.tabInt, ML.tabBool, ML.LIM, PL.pBrk, PL.pCont, PL.gInt, PL.gMax2, PL.gMin2, PL.gAbs, pIR1, ints_len, i1])).trans e)).trans ?_
  simp [PL.inE, PL.pfun, PL.pRet, PL.pRetN, PL.pDrop, PL.pSet, PL.pSetH, PL.pSetO, PL.pSetOH, PL.pIf, PL.pSeq, PL.pSkip, PL.pApp, PL.pAppH, PL.pAsg, PL.pAsgH, PL.pPar2, PL.pPar3, PL.jN, PL.jT, PL.jC, PL.jE, PL.pIfE, PL.pB, PL.ptoB, PL.pOp, PL.pVar, PL.pC, PL.vA, PL.vH, PL.slA_sh, PL.slA_ow, PL.slA_no, PL.slH_sh, PL.slH_ow, PL.slH_no, PL.qI, PL.qIc, PL.qAdd, PL.pCB, PL.pCons, PL.pNil, PL.pTup, PL.pL, PL.fLst, PL.pAnd, PL.pOr, PL.pNot, PL.pTAnd, PL.pTOr, PL.pTNot, PL.pIsN, PL.isNonP, PL.pIsi, PL.pty, PL.pAttr, PL.pget, PL.gLen_lst, PL.gLen_tup, PL.pbS, PL.pbH, PL.kp, PL.kps, PL.nr, PL.nrs, PL.nl, PL.nls, PL.oL, PL.frz, PL.frzS, PL.pFz, PL.pChain, PL.pNeg, PL.pRaise, PL.pRaiseH, PL.x2s, PL.x1, PL.x2, PL.x2t, ML.tabInt, ML.tabBool, ML.LIM, PL.pBrk, PL.pCont, PL.gInt, PL.gMax2, PL.gMin2, PL.gAbs]
end K09

set_option maxHeartbeats 4000000
namespace K09
open PySem L2 ML PL
abbrev mapS (len : Int) (ms : List Int) : P := mapP (RM.rows (slotV len ms) (slotN len ms))
theorem fcall {len : Int} {ms : List Int} (h : OkS len ms) {o : PE} {es : PA} {ρ : PEv} {s s1 s2 : DS} {t : Int} (ht : 0 ≤ t) (ho : o ρ s = some (.ok (mapS len ms) s1)) (he : es ρ s1 = some (.ok [.int t] s2)) : pCallO n_Rising p_Rising___call__ o es ρ s = some (.ok (.int (slotV len ms t)) s2) := by
  unfold pCallO
  rw [ho]
  show pb (es ρ s1) _ = _
  rw [he]
  simp only [pb_ok, if_true]
  exact call_p (slot_rf h) ht s2
theorem draws_p (s : DS) {n : Nat} {lim : Int} (hn : n ≤ 48) (h0 : 0 < lim) (h1 : lim < 1073741824) {ρ : PEv} {te : PE} {i : Nat} (ht : ∀ v s, te (ρ.set i (some v)) s = p__law_draw [.scr, .st, .int lim] s) :
    ∃ (vs : List Int) (s' : DS), pGo (.one i) pYes te ρ [] (pItems 0 n) s = some (.ok (intsP vs) s') ∧ vs.length = n ∧ ∀ v ∈ vs, 0 ≤ v ∧ v < lim := by
  obtain ⟨vs, s3, e3, l3, b3⟩ := comp_draws h0 h1 ht (pItems 0 n) [] s (by rw [pItems_len]; simp; omega)
  exact ⟨vs, s3, by simpa [intsP] using e3, by rw [l3, pItems_len], b3⟩
noncomputable abbrev lg1 : PL.PS := (pSeq (pSetH 6 (pCB gMax2 (pCons (pC (.int 0)) (pCons (pCB gInt (pCons (pOp qSub (pOp qAdd (pOp qMul (pCB p__law_draw (pCons (pVar 0) (pCons (pVar 1) (pCons (pC (.int 5)) pNil)))) (pVar 3)) (pCB p__law_draw (pCons (pVar 0) (pCons (pVar 1) (pCons (pC (.int 5)) pNil))))) (pC (.int 2))) pNil)) pNil))))
    (pIf (pTOr (pB (pOp (PL.qEq true) (pCallO 3 p_Rising___call__ (pVar 4) (pCons (pVar 6) pNil)) (pCB p__law_arrival (pCons (pTup (pCons (pVar 3) (pCons (pVar 2) pNil))) (pCons (pVar 6) pNil))))) (pB (pOp qLt (pCB p_ride (pCons (pVar 3) (pCons (pVar 2) (pCons (pVar 6) pNil)))) (pCallO 3 p_Rising___call__ (pVar 4) (pCons (pVar 6) pNil)))))
    (pRet (pC (.bl false)))
    pSkip))
def lgE (ms : List Int) (len : Int) (o5 o6 : Option Sl) : TEv := [some (.sh .scr), some (.sh .st), some (.sh (.lst (intsP ms))), some (.sh (.int len)), some (.sh (mapS len ms)), o5, o6]
theorem lg1_turn {len : Int} {ms : List Int} (h : OkS len ms) (s : DS) (o5 o6 : Option Sl) : ∃ p6 s', lg1 (lgE ms len o5 o6) s = some (.nx (lgE ms len o5 p6) s') := by
  obtain ⟨a, s1, a0, a1, e1⟩ := draw_ex s 5 (by decide) (by decide)
  obtain ⟨b, s2, b0, b1, e2⟩ := draw_ex s1 5 (by decide) (by decide)
  obtain ⟨m, hm⟩ : ∃ m, m = if a * len + b - 2 > 0 then a * len + b - 2 else 0 := ⟨_, rfl⟩
  have hm0 : 0 ≤ m := by rw [hm]; split <;> omega
  have mo := mul_ok (i := a) (j := len) (by omega) (by omega)
  have ar := arrival_p h hm0 s2
  have rd := ride_p h (.inl rfl : Sq (.lst (intsP ms)) (intsP ms)) hm0 s2
  have le : slotV len ms m ≤ m + RM.rid len 0 ms m := by
    obtain ⟨m0, rest, rfl⟩ : ∃ m0 rest, ms = m0 :: rest := by
      cases ms with
      | nil => exact absurd rfl h.2.2.1
      | cons a b => exact ⟨a, b, rfl⟩
    exact RM.sA_low h.1 rest m0 0 m m hm0 (Int.le_refl _)
  refine ⟨some (.sh (.int m)), s2, ?_⟩
  refine (seq_nx (ρ1 := lgE ms len o5 (some (.sh (.int m)))) (s1 := s2) (by unfold lgE; simp [PL.inE, PL.pfun, PL.pRet, PL.pRetN, PL.pDrop, PL.pSet, PL.pSetH, PL.pSetO, PL.pSetOH, PL.pIf, PL.pSeq, PL.pSkip, PL.pApp, PL.pAppH, PL.pAsg, PL.pAsgH, PL.pPar2, PL.pPar3, PL.jN, PL.jT, PL.jC, PL.jE, PL.pIfE, PL.pB, PL.ptoB, PL.pOp, PL.pVar, PL.pC, PL.vA, PL.vH, PL.slA_sh, PL.slA_ow, PL.slA_no, PL.slH_sh, PL.slH_ow, PL.slH_no, PL.qI, PL.qIc, PL.qAdd, PL.pCB, PL.pCons, PL.pNil, PL.pTup, PL.pL, PL.fLst, PL.pAnd, PL.pOr, PL.pNot, PL.pTAnd, PL.pTOr, PL.pTNot, PL.pIsN, PL.isNonP, PL.pIsi, PL.pty, PL.pAttr, PL.pget, PL.gLen_lst, PL.gLen_tup, PL.pbS, PL.pbH, PL.kp, PL.kps, PL.nr, PL.nrs, PL.nl, PL.nls, PL.oL, PL.frz, PL.frzS, PL.pFz, PL.pChain, PL.pNeg, PL.pRaise, PL.pRaiseH, PL.x2s, PL.x1, PL.x2, PL.x2t, ML.tabInt, ML.tabBool, ML.LIM, PL.pBrk, PL.pCont, PL.gInt, PL.gMax2, PL.gMin2, PL.gAbs, e1, e2, qMul, mo, hm])).trans ?_
  have fc : ∀ s, pCallO 3 p_Rising___call__ (pVar 4) (pCons (pVar 6) pNil) (vA (lgE ms len o5 (some (.sh (.int m))))) s = some (.ok (.int (slotV len ms m)) s) := fun s => fcall h hm0 rfl rfl
  have t1 : (pB (pOp (PL.qEq true) (pCallO 3 p_Rising___call__ (pVar 4) (pCons (pVar 6) pNil)) (pCB p__law_arrival (pCons (pTup (pCons (pVar 3) (pCons (pVar 2) pNil))) (pCons (pVar 6) pNil))))) (vA (lgE ms len o5 (some (.sh (.int m))))) s2 = some (.ok false s2) := by
    unfold pB pOp
    rw [fc]
    simp only [pb_ok]
    unfold lgE
    simp [PL.inE, PL.pfun, PL.pRet, PL.pRetN, PL.pDrop, PL.pSet, PL.pSetH, PL.pSetO, PL.pSetOH, PL.pIf, PL.pSeq, PL.pSkip, PL.pApp, PL.pAppH, PL.pAsg, PL.pAsgH, PL.pPar2, PL.pPar3, PL.jN, PL.jT, PL.jC, PL.jE, PL.pIfE, PL.pB, PL.ptoB, PL.pOp, PL.pVar, PL.pC, PL.vA, PL.vH, PL.slA_sh, PL.slA_ow, PL.slA_no, PL.slH_sh, PL.slH_ow, PL.slH_no, PL.qI, PL.qIc, PL.qAdd, PL.pCB, PL.pCons, PL.pNil, PL.pTup, PL.pL, PL.fLst, PL.pAnd, PL.pOr, PL.pNot, PL.pTAnd, PL.pTOr, PL.pTNot, PL.pIsN, PL.isNonP, PL.pIsi, PL.pty, PL.pAttr, PL.pget, PL.gLen_lst, PL.gLen_tup, PL.pbS, PL.pbH, PL.kp, PL.kps, PL.nr, PL.nrs, PL.nl, PL.nls, PL.oL, PL.frz, PL.frzS, PL.pFz, PL.pChain, PL.pNeg, PL.pRaise, PL.pRaiseH, PL.x2s, PL.x1, PL.x2, PL.x2t, ML.tabInt, ML.tabBool, ML.LIM, PL.pBrk, PL.pCont, PL.gInt, PL.gMax2, PL.gMin2, PL.gAbs, ar, eq_ii]
  have t2 : (pB (pOp qLt (pCB p_ride (pCons (pVar 3) (pCons (pVar 2) (pCons (pVar 6) pNil)))) (pCallO 3 p_Rising___call__ (pVar 4) (pCons (pVar 6) pNil)))) (vA (lgE ms len o5 (some (.sh (.int m))))) s2 = some (.ok false s2) := by
    have : pCB p_ride (pCons (pVar 3) (pCons (pVar 2) (pCons (pVar 6) pNil))) (vA (lgE ms len o5 (some (.sh (.int m))))) s2 = some (.ok (.int (m + RM.rid len 0 ms m)) s2) := by
      unfold lgE
      simp [PL.inE, PL.pfun, PL.pRet, PL.pRetN, PL.pDrop, PL.pSet, PL.pSetH, PL.pSetO, PL.pSetOH, PL.pIf, PL.pSeq, PL.pSkip, PL.pApp, PL.pAppH, PL.pAsg, PL.pAsgH, PL.pPar2, PL.pPar3, PL.jN, PL.jT, PL.jC, PL.jE, PL.pIfE, PL.pB, PL.ptoB, PL.pOp, PL.pVar, PL.pC, PL.vA, PL.vH, PL.slA_sh, PL.slA_ow, PL.slA_no, PL.slH_sh, PL.slH_ow, PL.slH_no, PL.qI, PL.qIc, PL.qAdd, PL.pCB, PL.pCons, PL.pNil, PL.pTup, PL.pL, PL.fLst, PL.pAnd, PL.pOr, PL.pNot, PL.pTAnd, PL.pTOr, PL.pTNot, PL.pIsN, PL.isNonP, PL.pIsi, PL.pty, PL.pAttr, PL.pget, PL.gLen_lst, PL.gLen_tup, PL.pbS, PL.pbH, PL.kp, PL.kps, PL.nr, PL.nrs, PL.nl, PL.nls, PL.oL, PL.frz, PL.frzS, PL.pFz, PL.pChain, PL.pNeg, PL.pRaise, PL.pRaiseH, PL.x2s, PL.x1, PL.x2, PL.x2t, ML.tabInt, ML.tabBool, ML.LIM, PL.pBrk, PL.pCont, PL.gInt, PL.gMax2, PL.gMin2, PL.gAbs, rd]
    unfold pB pOp
    rw [this]
    simp only [pb_ok]
    rw [fc]
    have : ¬ m + RM.rid len 0 ms m < slotV len ms m := by omega
    simp [PL.inE, PL.pfun, PL.pRet, PL.pRetN, PL.pDrop, PL.pSet, PL.pSetH, PL.pSetO, PL.pSetOH, PL.pIf, PL.pSeq, PL.pSkip, PL.pApp, PL.pAppH, PL.pAsg, PL.pAsgH, PL.pPar2, PL.pPar3, PL.jN, PL.jT, PL.jC, PL.jE, PL.pIfE, PL.pB, PL.ptoB, PL.pOp, PL.pVar, PL.pC, PL.vA, PL.vH, PL.slA_sh, PL.slA_ow, PL.slA_no, PL.slH_sh, PL.slH_ow, PL.slH_no, PL.qI, PL.qIc, PL.qAdd, PL.pCB, PL.pCons, PL.pNil, PL.pTup, PL.pL, PL.fLst, PL.pAnd, PL.pOr, PL.pNot, PL.pTAnd, PL.pTOr, PL.pTNot, PL.pIsN, PL.isNonP, PL.pIsi, PL.pty, PL.pAttr, PL.pget, PL.gLen_lst, PL.gLen_tup, PL.pbS, PL.pbH, PL.kp, PL.kps, PL.nr, PL.nrs, PL.nl, PL.nls, PL.oL, PL.frz, PL.frzS, PL.pFz, PL.pChain, PL.pNeg, PL.pRaise, PL.pRaiseH, PL.x2s, PL.x1, PL.x2, PL.x2t, ML.tabInt, ML.tabBool, ML.LIM, PL.pBrk, PL.pCont, PL.gInt, PL.gMax2, PL.gMin2, PL.gAbs, this]
  have : (pTOr (pB (pOp (PL.qEq true) (pCallO 3 p_Rising___call__ (pVar 4) (pCons (pVar 6) pNil)) (pCB p__law_arrival (pCons (pTup (pCons (pVar 3) (pCons (pVar 2) pNil))) (pCons (pVar 6) pNil))))) (pB (pOp qLt (pCB p_ride (pCons (pVar 3) (pCons (pVar 2) (pCons (pVar 6) pNil)))) (pCallO 3 p_Rising___call__ (pVar 4) (pCons (pVar 6) pNil))))) (vA (lgE ms len o5 (some (.sh (.int m))))) s2 = some (.ok false s2) := by
    unfold pTOr
    rw [t1]
    exact t2
  unfold pIf
  rw [this]
  rfl
theorem lg1_loop {len : Int} {ms : List Int} (h : OkS len ms) : ∀ (ps : List P) (s : DS) (o5 o6 : Option Sl), ∃ p5 p6 s', pForC (jN 5) lg1 ps (lgE ms len o5 o6) s = some (.nx (lgE ms len p5 p6) s')
  | [], s, o5, o6 => ⟨o5, o6, s, rfl⟩
  | p :: ps, s, o5, o6 => by
    obtain ⟨p6, s1, e⟩ := lg1_turn h s (some (.sh p)) o6
    obtain ⟨q5, q6, s2, e2⟩ := lg1_loop h ps s1 (some (.sh p)) p6
    exact ⟨q5, q6, s2, (pforC_nx (ρ1 := lgE ms len (some (.sh p)) o6) rfl e).trans e2⟩
noncomputable abbrev lg2 : PL.PS := (pSeq (pSetH 6 (pCB p__law_draw (pCons (pVar 0) (pCons (pVar 1) (pCons (pOp qAdd (pOp qMul (pC (.int 48)) (pVar 3)) (pC (.int 30))) pNil)))))
    (pIf (pB (pOp (PL.qEq true) (pCallO 3 p_Rising___call__ (pVar 4) (pCons (pVar 6) pNil)) (pCB p__law_arrival (pCons (pTup (pCons (pVar 3) (pCons (pVar 2) pNil))) (pCons (pVar 6) pNil)))))
    (pRet (pC (.bl false)))
    pSkip))
theorem lg2_turn {len : Int} {ms : List Int} (h : OkS len ms) (s : DS) (o5 o6 : Option Sl) : ∃ p6 s', lg2 (lgE ms len o5 o6) s = some (.nx (lgE ms len o5 p6) s') := by
  have h1 := h.1
  have h2 := h.2.1
  obtain ⟨m, s1, a0, a1, e1⟩ := draw_ex s (48 * len + 30) (by omega) (by omega)
  have mo := mul_ok (i := 48) (j := len) (by decide) (by decide)
  have ar := arrival_p h a0 s1
  refine ⟨some (.sh (.int m)), s1, ?_⟩
  refine (seq_nx (ρ1 := lgE ms len o5 (some (.sh (.int m)))) (s1 := s1) (by unfold lgE; simp [PL.inE, PL.pfun, PL.pRet, PL.pRetN, PL.pDrop, PL.pSet, PL.pSetH, PL.pSetO, PL.pSetOH, PL.pIf, PL.pSeq, PL.pSkip, PL.pApp, PL.pAppH, PL.pAsg, PL.pAsgH, PL.pPar2, PL.pPar3, PL.jN, PL.jT, PL.jC, PL.jE, PL.pIfE, PL.pB, PL.ptoB, PL.pOp, PL.pVar, PL.pC, PL.vA, PL.vH, PL.slA_sh, PL.slA_ow, PL.slA_no, PL.slH_sh, PL.slH_ow, PL.slH_no, PL.qI, PL.qIc, PL.qAdd, PL.pCB, PL.pCons, PL.pNil, PL.pTup, PL.pL, PL.fLst, PL.pAnd, PL.pOr, PL.pNot, PL.pTAnd, PL.pTOr, PL.pTNot, PL.pIsN, PL.isNonP, PL.pIsi, PL.pty, PL.pAttr, PL.pget, PL.gLen_lst, PL.gLen_tup, PL.pbS, PL.pbH, PL.kp, PL.kps, PL.nr, PL.nrs, PL.nl, PL.nls, PL.oL, PL.frz, PL.frzS, PL.pFz, PL.pChain, PL.pNeg, PL.pRaise, PL.pRaiseH, PL.x2s, PL.x1, PL.x2, PL.x2t, ML.tabInt, ML.tabBool, ML.LIM, PL.pBrk, PL.pCont, PL.gInt, PL.gMax2, PL.gMin2, PL.gAbs, e1, qMul, mo])).trans ?_
  have fc : ∀ s, pCallO 3 p_Rising___call__ (pVar 4) (pCons (pVar 6) pNil) (vA (lgE ms len o5 (some (.sh (.int m))))) s = some (.ok (.int (slotV len ms m)) s) := fun s => fcall h a0 rfl rfl
  have t1 : (pB (pOp (PL.qEq true) (pCallO 3 p_Rising___call__ (pVar 4) (pCons (pVar 6) pNil)) (pCB p__law_arrival (pCons (pTup (pCons (pVar 3) (pCons (pVar 2) pNil))) (pCons (pVar 6) pNil))))) (vA (lgE ms len o5 (some (.sh (.int m))))) s1 = some (.ok false s1) := by
    unfold pB pOp
    rw [fc]
    simp only [pb_ok]
    unfold lgE
    simp [PL.inE, PL.pfun, PL.pRet, PL.pRetN, PL.pDrop, PL.pSet, PL.pSetH, PL.pSetO, PL.pSetOH, PL.pIf, PL.pSeq, PL.pSkip, PL.pApp, PL.pAppH, PL.pAsg, PL.pAsgH, PL.pPar2, PL.pPar3, PL.jN, PL.jT, PL.jC, PL.jE, PL.pIfE, PL.pB, PL.ptoB, PL.pOp, PL.pVar, PL.pC, PL.vA, PL.vH, PL.slA_sh, PL.slA_ow, PL.slA_no, PL.slH_sh, PL.slH_ow, PL.slH_no, PL.qI, PL.qIc, PL.qAdd, PL.pCB, PL.pCons, PL.pNil, PL.pTup, PL.pL, PL.fLst, PL.pAnd, PL.pOr, PL.pNot, PL.pTAnd, PL.pTOr, PL.pTNot, PL.pIsN, PL.isNonP, PL.pIsi, PL.pty, PL.pAttr, PL.pget, PL.gLen_lst, PL.gLen_tup, PL.pbS, PL.pbH, PL.kp, PL.kps, PL.nr, PL.nrs, PL.nl, PL.nls, PL.oL, PL.frz, PL.frzS, PL.pFz, PL.pChain, PL.pNeg, PL.pRaise, PL.pRaiseH, PL.x2s, PL.x1, PL.x2, PL.x2t, ML.tabInt, ML.tabBool, ML.LIM, PL.pBrk, PL.pCont, PL.gInt, PL.gMax2, PL.gMin2, PL.gAbs, ar, eq_ii]
  unfold pIf
  rw [t1]
  rfl
theorem lg2_loop {len : Int} {ms : List Int} (h : OkS len ms) : ∀ (ps : List P) (s : DS) (o5 o6 : Option Sl), ∃ p5 p6 s', pForC (jN 5) lg2 ps (lgE ms len o5 o6) s = some (.nx (lgE ms len p5 p6) s')
  | [], s, o5, o6 => ⟨o5, o6, s, rfl⟩
  | p :: ps, s, o5, o6 => by
    obtain ⟨p6, s1, e⟩ := lg2_turn h s (some (.sh p)) o6
    obtain ⟨q5, q6, s2, e2⟩ := lg2_loop h ps s1 (some (.sh p)) p6
    exact ⟨q5, q6, s2, (pforC_nx (ρ1 := lgE ms len (some (.sh p)) o6) rfl e).trans e2⟩
theorem long_p (s : DS) : ∃ s', p__law_long [.scr, .st] s = some (.ok (.bl true) s') := by
  obtain ⟨a, s1, a0, a1, e1⟩ := draw_ex s 4 (by decide) (by decide)
  obtain ⟨ms, s2, e2, l2, b2⟩ := draws_p s1 (n := (1 + a).toNat) (lim := 601) (by omega) (by decide) (by decide) (i := 5) (te := (pCB p__law_draw (pCons (pVar 0) (pCons (pVar 1) (pCons (pC (.int 601)) pNil))))) (ρ := [some .scr, some .st, none, none, none, none, none]) (fun v s => rfl)
  obtain ⟨b, s3, b0, b1, e3⟩ := draw_ex s2 720 (by decide) (by decide)
  have ok1 : OkS (1 + b) ms := ⟨by omega, by omega, by intro q; subst q; simp at l2; omega, by omega, fun m hm => by have := b2 m hm; omega⟩
  have bs := by_slots_p ok1 s3
  obtain ⟨p5, p6, s4, e4⟩ := lg1_loop ok1 (pItems 0 6) s3 none none
  have i1 : inR (1 + a) = true := inR_of (by omega) (by omega)
  have i6 : inR 6 = true := inR_of (by decide) (by decide)
  have i48 : inR 48 = true := inR_of (by decide) (by decide)
  have i10 : inR 10 = true := inR_of (by decide) (by decide)
  obtain ⟨ns, s5, e5, l5, b5⟩ := draws_p s4 (n := 48) (lim := 40) (by omega) (by decide) (by decide) (i := 5) (te := (pCB p__law_draw (pCons (pVar 0) (pCons (pVar 1) (pCons (pC (.int 40)) pNil))))) (ρ := [some .scr, some .st, some (.lst (intsP ms)), some (.int (1 + b)), some (mapS (1 + b) ms), none, slH p6]) (fun v s => rfl)
  obtain ⟨c, s6, c0, c1, e6⟩ := draw_ex s5 20 (by decide) (by decide)
  have ok2 : OkS (1 + c) ns := ⟨by omega, by omega, by intro q; subst q; simp at l5, by omega, fun m hm => by have := b5 m hm; omega⟩
  have bs2 := by_slots_p ok2 s6
  obtain ⟨q5, q6, s7, e7⟩ := lg2_loop ok2 (pItems 0 10) s6 p5 p6
  refine ⟨s7, fun_rt (s1 := s7) rfl ?_⟩
  unfold p_b__law_long
  refine (seq_nx (ρ1 := [some (.sh .scr), some (.sh .st), some (.sh (.lst (intsP ms))), none, none, none, none]) (s1 := s2) (by simp [PL.inE, PL.pfun, PL.pRet, PL.pRetN, PL.pDrop, PL.pSet, PL.pSetH, PL.pSetO, PL.pSetOH, PL.pIf, PL.pSeq, PL.pSkip, PL.pApp, PL.pAppH, PL.pAsg, PL.pAsgH, PL.pPar2, PL.pPar3, PL.jN, PL.jT, PL.jC, PL.jE, PL.pIfE, PL.pB, PL.ptoB, PL.pOp, PL.pVar, PL.pC, PL.vA, PL.vH, PL.slA_sh, PL.slA_ow, PL.slA_no, PL.slH_sh, PL.slH_ow, PL.slH_no, PL.qI, PL.qIc, PL.qAdd, PL.pCB, PL.pCons, PL.pNil, PL.pTup, PL.pL, PL.fLst, PL.pAnd, PL.pOr, PL.pNot, PL.pTAnd, PL.pTOr, PL.pTNot, PL.pIsN, PL.isNonP, PL.pIsi, PL.pty, PL.pAttr, PL.pget, PL.gLen_lst, PL.gLen_tup, PL.pbS, PL.pbH, PL.kp, PL.kps, PL.nr, PL.nrs, PL.nl, PL.nls, PL.oL, PL.frz, PL.frzS, PL.pFz, PL.pChain, PL.pNeg, PL.pRaise, PL.pRaiseH, PL.x2s, PL.x1, PL.x2, PL.x2t, ML.tabInt, ML.tabBool, ML.LIM, PL.pBrk, PL.pCont, PL.gInt, PL.gMax2, PL.gMin2, PL.gAbs, fLc, pIR1, e1, i1, wipeP, e2])).trans ?_
  refine (seq_nx (ρ1 := [some (.sh .scr), some (.sh .st), some (.sh (.lst (intsP ms))), some (.sh (.int (1 + b))), none, none, none]) (s1 := s3) (by simp [PL.inE, PL.pfun, PL.pRet, PL.pRetN, PL.pDrop, PL.pSet, PL.pSetH, PL.pSetO, PL.pSetOH, PL.pIf, PL.pSeq, PL.pSkip, PL.pApp, PL.pAppH, PL.pAsg, PL.pAsgH, PL.pPar2, PL.pPar3, PL.jN, PL.jT, PL.jC, PL.jE, PL.pIfE, PL.pB, PL.ptoB, PL.pOp, PL.pVar, PL.pC, PL.vA, PL.vH, PL.slA_sh, PL.slA_ow, PL.slA_no, PL.slH_sh, PL.slH_ow, PL.slH_no, PL.qI, PL.qIc, PL.qAdd, PL.pCB, PL.pCons, PL.pNil, PL.pTup, PL.pL, PL.fLst, PL.pAnd, PL.pOr, PL.pNot, PL.pTAnd, PL.pTOr, PL.pTNot, PL.pIsN, PL.isNonP, PL.pIsi, PL.pty, PL.pAttr, PL.pget, PL.gLen_lst, PL.gLen_tup, PL.pbS, PL.pbH, PL.kp, PL.kps, PL.nr, PL.nrs, PL.nl, PL.nls, PL.oL, PL.frz, PL.frzS, PL.pFz, PL.pChain, PL.pNeg, PL.pRaise, PL.pRaiseH, PL.x2s, PL.x1, PL.x2, PL.x2t, ML.tabInt, ML.tabBool, ML.LIM, PL.pBrk, PL.pCont, PL.gInt, PL.gMax2, PL.gMin2, PL.gAbs, e3])).trans ?_
  refine (seq_nx (ρ1 := lgE ms (1 + b) none none) (s1 := s3) (by unfold lgE; simp [PL.inE, PL.pfun, PL.pRet, PL.pRetN, PL.pDrop, PL.pSet, PL.pSetH, PL.pSetO, PL.pSetOH, PL.pIf, PL.pSeq, PL.pSkip, PL.pApp, PL.pAppH, PL.pAsg, PL.pAsgH, PL.pPar2, PL.pPar3, PL.jN, PL.jT, PL.jC, PL.jE, PL.pIfE, PL.pB, PL.ptoB, PL.pOp, PL.pVar, PL.pC, PL.vA, PL.vH, PL.slA_sh, PL.slA_ow, PL.slA_no, PL.slH_sh, PL.slH_ow, PL.slH_no, PL.qI, PL.qIc, PL.qAdd, PL.pCB, PL.pCons, PL.pNil, PL.pTup, PL.pL, PL.fLst, PL.pAnd, PL.pOr, PL.pNot, PL.pTAnd, PL.pTOr, PL.pTNot, PL.pIsN, PL.isNonP, PL.pIsi, PL.pty, PL.pAttr, PL.pget, PL.gLen_lst, PL.gLen_tup, PL.pbS, PL.pbH, PL.kp, PL.kps, PL.nr, PL.nrs, PL.nl, PL.nls, PL.oL, PL.frz, PL.frzS, PL.pFz, PL.pChain, PL.pNeg, PL.pRaise, PL.pRaiseH, PL.x2s, PL.x1, PL.x2, PL.x2t, ML.tabInt, ML.tabBool, ML.LIM, PL.pBrk, PL.pCont, PL.gInt, PL.gMax2, PL.gMin2, PL.gAbs, bs])).trans ?_
  refine (seq_nx ((pfor_eq (ps := pItems 0 6) (s1 := s3) (by unfold lgE; simp [PL.inE, PL.pfun, PL.pRet, PL.pRetN, PL.pDrop, PL.pSet, PL.pSetH, PL.pSetO, PL.pSetOH, PL.pIf, PL.pSeq, PL.pSkip, PL.pApp, PL.pAppH, PL.pAsg, PL.pAsgH, PL.pPar2, PL.pPar3, PL.jN, PL.jT, PL.jC, PL.jE, PL.pIfE, PL.pB, PL.ptoB, PL.pOp, PL.pVar, PL.pC, PL.vA, PL.vH, PL.slA_sh, PL.slA_ow, PL.slA_no, PL.slH_sh, PL.slH_ow, PL.slH_no, PL.qI, PL.qIc, PL.qAdd, PL.pCB, PL.pCons, PL.pNil, PL.pTup, PL.pL, PL.fLst, PL.pAnd, PL.pOr, PL.pNot, PL.pTAnd, PL.pTOr, PL.pTNot, PL.pIsN, PL.isNonP, PL.pIsi, PL.pty, PL.pAttr, PL.pget, PL.gLen_lst, PL.gLen_tup, PL.pbS, PL.pbH, PL.kp, PL.kps, PL.nr, PL.nrs, PL.nl, PL.nls, PL.oL, PL.frz, PL.frzS, PL.pFz, PL.pChain, PL.pNeg, PL.pRaise, PL.pRaiseH, PL.x2s, PL.x1, PL.x2, PL.x2t, ML.tabInt, ML.tabBool, ML.LIM, PL.pBrk, PL.pCont, PL.gInt, PL.gMax2, PL.gMin2, PL.gAbs, pIR1, i6])).trans e4)).trans ?_
  refine (seq_nx (ρ1 := [some (.sh .scr), some (.sh .st), some (.sh (.lst (intsP ns))), some (.sh (.int (1 + b))), some (.sh (mapS (1 + b) ms)), p5, p6]) (s1 := s5) (by unfold lgE; simp [PL.inE, PL.pfun, PL.pRet, PL.pRetN, PL.pDrop, PL.pSet, PL.pSetH, PL.pSetO, PL.pSetOH, PL.pIf, PL.pSeq, PL.pSkip, PL.pApp, PL.pAppH, PL.pAsg, PL.pAsgH, PL.pPar2, PL.pPar3, PL.jN, PL.jT, PL.jC, PL.jE, PL.pIfE, PL.pB, PL.ptoB, PL.pOp, PL.pVar, PL.pC, PL.vA, PL.vH, PL.slA_sh, PL.slA_ow, PL.slA_no, PL.slH_sh, PL.slH_ow, PL.slH_no, PL.qI, PL.qIc, PL.qAdd, PL.pCB, PL.pCons, PL.pNil, PL.pTup, PL.pL, PL.fLst, PL.pAnd, PL.pOr, PL.pNot, PL.pTAnd, PL.pTOr, PL.pTNot, PL.pIsN, PL.isNonP, PL.pIsi, PL.pty, PL.pAttr, PL.pget, PL.gLen_lst, PL.gLen_tup, PL.pbS, PL.pbH, PL.kp, PL.kps, PL.nr, PL.nrs, PL.nl, PL.nls, PL.oL, PL.frz, PL.frzS, PL.pFz, PL.pChain, PL.pNeg, PL.pRaise, PL.pRaiseH, PL.x2s, PL.x1, PL.x2, PL.x2t, ML.tabInt, ML.tabBool, ML.LIM, PL.pBrk, PL.pCont, PL.gInt, PL.gMax2, PL.gMin2, PL.gAbs, fLc, pIR1, i48, wipeP, e5])).trans ?_
  refine (seq_nx (ρ1 := [some (.sh .scr), some (.sh .st), some (.sh (.lst (intsP ns))), some (.sh (.int (1 + c))), some (.sh (mapS (1 + b) ms)), p5, p6]) (s1 := s6) (by simp [PL.inE, PL.pfun, PL.pRet, PL.pRetN, PL.pDrop, PL.pSet, PL.pSetH, PL.pSetO, PL.pSetOH, PL.pIf, PL.pSeq, PL.pSkip, PL.pApp, PL.pAppH, PL.pAsg, PL.pAsgH, PL.pPar2, PL.pPar3, PL.jN, PL.jT, PL.jC, PL.jE, PL.pIfE, PL.pB, PL.ptoB, PL.pOp, PL.pVar, PL.pC, PL.vA, PL.vH, PL.slA_sh, PL.slA_ow, PL.slA_no, PL.slH_sh, PL.slH_ow, PL.slH_no, PL.qI, PL.qIc, PL.qAdd, PL.pCB, PL.pCons, PL.pNil, PL.pTup, PL.pL, PL.fLst, PL.pAnd, PL.pOr, PL.pNot, PL.pTAnd, PL.pTOr, PL.pTNot, PL.pIsN, PL.isNonP, PL.pIsi, PL.pty, PL.pAttr, PL.pget, PL.gLen_lst, PL.gLen_tup, PL.pbS, PL.pbH, PL.kp, PL.kps, PL.nr, PL.nrs, PL.nl, PL.nls, PL.oL, PL.frz, PL.frzS, PL.pFz, PL.pChain, PL.pNeg, PL.pRaise, PL.pRaiseH, PL.x2s, PL.x1, PL.x2, PL.x2t, ML.tabInt, ML.tabBool, ML.LIM, PL.pBrk, PL.pCont, PL.gInt, PL.gMax2, PL.gMin2, PL.gAbs, e6])).trans ?_
  refine (seq_nx (ρ1 := lgE ns (1 + c) p5 p6) (s1 := s6) (by unfold lgE; simp [PL.inE, PL.pfun, PL.pRet, PL.pRetN, PL.pDrop, PL.pSet, PL.pSetH, PL.pSetO, PL.pSetOH, PL.pIf, PL.pSeq, PL.pSkip, PL.pApp, PL.pAppH, PL.pAsg, PL.pAsgH, PL.pPar2, PL.pPar3, PL.jN, PL.jT, PL.jC, PL.jE, PL.pIfE, PL.pB, PL.ptoB, PL.pOp, PL.pVar, PL.pC, PL.vA, PL.vH, PL.slA_sh, PL.slA_ow, PL.slA_no, PL.slH_sh, PL.slH_ow, PL.slH_no, PL.qI, PL.qIc, PL.qAdd, PL.pCB, PL.pCons, PL.pNil, PL.pTup, PL.pL, PL.fLst, PL.pAnd, PL.pOr, PL.pNot, PL.pTAnd, PL.pTOr, PL.pTNot, PL.pIsN, PL.isNonP, PL.pIsi, PL.pty, PL.pAttr, PL.pget, PL.gLen_lst, PL.gLen_tup, PL.pbS, PL.pbH, PL.kp, PL.kps, PL.nr, PL.nrs, PL.nl, PL.nls, PL.oL, PL.frz, PL.frzS, PL.pFz, PL.pChain, PL.pNeg, PL.pRaise, PL.pRaiseH, PL.x2s, PL.x1, PL.x2, PL.x2t, ML.tabInt, ML.tabBool, ML.LIM, PL.pBrk, PL.pCont, PL.gInt, PL.gMax2, PL.gMin2, PL.gAbs, bs2])).trans ?_
  refine (seq_nx ((pfor_eq (ps := pItems 0 10) (s1 := s6) (by unfold lgE; simp [PL.inE, PL.pfun, PL.pRet, PL.pRetN, PL.pDrop, PL.pSet, PL.pSetH, PL.pSetO, PL.pSetOH, PL.pIf, PL.pSeq, PL.pSkip, PL.pApp, PL.pAppH, PL.pAsg, PL.pAsgH, PL.pPar2, PL.pPar3, PL.jN, PL.jT, PL.jC, PL.jE, PL.pIfE, PL.pB, PL.ptoB, PL.pOp, PL.pVar, PL.pC, PL.vA, PL.vH, PL.slA_sh, PL.slA_ow, PL.slA_no, PL.slH_sh, PL.slH_ow, PL.slH_no, PL.qI, PL.qIc, PL.qAdd, PL.pCB, PL.pCons, PL.pNil, PL.pTup, PL.pL, PL.fLst, PL.pAnd, PL.pOr, PL.pNot, PL.pTAnd, PL.pTOr, PL.pTNot, PL.pIsN, PL.isNonP, PL.pIsi, PL.pty, PL.pAttr, PL.pget, PL.gLen_lst, PL.gLen_tup, PL.pbS, PL.pbH, PL.kp, PL.kps, PL.nr, PL.nrs, PL.nl, PL.nls, PL.oL, PL.frz, PL.frzS, PL.pFz, PL.pChain, PL.pNeg, PL.pRaise, PL.pRaiseH, PL.x2s, PL.x1, PL.x2, PL.x2t, ML.tabInt, ML.tabBool, ML.LIM, PL.pBrk, PL.pCont, PL.gInt, PL.gMax2, PL.gMin2, PL.gAbs, pIR1, i10])).trans e7)).trans ?_
  unfold lgE
  simp [PL.inE, PL.pfun, PL.pRet, PL.pRetN, PL.pDrop, PL.pSet, PL.pSetH, PL.pSetO, PL.pSetOH, PL.pIf, PL.pSeq, PL.pSkip, PL.pApp, PL.pAppH, PL.pAsg, PL.pAsgH, PL.pPar2, PL.pPar3, PL.jN, PL.jT, PL.jC, PL.jE, PL.pIfE, PL.pB, PL.ptoB, PL.pOp, PL.pVar, PL.pC, PL.vA, PL.vH, PL.slA_sh, PL.slA_ow, PL.slA_no, PL.slH_sh, PL.slH_ow, PL.slH_no, PL.qI, PL.qIc, PL.qAdd, PL.pCB, PL.pCons, PL.pNil, PL.pTup, PL.pL, PL.fLst, PL.pAnd, PL.pOr, PL.pNot, PL.pTAnd, PL.pTOr, PL.pTNot, PL.pIsN, PL.isNonP, PL.pIsi, PL.pty, PL.pAttr, PL.pget, PL.gLen_lst, PL.gLen_tup, PL.pbS, PL.pbH, PL.kp, PL.kps, PL.nr, PL.nrs, PL.nl, PL.nls, PL.oL, PL.frz, PL.frzS, PL.pFz, PL.pChain, PL.pNeg, PL.pRaise, PL.pRaiseH, PL.x2s, PL.x1, PL.x2, PL.x2t, ML.tabInt, ML.tabBool, ML.LIM, PL.pBrk, PL.pCont, PL.gInt, PL.gMax2, PL.gMin2, PL.gAbs]
end K09

set_option maxHeartbeats 4000000
namespace K09
open PySem L2 ML PL
/-- a row of values from the m-th on -/
def vals (A : Int → Int) (m n : Nat) : List Int := (List.range n).map fun (k : Nat) => A ((m : Int) + (k : Int))
theorem vals_at {A : Int → Int} {m n k : Nat} (h : k < n) : (vals A m n)[k]? = some (A ((m : Int) + (k : Int))) := by
  unfold vals
  rw [List.getElem?_map, List.getElem?_range h]
  rfl
theorem vals_len {A : Int → Int} {m n : Nat} : (vals A m n).length = n := by unfold vals; simp
theorem vals_cons {A : Int → Int} {m n : Nat} : vals A m (n + 1) = A m :: vals A (m + 1) n := by
  unfold vals
  rw [List.range_succ_eq_map]
  simp only [List.map_cons, List.map_map]
  have e : ∀ (a b : Int) (x y : List Int), a = b → x = y → a :: x = b :: y := fun a b x y h1 h2 => by rw [h1, h2]
  refine e _ _ _ _ (by simp) ?_
  refine List.map_congr_left fun j _ => ?_
  simp only [Function.comp]
  congr 1
  omega
noncomputable abbrev vlB : PL.PS := (pSeq (pSetH 8 (pCB gMin2 (pCons (pCB gInt (pCons (pVar 8) pNil)) (pCons (pCB gInt (pCons (pCB p__law_plain (pCons (pVar 2) (pCons (pOp qSub (pOp qAdd (pVar 7) (pC (.int 24))) (pVar 10)) pNil))) pNil)) pNil))))
    (pAppH 9 (pVar 8)))
def reE (ms : List Int) (len top : Int) (o8 o9 o10 o11 : Option Sl) : TEv := [some (.sh .scr), some (.sh .st), some (.sh (.tup [.int len, .lst (intsP ms)])), some (.sh (.int len)), some (.sh (.lst (intsP ms))), some (.ow (.lst (intsP ms ++ [.int 0]))), some (.sh (mapS len ms)), some (.sh (.int top)), o8, o9, o10, o11]
theorem vl_loop {len : Int} {ms : List Int} (h : OkS len ms) (top : Nat) (ht : top ≤ 100000) (s : DS) : ∀ (n m : Nat) (acc : List Int) (o10 o11 : Option Sl), m = n → m ≤ top + 25 → acc.reverse = vals (slotV len ms) m (top + 25 - m) →
    ∃ p8 p10, pForC (jN 10) vlB (pItems ((top : Int) + 25 - m) n) (reE ms len top (some (.sh (.int (slotV len ms m)))) (some (.ow (.lst (intsP acc)))) o10 o11) s = some (.nx (reE ms len top p8 (some (.ow (.lst (intsP (vals (slotV len ms) 0 (top + 25)).reverse)))) p10 o11) s)
  | 0, m, acc, o10, o11, hm, hm2, ha => ⟨some (.sh (.int (slotV len ms m))), o10, by
      subst hm
      have : acc = (vals (slotV len ms) 0 (top + 25)).reverse := by rw [← List.reverse_reverse acc, ha]; rfl
      rw [this]
      rfl⟩
  | n + 1, m, acc, o10, o11, hm, hm2, ha => by
    obtain ⟨m', rfl⟩ : ∃ m', m = m' + 1 := ⟨m - 1, by omega⟩
    have st := slot_step h (t := (m' : Int)) (by omega)
    have pl := plain_p h (t := (m' : Int)) (by omega) s
    have hacc : acc.length < 1000000 := by
      have := congrArg List.length ha
      rw [vals_len, List.length_reverse] at this
      omega
    have e1 : ((m' + 1 : Nat) : Int) = (m' : Int) + 1 := by omega
    have e2 : (top : Int) + 24 - ((top : Int) + 25 - ((m' : Int) + 1)) = (m' : Int) := by omega
    have hmin : (if (m' : Int) + RM.rid len 0 ms m' < slotV len ms ((m' : Int) + 1) then (m' : Int) + RM.rid len 0 ms m' else slotV len ms ((m' : Int) + 1)) = slotV len ms m' := by
      rw [st]; split <;> split <;> omega
    obtain ⟨p8, p10, e⟩ := vl_loop h top ht s n m' (acc ++ [slotV len ms m']) (some (.sh (.int ((top : Int) + 25 - ((m' : Int) + 1))))) o11 (by omega) (by omega) (by
      rw [List.reverse_append, ha, show top + 25 - m' = (top + 25 - (m' + 1)) + 1 by omega, vals_cons]
      rfl)
    refine ⟨p8, p10, ?_⟩
    rw [pitems_succ, e1]
    rw [pforC_nx (ρ1 := reE ms len top (some (.sh (.int (slotV len ms ((m' : Int) + 1))))) (some (.ow (.lst (intsP acc)))) (some (.sh (.int ((top : Int) + 25 - ((m' : Int) + 1))))) o11) (ρ2 := reE ms len top (some (.sh (.int (slotV len ms m')))) (some (.ow (.lst (intsP (acc ++ [slotV len ms m']))))) (some (.sh (.int ((top : Int) + 25 - ((m' : Int) + 1))))) o11) (s2 := s) rfl ?_]
    · rw [show (top : Int) + 25 - ((m' : Int) + 1) + 1 = (top : Int) + 25 - (m' : Int) by omega]
      exact e
    · unfold reE
      simp [PL.inE, PL.pfun, PL.pRet, PL.pRetN, PL.pDrop, PL.pSet, PL.pSetH, PL.pSetO, PL.pSetOH, PL.pIf, PL.pSeq, PL.pSkip, PL.pApp, PL.pAppH, PL.pAsg, PL.pAsgH, PL.pPar2, PL.pPar3, PL.jN, PL.jT, PL.jC, PL.jE, PL.pIfE, PL.pB, PL.ptoB, PL.pOp, PL.pVar, PL.pC, PL.vA, PL.vH, PL.slA_sh, PL.slA_ow, PL.slA_no, PL.slH_sh, PL.slH_ow, PL.slH_no, PL.qI, PL.qIc, PL.qAdd, PL.pCB, PL.pCons, PL.pNil, PL.pTup, PL.pL, PL.fLst, PL.pAnd, PL.pOr, PL.pNot, PL.pTAnd, PL.pTOr, PL.pTNot, PL.pIsN, PL.isNonP, PL.pIsi, PL.pty, PL.pAttr, PL.pget, PL.gLen_lst, PL.gLen_tup, PL.pbS, PL.pbH, PL.kp, PL.kps, PL.nr, PL.nrs, PL.nl, PL.nls, PL.oL, PL.frz, PL.frzS, PL.pFz, PL.pChain, PL.pNeg, PL.pRaise, PL.pRaiseH, PL.x2s, PL.x1, PL.x2, PL.x2t, ML.tabInt, ML.tabBool, ML.LIM, PL.pBrk, PL.pCont, PL.gInt, PL.gMax2, PL.gMin2, PL.gAbs, e2, pl, hmin, ints_len, hacc]
      simp [intsP]
noncomputable abbrev ckB : PL.PS := (pSeq (pIf (pTOr (pB (pOp (PL.qEq true) (pCallO 3 p_Rising___call__ (pVar 6) (pCons (pVar 11) pNil)) (pOp qIx (pVar 9) (pVar 11)))) (pB (pOp (PL.qEq true) (pCB p__law_arrival (pCons (pVar 2) (pCons (pVar 11) pNil))) (pOp qIx (pVar 9) (pVar 11)))))
    (pRet (pC (.bl false)))
    pSkip)
    (pIf (pB (pOp (PL.qEq true) (pCB p_ride (pCons (pVar 3) (pCons (pCB gTuple (pCons (pVar 4) pNil)) (pCons (pVar 11) pNil)))) (pCB p__law_plain (pCons (pVar 2) (pCons (pVar 11) pNil)))))
    (pRet (pC (.bl false)))
    pSkip))
theorem ck_loop {len : Int} {ms : List Int} (h : OkS len ms) (top : Nat) (s : DS) (o8 o10 : Option Sl) : ∀ (n m : Nat) (o11 : Option Sl), m + n = top →
    ∃ p11, pForC (jN 11) ckB (pItems (m : Int) n) (reE ms len top o8 (some (.ow (.lst (intsP (vals (slotV len ms) 0 top))))) o10 o11) s = some (.nx (reE ms len top o8 (some (.ow (.lst (intsP (vals (slotV len ms) 0 top))))) o10 p11) s)
  | 0, m, o11, hm => ⟨o11, rfl⟩
  | n + 1, m, o11, hm => by
    have ar := arrival_p h (t := (m : Int)) (by omega) s
    have pl := plain_p h (t := (m : Int)) (by omega) s
    have rd := ride_p h (.inr rfl : Sq (.tup (intsP ms)) (intsP ms)) (t := (m : Int)) (by omega) s
    have ix : qIx (.lst (intsP (vals (slotV len ms) 0 top))) (.int (m : Int)) s = some (.ok (.int (slotV len ms m)) s) := by
      have := vals_at (A := slotV len ms) (m := 0) (n := top) (k := m) (by omega)
      simp only [Int.natCast_zero, Int.zero_add] at this
      exact sq_ix (.inl rfl) rfl (ints_at this)
    obtain ⟨p11, e⟩ := ck_loop h top s o8 o10 n (m + 1) (some (.sh (.int (m : Int)))) (by omega)
    refine ⟨p11, ?_⟩
    obtain ⟨ρ, hρ⟩ : ∃ ρ, ρ = reE ms len top o8 (some (.ow (.lst (intsP (vals (slotV len ms) 0 top))))) o10 (some (.sh (.int (m : Int)))) := ⟨_, rfl⟩
    rw [pitems_succ, pforC_nx (ρ1 := ρ) (ρ2 := ρ) (s2 := s) (by rw [hρ]; rfl) ?_, hρ]
    · exact e
    · have fc : pCallO 3 p_Rising___call__ (pVar 6) (pCons (pVar 11) pNil) (vA ρ) s = some (.ok (.int (slotV len ms m)) s) := by rw [hρ]; exact fcall h (by omega) rfl rfl
      have t1 : (pB (pOp (PL.qEq true) (pCallO 3 p_Rising___call__ (pVar 6) (pCons (pVar 11) pNil)) (pOp qIx (pVar 9) (pVar 11)))) (vA ρ) s = some (.ok false s) := by
        unfold pB pOp
        rw [fc]
        simp only [pb_ok]
        rw [hρ]
        unfold reE
        simp [PL.inE, PL.pfun, PL.pRet, PL.pRetN, PL.pDrop, PL.pSet, PL.pSetH, PL.pSetO, PL.pSetOH, PL.pIf, PL.pSeq, PL.pSkip, PL.pApp, PL.pAppH, PL.pAsg, PL.pAsgH, PL.pPar2, PL.pPar3, PL.jN, PL.jT, PL.jC, PL.jE, PL.pIfE, PL.pB, PL.ptoB, PL.pOp, PL.pVar, PL.pC, PL.vA, PL.vH, PL.slA_sh, PL.slA_ow, PL.slA_no, PL.slH_sh, PL.slH_ow, PL.slH_no, PL.qI, PL.qIc, PL.qAdd, PL.pCB, PL.pCons, PL.pNil, PL.pTup, PL.pL, PL.fLst, PL.pAnd, PL.pOr, PL.pNot, PL.pTAnd, PL.pTOr, PL.pTNot, PL.pIsN, PL.isNonP, PL.pIsi, PL.pty, PL.pAttr, PL.pget, PL.gLen_lst, PL.gLen_tup, PL.pbS, PL.pbH, PL.kp, PL.kps, PL.nr, PL.nrs, PL.nl, PL.nls, PL.oL, PL.frz, PL.frzS, PL.pFz, PL.pChain, PL.pNeg, PL.pRaise, PL.pRaiseH, PL.x2s, PL.x1, PL.x2, PL.x2t, ML.tabInt, ML.tabBool, ML.LIM, PL.pBrk, PL.pCont, PL.gInt, PL.gMax2, PL.gMin2, PL.gAbs, ix, eq_ii]
      have t2 : (pB (pOp (PL.qEq true) (pCB p__law_arrival (pCons (pVar 2) (pCons (pVar 11) pNil))) (pOp qIx (pVar 9) (pVar 11)))) (vA ρ) s = some (.ok false s) := by
        rw [hρ]
        unfold reE
        simp [PL.inE, PL.pfun, PL.pRet, PL.pRetN, PL.pDrop, PL.pSet, PL.pSetH, PL.pSetO, PL.pSetOH, PL.pIf, PL.pSeq, PL.pSkip, PL.pApp, PL.pAppH, PL.pAsg, PL.pAsgH, PL.pPar2, PL.pPar3, PL.jN, PL.jT, PL.jC, PL.jE, PL.pIfE, PL.pB, PL.ptoB, PL.pOp, PL.pVar, PL.pC, PL.vA, PL.vH, PL.slA_sh, PL.slA_ow, PL.slA_no, PL.slH_sh, PL.slH_ow, PL.slH_no, PL.qI, PL.qIc, PL.qAdd, PL.pCB, PL.pCons, PL.pNil, PL.pTup, PL.pL, PL.fLst, PL.pAnd, PL.pOr, PL.pNot, PL.pTAnd, PL.pTOr, PL.pTNot, PL.pIsN, PL.isNonP, PL.pIsi, PL.pty, PL.pAttr, PL.pget, PL.gLen_lst, PL.gLen_tup, PL.pbS, PL.pbH, PL.kp, PL.kps, PL.nr, PL.nrs, PL.nl, PL.nls, PL.oL, PL.frz, PL.frzS, PL.pFz, PL.pChain, PL.pNeg, PL.pRaise, PL.pRaiseH, PL.x2s, PL.x1, PL.x2, PL.x2t, ML.tabInt, ML.tabBool, ML.LIM, PL.pBrk, PL.pCont, PL.gInt, PL.gMax2, PL.gMin2, PL.gAbs, ix, ar, eq_ii]
      have t3 : (pB (pOp (PL.qEq true) (pCB p_ride (pCons (pVar 3) (pCons (pCB gTuple (pCons (pVar 4) pNil)) (pCons (pVar 11) pNil)))) (pCB p__law_plain (pCons (pVar 2) (pCons (pVar 11) pNil))))) (vA ρ) s = some (.ok false s) := by
        rw [hρ]
        unfold reE
        simp [PL.inE, PL.pfun, PL.pRet, PL.pRetN, PL.pDrop, PL.pSet, PL.pSetH, PL.pSetO, PL.pSetOH, PL.pIf, PL.pSeq, PL.pSkip, PL.pApp, PL.pAppH, PL.pAsg, PL.pAsgH, PL.pPar2, PL.pPar3, PL.jN, PL.jT, PL.jC, PL.jE, PL.pIfE, PL.pB, PL.ptoB, PL.pOp, PL.pVar, PL.pC, PL.vA, PL.vH, PL.slA_sh, PL.slA_ow, PL.slA_no, PL.slH_sh, PL.slH_ow, PL.slH_no, PL.qI, PL.qIc, PL.qAdd, PL.pCB, PL.pCons, PL.pNil, PL.pTup, PL.pL, PL.fLst, PL.pAnd, PL.pOr, PL.pNot, PL.pTAnd, PL.pTOr, PL.pTNot, PL.pIsN, PL.isNonP, PL.pIsi, PL.pty, PL.pAttr, PL.pget, PL.gLen_lst, PL.gLen_tup, PL.pbS, PL.pbH, PL.kp, PL.kps, PL.nr, PL.nrs, PL.nl, PL.nls, PL.oL, PL.frz, PL.frzS, PL.pFz, PL.pChain, PL.pNeg, PL.pRaise, PL.pRaiseH, PL.x2s, PL.x1, PL.x2, PL.x2t, ML.tabInt, ML.tabBool, ML.LIM, PL.pBrk, PL.pCont, PL.gInt, PL.gMax2, PL.gMin2, PL.gAbs, gTuple, rd, pl, eq_ii]
      have t12 : (pTOr (pB (pOp (PL.qEq true) (pCallO 3 p_Rising___call__ (pVar 6) (pCons (pVar 11) pNil)) (pOp qIx (pVar 9) (pVar 11)))) (pB (pOp (PL.qEq true) (pCB p__law_arrival (pCons (pVar 2) (pCons (pVar 11) pNil))) (pOp qIx (pVar 9) (pVar 11))))) (vA ρ) s = some (.ok false s) := by
        unfold pTOr
        rw [t1]
        exact t2
      refine (seq_nx (ρ1 := ρ) (s1 := s) (by unfold pIf; rw [t12]; rfl)).trans ?_
      unfold pIf
      rw [t3]
      rfl
theorem rest_p (s : DS) : ∃ s', p_rest (some (.sh .scr) :: some (.sh .st) :: List.replicate 10 none) s = some (.rt (.bl true) s') := by
  obtain ⟨len, ms, s1, e1, h, hl, hm⟩ := riding_p s (slots := 8) (length := 12) (most := 20) (by decide) (by decide) (by decide) (by decide) (by decide) (by decide)
  have h1 := h.1
  have hn := h.2.2.1
  have h0 := List.length_pos_iff.mpr hn
  have bs := by_slots_p h s1
  have rf := slot_rf h
  obtain ⟨top, htop⟩ : ∃ top : Nat, (top : Int) = len * (ms.length : Int) + 25 := ⟨(len * (ms.length : Int) + 25).toNat, by
    have : 0 ≤ len * (ms.length : Int) := Int.mul_nonneg (by omega) (by omega)
    omega⟩
  have hmul : len * (ms.length : Int) ≤ 12 * 8 := by
    have a : len * (ms.length : Int) ≤ 12 * (ms.length : Int) := Int.mul_le_mul_of_nonneg_right hl (by omega)
    omega
  have hN : len * ((ms.length - 1 : Nat) : Int) ≤ (top : Int) - 1 := by
    have a : len * ((ms.length - 1 : Nat) : Int) ≤ len * (ms.length : Int) := Int.mul_le_mul_of_nonneg_left (by omega) (by omega)
    omega
  have hN0 : 0 ≤ len * ((ms.length - 1 : Nat) : Int) := Int.mul_nonneg (by omega) (by omega)
  have nlm : nl (mapS len ms) = true := by
    show nls [.tup (rowsP _)] = true
    have : nls (rowsP (RM.rows (slotV len ms) (slotN len ms))) = true := nls_map (f := rowP) (fun r => rfl) _
    unfold nls nl
    rw [this]
    rfl
  obtain ⟨V0, hV0⟩ : ∃ V0, V0 = vals (slotV len ms) 0 top := ⟨_, rfl⟩
  have lenV : V0.length = top := by rw [hV0, vals_len]
  have hVn : V0 ≠ [] := by intro q; rw [q] at lenV; simp at lenV; omega
  have atv : ∀ t, 0 ≤ t → atV V0 t = slotV len ms t := fun t ht => by
    unfold atV
    rw [lenV]
    by_cases c : t < top
    · rw [if_pos c]
      have := vals_at (A := slotV len ms) (m := 0) (n := top) (k := t.toNat) (by omega)
      rw [hV0, this]
      simp only [Option.getD_some]
      congr 1
      omega
    · rw [if_neg c]
      have := vals_at (A := slotV len ms) (m := 0) (n := top) (k := top - 1) (by omega)
      rw [hV0, this]
      simp only [Option.getD_some]
      have far := rf.far (s := ((top - 1 : Nat) : Int)) (t := t) (by unfold slotN; omega) (by omega)
      rw [far, show ((0 : Nat) : Int) + ((top - 1 : Nat) : Int) = ((top - 1 : Nat) : Int) by omega]
      omega
  have rfV : RM.Rf (atV V0) (V0.length - 1) := ⟨fun t ht => by rw [atv t ht]; exact rf.lo t ht, fun t ht => by rw [atv t ht, atv (t + 1) (by omega)]; exact rf.up t ht, fun t ht => by
    rw [atv t (by omega), atv (t + 1) (by omega)]
    exact rf.go t (by unfold slotN; omega)⟩
  have gr := greedy_p hVn (by omega) rfV
  have same : RM.rows (atV V0) (V0.length - 1) = RM.rows (slotV len ms) (slotN len ms) := RM.rows_same atv rfV rf
  have endv : slotV len ms 10000 = 10000 + (ms[ms.length - 1]?).getD 0 := by
    rw [slot_end h (t := 10000) (by omega)]
    unfold RM.rid
    have : (ms.length : Int) - 1 ≤ (10000 - 0) / len := by
      refine (Int.le_ediv_iff_mul_le (by omega)).mpr ?_
      have : ((ms.length : Int) - 1) * len = len * ((ms.length - 1 : Nat) : Int) := by
        rw [Int.mul_comm, show ((ms.length - 1 : Nat) : Int) = (ms.length : Int) - 1 by omega]
      omega
    rw [show min ((10000 - 0) / len).toNat (ms.length - 1) = ms.length - 1 by omega]
  have hli := last_ix hn s1
  -- the run
  obtain ⟨p8, p10, ev⟩ := vl_loop h top (by omega) s1 (top + 25) (top + 25) [] none none rfl (Nat.le_refl _) (by simp [vals])
  have z1 : (top : Int) + 25 - ((top + 25 : Nat) : Int) = 0 := by omega
  rw [z1] at ev
  obtain ⟨p11, ec⟩ := ck_loop h top s1 p8 p10 top 0 none (by omega)
  rw [← hV0] at ec
  obtain ⟨s2, el⟩ := long_p s1
  have pl := plain_p h (t := (top : Int) + 25) (by omega) s1
  have sle := slot_end h (t := (top : Int) + 25) (by omega)
  rw [← sle] at pl
  refine ⟨s2, ?_⟩
  unfold p_rest
  refine (seq_nx (ρ1 := [some (.sh .scr), some (.sh .st), some (.sh (.tup [.int len, .lst (intsP ms)])), none, none, none, none, none, none, none, none, none]) (s1 := s1) (by simp [PL.inE, PL.pfun, PL.pRet, PL.pRetN, PL.pDrop, PL.pSet, PL.pSetH, PL.pSetO, PL.pSetOH, PL.pIf, PL.pSeq, PL.pSkip, PL.pApp, PL.pAppH, PL.pAsg, PL.pAsgH, PL.pPar2, PL.pPar3, PL.jN, PL.jT, PL.jC, PL.jE, PL.pIfE, PL.pB, PL.ptoB, PL.pOp, PL.pVar, PL.pC, PL.vA, PL.vH, PL.slA_sh, PL.slA_ow, PL.slA_no, PL.slH_sh, PL.slH_ow, PL.slH_no, PL.qI, PL.qIc, PL.qAdd, PL.pCB, PL.pCons, PL.pNil, PL.pTup, PL.pL, PL.fLst, PL.pAnd, PL.pOr, PL.pNot, PL.pTAnd, PL.pTOr, PL.pTNot, PL.pIsN, PL.isNonP, PL.pIsi, PL.pty, PL.pAttr, PL.pget, PL.gLen_lst, PL.gLen_tup, PL.pbS, PL.pbH, PL.kp, PL.kps, PL.nr, PL.nrs, PL.nl, PL.nls, PL.oL, PL.frz, PL.frzS, PL.pFz, PL.pChain, PL.pNeg, PL.pRaise, PL.pRaiseH, PL.x2s, PL.x1, PL.x2, PL.x2t, ML.tabInt, ML.tabBool, ML.LIM, PL.pBrk, PL.pCont, PL.gInt, PL.gMax2, PL.gMin2, PL.gAbs, e1, List.replicate])).trans ?_
  refine (seq_nx (ρ1 := [some (.sh .scr), some (.sh .st), some (.sh (.tup [.int len, .lst (intsP ms)])), some (.sh (.int len)), some (.sh (.lst (intsP ms))), none, none, none, none, none, none, none]) (s1 := s1) (by simp [PL.inE, PL.pfun, PL.pRet, PL.pRetN, PL.pDrop, PL.pSet, PL.pSetH, PL.pSetO, PL.pSetOH, PL.pIf, PL.pSeq, PL.pSkip, PL.pApp, PL.pAppH, PL.pAsg, PL.pAsgH, PL.pPar2, PL.pPar3, PL.jN, PL.jT, PL.jC, PL.jE, PL.pIfE, PL.pB, PL.ptoB, PL.pOp, PL.pVar, PL.pC, PL.vA, PL.vH, PL.slA_sh, PL.slA_ow, PL.slA_no, PL.slH_sh, PL.slH_ow, PL.slH_no, PL.qI, PL.qIc, PL.qAdd, PL.pCB, PL.pCons, PL.pNil, PL.pTup, PL.pL, PL.fLst, PL.pAnd, PL.pOr, PL.pNot, PL.pTAnd, PL.pTOr, PL.pTNot, PL.pIsN, PL.isNonP, PL.pIsi, PL.pty, PL.pAttr, PL.pget, PL.gLen_lst, PL.gLen_tup, PL.pbS, PL.pbH, PL.kp, PL.kps, PL.nr, PL.nrs, PL.nl, PL.nls, PL.oL, PL.frz, PL.frzS, PL.pFz, PL.pChain, PL.pNeg, PL.pRaise, PL.pRaiseH, PL.x2s, PL.x1, PL.x2, PL.x2t, ML.tabInt, ML.tabBool, ML.LIM, PL.pBrk, PL.pCont, PL.gInt, PL.gMax2, PL.gMin2, PL.gAbs])).trans ?_
  refine (seq_nx (ρ1 := [some (.sh .scr), some (.sh .st), some (.sh (.tup [.int len, .lst (intsP ms)])), some (.sh (.int len)), some (.sh (.lst (intsP ms))), some (.ow (.lst (intsP ms))), none, none, none, none, none, none]) (s1 := s1) (by simp [PL.inE, PL.pfun, PL.pRet, PL.pRetN, PL.pDrop, PL.pSet, PL.pSetH, PL.pSetO, PL.pSetOH, PL.pIf, PL.pSeq, PL.pSkip, PL.pApp, PL.pAppH, PL.pAsg, PL.pAsgH, PL.pPar2, PL.pPar3, PL.jN, PL.jT, PL.jC, PL.jE, PL.pIfE, PL.pB, PL.ptoB, PL.pOp, PL.pVar, PL.pC, PL.vA, PL.vH, PL.slA_sh, PL.slA_ow, PL.slA_no, PL.slH_sh, PL.slH_ow, PL.slH_no, PL.qI, PL.qIc, PL.qAdd, PL.pCB, PL.pCons, PL.pNil, PL.pTup, PL.pL, PL.fLst, PL.pAnd, PL.pOr, PL.pNot, PL.pTAnd, PL.pTOr, PL.pTNot, PL.pIsN, PL.isNonP, PL.pIsi, PL.pty, PL.pAttr, PL.pget, PL.gLen_lst, PL.gLen_tup, PL.pbS, PL.pbH, PL.kp, PL.kps, PL.nr, PL.nrs, PL.nl, PL.nls, PL.oL, PL.frz, PL.frzS, PL.pFz, PL.pChain, PL.pNeg, PL.pRaise, PL.pRaiseH, PL.x2s, PL.x1, PL.x2, PL.x2t, ML.tabInt, ML.tabBool, ML.LIM, PL.pBrk, PL.pCont, PL.gInt, PL.gMax2, PL.gMin2, PL.gAbs, fCopy])).trans ?_
  refine (seq_nx (ρ1 := [some (.sh .scr), some (.sh .st), some (.sh (.tup [.int len, .lst (intsP ms)])), some (.sh (.int len)), some (.sh (.lst (intsP ms))), some (.ow (.lst (intsP ms))), some (.sh (mapS len ms)), none, none, none, none, none]) (s1 := s1) (by simp [PL.inE, PL.pfun, PL.pRet, PL.pRetN, PL.pDrop, PL.pSet, PL.pSetH, PL.pSetO, PL.pSetOH, PL.pIf, PL.pSeq, PL.pSkip, PL.pApp, PL.pAppH, PL.pAsg, PL.pAsgH, PL.pPar2, PL.pPar3, PL.jN, PL.jT, PL.jC, PL.jE, PL.pIfE, PL.pB, PL.ptoB, PL.pOp, PL.pVar, PL.pC, PL.vA, PL.vH, PL.slA_sh, PL.slA_ow, PL.slA_no, PL.slH_sh, PL.slH_ow, PL.slH_no, PL.qI, PL.qIc, PL.qAdd, PL.pCB, PL.pCons, PL.pNil, PL.pTup, PL.pL, PL.fLst, PL.pAnd, PL.pOr, PL.pNot, PL.pTAnd, PL.pTOr, PL.pTNot, PL.pIsN, PL.isNonP, PL.pIsi, PL.pty, PL.pAttr, PL.pget, PL.gLen_lst, PL.gLen_tup, PL.pbS, PL.pbH, PL.kp, PL.kps, PL.nr, PL.nrs, PL.nl, PL.nls, PL.oL, PL.frz, PL.frzS, PL.pFz, PL.pChain, PL.pNeg, PL.pRaise, PL.pRaiseH, PL.x2s, PL.x1, PL.x2, PL.x2t, ML.tabInt, ML.tabBool, ML.LIM, PL.pBrk, PL.pCont, PL.gInt, PL.gMax2, PL.gMin2, PL.gAbs, bs, nlm])).trans ?_
  refine (seq_nx (ρ1 := [some (.sh .scr), some (.sh .st), some (.sh (.tup [.int len, .lst (intsP ms)])), some (.sh (.int len)), some (.sh (.lst (intsP ms))), some (.ow (.lst (intsP ms))), some (.sh (mapS len ms)), none, none, none, none, none]) (s1 := s1) (by
    have q := ints_eq true ms ms s1
    simp only [decide_true, bne_self_eq_false] at q
    simp [PL.inE, PL.pfun, PL.pRet, PL.pRetN, PL.pDrop, PL.pSet, PL.pSetH, PL.pSetO, PL.pSetOH, PL.pIf, PL.pSeq, PL.pSkip, PL.pApp, PL.pAppH, PL.pAsg, PL.pAsgH, PL.pPar2, PL.pPar3, PL.jN, PL.jT, PL.jC, PL.jE, PL.pIfE, PL.pB, PL.ptoB, PL.pOp, PL.pVar, PL.pC, PL.vA, PL.vH, PL.slA_sh, PL.slA_ow, PL.slA_no, PL.slH_sh, PL.slH_ow, PL.slH_no, PL.qI, PL.qIc, PL.qAdd, PL.pCB, PL.pCons, PL.pNil, PL.pTup, PL.pL, PL.fLst, PL.pAnd, PL.pOr, PL.pNot, PL.pTAnd, PL.pTOr, PL.pTNot, PL.pIsN, PL.isNonP, PL.pIsi, PL.pty, PL.pAttr, PL.pget, PL.gLen_lst, PL.gLen_tup, PL.pbS, PL.pbH, PL.kp, PL.kps, PL.nr, PL.nrs, PL.nl, PL.nls, PL.oL, PL.frz, PL.frzS, PL.pFz, PL.pChain, PL.pNeg, PL.pRaise, PL.pRaiseH, PL.x2s, PL.x1, PL.x2, PL.x2t, ML.tabInt, ML.tabBool, ML.LIM, PL.pBrk, PL.pCont, PL.gInt, PL.gMax2, PL.gMin2, PL.gAbs, q, mapP, tab_Rising, tabI])).trans ?_
  refine (seq_nx (ρ1 := [some (.sh .scr), some (.sh .st), some (.sh (.tup [.int len, .lst (intsP ms)])), some (.sh (.int len)), some (.sh (.lst (intsP ms))), some (.ow (.lst (intsP ms ++ [.int 0]))), some (.sh (mapS len ms)), none, none, none, none, none]) (s1 := s1) (by
    have : ms.length < 1000000 := by omega
    simp [PL.inE, PL.pfun, PL.pRet, PL.pRetN, PL.pDrop, PL.pSet, PL.pSetH, PL.pSetO, PL.pSetOH, PL.pIf, PL.pSeq, PL.pSkip, PL.pApp, PL.pAppH, PL.pAsg, PL.pAsgH, PL.pPar2, PL.pPar3, PL.jN, PL.jT, PL.jC, PL.jE, PL.pIfE, PL.pB, PL.ptoB, PL.pOp, PL.pVar, PL.pC, PL.vA, PL.vH, PL.slA_sh, PL.slA_ow, PL.slA_no, PL.slH_sh, PL.slH_ow, PL.slH_no, PL.qI, PL.qIc, PL.qAdd, PL.pCB, PL.pCons, PL.pNil, PL.pTup, PL.pL, PL.fLst, PL.pAnd, PL.pOr, PL.pNot, PL.pTAnd, PL.pTOr, PL.pTNot, PL.pIsN, PL.isNonP, PL.pIsi, PL.pty, PL.pAttr, PL.pget, PL.gLen_lst, PL.gLen_tup, PL.pbS, PL.pbH, PL.kp, PL.kps, PL.nr, PL.nrs, PL.nl, PL.nls, PL.oL, PL.frz, PL.frzS, PL.pFz, PL.pChain, PL.pNeg, PL.pRaise, PL.pRaiseH, PL.x2s, PL.x1, PL.x2, PL.x2t, ML.tabInt, ML.tabBool, ML.LIM, PL.pBrk, PL.pCont, PL.gInt, PL.gMax2, PL.gMin2, PL.gAbs, ints_len, this])).trans ?_
  refine (seq_nx (ρ1 := reE ms len top none none none none) (s1 := s1) (by
    have := mul_ok (i := len) (j := (ms.length : Int)) (by omega) (by omega)
    unfold reE
    simp [PL.inE, PL.pfun, PL.pRet, PL.pRetN, PL.pDrop, PL.pSet, PL.pSetH, PL.pSetO, PL.pSetOH, PL.pIf, PL.pSeq, PL.pSkip, PL.pApp, PL.pAppH, PL.pAsg, PL.pAsgH, PL.pPar2, PL.pPar3, PL.jN, PL.jT, PL.jC, PL.jE, PL.pIfE, PL.pB, PL.ptoB, PL.pOp, PL.pVar, PL.pC, PL.vA, PL.vH, PL.slA_sh, PL.slA_ow, PL.slA_no, PL.slH_sh, PL.slH_ow, PL.slH_no, PL.qI, PL.qIc, PL.qAdd, PL.pCB, PL.pCons, PL.pNil, PL.pTup, PL.pL, PL.fLst, PL.pAnd, PL.pOr, PL.pNot, PL.pTAnd, PL.pTOr, PL.pTNot, PL.pIsN, PL.isNonP, PL.pIsi, PL.pty, PL.pAttr, PL.pget, PL.gLen_lst, PL.gLen_tup, PL.pbS, PL.pbH, PL.kp, PL.kps, PL.nr, PL.nrs, PL.nl, PL.nls, PL.oL, PL.frz, PL.frzS, PL.pFz, PL.pChain, PL.pNeg, PL.pRaise, PL.pRaiseH, PL.x2s, PL.x1, PL.x2, PL.x2t, ML.tabInt, ML.tabBool, ML.LIM, PL.pBrk, PL.pCont, PL.gInt, PL.gMax2, PL.gMin2, PL.gAbs, ints_len, qMul, this, htop])).trans ?_
  refine (seq_nx (ρ1 := reE ms len top (some (.sh (.int (slotV len ms ((top : Int) + 25))))) none none none) (s1 := s1) (by unfold reE; simp [PL.inE, PL.pfun, PL.pRet, PL.pRetN, PL.pDrop, PL.pSet, PL.pSetH, PL.pSetO, PL.pSetOH, PL.pIf, PL.pSeq, PL.pSkip, PL.pApp, PL.pAppH, PL.pAsg, PL.pAsgH, PL.pPar2, PL.pPar3, PL.jN, PL.jT, PL.jC, PL.jE, PL.pIfE, PL.pB, PL.ptoB, PL.pOp, PL.pVar, PL.pC, PL.vA, PL.vH, PL.slA_sh, PL.slA_ow, PL.slA_no, PL.slH_sh, PL.slH_ow, PL.slH_no, PL.qI, PL.qIc, PL.qAdd, PL.pCB, PL.pCons, PL.pNil, PL.pTup, PL.pL, PL.fLst, PL.pAnd, PL.pOr, PL.pNot, PL.pTAnd, PL.pTOr, PL.pTNot, PL.pIsN, PL.isNonP, PL.pIsi, PL.pty, PL.pAttr, PL.pget, PL.gLen_lst, PL.gLen_tup, PL.pbS, PL.pbH, PL.kp, PL.kps, PL.nr, PL.nrs, PL.nl, PL.nls, PL.oL, PL.frz, PL.frzS, PL.pFz, PL.pChain, PL.pNeg, PL.pRaise, PL.pRaiseH, PL.x2s, PL.x1, PL.x2, PL.x2t, ML.tabInt, ML.tabBool, ML.LIM, PL.pBrk, PL.pCont, PL.gInt, PL.gMax2, PL.gMin2, PL.gAbs, pl])).trans ?_
  refine (seq_nx (ρ1 := reE ms len top (some (.sh (.int (slotV len ms ((top + 25 : Nat) : Int))))) (some (.ow (.lst (intsP [])))) none none) (s1 := s1) (by unfold reE; simp [PL.inE, PL.pfun, PL.pRet, PL.pRetN, PL.pDrop, PL.pSet, PL.pSetH, PL.pSetO, PL.pSetOH, PL.pIf, PL.pSeq, PL.pSkip, PL.pApp, PL.pAppH, PL.pAsg, PL.pAsgH, PL.pPar2, PL.pPar3, PL.jN, PL.jT, PL.jC, PL.jE, PL.pIfE, PL.pB, PL.ptoB, PL.pOp, PL.pVar, PL.pC, PL.vA, PL.vH, PL.slA_sh, PL.slA_ow, PL.slA_no, PL.slH_sh, PL.slH_ow, PL.slH_no, PL.qI, PL.qIc, PL.qAdd, PL.pCB, PL.pCons, PL.pNil, PL.pTup, PL.pL, PL.fLst, PL.pAnd, PL.pOr, PL.pNot, PL.pTAnd, PL.pTOr, PL.pTNot, PL.pIsN, PL.isNonP, PL.pIsi, PL.pty, PL.pAttr, PL.pget, PL.gLen_lst, PL.gLen_tup, PL.pbS, PL.pbH, PL.kp, PL.kps, PL.nr, PL.nrs, PL.nl, PL.nls, PL.oL, PL.frz, PL.frzS, PL.pFz, PL.pChain, PL.pNeg, PL.pRaise, PL.pRaiseH, PL.x2s, PL.x1, PL.x2, PL.x2t, ML.tabInt, ML.tabBool, ML.LIM, PL.pBrk, PL.pCont, PL.gInt, PL.gMax2, PL.gMin2, PL.gAbs, intsP])).trans ?_
  have i1 : inR ((top : Int) + 25) = true := inR_of (by omega) (by omega)
  have i2 : inR (top : Int) = true := inR_of (by omega) (by omega)
  refine (seq_nx ((pfor_eq (ps := pItems 0 (top + 25)) (s1 := s1) (by
    have : ((top : Int) + 25).toNat = top + 25 := by omega
    unfold reE
    simp [PL.inE, PL.pfun, PL.pRet, PL.pRetN, PL.pDrop, PL.pSet, PL.pSetH, PL.pSetO, PL.pSetOH, PL.pIf, PL.pSeq, PL.pSkip, PL.pApp, PL.pAppH, PL.pAsg, PL.pAsgH, PL.pPar2, PL.pPar3, PL.jN, PL.jT, PL.jC, PL.jE, PL.pIfE, PL.pB, PL.ptoB, PL.pOp, PL.pVar, PL.pC, PL.vA, PL.vH, PL.slA_sh, PL.slA_ow, PL.slA_no, PL.slH_sh, PL.slH_ow, PL.slH_no, PL.qI, PL.qIc, PL.qAdd, PL.pCB, PL.pCons, PL.pNil, PL.pTup, PL.pL, PL.fLst, PL.pAnd, PL.pOr, PL.pNot, PL.pTAnd, PL.pTOr, PL.pTNot, PL.pIsN, PL.isNonP, PL.pIsi, PL.pty, PL.pAttr, PL.pget, PL.gLen_lst, PL.gLen_tup, PL.pbS, PL.pbH, PL.kp, PL.kps, PL.nr, PL.nrs, PL.nl, PL.nls, PL.oL, PL.frz, PL.frzS, PL.pFz, PL.pChain, PL.pNeg, PL.pRaise, PL.pRaiseH, PL.x2s, PL.x1, PL.x2, PL.x2t, ML.tabInt, ML.tabBool, ML.LIM, PL.pBrk, PL.pCont, PL.gInt, PL.gMax2, PL.gMin2, PL.gAbs, pIR1, i1, this])).trans ev)).trans ?_
  have hcut : cut (intsP (vals (slotV len ms) 0 (top + 25)).reverse).reverse none (some (top : Int)) = intsP V0 := by
    have e2 : (intsP (vals (slotV len ms) 0 (top + 25)).reverse).reverse = intsP (vals (slotV len ms) 0 (top + 25)) := by simp [intsP]
    have e3 : ∀ (xs : List P) (k : Nat), cut xs none (some (k : Int)) = xs.take k := fun xs k => by
      unfold cut
      rw [HT.sIx_nat, HT.sIx_none]
      simp
    rw [e2, e3, hV0]
    unfold intsP vals
    rw [← List.map_take, ← List.map_take, List.take_range]
    congr 2
    rw [Nat.min_eq_left (by omega)]
  have nrV : nrs (intsP V0) = true := nrs_map (f := P.int) (fun _ => rfl) _
  refine (seq_nx (ρ1 := reE ms len top p8 (some (.ow (.lst (intsP V0)))) p10 none) (s1 := s1) (by
    unfold reE
    simp [PL.inE, PL.pfun, PL.pRet, PL.pRetN, PL.pDrop, PL.pSet, PL.pSetH, PL.pSetO, PL.pSetOH, PL.pIf, PL.pSeq, PL.pSkip, PL.pApp, PL.pAppH, PL.pAsg, PL.pAsgH, PL.pPar2, PL.pPar3, PL.jN, PL.jT, PL.jC, PL.jE, PL.pIfE, PL.pB, PL.ptoB, PL.pOp, PL.pVar, PL.pC, PL.vA, PL.vH, PL.slA_sh, PL.slA_ow, PL.slA_no, PL.slH_sh, PL.slH_ow, PL.slH_no, PL.qI, PL.qIc, PL.qAdd, PL.pCB, PL.pCons, PL.pNil, PL.pTup, PL.pL, PL.fLst, PL.pAnd, PL.pOr, PL.pNot, PL.pTAnd, PL.pTOr, PL.pTNot, PL.pIsN, PL.isNonP, PL.pIsi, PL.pty, PL.pAttr, PL.pget, PL.gLen_lst, PL.gLen_tup, PL.pbS, PL.pbH, PL.kp, PL.kps, PL.nr, PL.nrs, PL.nl, PL.nls, PL.oL, PL.frz, PL.frzS, PL.pFz, PL.pChain, PL.pNeg, PL.pRaise, PL.pRaiseH, PL.x2s, PL.x1, PL.x2, PL.x2t, ML.tabInt, ML.tabBool, ML.LIM, PL.pBrk, PL.pCont, PL.gInt, PL.gMax2, PL.gMin2, PL.gAbs, fSl, fRevL, pNoPart, pPart, hcut, nrV])).trans ?_
  refine (seq_nx ((pfor_eq (ps := pItems 0 top) (s1 := s1) (by unfold reE; simp [PL.inE, PL.pfun, PL.pRet, PL.pRetN, PL.pDrop, PL.pSet, PL.pSetH, PL.pSetO, PL.pSetOH, PL.pIf, PL.pSeq, PL.pSkip, PL.pApp, PL.pAppH, PL.pAsg, PL.pAsgH, PL.pPar2, PL.pPar3, PL.jN, PL.jT, PL.jC, PL.jE, PL.pIfE, PL.pB, PL.ptoB, PL.pOp, PL.pVar, PL.pC, PL.vA, PL.vH, PL.slA_sh, PL.slA_ow, PL.slA_no, PL.slH_sh, PL.slH_ow, PL.slH_no, PL.qI, PL.qIc, PL.qAdd, PL.pCB, PL.pCons, PL.pNil, PL.pTup, PL.pL, PL.fLst, PL.pAnd, PL.pOr, PL.pNot, PL.pTAnd, PL.pTOr, PL.pTNot, PL.pIsN, PL.isNonP, PL.pIsi, PL.pty, PL.pAttr, PL.pget, PL.gLen_lst, PL.gLen_tup, PL.pbS, PL.pbH, PL.kp, PL.kps, PL.nr, PL.nrs, PL.nl, PL.nls, PL.oL, PL.frz, PL.frzS, PL.pFz, PL.pChain, PL.pNeg, PL.pRaise, PL.pRaiseH, PL.x2s, PL.x1, PL.x2, PL.x2t, ML.tabInt, ML.tabBool, ML.LIM, PL.pBrk, PL.pCont, PL.gInt, PL.gMax2, PL.gMin2, PL.gAbs, pIR1, i2])).trans ec)).trans ?_
  obtain ⟨ρ, hρ⟩ : ∃ ρ, ρ = reE ms len top p8 (some (.ow (.lst (intsP V0)))) p10 p11 := ⟨_, rfl⟩
  rw [← hρ]
  have fc : ∀ s, pCallO 3 p_Rising___call__ (pVar 6) (pCons (pOp qPow (pC (.int 10)) (pC (.int 4))) pNil) (vA ρ) s = some (.ok (.int (slotV len ms 10000)) s) := fun s => by
    rw [hρ]
    refine fcall h (t := 10000) (by decide) rfl ?_
    have : opq (cPow 10 4) = true := opq_t rfl
    simp [PL.inE, PL.pfun, PL.pRet, PL.pRetN, PL.pDrop, PL.pSet, PL.pSetH, PL.pSetO, PL.pSetOH, PL.pIf, PL.pSeq, PL.pSkip, PL.pApp, PL.pAppH, PL.pAsg, PL.pAsgH, PL.pPar2, PL.pPar3, PL.jN, PL.jT, PL.jC, PL.jE, PL.pIfE, PL.pB, PL.ptoB, PL.pOp, PL.pVar, PL.pC, PL.vA, PL.vH, PL.slA_sh, PL.slA_ow, PL.slA_no, PL.slH_sh, PL.slH_ow, PL.slH_no, PL.qI, PL.qIc, PL.qAdd, PL.pCB, PL.pCons, PL.pNil, PL.pTup, PL.pL, PL.fLst, PL.pAnd, PL.pOr, PL.pNot, PL.pTAnd, PL.pTOr, PL.pTNot, PL.pIsN, PL.isNonP, PL.pIsi, PL.pty, PL.pAttr, PL.pget, PL.gLen_lst, PL.gLen_tup, PL.pbS, PL.pbH, PL.kp, PL.kps, PL.nr, PL.nrs, PL.nl, PL.nls, PL.oL, PL.frz, PL.frzS, PL.pFz, PL.pChain, PL.pNeg, PL.pRaise, PL.pRaiseH, PL.x2s, PL.x1, PL.x2, PL.x2t, ML.tabInt, ML.tabBool, ML.LIM, PL.pBrk, PL.pCont, PL.gInt, PL.gMax2, PL.gMin2, PL.gAbs, this]
  have t1 : (pB (pOp (PL.qEq true) (pAttr ("rows" : Str) at_rows_i at_rows_e (pVar 6)) (pCB p__law_greedy (pCons (pVar 9) pNil)))) (vA ρ) s1 = some (.ok false s1) := by
    have at1 : pAttr ("rows" : Str) at_rows_i at_rows_e (pVar 6) (vA ρ) s1 = some (.ok (.tup (rowsP (RM.rows (slotV len ms) (slotN len ms)))) s1) := by rw [hρ]; exact rows_attr rfl
    have g1 : pCB p__law_greedy (pCons (pVar 9) pNil) (vA ρ) s1 = some (.ok (.tup (rowsP (RM.rows (slotV len ms) (slotN len ms)))) s1) := by
      rw [hρ]
      have := gr s1
      rw [same] at this
      unfold reE
      simp [PL.inE, PL.pfun, PL.pRet, PL.pRetN, PL.pDrop, PL.pSet, PL.pSetH, PL.pSetO, PL.pSetOH, PL.pIf, PL.pSeq, PL.pSkip, PL.pApp, PL.pAppH, PL.pAsg, PL.pAsgH, PL.pPar2, PL.pPar3, PL.jN, PL.jT, PL.jC, PL.jE, PL.pIfE, PL.pB, PL.ptoB, PL.pOp, PL.pVar, PL.pC, PL.vA, PL.vH, PL.slA_sh, PL.slA_ow, PL.slA_no, PL.slH_sh, PL.slH_ow, PL.slH_no, PL.qI, PL.qIc, PL.qAdd, PL.pCB, PL.pCons, PL.pNil, PL.pTup, PL.pL, PL.fLst, PL.pAnd, PL.pOr, PL.pNot, PL.pTAnd, PL.pTOr, PL.pTNot, PL.pIsN, PL.isNonP, PL.pIsi, PL.pty, PL.pAttr, PL.pget, PL.gLen_lst, PL.gLen_tup, PL.pbS, PL.pbH, PL.kp, PL.kps, PL.nr, PL.nrs, PL.nl, PL.nls, PL.oL, PL.frz, PL.frzS, PL.pFz, PL.pChain, PL.pNeg, PL.pRaise, PL.pRaiseH, PL.x2s, PL.x1, PL.x2, PL.x2t, ML.tabInt, ML.tabBool, ML.LIM, PL.pBrk, PL.pCont, PL.gInt, PL.gMax2, PL.gMin2, PL.gAbs, this]
    unfold pB pOp
    rw [at1]
    simp only [pb_ok]
    rw [g1]
    simp only [pb_ok]
    rw [rows_eq]
    simp [ptoB]
  have t2 : (pB (pOp (PL.qEq true) (pCallO 3 p_Rising___call__ (pVar 6) (pCons (pOp qPow (pC (.int 10)) (pC (.int 4))) pNil)) (pOp qAdd (pOp qPow (pC (.int 10)) (pC (.int 4))) (pOp qIx (pVar 4) (pNeg (pC (.int 1))))))) (vA ρ) s1 = some (.ok false s1) := by
    have r1 : pOp qAdd (pOp qPow (pC (.int 10)) (pC (.int 4))) (pOp qIx (pVar 4) (pNeg (pC (.int 1)))) (vA ρ) s1 = some (.ok (.int (slotV len ms 10000)) s1) := by
      rw [hρ, endv]
      have : opq (cPow 10 4) = true := opq_t rfl
      unfold reE
      simp [PL.inE, PL.pfun, PL.pRet, PL.pRetN, PL.pDrop, PL.pSet, PL.pSetH, PL.pSetO, PL.pSetOH, PL.pIf, PL.pSeq, PL.pSkip, PL.pApp, PL.pAppH, PL.pAsg, PL.pAsgH, PL.pPar2, PL.pPar3, PL.jN, PL.jT, PL.jC, PL.jE, PL.pIfE, PL.pB, PL.ptoB, PL.pOp, PL.pVar, PL.pC, PL.vA, PL.vH, PL.slA_sh, PL.slA_ow, PL.slA_no, PL.slH_sh, PL.slH_ow, PL.slH_no, PL.qI, PL.qIc, PL.qAdd, PL.pCB, PL.pCons, PL.pNil, PL.pTup, PL.pL, PL.fLst, PL.pAnd, PL.pOr, PL.pNot, PL.pTAnd, PL.pTOr, PL.pTNot, PL.pIsN, PL.isNonP, PL.pIsi, PL.pty, PL.pAttr, PL.pget, PL.gLen_lst, PL.gLen_tup, PL.pbS, PL.pbH, PL.kp, PL.kps, PL.nr, PL.nrs, PL.nl, PL.nls, PL.oL, PL.frz, PL.frzS, PL.pFz, PL.pChain, PL.pNeg, PL.pRaise, PL.pRaiseH, PL.x2s, PL.x1, PL.x2, PL.x2t, ML.tabInt, ML.tabBool, ML.LIM, PL.pBrk, PL.pCont, PL.gInt, PL.gMax2, PL.gMin2, PL.gAbs, this, hli]
    unfold pB pOp at *
    rw [show (pCallO 3 p_Rising___call__ (pVar 6) (pCons (fun ρ s => pb (pC (P.int 10) ρ s) fun p s1 => pb (pC (P.int 4) ρ s1) fun q s2 => qPow p q s2) pNil)) (vA ρ) s1 = some (.ok (.int (slotV len ms 10000)) s1) from fc s1]
    simp only [pb_ok]
    rw [r1]
    simp only [pb_ok]
    rw [eq_ii]
    simp [ptoB]
  refine (seq_nx (ρ1 := ρ) (s1 := s1) (by
    unfold pIf pTOr
    rw [t1]
    simp only [pb_ok, Bool.false_eq_true, if_false]
    rw [t2]
    rfl)).trans ?_
  rw [hρ]
  unfold reE
  simp [PL.inE, PL.pfun, PL.pRet, PL.pRetN, PL.pDrop, PL.pSet, PL.pSetH, PL.pSetO, PL.pSetOH, PL.pIf, PL.pSeq, PL.pSkip, PL.pApp, PL.pAppH, PL.pAsg, PL.pAsgH, PL.pPar2, PL.pPar3, PL.jN, PL.jT, PL.jC, PL.jE, PL.pIfE, PL.pB, PL.ptoB, PL.pOp, PL.pVar, PL.pC, PL.vA, PL.vH, PL.slA_sh, PL.slA_ow, PL.slA_no, PL.slH_sh, PL.slH_ow, PL.slH_no, PL.qI, PL.qIc, PL.qAdd, PL.pCB, PL.pCons, PL.pNil, PL.pTup, PL.pL, PL.fLst, PL.pAnd, PL.pOr, PL.pNot, PL.pTAnd, PL.pTOr, PL.pTNot, PL.pIsN, PL.isNonP, PL.pIsi, PL.pty, PL.pAttr, PL.pget, PL.gLen_lst, PL.gLen_tup, PL.pbS, PL.pbH, PL.kp, PL.kps, PL.nr, PL.nrs, PL.nl, PL.nls, PL.oL, PL.frz, PL.frzS, PL.pFz, PL.pChain, PL.pNeg, PL.pRaise, PL.pRaiseH, PL.x2s, PL.x1, PL.x2, PL.x2t, ML.tabInt, ML.tabBool, ML.LIM, PL.pBrk, PL.pCont, PL.gInt, PL.gMax2, PL.gMin2, PL.gAbs, el]
theorem law_spec (ns : List Int) (c : Cell) (hc : c = .lst (ns.map U.int) ∨ c = .frz (ns.map U.int)) : ∃ h', m_law [.ref 0] [c] = some (.ok (.bl true) h') := by
  have hrd : rd [c] 0 = some (ns.map U.int) := by rcases hc with rfl | rfl <;> simp [rd]
  exact law_fin hc (start_spec ns [c] hrd) s_rest rest_p law_split
end K09

set_option maxHeartbeats 4000000
namespace K09
open PySem L2 ML
abbrev i_BadNumber : Stmt := inClass (topS 3) 0
theorem si_BadNumber : SupScope ["self", "what", "value"] ["self", "what", "value"] (defScope i_BadNumber) := ⟨rfl, rfl, rfl, by decide +kernel, rfl, by decide +kernel, by decide +kernel, by decide +kernel, by decide +kernel, by decide +kernel⟩
abbrev i_BadRows : Stmt := inClass (topS 4) 0
theorem si_BadRows : SupScope ["self", "place"] ["self", "place"] (defScope i_BadRows) := ⟨rfl, rfl, rfl, by decide +kernel, rfl, by decide +kernel, by decide +kernel, by decide +kernel, by decide +kernel, by decide +kernel⟩
theorem all_mk {P : Program} {w : World} {K : PySem.W.Frag} {h : Heap} {mg : Str → Option Value} {fa : Addr} (X : K.In h) (Gn : h.Ns mainGlobals mg) (hfa : mg "law" = some (.ref fa)) (hfile : ((P.main.file : Str) == ("/claim/cut.py" : Str)) = true) (htop : (P.main.scope.names.lookup ("super" : Str)).isSome = false)
    {tk_LONGEST_RIDE : Tok}
    {tk_LONGEST_SLOT : Tok}
    {tk_MOST_SLOTS : Tok}
    {C_CalendarError : Addr}
    {C_BadNumber : Addr}
    {C_BadRows : Addr}
    {nm_CalendarError qn_CalendarError : Str} {N_CalendarError : Addr} {bs_CalendarError bm_CalendarError : List Value} {sn_CalendarError : List Str} {sub_CalendarError : List Value} {ab_CalendarError : Bool} {col_CalendarError : Option Bool} {dd_CalendarError : Option Addr} {m0_CalendarError m1_CalendarError m2_CalendarError m3_CalendarError m5_CalendarError : Option Value}
    {nm_BadNumber qn_BadNumber : Str} {N_BadNumber : Addr} {bs_BadNumber : List Value} {sn_BadNumber : List Str} {sub_BadNumber : List Value} {ab_BadNumber : Bool} {col_BadNumber : Option Bool} {dd_BadNumber : Option Addr} {m0_BadNumber m1_BadNumber m2_BadNumber m3_BadNumber m5_BadNumber : Option Value}
    {nm_BadRows qn_BadRows : Str} {N_BadRows : Addr} {bs_BadRows : List Value} {sn_BadRows : List Str} {sub_BadRows : List Value} {ab_BadRows : Bool} {col_BadRows : Option Bool} {dd_BadRows : Option Addr} {m0_BadRows m1_BadRows m2_BadRows m3_BadRows m5_BadRows : Option Value}
    {fI_BadNumber cc_BadNumber cda_BadNumber : Addr} {oc_BadNumber kV_BadNumber dc_BadNumber pm_BadNumber ct_BadNumber : Value} {od_BadNumber an_BadNumber : Option Addr} {sl_BadNumber : Array (Option Value)} {ccl_BadNumber : Value} {cdd_BadNumber : Option Addr} {vs_BadNumber : Array Value} {ccs_BadNumber : Array (Option Value)} {tf_BadNumber : Tok} {cl2_BadNumber : Value} {cld_BadNumber : Option Addr} {csl_BadNumber : Array (Option Value)}
    {fI_BadRows cc_BadRows cda_BadRows : Addr} {oc_BadRows kV_BadRows dc_BadRows pm_BadRows ct_BadRows : Value} {od_BadRows an_BadRows : Option Addr} {sl_BadRows : Array (Option Value)} {ccl_BadRows : Value} {cdd_BadRows : Option Addr} {vs_BadRows : Array Value} {ccs_BadRows : Array (Option Value)} {tf_BadRows : Tok} {cl2_BadRows : Value} {cld_BadRows : Option Addr} {csl_BadRows : Array (Option Value)}
    {C_Rising : Addr}
    {f_Rising___call__ : Addr} {od_Rising___call__ an_Rising___call__ : Option Addr} {sl_Rising___call__ : Array (Option Value)} {oc_Rising___call__ kV_Rising___call__ dc_Rising___call__ pm_Rising___call__ cd_Rising___call__ ct_Rising___call__ : Value}
    {f_Rising___init__ : Addr} {od_Rising___init__ an_Rising___init__ : Option Addr} {sl_Rising___init__ : Array (Option Value)} {oc_Rising___init__ kV_Rising___init__ dc_Rising___init__ pm_Rising___init__ cd_Rising___init__ ct_Rising___init__ : Value}
    {f_is_integer : Addr} {od_is_integer an_is_integer : Option Addr} {sl_is_integer : Array (Option Value)} {oc_is_integer kV_is_integer dc_is_integer pm_is_integer cd_is_integer ct_is_integer : Value}
    {f_check_integer : Addr} {od_check_integer an_check_integer : Option Addr} {sl_check_integer : Array (Option Value)} {oc_check_integer kV_check_integer dc_check_integer pm_check_integer cd_check_integer ct_check_integer : Value}
    {f_check_number : Addr} {od_check_number an_check_number : Option Addr} {sl_check_number : Array (Option Value)} {oc_check_number kV_check_number dc_check_number pm_check_number cd_check_number ct_check_number : Value}
    {f_lesser : Addr} {od_lesser an_lesser : Option Addr} {sl_lesser : Array (Option Value)} {oc_lesser kV_lesser dc_lesser pm_lesser cd_lesser ct_lesser : Value}
    {f_greater : Addr} {od_greater an_greater : Option Addr} {sl_greater : Array (Option Value)} {oc_greater kV_greater dc_greater pm_greater cd_greater ct_greater : Value}
    {f_row_value : Addr} {od_row_value an_row_value : Option Addr} {sl_row_value : Array (Option Value)} {oc_row_value kV_row_value dc_row_value pm_row_value cd_row_value ct_row_value : Value}
    {f_start_of : Addr} {od_start_of an_start_of : Option Addr} {sl_start_of : Array (Option Value)} {oc_start_of kV_start_of dc_start_of pm_start_of cd_start_of ct_start_of : Value}
    {f_last_place : Addr} {od_last_place an_last_place : Option Addr} {sl_last_place : Array (Option Value)} {oc_last_place kV_last_place dc_last_place pm_last_place cd_last_place ct_last_place : Value}
    {f_follows : Addr} {od_follows an_follows : Option Addr} {sl_follows : Array (Option Value)} {oc_follows kV_follows dc_follows pm_follows cd_follows ct_follows : Value}
    {f_is_good_row : Addr} {od_is_good_row an_is_good_row : Option Addr} {sl_is_good_row : Array (Option Value)} {oc_is_good_row kV_is_good_row dc_is_good_row pm_is_good_row cd_is_good_row ct_is_good_row : Value}
    {f_check_rows : Addr} {od_check_rows an_check_rows : Option Addr} {sl_check_rows : Array (Option Value)} {oc_check_rows kV_check_rows dc_check_rows pm_check_rows cd_check_rows ct_check_rows : Value}
    {f_shortest : Addr} {od_shortest an_shortest : Option Addr} {sl_shortest : Array (Option Value)} {oc_shortest kV_shortest dc_shortest pm_shortest cd_shortest ct_shortest : Value}
    {f_check_slots : Addr} {od_check_slots an_check_slots : Option Addr} {sl_check_slots : Array (Option Value)} {oc_check_slots kV_check_slots dc_check_slots pm_check_slots cd_check_slots ct_check_slots : Value}
    {f_by_slots : Addr} {od_by_slots an_by_slots : Option Addr} {sl_by_slots : Array (Option Value)} {oc_by_slots kV_by_slots dc_by_slots pm_by_slots cd_by_slots ct_by_slots : Value}
    {f_ride : Addr} {od_ride an_ride : Option Addr} {sl_ride : Array (Option Value)} {oc_ride kV_ride dc_ride pm_ride cd_ride ct_ride : Value}
    {f__law_start : Addr} {od__law_start an__law_start : Option Addr} {sl__law_start : Array (Option Value)} {oc__law_start kV__law_start dc__law_start pm__law_start cd__law_start ct__law_start : Value}
    {f__law_draw : Addr} {od__law_draw an__law_draw : Option Addr} {sl__law_draw : Array (Option Value)} {oc__law_draw kV__law_draw dc__law_draw pm__law_draw cd__law_draw ct__law_draw : Value}
    {f__law_at : Addr} {od__law_at an__law_at : Option Addr} {sl__law_at : Array (Option Value)} {oc__law_at kV__law_at dc__law_at pm__law_at cd__law_at ct__law_at : Value}
    {f__law_greedy : Addr} {od__law_greedy an__law_greedy : Option Addr} {sl__law_greedy : Array (Option Value)} {oc__law_greedy kV__law_greedy dc__law_greedy pm__law_greedy cd__law_greedy ct__law_greedy : Value}
    {f__law_riding : Addr} {od__law_riding an__law_riding : Option Addr} {sl__law_riding : Array (Option Value)} {oc__law_riding kV__law_riding dc__law_riding pm__law_riding cd__law_riding ct__law_riding : Value}
    {f__law_arrival : Addr} {od__law_arrival an__law_arrival : Option Addr} {sl__law_arrival : Array (Option Value)} {oc__law_arrival kV__law_arrival dc__law_arrival pm__law_arrival cd__law_arrival ct__law_arrival : Value}
    {f__law_plain : Addr} {od__law_plain an__law_plain : Option Addr} {sl__law_plain : Array (Option Value)} {oc__law_plain kV__law_plain dc__law_plain pm__law_plain cd__law_plain ct__law_plain : Value}
    {f__law_long : Addr} {od__law_long an__law_long : Option Addr} {sl__law_long : Array (Option Value)} {oc__law_long kV__law_long dc__law_long pm__law_long cd__law_long ct__law_long : Value}
    {f_law : Addr} {od_law an_law : Option Addr} {sl_law : Array (Option Value)} {oc_law kV_law dc_law pm_law cd_law ct_law : Value}
    (z_abs : PySem.W.nsIn K mainGlobals "abs" = some none)
    (z_bool : PySem.W.nsIn K mainGlobals "bool" = some none)
    (z_enumerate : PySem.W.nsIn K mainGlobals "enumerate" = some none)
    (z_int : PySem.W.nsIn K mainGlobals "int" = some none)
    (z_isinstance : PySem.W.nsIn K mainGlobals "isinstance" = some none)
    (z_len : PySem.W.nsIn K mainGlobals "len" = some none)
    (z_list : PySem.W.nsIn K mainGlobals "list" = some none)
    (z_max : PySem.W.nsIn K mainGlobals "max" = some none)
    (z_min : PySem.W.nsIn K mainGlobals "min" = some none)
    (z_range : PySem.W.nsIn K mainGlobals "range" = some none)
    (z_tuple : PySem.W.nsIn K mainGlobals "tuple" = some none)
    (k_LONGEST_RIDE : PySem.W.nsIn K mainGlobals "LONGEST_RIDE" = some (some (.int 600 tk_LONGEST_RIDE)))
    (k_LONGEST_SLOT : PySem.W.nsIn K mainGlobals "LONGEST_SLOT" = some (some (.int 720 tk_LONGEST_SLOT)))
    (k_MOST_SLOTS : PySem.W.nsIn K mainGlobals "MOST_SLOTS" = some (some (.int 48 tk_MOST_SLOTS)))
    (z_super : PySem.W.nsIn K mainGlobals "super" = some none)
    (z_tp : PySem.W.nsIn K cStatics "thirdparty.any" = some none)
    (x_hn : PySem.W.specialIn K (.builtin "object.__class__") "__get__" = some (some (.builtin "getset_descriptor.__get__")))
    (x_ht : PySem.W.takesIn K (.builtin "object.__class__") = some true)
    (aC_CalendarError : PySem.W.nsIn K mainGlobals "CalendarError" = some (some (.ref C_CalendarError)))
    (aC_BadNumber : PySem.W.nsIn K mainGlobals "BadNumber" = some (some (.ref C_BadNumber)))
    (aC_BadRows : PySem.W.nsIn K mainGlobals "BadRows" = some (some (.ref C_BadRows)))
    (xL_CalendarError : K.lookup C_CalendarError = some (excClassObj nm_CalendarError qn_CalendarError C_CalendarError N_CalendarError bs_CalendarError bm_CalendarError true sn_CalendarError sub_CalendarError ab_CalendarError col_CalendarError dd_CalendarError m0_CalendarError m1_CalendarError m2_CalendarError m3_CalendarError m5_CalendarError "ValueError.__new__"))
    (eC_CalendarError : PySem.W.subIn K (.ref C_CalendarError) (.type "BaseException") = some true)
    (tC_CalendarError : PySem.W.typeIn K (.ref C_CalendarError) = some (.type "type"))
    (cl_CalendarError : PySem.W.isClsIn K C_CalendarError = true)
    (mr_CalendarError : PySem.W.mroIn K C_CalendarError (.ref C_CalendarError) = some true)
    (sb_CalendarError_BadNumber : PySem.W.subIn K (.ref C_BadNumber) (.ref C_CalendarError) = some true)
    (sb_CalendarError_BadRows : PySem.W.subIn K (.ref C_BadRows) (.ref C_CalendarError) = some true)
    (xL_BadNumber : K.lookup C_BadNumber = some (excClassObj nm_BadNumber qn_BadNumber C_BadNumber N_BadNumber bs_BadNumber (.ref C_CalendarError :: bm_CalendarError) true sn_BadNumber sub_BadNumber ab_BadNumber col_BadNumber dd_BadNumber m0_BadNumber m1_BadNumber m2_BadNumber m3_BadNumber m5_BadNumber "ValueError.__new__"))
    (eC_BadNumber : PySem.W.subIn K (.ref C_BadNumber) (.type "BaseException") = some true)
    (tC_BadNumber : PySem.W.typeIn K (.ref C_BadNumber) = some (.type "type"))
    (cl_BadNumber : PySem.W.isClsIn K C_BadNumber = true)
    (mr_BadNumber : PySem.W.mroIn K C_BadNumber (.ref C_BadNumber) = some true)
    (sb_BadNumber_BadNumber : PySem.W.subIn K (.ref C_BadNumber) (.ref C_BadNumber) = some true)
    (sb_BadNumber_BadRows : PySem.W.subIn K (.ref C_BadRows) (.ref C_BadNumber) = some false)
    (xL_BadRows : K.lookup C_BadRows = some (excClassObj nm_BadRows qn_BadRows C_BadRows N_BadRows bs_BadRows (.ref C_CalendarError :: bm_CalendarError) true sn_BadRows sub_BadRows ab_BadRows col_BadRows dd_BadRows m0_BadRows m1_BadRows m2_BadRows m3_BadRows m5_BadRows "ValueError.__new__"))
    (eC_BadRows : PySem.W.subIn K (.ref C_BadRows) (.type "BaseException") = some true)
    (tC_BadRows : PySem.W.typeIn K (.ref C_BadRows) = some (.type "type"))
    (cl_BadRows : PySem.W.isClsIn K C_BadRows = true)
    (mr_BadRows : PySem.W.mroIn K C_BadRows (.ref C_BadRows) = some true)
    (sb_BadRows_BadNumber : PySem.W.subIn K (.ref C_BadNumber) (.ref C_BadRows) = some false)
    (sb_BadRows_BadRows : PySem.W.subIn K (.ref C_BadRows) (.ref C_BadRows) = some true)
    (fi_CalendarError : PySem.W.findIn K (.ref C_CalendarError) "__init__" = some (some (.builtin "ValueError.__init__")))
    (rb_BadNumber : HandSPX.refsVE (.ref C_CalendarError :: bm_CalendarError) = true)
    (sa_BadNumber : PySem.W.findIn K (.ref C_BadNumber) "__setattr__" = some (some (.builtin "object.__setattr__")))
    (kC_BadNumber : PySem.W.keepIn K (.ref C_BadNumber) = true)
    (ga_BadNumber : PySem.W.findIn K (.ref C_BadNumber) "__getattribute__" = some (some (.builtin "BaseException.__getattribute__")))
    (gg_BadNumber : PySem.W.findIn K (.ref C_BadNumber) "__getattr__" = some none)
    (hd_BadNumber : PySem.W.hasDictIn K C_BadNumber = true)
    (ha_BadNumber : PySem.W.findIn K (.ref C_BadNumber) "__class__" = some (some (.builtin "object.__class__")))
    (hm_BadNumber : PySem.W.mroIn K C_BadNumber (.type "object") = some true)
    (sv_BadNumber : PySem.W.subIn K (.ref C_BadNumber) (.type "ValueError") = some true)
    (nf_BadNumber_what : PySem.W.findIn K (.ref C_BadNumber) "what" = some none)
    (nf_BadNumber_value : PySem.W.findIn K (.ref C_BadNumber) "value" = some none)
    (rb_BadRows : HandSPX.refsVE (.ref C_CalendarError :: bm_CalendarError) = true)
    (sa_BadRows : PySem.W.findIn K (.ref C_BadRows) "__setattr__" = some (some (.builtin "object.__setattr__")))
    (kC_BadRows : PySem.W.keepIn K (.ref C_BadRows) = true)
    (ga_BadRows : PySem.W.findIn K (.ref C_BadRows) "__getattribute__" = some (some (.builtin "BaseException.__getattribute__")))
    (gg_BadRows : PySem.W.findIn K (.ref C_BadRows) "__getattr__" = some none)
    (hd_BadRows : PySem.W.hasDictIn K C_BadRows = true)
    (ha_BadRows : PySem.W.findIn K (.ref C_BadRows) "__class__" = some (some (.builtin "object.__class__")))
    (hm_BadRows : PySem.W.mroIn K C_BadRows (.type "object") = some true)
    (sv_BadRows : PySem.W.subIn K (.ref C_BadRows) (.type "ValueError") = some true)
    (nf_BadRows_place : PySem.W.findIn K (.ref C_BadRows) "place" = some none)
    (iC_BadNumber : PySem.W.findIn K (.ref C_BadNumber) "__init__" = some (some (.ref fI_BadNumber)))
    (tI_BadNumber : PySem.W.typeIn K (.ref fI_BadNumber) = some (.type "function"))
    (lI_BadNumber : K.lookup fI_BadNumber = some ⟨oc_BadNumber, od_BadNumber, .func (PySem.W.ksFn "__init__" "BadNumber.__init__" (defArgs i_BadNumber) (defBody i_BadNumber) (defScope i_BadNumber) .none kV_BadNumber dc_BadNumber pm_BadNumber an_BadNumber (.ref cda_BadNumber) ct_BadNumber cc_BadNumber), sl_BadNumber⟩)
    (lC_BadNumber : K.lookup cda_BadNumber = some ⟨ccl_BadNumber, cdd_BadNumber, .fields vs_BadNumber, ccs_BadNumber⟩)
    (vC_BadNumber : vs_BadNumber[2]? = some (.str "/claim/cut.py" tf_BadNumber))
    (cQ_BadNumber : PySem.W.codeIn K (.ref cda_BadNumber) "BadNumber.__init__" = true)
    (ce_BadNumber : K.lookup cc_BadNumber = some ⟨cl2_BadNumber, cld_BadNumber, .cell (some (.ref C_BadNumber)), csl_BadNumber⟩)
    (iC_BadRows : PySem.W.findIn K (.ref C_BadRows) "__init__" = some (some (.ref fI_BadRows)))
    (tI_BadRows : PySem.W.typeIn K (.ref fI_BadRows) = some (.type "function"))
    (lI_BadRows : K.lookup fI_BadRows = some ⟨oc_BadRows, od_BadRows, .func (PySem.W.ksFn "__init__" "BadRows.__init__" (defArgs i_BadRows) (defBody i_BadRows) (defScope i_BadRows) .none kV_BadRows dc_BadRows pm_BadRows an_BadRows (.ref cda_BadRows) ct_BadRows cc_BadRows), sl_BadRows⟩)
    (lC_BadRows : K.lookup cda_BadRows = some ⟨ccl_BadRows, cdd_BadRows, .fields vs_BadRows, ccs_BadRows⟩)
    (vC_BadRows : vs_BadRows[2]? = some (.str "/claim/cut.py" tf_BadRows))
    (cQ_BadRows : PySem.W.codeIn K (.ref cda_BadRows) "BadRows.__init__" = true)
    (ce_BadRows : K.lookup cc_BadRows = some ⟨cl2_BadRows, cld_BadRows, .cell (some (.ref C_BadRows)), csl_BadRows⟩)
    (aC_Rising : PySem.W.nsIn K mainGlobals "Rising" = some (some (.ref C_Rising)))
    (pg_Rising : PySem.W.plainGet K C_Rising Str.empty = true)
    (hdI_Rising : PySem.W.hasDictIn K C_Rising = true)
    (po_Rising : PySem.W.plainOver K C_Rising = true)
    (saI_Rising : PySem.W.findIn K (.ref C_Rising) "__setattr__" = some (some (.builtin "object.__setattr__")))
    (mkI_Rising : PySem.W.makesIn K C_Rising = true)
    (kcI_Rising : PySem.W.keepIn K (.ref C_Rising) = true)
    (haI_Rising : PySem.W.findIn K (.ref C_Rising) "__class__" = some (some (.builtin "object.__class__")))
    (hmI_Rising : PySem.W.mroIn K C_Rising (.type "object") = some true)
    (nI_Rising_rows : PySem.W.findIn K (.ref C_Rising) "rows" = some none)
    (a_Rising___call__ : PySem.W.findIn K (.ref C_Rising) "__call__" = some (some (.ref f_Rising___call__)))
    (i_Rising___call__ : PySem.W.isFn K (.ref f_Rising___call__) = true)
    (fi_Rising___call__ : PySem.W.fnIn K f_Rising___call__ = true)
    (l_Rising___call__ : K.lookup f_Rising___call__ = some ⟨oc_Rising___call__, od_Rising___call__, .func (PySem.W.fnOf "__call__" "Rising.__call__" (defArgs t_Rising___call__) (defBody t_Rising___call__) (defScope t_Rising___call__) .none kV_Rising___call__ dc_Rising___call__ pm_Rising___call__ an_Rising___call__ cd_Rising___call__ ct_Rising___call__), sl_Rising___call__⟩)
    (c_Rising___call__ : PySem.W.codeIn K cd_Rising___call__ "Rising.__call__" = true)
    (k_Rising___call__ : PySem.W.keepIn K (.ref f_Rising___call__) = true)
    (a_Rising___init__ : PySem.W.findIn K (.ref C_Rising) "__init__" = some (some (.ref f_Rising___init__)))
    (i_Rising___init__ : PySem.W.isFn K (.ref f_Rising___init__) = true)
    (l_Rising___init__ : K.lookup f_Rising___init__ = some ⟨oc_Rising___init__, od_Rising___init__, .func (PySem.W.fnOf "__init__" "Rising.__init__" (defArgs t_Rising___init__) (defBody t_Rising___init__) (defScope t_Rising___init__) .none kV_Rising___init__ dc_Rising___init__ pm_Rising___init__ an_Rising___init__ cd_Rising___init__ ct_Rising___init__), sl_Rising___init__⟩)
    (c_Rising___init__ : PySem.W.codeIn K cd_Rising___init__ "Rising.__init__" = true)
    (k_Rising___init__ : PySem.W.keepIn K (.ref f_Rising___init__) = true)
    (a_is_integer : PySem.W.nsIn K mainGlobals "is_integer" = some (some (.ref f_is_integer)))
    (l_is_integer : K.lookup f_is_integer = some ⟨oc_is_integer, od_is_integer, .func (PySem.W.fnOf "is_integer" "is_integer" (defArgs t_is_integer) (defBody t_is_integer) (defScope t_is_integer) .none kV_is_integer dc_is_integer pm_is_integer an_is_integer cd_is_integer ct_is_integer), sl_is_integer⟩)
    (c_is_integer : PySem.W.codeIn K cd_is_integer "is_integer" = true)
    (k_is_integer : PySem.W.keepIn K (.ref f_is_integer) = true)
    (a_check_integer : PySem.W.nsIn K mainGlobals "check_integer" = some (some (.ref f_check_integer)))
    (l_check_integer : K.lookup f_check_integer = some ⟨oc_check_integer, od_check_integer, .func (PySem.W.fnOf "check_integer" "check_integer" (defArgs t_check_integer) (defBody t_check_integer) (defScope t_check_integer) .none kV_check_integer dc_check_integer pm_check_integer an_check_integer cd_check_integer ct_check_integer), sl_check_integer⟩)
    (c_check_integer : PySem.W.codeIn K cd_check_integer "check_integer" = true)
    (k_check_integer : PySem.W.keepIn K (.ref f_check_integer) = true)
    (a_check_number : PySem.W.nsIn K mainGlobals "check_number" = some (some (.ref f_check_number)))
    (l_check_number : K.lookup f_check_number = some ⟨oc_check_number, od_check_number, .func (PySem.W.fnOf "check_number" "check_number" (defArgs t_check_number) (defBody t_check_number) (defScope t_check_number) .none kV_check_number dc_check_number pm_check_number an_check_number cd_check_number ct_check_number), sl_check_number⟩)
    (c_check_number : PySem.W.codeIn K cd_check_number "check_number" = true)
    (k_check_number : PySem.W.keepIn K (.ref f_check_number) = true)
    (a_lesser : PySem.W.nsIn K mainGlobals "lesser" = some (some (.ref f_lesser)))
    (l_lesser : K.lookup f_lesser = some ⟨oc_lesser, od_lesser, .func (PySem.W.fnOf "lesser" "lesser" (defArgs t_lesser) (defBody t_lesser) (defScope t_lesser) .none kV_lesser dc_lesser pm_lesser an_lesser cd_lesser ct_lesser), sl_lesser⟩)
    (c_lesser : PySem.W.codeIn K cd_lesser "lesser" = true)
    (k_lesser : PySem.W.keepIn K (.ref f_lesser) = true)
    (a_greater : PySem.W.nsIn K mainGlobals "greater" = some (some (.ref f_greater)))
    (l_greater : K.lookup f_greater = some ⟨oc_greater, od_greater, .func (PySem.W.fnOf "greater" "greater" (defArgs t_greater) (defBody t_greater) (defScope t_greater) .none kV_greater dc_greater pm_greater an_greater cd_greater ct_greater), sl_greater⟩)
    (c_greater : PySem.W.codeIn K cd_greater "greater" = true)
    (k_greater : PySem.W.keepIn K (.ref f_greater) = true)
    (a_row_value : PySem.W.nsIn K mainGlobals "row_value" = some (some (.ref f_row_value)))
    (l_row_value : K.lookup f_row_value = some ⟨oc_row_value, od_row_value, .func (PySem.W.fnOf "row_value" "row_value" (defArgs t_row_value) (defBody t_row_value) (defScope t_row_value) .none kV_row_value dc_row_value pm_row_value an_row_value cd_row_value ct_row_value), sl_row_value⟩)
    (c_row_value : PySem.W.codeIn K cd_row_value "row_value" = true)
    (k_row_value : PySem.W.keepIn K (.ref f_row_value) = true)
    (a_start_of : PySem.W.nsIn K mainGlobals "start_of" = some (some (.ref f_start_of)))
    (l_start_of : K.lookup f_start_of = some ⟨oc_start_of, od_start_of, .func (PySem.W.fnOf "start_of" "start_of" (defArgs t_start_of) (defBody t_start_of) (defScope t_start_of) .none kV_start_of dc_start_of pm_start_of an_start_of cd_start_of ct_start_of), sl_start_of⟩)
    (c_start_of : PySem.W.codeIn K cd_start_of "start_of" = true)
    (k_start_of : PySem.W.keepIn K (.ref f_start_of) = true)
    (a_last_place : PySem.W.nsIn K mainGlobals "last_place" = some (some (.ref f_last_place)))
    (l_last_place : K.lookup f_last_place = some ⟨oc_last_place, od_last_place, .func (PySem.W.fnOf "last_place" "last_place" (defArgs t_last_place) (defBody t_last_place) (defScope t_last_place) .none kV_last_place dc_last_place pm_last_place an_last_place cd_last_place ct_last_place), sl_last_place⟩)
    (c_last_place : PySem.W.codeIn K cd_last_place "last_place" = true)
    (k_last_place : PySem.W.keepIn K (.ref f_last_place) = true)
    (a_follows : PySem.W.nsIn K mainGlobals "follows" = some (some (.ref f_follows)))
    (l_follows : K.lookup f_follows = some ⟨oc_follows, od_follows, .func (PySem.W.fnOf "follows" "follows" (defArgs t_follows) (defBody t_follows) (defScope t_follows) .none kV_follows dc_follows pm_follows an_follows cd_follows ct_follows), sl_follows⟩)
    (c_follows : PySem.W.codeIn K cd_follows "follows" = true)
    (k_follows : PySem.W.keepIn K (.ref f_follows) = true)
    (a_is_good_row : PySem.W.nsIn K mainGlobals "is_good_row" = some (some (.ref f_is_good_row)))
    (l_is_good_row : K.lookup f_is_good_row = some ⟨oc_is_good_row, od_is_good_row, .func (PySem.W.fnOf "is_good_row" "is_good_row" (defArgs t_is_good_row) (defBody t_is_good_row) (defScope t_is_good_row) .none kV_is_good_row dc_is_good_row pm_is_good_row an_is_good_row cd_is_good_row ct_is_good_row), sl_is_good_row⟩)
    (c_is_good_row : PySem.W.codeIn K cd_is_good_row "is_good_row" = true)
    (k_is_good_row : PySem.W.keepIn K (.ref f_is_good_row) = true)
    (a_check_rows : PySem.W.nsIn K mainGlobals "check_rows" = some (some (.ref f_check_rows)))
    (l_check_rows : K.lookup f_check_rows = some ⟨oc_check_rows, od_check_rows, .func (PySem.W.fnOf "check_rows" "check_rows" (defArgs t_check_rows) (defBody t_check_rows) (defScope t_check_rows) .none kV_check_rows dc_check_rows pm_check_rows an_check_rows cd_check_rows ct_check_rows), sl_check_rows⟩)
    (c_check_rows : PySem.W.codeIn K cd_check_rows "check_rows" = true)
    (k_check_rows : PySem.W.keepIn K (.ref f_check_rows) = true)
    (a_shortest : PySem.W.nsIn K mainGlobals "shortest" = some (some (.ref f_shortest)))
    (l_shortest : K.lookup f_shortest = some ⟨oc_shortest, od_shortest, .func (PySem.W.fnOf "shortest" "shortest" (defArgs t_shortest) (defBody t_shortest) (defScope t_shortest) .none kV_shortest dc_shortest pm_shortest an_shortest cd_shortest ct_shortest), sl_shortest⟩)
    (c_shortest : PySem.W.codeIn K cd_shortest "shortest" = true)
    (k_shortest : PySem.W.keepIn K (.ref f_shortest) = true)
    (a_check_slots : PySem.W.nsIn K mainGlobals "check_slots" = some (some (.ref f_check_slots)))
    (l_check_slots : K.lookup f_check_slots = some ⟨oc_check_slots, od_check_slots, .func (PySem.W.fnOf "check_slots" "check_slots" (defArgs t_check_slots) (defBody t_check_slots) (defScope t_check_slots) .none kV_check_slots dc_check_slots pm_check_slots an_check_slots cd_check_slots ct_check_slots), sl_check_slots⟩)
    (c_check_slots : PySem.W.codeIn K cd_check_slots "check_slots" = true)
    (k_check_slots : PySem.W.keepIn K (.ref f_check_slots) = true)
    (a_by_slots : PySem.W.nsIn K mainGlobals "by_slots" = some (some (.ref f_by_slots)))
    (l_by_slots : K.lookup f_by_slots = some ⟨oc_by_slots, od_by_slots, .func (PySem.W.fnOf "by_slots" "by_slots" (defArgs t_by_slots) (defBody t_by_slots) (defScope t_by_slots) .none kV_by_slots dc_by_slots pm_by_slots an_by_slots cd_by_slots ct_by_slots), sl_by_slots⟩)
    (c_by_slots : PySem.W.codeIn K cd_by_slots "by_slots" = true)
    (k_by_slots : PySem.W.keepIn K (.ref f_by_slots) = true)
    (a_ride : PySem.W.nsIn K mainGlobals "ride" = some (some (.ref f_ride)))
    (l_ride : K.lookup f_ride = some ⟨oc_ride, od_ride, .func (PySem.W.fnOf "ride" "ride" (defArgs t_ride) (defBody t_ride) (defScope t_ride) .none kV_ride dc_ride pm_ride an_ride cd_ride ct_ride), sl_ride⟩)
    (c_ride : PySem.W.codeIn K cd_ride "ride" = true)
    (k_ride : PySem.W.keepIn K (.ref f_ride) = true)
    (a__law_start : PySem.W.nsIn K mainGlobals "_law_start" = some (some (.ref f__law_start)))
    (l__law_start : K.lookup f__law_start = some ⟨oc__law_start, od__law_start, .func (PySem.W.fnOf "_law_start" "_law_start" (defArgs t__law_start) (defBody t__law_start) (defScope t__law_start) .none kV__law_start dc__law_start pm__law_start an__law_start cd__law_start ct__law_start), sl__law_start⟩)
    (c__law_start : PySem.W.codeIn K cd__law_start "_law_start" = true)
    (k__law_start : PySem.W.keepIn K (.ref f__law_start) = true)
    (a__law_draw : PySem.W.nsIn K mainGlobals "_law_draw" = some (some (.ref f__law_draw)))
    (l__law_draw : K.lookup f__law_draw = some ⟨oc__law_draw, od__law_draw, .func (PySem.W.fnOf "_law_draw" "_law_draw" (defArgs t__law_draw) (defBody t__law_draw) (defScope t__law_draw) .none kV__law_draw dc__law_draw pm__law_draw an__law_draw cd__law_draw ct__law_draw), sl__law_draw⟩)
    (c__law_draw : PySem.W.codeIn K cd__law_draw "_law_draw" = true)
    (k__law_draw : PySem.W.keepIn K (.ref f__law_draw) = true)
    (a__law_at : PySem.W.nsIn K mainGlobals "_law_at" = some (some (.ref f__law_at)))
    (l__law_at : K.lookup f__law_at = some ⟨oc__law_at, od__law_at, .func (PySem.W.fnOf "_law_at" "_law_at" (defArgs t__law_at) (defBody t__law_at) (defScope t__law_at) .none kV__law_at dc__law_at pm__law_at an__law_at cd__law_at ct__law_at), sl__law_at⟩)
    (c__law_at : PySem.W.codeIn K cd__law_at "_law_at" = true)
    (k__law_at : PySem.W.keepIn K (.ref f__law_at) = true)
    (a__law_greedy : PySem.W.nsIn K mainGlobals "_law_greedy" = some (some (.ref f__law_greedy)))
    (l__law_greedy : K.lookup f__law_greedy = some ⟨oc__law_greedy, od__law_greedy, .func (PySem.W.fnOf "_law_greedy" "_law_greedy" (defArgs t__law_greedy) (defBody t__law_greedy) (defScope t__law_greedy) .none kV__law_greedy dc__law_greedy pm__law_greedy an__law_greedy cd__law_greedy ct__law_greedy), sl__law_greedy⟩)
    (c__law_greedy : PySem.W.codeIn K cd__law_greedy "_law_greedy" = true)
    (k__law_greedy : PySem.W.keepIn K (.ref f__law_greedy) = true)
    (a__law_riding : PySem.W.nsIn K mainGlobals "_law_riding" = some (some (.ref f__law_riding)))
    (l__law_riding : K.lookup f__law_riding = some ⟨oc__law_riding, od__law_riding, .func (PySem.W.fnOf "_law_riding" "_law_riding" (defArgs t__law_riding) (defBody t__law_riding) (defScope t__law_riding) .none kV__law_riding dc__law_riding pm__law_riding an__law_riding cd__law_riding ct__law_riding), sl__law_riding⟩)
    (c__law_riding : PySem.W.codeIn K cd__law_riding "_law_riding" = true)
    (k__law_riding : PySem.W.keepIn K (.ref f__law_riding) = true)
    (a__law_arrival : PySem.W.nsIn K mainGlobals "_law_arrival" = some (some (.ref f__law_arrival)))
    (l__law_arrival : K.lookup f__law_arrival = some ⟨oc__law_arrival, od__law_arrival, .func (PySem.W.fnOf "_law_arrival" "_law_arrival" (defArgs t__law_arrival) (defBody t__law_arrival) (defScope t__law_arrival) .none kV__law_arrival dc__law_arrival pm__law_arrival an__law_arrival cd__law_arrival ct__law_arrival), sl__law_arrival⟩)
    (c__law_arrival : PySem.W.codeIn K cd__law_arrival "_law_arrival" = true)
    (k__law_arrival : PySem.W.keepIn K (.ref f__law_arrival) = true)
    (a__law_plain : PySem.W.nsIn K mainGlobals "_law_plain" = some (some (.ref f__law_plain)))
    (l__law_plain : K.lookup f__law_plain = some ⟨oc__law_plain, od__law_plain, .func (PySem.W.fnOf "_law_plain" "_law_plain" (defArgs t__law_plain) (defBody t__law_plain) (defScope t__law_plain) .none kV__law_plain dc__law_plain pm__law_plain an__law_plain cd__law_plain ct__law_plain), sl__law_plain⟩)
    (c__law_plain : PySem.W.codeIn K cd__law_plain "_law_plain" = true)
    (k__law_plain : PySem.W.keepIn K (.ref f__law_plain) = true)
    (a__law_long : PySem.W.nsIn K mainGlobals "_law_long" = some (some (.ref f__law_long)))
    (l__law_long : K.lookup f__law_long = some ⟨oc__law_long, od__law_long, .func (PySem.W.fnOf "_law_long" "_law_long" (defArgs t__law_long) (defBody t__law_long) (defScope t__law_long) .none kV__law_long dc__law_long pm__law_long an__law_long cd__law_long ct__law_long), sl__law_long⟩)
    (c__law_long : PySem.W.codeIn K cd__law_long "_law_long" = true)
    (k__law_long : PySem.W.keepIn K (.ref f__law_long) = true)
    (a_law : PySem.W.nsIn K mainGlobals "law" = some (some (.ref f_law)))
    (l_law : K.lookup f_law = some ⟨oc_law, od_law, .func (PySem.W.fnOf "law" "law" (defArgs t_law) (defBody t_law) (defScope t_law) .none kV_law dc_law pm_law an_law cd_law ct_law), sl_law⟩)
    (c_law : PySem.W.codeIn K cd_law "law" = true)
    (k_law : PySem.W.keepIn K (.ref f_law) = true) :
    ∃ fd : FuncData, (∀ (s : Shared) (v : Value), BindsTo s fd ⟨[v], []⟩ [("_law_script", v)]) ∧ ∀ base : Heap, K.In base → base.Ns mainGlobals mg → FnOk P w K mg base (L2.CX P w) 9 fa fd ["_law_script"] (spLaw K) := by
  have e0 := hfa.symm.trans (PySem.W.mg_of X Gn a_law)
  cases e0
  have ox_BadNumber : OexC K C_BadNumber := ⟨⟨_, _, _, _, _, _, _, _, _, _, _, _, _, _, _, xL_BadNumber, rb_BadNumber⟩, sa_BadNumber, eC_BadNumber, tC_BadNumber, kC_BadNumber⟩
  have st_BadNumber : SupTxt K mg C_BadNumber fI_BadNumber cc_BadNumber cda_BadNumber "BadNumber.__init__" := ⟨ox_BadNumber, iC_BadNumber, tI_BadNumber, ⟨_, _, _, _, _, lC_BadNumber, vC_BadNumber⟩, cQ_BadNumber, ⟨_, _, _, ce_BadNumber⟩, sup_of xL_BadNumber xL_CalendarError fi_CalendarError, sv_BadNumber, mr_BadNumber, z_tp, PySem.W.mg_none_of X Gn z_super⟩
  have ox_BadRows : OexC K C_BadRows := ⟨⟨_, _, _, _, _, _, _, _, _, _, _, _, _, _, _, xL_BadRows, rb_BadRows⟩, sa_BadRows, eC_BadRows, tC_BadRows, kC_BadRows⟩
  have st_BadRows : SupTxt K mg C_BadRows fI_BadRows cc_BadRows cda_BadRows "BadRows.__init__" := ⟨ox_BadRows, iC_BadRows, tI_BadRows, ⟨_, _, _, _, _, lC_BadRows, vC_BadRows⟩, cQ_BadRows, ⟨_, _, _, ce_BadRows⟩, sup_of xL_BadRows xL_CalendarError fi_CalendarError, sv_BadRows, mr_BadRows, z_tp, PySem.W.mg_none_of X Gn z_super⟩
  have ek_BadNumber : ExcK K C_BadNumber := ⟨cls_of cl_BadNumber, ga_BadNumber, gg_BadNumber, eC_BadNumber, hd_BadNumber, ha_BadNumber, x_hn, x_ht, hm_BadNumber⟩
  have ek_BadRows : ExcK K C_BadRows := ⟨cls_of cl_BadRows, ga_BadRows, gg_BadRows, eC_BadRows, hd_BadRows, ha_BadRows, x_hn, x_ht, hm_BadRows⟩
  have clI_Rising : Cls K C_Rising := ⟨pg_Rising, hdI_Rising, po_Rising, saI_Rising⟩
  let G : Gm := ⟨K, fun c => match c with | 0 => C_CalendarError | 1 => C_BadNumber | 2 => C_BadRows | _ => C_Rising⟩
  have fx_b_abs : mg "abs" = none := PySem.W.mg_none_of X Gn z_abs
  have fx_b_bool : mg "bool" = none := PySem.W.mg_none_of X Gn z_bool
  have fx_b_enumerate : mg "enumerate" = none := PySem.W.mg_none_of X Gn z_enumerate
  have fx_b_int : mg "int" = none := PySem.W.mg_none_of X Gn z_int
  have fx_b_isinstance : mg "isinstance" = none := PySem.W.mg_none_of X Gn z_isinstance
  have fx_b_len : mg "len" = none := PySem.W.mg_none_of X Gn z_len
  have fx_b_list : mg "list" = none := PySem.W.mg_none_of X Gn z_list
  have fx_b_max : mg "max" = none := PySem.W.mg_none_of X Gn z_max
  have fx_b_min : mg "min" = none := PySem.W.mg_none_of X Gn z_min
  have fx_b_range : mg "range" = none := PySem.W.mg_none_of X Gn z_range
  have fx_b_tuple : mg "tuple" = none := PySem.W.mg_none_of X Gn z_tuple
  have fx_c_LONGEST_RIDE : GlI mg "LONGEST_RIDE" 600 := ⟨_, PySem.W.mg_of X Gn k_LONGEST_RIDE⟩
  have fx_c_LONGEST_SLOT : GlI mg "LONGEST_SLOT" 720 := ⟨_, PySem.W.mg_of X Gn k_LONGEST_SLOT⟩
  have fx_c_MOST_SLOTS : GlI mg "MOST_SLOTS" 48 := ⟨_, PySem.W.mg_of X Gn k_MOST_SLOTS⟩
  have fx_a_rows : AtX G "rows" at_rows_i at_rows_e := atXI (atI1 (a := 3) ⟨clI_Rising, nI_Rising_rows⟩) atx0
  have fx_s_rows : AtC G "rows" at_rows_i := atI1 (a := 3) ⟨clI_Rising, nI_Rising_rows⟩
  have fx_o_Rising : OwnK G mg "Rising" tab_Rising := ⟨C_Rising, PySem.W.mg_of X Gn aC_Rising, isi_ins (ClsV.own _) kit_self ⟨clI_Rising, haI_Rising, x_hn, x_ht, hmI_Rising⟩⟩
  have fx_t_CalendarError : TakC G tk_CalendarError (.ref (G.ca 0)) := (tak_cons (a := 1) (exm_of eC_CalendarError cl_CalendarError tC_CalendarError sb_CalendarError_BadNumber) (tak_cons (a := 2) (exm_of eC_CalendarError cl_CalendarError tC_CalendarError sb_CalendarError_BadRows) tak_nil))
  have fx_g_CalendarError : mg "CalendarError" = some (.ref (G.ca 0)) := PySem.W.mg_of X Gn aC_CalendarError
  have fx_t_BadNumber : TakC G tk_BadNumber (.ref (G.ca 1)) := (tak_cons (a := 1) (exm_of eC_BadNumber cl_BadNumber tC_BadNumber sb_BadNumber_BadNumber) (tak_cons (a := 2) (exm_of eC_BadNumber cl_BadNumber tC_BadNumber sb_BadNumber_BadRows) tak_nil))
  have fx_g_BadNumber : mg "BadNumber" = some (.ref (G.ca 1)) := PySem.W.mg_of X Gn aC_BadNumber
  have fx_t_BadRows : TakC G tk_BadRows (.ref (G.ca 2)) := (tak_cons (a := 1) (exm_of eC_BadRows cl_BadRows tC_BadRows sb_BadRows_BadNumber) (tak_cons (a := 2) (exm_of eC_BadRows cl_BadRows tC_BadRows sb_BadRows_BadRows) tak_nil))
  have fx_g_BadRows : mg "BadRows" = some (.ref (G.ca 2)) := PySem.W.mg_of X Gn aC_BadRows
  have fx : Fx G mg := ⟨fx_b_abs, fx_b_bool, fx_b_enumerate, fx_b_int, fx_b_isinstance, fx_b_len, fx_b_list, fx_b_max, fx_b_min, fx_b_range, fx_b_tuple, fx_c_LONGEST_RIDE, fx_c_LONGEST_SLOT, fx_c_MOST_SLOTS, fx_a_rows, fx_s_rows, fx_o_Rising, fx_t_CalendarError, fx_g_CalendarError, fx_t_BadNumber, fx_g_BadNumber, fx_t_BadRows, fx_g_BadRows⟩
  have bi_BadNumber : Binds K (PySem.W.ksFn "__init__" "BadNumber.__init__" (defArgs i_BadNumber) (defBody i_BadNumber) (defScope i_BadNumber) .none kV_BadNumber dc_BadNumber pm_BadNumber an_BadNumber (.ref cda_BadNumber) ct_BadNumber cc_BadNumber) ["self", "what", "value"] [] := binds2 fun a b c => rfl
  have bi_BadRows : Binds K (PySem.W.ksFn "__init__" "BadRows.__init__" (defArgs i_BadRows) (defBody i_BadRows) (defScope i_BadRows) .none kV_BadRows dc_BadRows pm_BadRows an_BadRows (.ref cda_BadRows) ct_BadRows cc_BadRows) ["self", "place"] [] := binds1 fun a b => rfl
  have F_is_integer := fun_mk (st := t_is_integer) l_is_integer c_is_integer k_is_integer
  have b_is_integer := F_is_integer.binds (ps := ["value"]) fun _ _ _ _ _ _ us hl => match us, hl with | [_], _ => rfl
  have F_check_integer := fun_mk (st := t_check_integer) l_check_integer c_check_integer k_check_integer
  have b_check_integer := F_check_integer.binds (ps := ["what", "value"]) fun _ _ _ _ _ _ us hl => match us, hl with | [_, _], _ => rfl
  have F_check_number := fun_mk (st := t_check_number) l_check_number c_check_number k_check_number
  have b_check_number := F_check_number.binds (ps := ["what", "value", "low", "high"]) fun _ _ _ _ _ _ us hl => match us, hl with | [_, _, _, _], _ => rfl
  have F_row_value := fun_mk (st := t_row_value) l_row_value c_row_value k_row_value
  have b_row_value := F_row_value.binds (ps := ["row", "minute"]) fun _ _ _ _ _ _ us hl => match us, hl with | [_, _], _ => rfl
  have F_last_place := fun_mk (st := t_last_place) l_last_place c_last_place k_last_place
  have b_last_place := F_last_place.binds (ps := ["rows", "part", "limit"]) fun _ _ _ _ _ _ us hl => match us, hl with | [_, _, _], _ => rfl
  have F_Rising___call__ := fun_mk (st := t_Rising___call__) l_Rising___call__ c_Rising___call__ k_Rising___call__
  have b_Rising___call__ := F_Rising___call__.binds (ps := ["self", "t"]) fun _ _ _ _ _ _ us hl => match us, hl with | [_, _], _ => rfl
  have F__law_start := fun_mk (st := t__law_start) l__law_start c__law_start k__law_start
  have b__law_start := F__law_start.binds (ps := ["_law_script"]) fun _ _ _ _ _ _ us hl => match us, hl with | [_], _ => rfl
  have F__law_draw := fun_mk (st := t__law_draw) l__law_draw c__law_draw k__law_draw
  have b__law_draw := F__law_draw.binds (ps := ["_law_script", "_law_state", "_law_limit"]) fun _ _ _ _ _ _ us hl => match us, hl with | [_, _, _], _ => rfl
  have F__law_riding := fun_mk (st := t__law_riding) l__law_riding c__law_riding k__law_riding
  have b__law_riding := F__law_riding.binds (ps := ["_law_script", "_law_state", "_law_slots", "_law_length", "_law_most"]) fun _ _ _ _ _ _ us hl => match us, hl with | [_, _, _, _, _], _ => rfl
  have F_start_of := fun_mk (st := t_start_of) l_start_of c_start_of k_start_of
  have b_start_of := F_start_of.binds (ps := ["rows", "place"]) fun _ _ _ _ _ _ us hl => match us, hl with | [_, _], _ => rfl
  have F_greater := fun_mk (st := t_greater) l_greater c_greater k_greater
  have b_greater := F_greater.binds (ps := ["first", "second"]) fun _ _ _ _ _ _ us hl => match us, hl with | [_, _], _ => rfl
  have F_lesser := fun_mk (st := t_lesser) l_lesser c_lesser k_lesser
  have b_lesser := F_lesser.binds (ps := ["first", "second"]) fun _ _ _ _ _ _ us hl => match us, hl with | [_, _], _ => rfl
  have F_shortest := fun_mk (st := t_shortest) l_shortest c_shortest k_shortest
  have b_shortest := F_shortest.binds (ps := ["rows"]) fun _ _ _ _ _ _ us hl => match us, hl with | [_], _ => rfl
  have F_follows := fun_mk (st := t_follows) l_follows c_follows k_follows
  have b_follows := F_follows.binds (ps := ["before", "start", "value"]) fun _ _ _ _ _ _ us hl => match us, hl with | [_, _, _], _ => rfl
  have F_is_good_row := fun_mk (st := t_is_good_row) l_is_good_row c_is_good_row k_is_good_row
  have b_is_good_row := F_is_good_row.binds (ps := ["rows", "place"]) fun _ _ _ _ _ _ us hl => match us, hl with | [_, _], _ => rfl
  have F_check_rows := fun_mk (st := t_check_rows) l_check_rows c_check_rows k_check_rows
  have b_check_rows := F_check_rows.binds (ps := ["rows"]) fun _ _ _ _ _ _ us hl => match us, hl with | [_], _ => rfl
  have F_Rising___init__ := fun_mk (st := t_Rising___init__) l_Rising___init__ c_Rising___init__ k_Rising___init__
  have b_Rising___init__ := F_Rising___init__.binds (ps := ["self", "rows"]) fun _ _ _ _ _ _ us hl => match us, hl with | [_, _], _ => rfl
  have F_check_slots := fun_mk (st := t_check_slots) l_check_slots c_check_slots k_check_slots
  have b_check_slots := F_check_slots.binds (ps := ["length", "minutes"]) fun _ _ _ _ _ _ us hl => match us, hl with | [_, _], _ => rfl
  have F_by_slots := fun_mk (st := t_by_slots) l_by_slots c_by_slots k_by_slots
  have b_by_slots := F_by_slots.binds (ps := ["length", "minutes"]) fun _ _ _ _ _ _ us hl => match us, hl with | [_, _], _ => rfl
  have F__law_plain := fun_mk (st := t__law_plain) l__law_plain c__law_plain k__law_plain
  have b__law_plain := F__law_plain.binds (ps := ["_law_riding_here", "_law_minute"]) fun _ _ _ _ _ _ us hl => match us, hl with | [_, _], _ => rfl
  have F__law_arrival := fun_mk (st := t__law_arrival) l__law_arrival c__law_arrival k__law_arrival
  have b__law_arrival := F__law_arrival.binds (ps := ["_law_riding_here", "_law_minute"]) fun _ _ _ _ _ _ us hl => match us, hl with | [_, _], _ => rfl
  have F_ride := fun_mk (st := t_ride) l_ride c_ride k_ride
  have b_ride := F_ride.binds (ps := ["length", "minutes", "leaving"]) fun _ _ _ _ _ _ us hl => match us, hl with | [_, _, _], _ => rfl
  have F__law_long := fun_mk (st := t__law_long) l__law_long c__law_long k__law_long
  have b__law_long := F__law_long.binds (ps := ["_law_script", "_law_state"]) fun _ _ _ _ _ _ us hl => match us, hl with | [_, _], _ => rfl
  have F__law_at := fun_mk (st := t__law_at) l__law_at c__law_at k__law_at
  have b__law_at := F__law_at.binds (ps := ["_law_values", "_law_minute"]) fun _ _ _ _ _ _ us hl => match us, hl with | [_, _], _ => rfl
  have F__law_greedy := fun_mk (st := t__law_greedy) l__law_greedy c__law_greedy k__law_greedy
  have b__law_greedy := F__law_greedy.binds (ps := ["_law_values"]) fun _ _ _ _ _ _ us hl => match us, hl with | [_], _ => rfl
  have F_law := fun_mk (st := t_law) l_law c_law k_law
  refine ⟨PySem.W.fnOf "law" "law" (defArgs t_law) (defBody t_law) (defScope t_law) .none kV_law dc_law pm_law an_law cd_law ct_law, fun s v => .of_eq rfl, fun base _ _ => ?_⟩
  have e_BadNumber : OwnErr P w G mg base "BadNumber" 1 1 2 (mk2s ("what" : Str) ("value" : Str)) := ⟨ox_BadNumber, PySem.W.mg_of X Gn aC_BadNumber, _, _, _, iC_BadNumber, tI_BadNumber, bi_BadNumber, init_two (k := 0) (c := 1) (G := G) lI_BadNumber st_BadNumber si_BadNumber hfile htop ⟨_, rfl, rfl⟩ (fun _ => by kernel_rfl) (fun _ => by kernel_rfl) (fun _ => by kernel_rfl) ⟨by decide +kernel, by decide +kernel⟩ ⟨by decide +kernel, by decide +kernel⟩ nf_BadNumber_what nf_BadNumber_value mk2s_ok (fun A outer s H E => msg_f (i := 0) (by kernel_rfl) (by kernel_rfl) (by kernel_rfl) (by kernel_rfl) (by decide +kernel))⟩
  have e_BadRows : OwnErr P w G mg base "BadRows" 1 2 1 (mk1 ("place" : Str)) := ⟨ox_BadRows, PySem.W.mg_of X Gn aC_BadRows, _, _, _, iC_BadRows, tI_BadRows, bi_BadRows, init_one (k := 0) (c := 2) (G := G) lI_BadRows st_BadRows si_BadRows hfile htop ⟨_, rfl, rfl⟩ (fun _ => by kernel_rfl) (fun _ => by kernel_rfl) (fun _ => by kernel_rfl) ⟨by decide +kernel, by decide +kernel⟩ nf_BadRows_place mk1_ok (fun A outer s H E => msg_const)⟩
  have c_is_integer : Callee P w G mg base "is_integer" 1 ["value"] m_is_integer := ⟨_, _, PySem.W.mg_of X Gn a_is_integer, k_is_integer, b_is_integer, ok_is_integer fx F_is_integer⟩
  have c_check_integer : Callee P w G mg base "check_integer" 3 ["what", "value"] m_check_integer := ⟨_, _, PySem.W.mg_of X Gn a_check_integer, k_check_integer, b_check_integer, ok_check_integer fx c_is_integer e_BadNumber F_check_integer⟩
  have c_check_number : Callee P w G mg base "check_number" 4 ["what", "value", "low", "high"] m_check_number := ⟨_, _, PySem.W.mg_of X Gn a_check_number, k_check_number, b_check_number, ok_check_number fx c_check_integer e_BadNumber F_check_number⟩
  have c_row_value : Callee P w G mg base "row_value" 1 ["row", "minute"] m_row_value := ⟨_, _, PySem.W.mg_of X Gn a_row_value, k_row_value, b_row_value, ok_row_value fx F_row_value⟩
  have c_last_place : Callee P w G mg base "last_place" 1 ["rows", "part", "limit"] m_last_place := ⟨_, _, PySem.W.mg_of X Gn a_last_place, k_last_place, b_last_place, ok_last_place fx F_last_place⟩
  have co_Rising___call__ : OwnCall P w G mg base 5 3 1 m_Rising___call__ := ⟨_, _, _, ⟨a_Rising___call__, i_Rising___call__, fi_Rising___call__⟩, b_Rising___call__, rfl, ok_Rising___call__ fx c_check_number c_last_place c_row_value F_Rising___call__⟩
  have c__law_start : Callee P w G mg base "_law_start" 1 ["_law_script"] m__law_start := ⟨_, _, PySem.W.mg_of X Gn a__law_start, k__law_start, b__law_start, ok__law_start fx F__law_start⟩
  have c__law_draw : Callee P w G mg base "_law_draw" 1 ["_law_script", "_law_state", "_law_limit"] m__law_draw := ⟨_, _, PySem.W.mg_of X Gn a__law_draw, k__law_draw, b__law_draw, ok__law_draw fx F__law_draw⟩
  have c__law_riding : Callee P w G mg base "_law_riding" 2 ["_law_script", "_law_state", "_law_slots", "_law_length", "_law_most"] m__law_riding := ⟨_, _, PySem.W.mg_of X Gn a__law_riding, k__law_riding, b__law_riding, ok__law_riding fx c__law_draw F__law_riding⟩
  have c_start_of : Callee P w G mg base "start_of" 1 ["rows", "place"] m_start_of := ⟨_, _, PySem.W.mg_of X Gn a_start_of, k_start_of, b_start_of, ok_start_of fx F_start_of⟩
  have c_greater : Callee P w G mg base "greater" 1 ["first", "second"] m_greater := ⟨_, _, PySem.W.mg_of X Gn a_greater, k_greater, b_greater, ok_greater fx F_greater⟩
  have c_lesser : Callee P w G mg base "lesser" 1 ["first", "second"] m_lesser := ⟨_, _, PySem.W.mg_of X Gn a_lesser, k_lesser, b_lesser, ok_lesser fx F_lesser⟩
  have c_shortest : Callee P w G mg base "shortest" 2 ["rows"] m_shortest := ⟨_, _, PySem.W.mg_of X Gn a_shortest, k_shortest, b_shortest, ok_shortest fx c_start_of c_greater c_lesser c_row_value F_shortest⟩
  have c_follows : Callee P w G mg base "follows" 2 ["before", "start", "value"] m_follows := ⟨_, _, PySem.W.mg_of X Gn a_follows, k_follows, b_follows, ok_follows fx c_row_value F_follows⟩
  have c_is_good_row : Callee P w G mg base "is_good_row" 3 ["rows", "place"] m_is_good_row := ⟨_, _, PySem.W.mg_of X Gn a_is_good_row, k_is_good_row, b_is_good_row, ok_is_good_row fx c_is_integer c_follows F_is_good_row⟩
  have c_check_rows : Callee P w G mg base "check_rows" 4 ["rows"] m_check_rows := ⟨_, _, PySem.W.mg_of X Gn a_check_rows, k_check_rows, b_check_rows, ok_check_rows fx c_is_good_row e_BadRows F_check_rows⟩
  have mk_Rising : OwnCls P w G mg base "Rising" 5 3 1 m_Rising___init__ := ⟨PySem.W.mg_of X Gn aC_Rising, _, _, _, ⟨mkI_Rising, a_Rising___init__, i_Rising___init__, kcI_Rising⟩, b_Rising___init__, rfl, ok_Rising___init__ fx c_check_rows c_shortest F_Rising___init__⟩
  have c_check_slots : Callee P w G mg base "check_slots" 5 ["length", "minutes"] m_check_slots := ⟨_, _, PySem.W.mg_of X Gn a_check_slots, k_check_slots, b_check_slots, ok_check_slots fx c_check_number F_check_slots⟩
  have c_by_slots : Callee P w G mg base "by_slots" 7 ["length", "minutes"] m_by_slots := ⟨_, _, PySem.W.mg_of X Gn a_by_slots, k_by_slots, b_by_slots, ok_by_slots fx c_check_slots mk_Rising F_by_slots⟩
  have c__law_plain : Callee P w G mg base "_law_plain" 1 ["_law_riding_here", "_law_minute"] m__law_plain := ⟨_, _, PySem.W.mg_of X Gn a__law_plain, k__law_plain, b__law_plain, ok__law_plain fx F__law_plain⟩
  have c__law_arrival : Callee P w G mg base "_law_arrival" 1 ["_law_riding_here", "_law_minute"] m__law_arrival := ⟨_, _, PySem.W.mg_of X Gn a__law_arrival, k__law_arrival, b__law_arrival, ok__law_arrival fx F__law_arrival⟩
  have c_ride : Callee P w G mg base "ride" 6 ["length", "minutes", "leaving"] m_ride := ⟨_, _, PySem.W.mg_of X Gn a_ride, k_ride, b_ride, ok_ride fx c_check_slots c_check_number c_lesser F_ride⟩
  have c__law_long : Callee P w G mg base "_law_long" 8 ["_law_script", "_law_state"] m__law_long := ⟨_, _, PySem.W.mg_of X Gn a__law_long, k__law_long, b__law_long, ok__law_long fx c__law_draw c_by_slots c_ride c__law_arrival co_Rising___call__ F__law_long⟩
  have c__law_at : Callee P w G mg base "_law_at" 1 ["_law_values", "_law_minute"] m__law_at := ⟨_, _, PySem.W.mg_of X Gn a__law_at, k__law_at, b__law_at, ok__law_at fx F__law_at⟩
  have c__law_greedy : Callee P w G mg base "_law_greedy" 2 ["_law_values"] m__law_greedy := ⟨_, _, PySem.W.mg_of X Gn a__law_greedy, k__law_greedy, b__law_greedy, ok__law_greedy fx c__law_at F__law_greedy⟩
  exact law_to (G := G) (ok_law fx c__law_start c__law_riding c_by_slots c__law_plain c__law_arrival c_ride c__law_greedy c__law_long co_Rising___call__ F_law) (fun ns c _ hc => law_spec ns c hc)
end K09
open PySem PySem.W PyProof.Rows in
set_option maxRecDepth 100000 in
set_option maxHeartbeats 0 in
theorem PySem.Challenge.cw_laterways_k09_whole_ways_by_slots_holds : PySem.Challenge.rw_laterways_k09_whole_ways_by_slots.Holds := by
  w_on; o_law; k_head; (case hw => w_witness2)
  k_fill
  refine ML.law_walk (l := PySem.Challenge.rw_laterways_k09_whole_ways_by_slots) (k := 9) (x := "_law_script") rfl rfl ⟨rfl, by decide, by decide⟩ (fun w h Y => PySem.W.kIn_of Y) ?F
  case F =>
    intro w mg fa h KX G hmg
    refine' K09.all_mk KX G hmg ?hfile ?htop ?z_abs ?z_bool ?z_enumerate ?z_int ?z_isinstance ?z_len ?z_list ?z_max ?z_min ?z_range ?z_tuple ?k_LONGEST_RIDE ?k_LONGEST_SLOT ?k_MOST_SLOTS ?z_super ?z_tp ?x_hn ?x_ht ?aC_CalendarError ?aC_BadNumber ?aC_BadRows ?xL_CalendarError ?eC_CalendarError ?tC_CalendarError ?cl_CalendarError ?mr_CalendarError ?sb_CalendarError_BadNumber ?sb_CalendarError_BadRows ?xL_BadNumber ?eC_BadNumber ?tC_BadNumber ?cl_BadNumber ?mr_BadNumber ?sb_BadNumber_BadNumber ?sb_BadNumber_BadRows ?xL_BadRows ?eC_BadRows ?tC_BadRows ?cl_BadRows ?mr_BadRows ?sb_BadRows_BadNumber ?sb_BadRows_BadRows ?fi_CalendarError ?rb_BadNumber ?sa_BadNumber ?kC_BadNumber ?ga_BadNumber ?gg_BadNumber ?hd_BadNumber ?ha_BadNumber ?hm_BadNumber ?sv_BadNumber ?nf_BadNumber_what ?nf_BadNumber_value ?rb_BadRows ?sa_BadRows ?kC_BadRows ?ga_BadRows ?gg_BadRows ?hd_BadRows ?ha_BadRows ?hm_BadRows ?sv_BadRows ?nf_BadRows_place ?iC_BadNumber ?tI_BadNumber ?lI_BadNumber ?lC_BadNumber ?vC_BadNumber ?cQ_BadNumber ?ce_BadNumber ?iC_BadRows ?tI_BadRows ?lI_BadRows ?lC_BadRows ?vC_BadRows ?cQ_BadRows ?ce_BadRows ?aC_Rising ?pg_Rising ?hdI_Rising ?po_Rising ?saI_Rising ?mkI_Rising ?kcI_Rising ?haI_Rising ?hmI_Rising ?nI_Rising_rows ?a_Rising___call__ ?i_Rising___call__ ?fi_Rising___call__ ?l_Rising___call__ ?c_Rising___call__ ?k_Rising___call__ ?a_Rising___init__ ?i_Rising___init__ ?l_Rising___init__ ?c_Rising___init__ ?k_Rising___init__ ?a_is_integer ?l_is_integer ?c_is_integer ?k_is_integer ?a_check_integer ?l_check_integer ?c_check_integer ?k_check_integer ?a_check_number ?l_check_number ?c_check_number ?k_check_number ?a_lesser ?l_lesser ?c_lesser ?k_lesser ?a_greater ?l_greater ?c_greater ?k_greater ?a_row_value ?l_row_value ?c_row_value ?k_row_value ?a_start_of ?l_start_of ?c_start_of ?k_start_of ?a_last_place ?l_last_place ?c_last_place ?k_last_place ?a_follows ?l_follows ?c_follows ?k_follows ?a_is_good_row ?l_is_good_row ?c_is_good_row ?k_is_good_row ?a_check_rows ?l_check_rows ?c_check_rows ?k_check_rows ?a_shortest ?l_shortest ?c_shortest ?k_shortest ?a_check_slots ?l_check_slots ?c_check_slots ?k_check_slots ?a_by_slots ?l_by_slots ?c_by_slots ?k_by_slots ?a_ride ?l_ride ?c_ride ?k_ride ?a__law_start ?l__law_start ?c__law_start ?k__law_start ?a__law_draw ?l__law_draw ?c__law_draw ?k__law_draw ?a__law_at ?l__law_at ?c__law_at ?k__law_at ?a__law_greedy ?l__law_greedy ?c__law_greedy ?k__law_greedy ?a__law_riding ?l__law_riding ?c__law_riding ?k__law_riding ?a__law_arrival ?l__law_arrival ?c__law_arrival ?k__law_arrival ?a__law_plain ?l__law_plain ?c__law_plain ?k__law_plain ?a__law_long ?l__law_long ?c__law_long ?k__law_long ?a_law ?l_law ?c_law ?k_law
    (case hfile => kernel_rfl)
    (case htop => kernel_rfl)
    (case z_abs => k_is)
    (case z_bool => k_is)
    (case z_enumerate => k_is)
    (case z_int => k_is)
    (case z_isinstance => k_is)
    (case z_len => k_is)
    (case z_list => k_is)
    (case z_max => k_is)
    (case z_min => k_is)
    (case z_range => k_is)
    (case z_tuple => k_is)
    (case k_LONGEST_RIDE => k_is)
    (case k_LONGEST_SLOT => k_is)
    (case k_MOST_SLOTS => k_is)
    (case z_super => k_is)
    (case z_tp => k_is)
    (case x_hn => k_is)
    (case x_ht => k_is)
    (case aC_CalendarError => k_is)
    (case aC_BadNumber => k_is)
    (case aC_BadRows => k_is)
    (case xL_CalendarError => k_is)
    (case eC_CalendarError => k_is)
    (case tC_CalendarError => k_is)
    (case cl_CalendarError => k_is)
    (case mr_CalendarError => k_is)
    (case sb_CalendarError_BadNumber => k_is)
    (case sb_CalendarError_BadRows => k_is)
    (case xL_BadNumber => k_is)
    (case eC_BadNumber => k_is)
    (case tC_BadNumber => k_is)
    (case cl_BadNumber => k_is)
    (case mr_BadNumber => k_is)
    (case sb_BadNumber_BadNumber => k_is)
    (case sb_BadNumber_BadRows => k_is)
    (case xL_BadRows => k_is)
    (case eC_BadRows => k_is)
    (case tC_BadRows => k_is)
    (case cl_BadRows => k_is)
    (case mr_BadRows => k_is)
    (case sb_BadRows_BadNumber => k_is)
    (case sb_BadRows_BadRows => k_is)
    (case fi_CalendarError => k_is)
    (case rb_BadNumber => decide +kernel)
    (case sa_BadNumber => k_is)
    (case kC_BadNumber => k_is)
    (case ga_BadNumber => k_is)
    (case gg_BadNumber => k_is)
    (case hd_BadNumber => k_is)
    (case ha_BadNumber => k_is)
    (case hm_BadNumber => k_is)
    (case sv_BadNumber => k_is)
    (case nf_BadNumber_what => k_is)
    (case nf_BadNumber_value => k_is)
    (case rb_BadRows => decide +kernel)
    (case sa_BadRows => k_is)
    (case kC_BadRows => k_is)
    (case ga_BadRows => k_is)
    (case gg_BadRows => k_is)
    (case hd_BadRows => k_is)
    (case ha_BadRows => k_is)
    (case hm_BadRows => k_is)
    (case sv_BadRows => k_is)
    (case nf_BadRows_place => k_is)
    (case iC_BadNumber => k_is)
    (case tI_BadNumber => k_is)
    (case lI_BadNumber => k_is)
    (case lC_BadNumber => k_is)
    (case vC_BadNumber => first | rfl | decide +kernel)
    (case cQ_BadNumber => k_is)
    (case ce_BadNumber => k_is)
    (case iC_BadRows => k_is)
    (case tI_BadRows => k_is)
    (case lI_BadRows => k_is)
    (case lC_BadRows => k_is)
    (case vC_BadRows => first | rfl | decide +kernel)
    (case cQ_BadRows => k_is)
    (case ce_BadRows => k_is)
    (case aC_Rising => k_is)
    (case pg_Rising => k_is)
    (case hdI_Rising => k_is)
    (case po_Rising => k_is)
    (case saI_Rising => k_is)
    (case mkI_Rising => k_is)
    (case kcI_Rising => k_is)
    (case haI_Rising => k_is)
    (case hmI_Rising => k_is)
    (case nI_Rising_rows => k_is)
    (case a_Rising___call__ => k_is)
    (case i_Rising___call__ => k_is)
    (case fi_Rising___call__ => k_is)
    (case l_Rising___call__ => k_is)
    (case c_Rising___call__ => k_is)
    (case k_Rising___call__ => k_is)
    (case a_Rising___init__ => k_is)
    (case i_Rising___init__ => k_is)
    (case l_Rising___init__ => k_is)
    (case c_Rising___init__ => k_is)
    (case k_Rising___init__ => k_is)
    (case a_is_integer => k_is)
    (case l_is_integer => k_is)
    (case c_is_integer => k_is)
    (case k_is_integer => k_is)
    (case a_check_integer => k_is)
    (case l_check_integer => k_is)
    (case c_check_integer => k_is)
    (case k_check_integer => k_is)
    (case a_check_number => k_is)
    (case l_check_number => k_is)
    (case c_check_number => k_is)
    (case k_check_number => k_is)
    (case a_lesser => k_is)
    (case l_lesser => k_is)
    (case c_lesser => k_is)
    (case k_lesser => k_is)
    (case a_greater => k_is)
    (case l_greater => k_is)
    (case c_greater => k_is)
    (case k_greater => k_is)
    (case a_row_value => k_is)
    (case l_row_value => k_is)
    (case c_row_value => k_is)
    (case k_row_value => k_is)
    (case a_start_of => k_is)
    (case l_start_of => k_is)
    (case c_start_of => k_is)
    (case k_start_of => k_is)
    (case a_last_place => k_is)
    (case l_last_place => k_is)
    (case c_last_place => k_is)
    (case k_last_place => k_is)
    (case a_follows => k_is)
    (case l_follows => k_is)
    (case c_follows => k_is)
    (case k_follows => k_is)
    (case a_is_good_row => k_is)
    (case l_is_good_row => k_is)
    (case c_is_good_row => k_is)
    (case k_is_good_row => k_is)
    (case a_check_rows => k_is)
    (case l_check_rows => k_is)
    (case c_check_rows => k_is)
    (case k_check_rows => k_is)
    (case a_shortest => k_is)
    (case l_shortest => k_is)
    (case c_shortest => k_is)
    (case k_shortest => k_is)
    (case a_check_slots => k_is)
    (case l_check_slots => k_is)
    (case c_check_slots => k_is)
    (case k_check_slots => k_is)
    (case a_by_slots => k_is)
    (case l_by_slots => k_is)
    (case c_by_slots => k_is)
    (case k_by_slots => k_is)
    (case a_ride => k_is)
    (case l_ride => k_is)
    (case c_ride => k_is)
    (case k_ride => k_is)
    (case a__law_start => k_is)
    (case l__law_start => k_is)
    (case c__law_start => k_is)
    (case k__law_start => k_is)
    (case a__law_draw => k_is)
    (case l__law_draw => k_is)
    (case c__law_draw => k_is)
    (case k__law_draw => k_is)
    (case a__law_at => k_is)
    (case l__law_at => k_is)
    (case c__law_at => k_is)
    (case k__law_at => k_is)
    (case a__law_greedy => k_is)
    (case l__law_greedy => k_is)
    (case c__law_greedy => k_is)
    (case k__law_greedy => k_is)
    (case a__law_riding => k_is)
    (case l__law_riding => k_is)
    (case c__law_riding => k_is)
    (case k__law_riding => k_is)
    (case a__law_arrival => k_is)
    (case l__law_arrival => k_is)
    (case c__law_arrival => k_is)
    (case k__law_arrival => k_is)
    (case a__law_plain => k_is)
    (case l__law_plain => k_is)
    (case c__law_plain => k_is)
    (case k__law_plain => k_is)
    (case a__law_long => k_is)
    (case l__law_long => k_is)
    (case c__law_long => k_is)
    (case k__law_long => k_is)
    (case a_law => k_is)
    (case l_law => k_is)
    (case c_law => k_is)
    (case k_law => k_is)
